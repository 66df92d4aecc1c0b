/- V4, V5, V6 -/
import Derived.Test.YtphkchjejbffeaaGreatK18
set_option maxHeartbeats 16000000
set_option maxRecDepth 100000
namespace Go.Proofs.YtphkchjejbffeaaGreat
open Tryz
open Go.RowKit
variable {m:Int}{N b1 g n wb:Nat}{U:Nat→Prop}{vl vo2:Value}{x:Vw}{w w2 w4 wr:World}
section
open Go.RowKit
section
variable {w w' : World} {U : Nat → Prop} {wb : Nat} {x : Vw}
theorem VC.off (h:VC w U wb x)(hf:Fr (λk=>k=g) w w')(hg:¬VS wb x g):VC w' U wb x:=h.keep (λk hk=>hf.block k (h.lt k hk) (λe=>hg (by rw[←show k=g from e];exact hk))) h.nU
theorem VC.stay {c0:Array Value}(h:VC w U wb x)(hg:w.heap[g]?=some (.cells c0 40))(hin:Zjd x.ords g N m)
  (h1:w.grownBy w' (some g)) (h2:∀j u,((List.replicate N (inkL m)).flatten)[j]?=some u→w'.cell? ⟨g,j,none⟩=some u) (h3:∃cur,w'.heap[g]?=some (.cells cur 40 (0,0))):VC w' U wb x:=by
 have hf:Fr (λk=>k=g) w w':=(Fr.of_grown h1).mono (λk _ e=>Zv e);have hty:Ty w g 40:=⟨c0,hg⟩;have kt:∀a t,Ty w a t→t≠40→w'.heap[a]?=w.heap[a]?:=λa t ha ht=>hf.block a ha.lt (λe=>ha.ne hty ht e);exact {
  blk:=(kt wb _ h.wty (by decide)).trans h.blk
  ral:=YY h.ral (λg hg=>kt g _ (Xd h.ral hg) (by decide))
  rin:=YY h.rin (λg hg=>kt g _ (Xd h.rin hg) (by decide))
  rby:=YY h.rby (λg hg=>kt g _ (Xd h.rby hg) (by decide))
  rbm:=YY h.rbm (λg hg=>kt g _ (Xd h.rbm hg) (by decide))
  ror:=YY h.ror (λg hg=>kt g _ (Xd h.ror hg) (by decide))
  rom:=YY h.rom (λg hg=>kt g _ (Xd h.rom hg) (by decide))
  ful:=λv hv=>(h.ful v hv).keep' (λg hg=>kt g _ ((h.ful v hv).ty hg) (by decide))
  exo:=λv hv g hg=>(h.exo v hv g hg).keep (kt g _ (h.exo v hv g hg) (by decide))
  inb:=λp hp=>(h.inb p hp).keep (λg hg=>kt g _ (h.bob p hp g hg) (by decide))
  bob:=λp hp g hg=>(h.bob p hp g hg).keep (kt g _ (h.bob p hp g hg) (by decide))
  ink:=by
   intro p hp;by_cases e:p.1.ownBlock=some g
   ·obtain⟨np,cp,e1,e2,e3⟩:=hin p hp e;obtain⟨cur,hc⟩:=h3;rcases h.ink p hp with i1|⟨a,n,cap,cu,i1,i2,i3,i4,i5,i6⟩
    ·rw[i1] at e1;cases e1
    ·rw[e1] at i1;simp only[ZX,Ys,YB,and_true] at i1;obtain⟨rfl,rfl,rfl⟩:=i1;refine .inr ⟨g,np,cp,cur,e1,i2,i3,i4,hc,λi t u hi hu => ?_⟩;rw[e3] at hu;exact h2 _ _ (Zfd m N i t u (by omega) hu)
   ·exact(h.ink p hp).keep (λa cur ha hb=>hf.block a (Ze.1 ha).1 (λe2=>e (by rw[hb,e2])))
  nib:=h.nib
  nuc:=h.nuc
  nU:=h.nU}
theorem VC.addOrd {vo' vm':Value}(h:VC w U wb x)(hU:∀k,U k→k<w.heap.size)
  (h1:w'.heap[wb]?=some (.cells ({x with vo:=vo',vm:=vm'}:Vw).blk 50)) (h2:w'.ownsRow 0 29 1 vo' (x.ords.length+1) (x.ords.map (·.1)++[vl])) (h3:w'.ownsRow 0 3 1 vm' (x.ords.length+1) ((x.ords.map λp=>.int .i64 p.2)++[.int .i64 m]))
  (hf:Fr (λk=>k=wb∨x.vo.ownBlock=some k∨x.vm.ownBlock=some k) w w') (hi:Ink w' vl m) (hvo:vo'.ownBlock=x.vo.ownBlock∨∃g,vo'.ownBlock=some g∧w.heap.size≤g) (hvm:vm'.ownBlock=x.vm.ownBlock∨∃g,vm'.ownBlock=some g∧w.heap.size≤g) (hvl:∀g,vl.ownBlock=some g→¬U g):
  VC w' U wb {x with ords:=x.ords++[(vl,m)],vo:=vo',vm:=vm'}∧Fr (λk=>¬U k) w w':=by
 have kt:∀a t,Ty w a t→t≠50→t≠29→t≠3→w'.heap[a]?=w.heap[a]?:=by
  intro a t ha t1 t2 t3;refine hf.block a ha.lt ?_;rintro(e|e|e)
  ·exact ha.ne h.wty t1 e
  ·exact ha.ne (Xd h.ror e) t2 rfl
  ·exact ha.ne (Xd h.rom e) t3 rfl
 refine⟨{
  blk:=h1
  ral:=YY h.ral (λg hg=>kt g _ (Xd h.ral hg) (by decide) (by decide) (by decide))
  rin:=YY h.rin (λg hg=>kt g _ (Xd h.rin hg) (by decide) (by decide) (by decide))
  rby:=YY h.rby (λg hg=>kt g _ (Xd h.rby hg) (by decide) (by decide) (by decide))
  rbm:=YY h.rbm (λg hg=>kt g _ (Xd h.rbm hg) (by decide) (by decide) (by decide))
  ror:=by rw[Zf,ZH];exact h2
  rom:=by rw[Zf,ZH];exact h3
  ful:=λv hv=>(h.ful v hv).keep' (λg hg=>kt g _ ((h.ful v hv).ty hg) (by decide) (by decide) (by decide))
  exo:=λv hv g hg=>(h.exo v hv g hg).keep (kt g _ (h.exo v hv g hg) (by decide) (by decide) (by decide))
  inb:=λp hp=>(h.inb p hp).keep (λg hg=>kt g _ (h.bob p hp g hg) (by decide) (by decide) (by decide))
  bob:=λp hp g hg=>(h.bob p hp g hg).keep (kt g _ (h.bob p hp g hg) (by decide) (by decide) (by decide))
  ink:=?_
  nib:=h.nib
  nuc:=h.nuc
  nU:=?_},?_⟩
 ·intro p hp;rcases ZE.1 hp with hp|hp
  ·exact(h.ink p hp).keep (λg _ _ hg=>kt g _ ((h.ink p hp).ty hg) (by decide) (by decide) (by decide))
  ·simp at hp;rw[hp];exact hi
 ·rintro k (e|e|e|e|e|e|e|e|e|e|⟨p,hp,e⟩) hk
  ·exact h.nU k (.inl e) hk
  ·exact h.nU k (.inr (.inl e)) hk
  ·exact h.nU k (.inr (.inr (.inl e))) hk
  ·exact h.nU k (.inr (.inr (.inr (.inl e)))) hk
  ·exact h.nU k (.inr (.inr (.inr (.inr (.inl e))))) hk
  ·have e:vo'.ownBlock=some k:=e;rcases hvo with q|⟨g',q,q2⟩
   ·exact h.nU k (.inr (.inr (.inr (.inr (.inr (.inl (by rw[←q];exact e))))))) hk
   ·rw[q] at e;cases e;have:=hU k hk;omega
  ·have e:vm'.ownBlock=some k:=e;rcases hvm with q|⟨g',q,q2⟩
   ·exact h.nU k (.inr (.inr (.inr (.inr (.inr (.inr (.inl (by rw[←q];exact e)))))))) hk
   ·rw[q] at e;cases e;have:=hU k hk;omega
  ·exact h.nU k (.inr (.inr (.inr (.inr (.inr (.inr (.inr (.inl e)))))))) hk
  ·exact h.nU k (.inr (.inr (.inr (.inr (.inr (.inr (.inr (.inr (.inl e))))))))) hk
  ·exact h.nU k (.inr (.inr (.inr (.inr (.inr (.inr (.inr (.inr (.inr (.inl e)))))))))) hk
  ·rcases ZE.1 hp with hp|hp
   ·exact h.nU k (.inr (.inr (.inr (.inr (.inr (.inr (.inr (.inr (.inr (.inr ⟨p,hp,e⟩)))))))))) hk
   ·simp at hp;rw[hp] at e;exact hvl k e hk
 ·refine hf.mono (λk _ e hk => ?_);rcases e with e|e|e
  ·exact h.nU k (.inl e) hk
  ·exact h.nU k (.inr (.inr (.inr (.inr (.inr (.inl e)))))) hk
  ·exact h.nU k (.inr (.inr (.inr (.inr (.inr (.inr (.inl e))))))) hk
end
structure V1s (wr w2:World)(b1 wb N q:Nat)(x:Vw)(vo2 vl:Value)(ovs oms ys:List Value):Prop where
 c5:w2.cell? ⟨wb,5,none⟩=some x.vo
 f5:w2.frozen? ⟨wb,5,none⟩=false
 c6:w2.cell? ⟨wb,6,none⟩=some x.vm
 sz:wr.heap.size≤w2.heap.size
 blk:(w2.setCell ⟨wb,5,none⟩ vo2).heap[wb]?=some (.cells ({x with vo:=vo2}:Vw).blk 50)
 r1:(w2.setCell ⟨wb,5,none⟩ vo2).ownsRow 0 29 1 vo2 (q+1) ovs
 r2:(w2.setCell ⟨wb,5,none⟩ vo2).ownsRow 0 3 1 x.vm q oms
 rl:(w2.setCell ⟨wb,5,none⟩ vo2).ownsRow b1 40 6 vl N ys
 fr:Fr (λk=>k=wb∨x.vo.ownBlock=some k) wr (w2.setCell ⟨wb,5,none⟩ vo2)
 vob:vo2.ownBlock=x.vo.ownBlock∨∃g,vo2.ownBlock=some g∧wr.heap.size≤g
theorem Zed {ovs ys:List Value}(h:VC wr U wb x)(O:Obj)(hg:(wr.alloc O).grownBy w2 x.vo.ownBlock)(hown:w2.ownsRow 0 29 1 vo2 (x.ords.length+1) ovs)(hl:wr.ownsRow b1 40 6 vl N ys)(hv:vo2.ownBlock=x.vo.ownBlock∨vo2.ownBlock=some (wr.alloc O).heap.size):
  V1s wr w2 b1 wb N x.ords.length x vo2 vl ovs (x.ords.map λp=>.int .i64 p.2) ys:=by
 have hf2:Fr (λk=>x.vo.ownBlock=some k) wr w2:=((Fr.alloc (λk=>some k=x.vo.ownBlock) wr O).trans (Fr.of_grown hg) (λ_ _ e=>e)).mono (λk _ e=>e.symm);have hkeep:∀a t,Ty wr a t→t≠29→w2.heap[a]?=wr.heap[a]?:=λa t ha ht=>hf2.block a ha.lt (λe=>ha.ne (Xd h.ror e) ht rfl);have hb2:w2.heap[wb]?=_:=(hkeep wb _ h.wty (by decide)).trans h.blk;have hf3:Fr (λk=>k=wb) w2 (w2.setCell ⟨wb,5,none⟩ vo2):=Fr.setCell w2 ⟨wb,5,none⟩ vo2;have hkeep3:∀a t,Ty w2 a t→t≠50→(w2.setCell ⟨wb,5,none⟩ vo2).heap[a]?=w2.heap[a]?:=λa t ha ht=>hf3.block a ha.lt (λe=>ha.ne ⟨_,hb2⟩ ht e);refine⟨Zk w2 wb 5 _ _ (0,0) hb2,by simp[World.frozen?,hb2],Zk w2 wb 6 _ _ (0,0) hb2,hf2.size,by rw[Zi w2 wb 5 _ _ _ hb2];rfl,?_,?_,?_,?_,hv.elim .inl (λe=>.inr ⟨_,e,by rw[Xb];omega⟩)⟩
 ·exact YY hown (λa ha=>hkeep3 a _ (Xd hown ha) (by decide))
 ·exact YY h.rom (λa ha=>by have e:=hkeep a _ (Xd h.rom ha) (by decide);exact(hkeep3 a _ ((Xd h.rom ha).keep e) (by decide)).trans e)
 ·exact YY hl (λa ha=>by have e:=hkeep a _ (Xd hl ha) (by decide);exact(hkeep3 a _ ((Xd hl ha).keep e) (by decide)).trans e)
 ·exact(hf2.mono (λ_ _ e=>Or.inr e)).trans (hf3.mono (G:=λk=>k=wb∨x.vo.ownBlock=some k) (λ_ _ e=>Or.inl e)) (λ_ _ e=>e)
structure V2s (wr w4:World)(U:Nat→Prop)(b1 wb N:Nat)(m:Int)(x:Vw)(vo2 vm2 vl:Value)(ys:List Value):Prop where
 c6:w4.cell? ⟨wb,6,none⟩=some x.vm
 f6:w4.frozen? ⟨wb,6,none⟩=false
 wc:VC (w4.setCell ⟨wb,6,none⟩ vm2) U wb {x with ords:=x.ords++[(vl,m)],vo:=vo2,vm:=vm2}
 rl:(w4.setCell ⟨wb,6,none⟩ vm2).ownsRow b1 40 6 vl N ys
 fr:Fr (λk=>¬U k) wr (w4.setCell ⟨wb,6,none⟩ vm2)
 sz:wr.heap.size≤w4.heap.size
theorem Zdn {vm2:Value}(h:VC wr U wb x)(hU:∀k,U k→k<wr.heap.size)(hN:N≤2000000000)(hvl:∀g,vl.ownBlock=some g→¬U g)
  (k:V1s wr w2 b1 wb N x.ords.length x vo2 vl (x.ords.map (·.1)++[vl]) (x.ords.map λp=>.int .i64 p.2) ((List.replicate N (inkL m)).flatten)) (O:Obj) (hg:((w2.setCell ⟨wb,5,none⟩ vo2).alloc O).grownBy w4 x.vm.ownBlock) (hown:w4.ownsRow 0 3 1 vm2 (x.ords.length+1) ((x.ords.map λp=>.int .i64 p.2)++[.int .i64 m]))
  (hv:vm2.ownBlock=x.vm.ownBlock∨vm2.ownBlock=some ((w2.setCell ⟨wb,5,none⟩ vo2).alloc O).heap.size):
  V2s wr w4 U b1 wb N m x vo2 vm2 vl ((List.replicate N (inkL m)).flatten):=by
 have hs3:=Xx w2 ⟨wb,5,none⟩ vo2;have hf4:Fr (λa=>x.vm.ownBlock=some a) (w2.setCell ⟨wb,5,none⟩ vo2) w4:=((Fr.alloc (λa=>some a=x.vm.ownBlock) (w2.setCell ⟨wb,5,none⟩ vo2) O).trans (Fr.of_grown hg) (λ_ _ e=>e)).mono (λa _ e=>e.symm);have hkeep:∀a t,Ty (w2.setCell ⟨wb,5,none⟩ vo2) a t→t≠3→w4.heap[a]?=(w2.setCell ⟨wb,5,none⟩ vo2).heap[a]?:=λa t ha ht=>hf4.block a ha.lt (λe=>ha.ne (Xd k.r2 e) ht rfl);have hb4:w4.heap[wb]?=_:=(hkeep wb _ ⟨_,k.blk⟩ (by decide)).trans k.blk;have hf5:Fr (λa=>a=wb) w4 (w4.setCell ⟨wb,6,none⟩ vm2):=Fr.setCell w4 ⟨wb,6,none⟩ vm2;have hkeep5:∀a t,Ty w4 a t→t≠50→(w4.setCell ⟨wb,6,none⟩ vm2).heap[a]?=w4.heap[a]?:=λa t ha ht=>hf5.block a ha.lt (λe=>ha.ne ⟨_,hb4⟩ ht e);have hfr:Fr (λa=>a=wb∨x.vo.ownBlock=some a∨x.vm.ownBlock=some a) wr (w4.setCell ⟨wb,6,none⟩ vm2):=
  (k.fr.mono (G:=λa=>a=wb∨x.vo.ownBlock=some a∨x.vm.ownBlock=some a) (λ_ _ e=>e.elim Or.inl (λe=>Or.inr (Or.inl e)))).trans ((hf4.mono (G:=λa=>a=wb∨x.vo.ownBlock=some a∨x.vm.ownBlock=some a) (λ_ _ e=>Or.inr (Or.inr e))).trans (hf5.mono (G:=λa=>a=wb∨x.vo.ownBlock=some a∨x.vm.ownBlock=some a) (λ_ _ e=>Or.inl e)) (λ_ _ e=>e)) (λ_ _ e=>e)
 have hrl:(w4.setCell ⟨wb,6,none⟩ vm2).ownsRow b1 40 6 vl N ((List.replicate N (inkL m)).flatten):=YY k.rl (λa ha=>by have e:=hkeep a _ (Xd k.rl ha) (by decide);exact(hkeep5 a _ ((Xd k.rl ha).keep e) (by decide)).trans e)
 have hsz:=k.sz;obtain⟨q1,q2⟩:=h.addOrd hU (w':=w4.setCell ⟨wb,6,none⟩ vm2) (vo':=vo2) (vm':=vm2) (vl:=vl) (m:=m) (by rw[Zi w4 wb 6 _ _ _ hb4];rfl) (YY k.r1 (λa ha=>by have e:=hkeep a _ (Xd k.r1 ha) (by decide);exact(hkeep5 a _ ((Xd k.r1 ha).keep e) (by decide)).trans e)) (YY hown (λa ha=>hkeep5 a _ (Xd hown ha) (by decide))) hfr (Ziq hrl hN) k.vob (hv.elim .inl (λe=>.inr ⟨_,e,by rw[Xb];omega⟩)) hvl
 refine⟨Zk w4 wb 6 _ _ (0,0) hb4,by simp[World.frozen?,hb4],q1,hrl,q2,?_⟩;have:=hf4.size;omega
end
section
open Go.RowKit
attribute [local go_sem ↓] Go.wp_at_zero Go.wp_at_succ
structure Vp (w wr:World)(U:Nat→Prop)(b1 wb nn n k:Nat)(m:Int)(x:Vw)(vl:Value):Prop where
 ex:∃new vo vm,VC wr U wb {x with nn:=nn,ords:=x.ords++new,vo:=vo,vm:=vm}∧new.length=k∧∀g,vl.ownBlock=some g→Zjd (x.ords++new) g (n+k) m
 row:wr.ownsRow b1 40 6 vl (n+k) ((List.replicate (n+k) (inkL m)).flatten)
 fr:Fr (λk=>¬U k) w wr
 b1:b1≤wr.heap.size
theorem Zje {w6:World}{nn k:Nat}{new OR:List (Value×Int)}{vo vm vm2 v6:Value}(h:V2s wr w4 U b1 wb N m {x with nn:=nn,ords:=OR,vo:=vo,vm:=vm} vo2 vm2 vl ((List.replicate N (inkL m)).flatten))(hfr:Fr (λk=>¬U k) w wr)(hU:∀k,U k→k<b1)(hb1:b1≤wr.heap.size)(hOR:OR=x.ords++new)(hnew:new.length=k)(hN:N=n+k)
  (hin:∀g,vl.ownBlock=some g→Zjd OR g N m) (O:Obj) (h1:((w4.setCell ⟨wb,6,none⟩ vm2).alloc O).grownBy w6 vl.ownBlock) (h2:∀g,vl.ownBlock=some g→(vl=.slice (some ⟨g,0,none⟩) N (match vl with | .slice _ _ c=>c|_=>0))∧(∀j u,((List.replicate N (inkL m)).flatten)[j]?=some u→w6.cell? ⟨g,j,none⟩=some u)∧∃cur,w6.heap[g]?=some (.cells cur 40 (0,0)))
  (h3:v6.ownBlock=vl.ownBlock∨v6.ownBlock=some ((w4.setCell ⟨wb,6,none⟩ vm2).alloc O).heap.size) (hrow:w6.ownsRow b1 40 6 v6 (N+1) ((List.replicate N (inkL m)).flatten++inkL m)):Vp w w6 U b1 wb nn n (k+1) m x v6:=by
 have hs5:=Xx w4 ⟨wb,6,none⟩ vm2;have hsz:=h.sz;have hwc:VC (w4.setCell ⟨wb,6,none⟩ vm2) U wb {x with nn:=nn,ords:=OR++[(vl,m)],vo:=vo2,vm:=vm2}:=h.wc;have hwa:VC ((w4.setCell ⟨wb,6,none⟩ vm2).alloc O) U wb {x with nn:=nn,ords:=OR++[(vl,m)],vo:=vo2,vm:=vm2}:=hwc.below ((Zm _ _).alloc (Zh _) O);have hw6:VC w6 U wb {x with nn:=nn,ords:=OR++[(vl,m)],vo:=vo2,vm:=vm2}:=by
  cases hv:vl.ownBlock with
  | none=>
   rw[hv] at h1;exact hwa.below ((Zm _ _).grown h1 (Zh _) (λg hg=>by cases hg))
  | some g=>
   obtain⟨e1,e2,e3⟩:=h2 g hv;obtain⟨c0,hc0⟩:=Xq (XL h.rl O) g hv;rw[hv] at h1;refine hwa.stay hc0 ?_ h1 e2 e3;intro p hp e;rcases ZE.1 hp with hp|hp
   ·exact hin g hv p hp e
   ·simp at hp;rw[hp];exact⟨N,_,e1,Zh _,rfl⟩
 refine⟨⟨new++[(vl,m)],vo2,vm2,?_,by rw[Zf];simp[hnew],?_⟩,?_,?_,?_⟩
 ·rw[←Zo,←hOR];exact hw6
 ·intro g' hg';rw[←Zo,←hOR];intro p hp e;rcases h3 with h3|h3
  ·rw[h3] at hg';rcases ZE.1 hp with hp|hp
   ·obtain⟨np,cp,x1,x2,x3⟩:=hin g' hg' p hp e;exact⟨np,cp,x1,by omega,x3⟩
   ·simp at hp;rw[hp];exact⟨N,_,(h2 g' hg').1,by omega,rfl⟩
  ·rw[h3] at hg';cases hg';exfalso;have hlt:=(hwc.ink p hp).lt _ e;rw[Xb] at hlt;omega
 ·rw[show n+(k+1)=N+1 by omega,Zk4];exact hrow
 ·have hf6:Fr (λk=>¬U k) (w4.setCell ⟨wb,6,none⟩ vm2) w6:=(Fr.alloc (λk=>¬U k) (w4.setCell ⟨wb,6,none⟩ vm2) O).trans (Fr.of_grown h1) (λi hi e hu=>by have h4:=hU i hu;have h5:=(Zs h.rl i e.symm).1;omega)
  exact(hfr.trans h.fr (λ_ _ e=>e)).trans hf6 (λ_ _ e=>e)
 ·have:=(Fr.of_grown h1).size;rw[Xb] at this;omega
theorem Zcw {cap:Nat}{r:Option Addr}{xs:List Value}(h:VC w U wb x)(hU:∀k,U k→k<b1)(hbs:b1≤w.heap.size)(hnn:x.nn≤1000000000)(hn:n≤1000000000)(ho:x.ords.length≤4000000000)
  (hrow:w.ownsRow b1 40 6 (.slice r n cap) n xs) (hlow:∀k,VS wb x k→k<b1):
  Calls prog 39 #[.pointer (some ⟨wb,0,none⟩),.slice r n cap] w λe w'=>e=.returned (.tuple #[])∧∃m vl,Vp w w' U b1 wb (x.nn+1) n 4 m x vl:=by
 obtain⟨n1,hn1⟩:=Za (x.nn+1);obtain⟨m,hm⟩:∃m:Int,m = -77000000-(n1:Int):=⟨_,rfl⟩;obtain⟨-,g1,-,-,-,-,-,fz,hwl⟩:=h.cells;have f1:=fz 1;have w1:(x.nn:Int)+1=(n1:Int):=by omega
 have w2:-77000000-(n1:Int)=m:=hm.symm;have hj1:n1≤4000000000000:=by omega
 have hj2:-4000000000000≤m:=by omega
 have hj3:m≤0:=by omega
 have HM:=Zc (Zd hn1 hm);have HWC:=Zc (h.setN n1);have hrw:(w.setCell ⟨wb,1,none⟩ (.int .i64 n1)).ownsRow b1 40 6 (.slice r n cap) n xs:=YY hrow (λg hg=>by obtain⟨cur,hc⟩:=Xq hrow g hg;exact(Fr.setCell w ⟨wb,1,none⟩ (.int .i64 n1)).block g (Ze.1 hc).1 (λe=>Tt hc h.blk (by decide) e))
 have HRW:=Zc hrw;have HB1:Hid (Fr (λk=>¬U k) w (w.setCell ⟨wb,1,none⟩ (.int .i64 n1))):=(Fr.setCell w ⟨wb,1,none⟩ (.int .i64 n1)).mono (λk _ e=>h.nU k (.inl e));have w3:=Uw n1 hj1;have w4:=UW n1 hj1;have w5:=Zkg m hj2 hj3;have w6:=wrap_neg m hj2 hj3;clear h hrow hrw fz hn1 hm;go_enter func39,ntmps39;go_wp2_with fail;generalize w.setCell ⟨wb,1,none⟩ (.int .i64 n1)=W1 at *;have hrr:(r=none∧n=0∧cap=0)∨∃g,r=some ⟨g,0,none⟩:=by
  rcases HRW.o.2 with⟨e,e2⟩|⟨g,c,cur,e,-⟩
  ·simp only[ZX] at e;exact .inl ⟨e.1,e2,e.2.2⟩
  ·simp only[ZX] at e;exact .inr ⟨g,e.1⟩
 rcases hrr with⟨rfl,rfl,rfl⟩|⟨g,rfl⟩
 ·have HKP:Hid (Vp w W1 U b1 wb n1 0 0 m x (.slice none 0 0)):=⟨⟨[],x.vo,x.vm,by rw[ZG];exact HWC.o,rfl,λg hg=>by cases hg⟩,ZO _ _ _ _,HB1.o,Zw hbs HB1.o.size⟩;go_loopw [5] (λvi wr=>vi=.int .i64 0∧wr=W1) (λ_ _=>0)
  case atStart=>exact⟨rfl,rfl⟩
  case round=>
   obtain⟨rfl,hw⟩:=hrel;subst hw;go_wp2_with fail;clear w1 w2 w3 w4 w5 w6;obtain⟨i0,hi0,hz0,hz1,hz2⟩:=info_parts infoOs;obtain⟨i2,hi20,hz20,hz21,hz22⟩:=info_parts infoIn;obtain⟨i3,hi30,hz30,hz31,hz32⟩:=info_parts infoRo;have HI:=Zc (Zd (Zd hi0 (Zd hz0 (Zd hz1 hz2))) (Zd (Zd hi20 (Zd hz20 (Zd hz21 hz22))) (Zd hi30 (Zd hz30 (Zd hz31 hz32)))));clear hi0 hz0 hz1 hz2 hi20 hz20 hz21 hz22 hi30 hz30 hz31 hz32;go_loopw [1,6] (λvl vk wr=>∃k:Nat,k≤4∧vk=.int .i64 k∧Hid (Vp w wr U b1 wb n1 0 k m x vl)) (λ_ vk _=>4-(intOf vk).toNat)
   case atStart=>exact⟨0,Zy _,rfl,HKP⟩
   case round=>
    obtain⟨k,hk,rfl,HK⟩:=hrel;by_cases hk4:k<4
    ·obtain⟨⟨new,vo',vm',hwc,hnl,hin⟩,hrow,hbel,hb1⟩:=HK.o;obtain⟨OR,hOR⟩:∃OR,OR=x.ords++new:=⟨_,rfl⟩;obtain⟨N,hN⟩:∃N,N=0+k:=⟨_,rfl⟩;rw[←hOR] at hwc hin;rw[←hN] at hin hrow;obtain⟨q,hq⟩:=Za (OR.length);have hqm:q≤4000000010:=by rw[←hq,hOR,Zf];omega
     have hNm:N≤1000000010:=by omega
     have hror:=hwc.ror;have hrom:=hwc.rom;rw[hq] at hror hrom;obtain⟨ro,co,hvo,-,-⟩:=Xf hror;obtain⟨rm,cm,hvm,-,-⟩:=Xf hrom;obtain⟨r1,c1,hv1,-,-⟩:=Xf hrow;subst hv1;obtain⟨-,-,-,-,-,e5,e6,-⟩:=hwc.cells;simp only at e5 e6 hvo hvm;subst hvo hvm;have HB:Hid (∀k,U k→k<wr.heap.size):=λk hk=>Zn (hU k hk) hb1;have HR1:Hid (∀O,(wr.alloc O).ownsRow 0 29 1 (.slice ro q co) q (OR.map (·.1))):=λO=>XL hror O;have HWR:=Zc hwc;have HRL:=Zc hrow;have HQ:=Zc (Zd hq (Zd hOR (Zd hnl (Zd hN (Zd hin (Zd hbel hb1))))));have hk4':(k:Int)<4:=by omega
     clear hq hOR hnl hN hin hbel hb1 hwc hrow hror hrom HK;go_wp2_with (first|(at_builtin;(refine Xc rfl _ _ 47 rfl 0 29 i0 _ 1 24 Zi9 HI.o.1.1 HI.o.1.2.1 HI.o.1.2.2.1 HI.o.1.2.2.2 rfl (by decide) (.slice ro q co) q (OR.map (·.1)) rfl (HR1.o _) (.slice (some ⟨wr.heap.size,0,none⟩) 1 1) 1 [.slice r1 N c1] rfl (VK wr _ _) (by intro u hu;simp at hu;subst hu;rfl) (by unfold maxLen;omega) (by omega) (Zy _) ?_);intro ra2 ca2 w2 ho2 hg2 hv2;have hk1:=Zed HWR.o _ hg2 (by show w2.ownsRow 0 _ 1 _ (OR.length+1) _;rw[HQ.o.1];exact ho2) HRL.o hv2;have c5:=hk1.c5;have f5:=hk1.f5;have c6:=hk1.c6;replace hk1:=Zc hk1;have hs2:=Zc (Xx w2 ⟨wb,5,none⟩ (.slice ra2 (q+1) ca2));clear hg2 hv2 ho2)|(at_builtin;(refine Xc rfl _ _ 48 rfl 0 3 i2 _ 1 8 Zgb HI.o.2.1.1 HI.o.2.1.2.1 HI.o.2.1.2.2.1 HI.o.2.1.2.2.2 rfl (by decide) (.slice rm q cm) q (OR.map λp=>.int .i64 p.2) rfl (XL (HQ.o.1▸hk1.out.r2) _) (.slice (some ⟨w2.heap.size,0,none⟩) 1 1) 1 [.int .i64 m] rfl (Te _ _ _ _ hs2.out) (by intro u hu;simp at hu;subst hu;rfl) (by unfold maxLen;omega) (by omega) (Zy _) ?_);intro ra4 ca4 w4 ho4 hg4 hv4;have hk2:=Zdn HWR.o HB.o (Zw hNm (by decide)) (λg hg hu=>by have h1:=hU g hu;have h2:=(Zs HRL.o g hg).1;omega) hk1.out _ hg4 (by show w4.ownsRow 0 _ 1 _ (OR.length+1) _;rw[HQ.o.1];exact ho4) hv4;have c7:=hk2.c6;have f7:=hk2.f6;replace hk2:=Zc hk2;have hs4:=Zc (Xx w4 ⟨wb,6,none⟩ (.slice ra4 (q+1) ca4));clear hg4 hv4 ho4)|(at_builtin;(refine Vh rfl _ _ 29 rfl b1 40 i3 _ 6 48 XR HI.o.2.2.1 HI.o.2.2.2.1 HI.o.2.2.2.2.1 HI.o.2.2.2.2.2 rfl (by decide) (.slice r1 N c1) N ((List.replicate N (inkL m)).flatten) rfl (XL hk2.out.rl _) ⟨w4.heap.size,0,none⟩ 1 1 (inkL m) rfl rfl (Zb7 _ _ _ hs4.out) (Zhd m) (by unfold maxLen;omega) (by omega) (by rw[Xb,hs4.out];exact Nat.le_succ_of_le (Zw HQ.o.2.2.2.2.2.2 hk2.out.sz)) ?_);intro ra6 ca6 w6 ho6 hg6))
     have HKN:Hid (Vp w w6 U b1 wb n1 0 (k+1) m x (.slice ra6 (N+1) ca6)):=Zje hk2.out HQ.o.2.2.2.2.2.1 hU HQ.o.2.2.2.2.2.2 HQ.o.2.1 HQ.o.2.2.1 HQ.o.2.2.2.1 HQ.o.2.2.2.2.1 _ hg6.out.1 (λg hg=>⟨Qu HRL.o g hg,(hg6.out.2.1 g hg).1,(hg6.out.2.1 g hg).2⟩) hg6.out.2.2 ho6.out;exact⟨⟨k+1,by omega,by go_num,HKN⟩,by simp[intOf];omega⟩
    ·have hke:k=4:=by omega
     subst hke;go_wp2_with fail;go_end0
     refine⟨rfl,m,u1,?_⟩;rw[HM.o.1];exact HK.o
 ·have hxl:xs.length=n*6:=HRW.o.1;obtain⟨c0,hc0⟩:=Xq HRW.o g rfl;have HC0:=Zc hc0;have hbg:b1≤g:=(Zs HRW.o g rfl).1;clear hc0;go_loopw [5] (λv5 wr=>∃i:Nat,i≤n∧v5=.int .i64 i∧Hid (wr.ownsRow b1 40 6 (.slice (some ⟨g,0,none⟩) n cap) n (Uk m xs i))∧Hid (Fr (λk=>k=g) W1 wr)) (λv5 _=>n-(intOf v5).toNat)
  case atStart=>exact⟨0,Zy _,rfl,by show World.ownsRow _ _ _ _ _ _ _;rw[ink_zero];exact HRW.o,Fr.refl _ _⟩
  case round=>
   obtain⟨i,hi,rfl,HRi,HFi⟩:=hrel;by_cases hil:i<n
   ·have j1:(i:Int)<(n:Int):=by omega
    have j2:(0:Int)≤(i:Int):=by omega
    have hex:∀t,t<6→∃u,wr.cell? ⟨g,i*6+t,none⟩=some u:=by
     intro t ht;have hl:(Uk m xs i).length=n*6:=HRi.o.1;have hlt:i*6+t<(Uk m xs i).length:=by rw[hl];omega
     have:=HRi.o.cells (g:=g) rfl (i*6+t) _ (Zp hlt);rw[Yg,ZN] at this;exact⟨_,this⟩
    obtain⟨y0,d0⟩:=hex 0 (by omega);obtain⟨y1,d1⟩:=hex 1 (by omega);obtain⟨y2,d2⟩:=hex 2 (by omega);obtain⟨y3,d3⟩:=hex 3 (by omega);obtain⟨y4,d4⟩:=hex 4 (by omega);obtain⟨y5,d5⟩:=hex 5 (by omega);rw[Nat.add_zero] at d0;have hfz:∀j,wr.frozen? ⟨g,j,none⟩=false:=by obtain⟨c,hc⟩:=Xq HRi.o g rfl;intro j;simp[World.frozen?,hc]
    have f0:=hfz (i*6);have f1:=hfz (i*6+1);have f2:=hfz (i*6+2);have f3:=hfz (i*6+3);have f4:=hfz (i*6+4);have f5:=hfz (i*6+5);have HN:Hid (((((((wr.setCell ⟨g,i*6,none⟩ (.int .i64 0)).setCell ⟨g,i*6+1,none⟩ (.int .i64 m)).setCell ⟨g,i*6+2,none⟩ (.int .u8 0)).setCell ⟨g,i*6+3,none⟩ (.int .i64 0)).setCell ⟨g,i*6+4,none⟩ (.int .i64 0)).setCell ⟨g,i*6+5,none⟩ (.int .i64 0)).ownsRow b1 40 6 (.slice (some ⟨g,0,none⟩) n cap) n (Uk m xs (i+1))):=by have:=UX (UX (UX (UX (UX (UX HRi.o (i*6) (.int .i64 0)) (i*6+1) (.int .i64 m)) (i*6+2) (.int .u8 0)) (i*6+3) (.int .i64 0)) (i*6+4) (.int .i64 0)) (i*6+5) (.int .i64 0);rw[ink_step m xs i (by rw[hxl];omega)] at this;exact this
    have HFn:Hid (Fr (λk=>k=g) W1 ((((((wr.setCell ⟨g,i*6,none⟩ (.int .i64 0)).setCell ⟨g,i*6+1,none⟩ (.int .i64 m)).setCell ⟨g,i*6+2,none⟩ (.int .u8 0)).setCell ⟨g,i*6+3,none⟩ (.int .i64 0)).setCell ⟨g,i*6+4,none⟩ (.int .i64 0)).setCell ⟨g,i*6+5,none⟩ (.int .i64 0))):=
     ((((((HFi.o.trans (Fr.setCell wr ⟨g,i*6,none⟩ _) (λ_ _ e=>e)).trans (Fr.setCell _ ⟨g,i*6+1,none⟩ _) (λ_ _ e=>e)).trans (Fr.setCell _ ⟨g,i*6+2,none⟩ _) (λ_ _ e=>e)).trans (Fr.setCell _ ⟨g,i*6+3,none⟩ _) (λ_ _ e=>e)).trans (Fr.setCell _ ⟨g,i*6+4,none⟩ _) (λ_ _ e=>e)).trans (Fr.setCell _ ⟨g,i*6+5,none⟩ _) (λ_ _ e=>e))
    clear hex hfz w1 w2 w3 w4 w5 w6;go_wp2_with fail;exact⟨⟨i+1,by omega,by go_num,HN,HFn⟩,by simp[intOf];omega⟩
   ·have hin:i=n:=by omega
    subst hin;have j1:¬(i:Int)<(i:Int):=by omega
    have HKP:Hid (Vp w wr U b1 wb n1 i 0 m x (.slice (some ⟨g,0,none⟩) i cap)):=by
     have hnv:¬VS wb x g:=λe=>by have:=hlow g e;omega
     have hno:∀p∈x.ords,p.1.ownBlock≠some g:=λp hp e=>hnv (.inr (.inr (.inr (.inr (.inr (.inr (.inr (.inr (.inr (.inr ⟨p,hp,e⟩))))))))));have hr2:=HRi.o;rw[ink_full m xs i hxl] at hr2;exact⟨⟨[],x.vo,x.vm,by rw[ZG];exact HWC.o.off HFi.o hnv,rfl,λg' hg' p hp e=>by cases hg';rw[ZG] at hp;exact absurd e (hno p hp)⟩,hr2,HB1.o.trans HFi.o (λk _ e hu=>by have e:k=g:=e;have:=hU k hu;omega),Zw (Zw hbs HB1.o.size) HFi.o.size⟩
    go_wp2_with fail;clear w1 w2 w3 w4 w5 w6;have hk1:i≤1000000000:=hn;obtain⟨i0,hi0,hz0,hz1,hz2⟩:=info_parts infoOs;obtain⟨i2,hi20,hz20,hz21,hz22⟩:=info_parts infoIn;obtain⟨i3,hi30,hz30,hz31,hz32⟩:=info_parts infoRo;have HI:=Zc (Zd (Zd hi0 (Zd hz0 (Zd hz1 hz2))) (Zd (Zd hi20 (Zd hz20 (Zd hz21 hz22))) (Zd hi30 (Zd hz30 (Zd hz31 hz32)))));clear hi0 hz0 hz1 hz2 hi20 hz20 hz21 hz22 hi30 hz30 hz31 hz32;go_loopw [1,6] (λvl vk wr=>∃k:Nat,k≤4∧vk=.int .i64 k∧Hid (Vp w wr U b1 wb n1 i k m x vl)) (λ_ vk _=>4-(intOf vk).toNat)
    case atStart=>exact⟨0,Zy _,rfl,HKP⟩
    case round=>
     obtain⟨k,hk,rfl,HK⟩:=hrel;by_cases hk4:k<4
     ·obtain⟨⟨new,vo',vm',hwc,hnl,hin⟩,hrow,hbel,hb1⟩:=HK.o;obtain⟨OR,hOR⟩:∃OR,OR=x.ords++new:=⟨_,rfl⟩;obtain⟨N,hN⟩:∃N,N=i+k:=⟨_,rfl⟩;rw[←hOR] at hwc hin;rw[←hN] at hin hrow;obtain⟨q,hq⟩:=Za (OR.length);have hqm:q≤4000000010:=by rw[←hq,hOR,Zf];omega
      have hNm:N≤1000000010:=by omega
      have hror:=hwc.ror;have hrom:=hwc.rom;rw[hq] at hror hrom;obtain⟨ro,co,hvo,-,-⟩:=Xf hror;obtain⟨rm,cm,hvm,-,-⟩:=Xf hrom;obtain⟨r1,c1,hv1,-,-⟩:=Xf hrow;subst hv1;obtain⟨-,-,-,-,-,e5,e6,-⟩:=hwc.cells;simp only at e5 e6 hvo hvm;subst hvo hvm;have HB:Hid (∀k,U k→k<wr.heap.size):=λk hk=>Zn (hU k hk) hb1;have HR1:Hid (∀O,(wr.alloc O).ownsRow 0 29 1 (.slice ro q co) q (OR.map (·.1))):=λO=>XL hror O;have HWR:=Zc hwc;have HRL:=Zc hrow;have HQ:=Zc (Zd hq (Zd hOR (Zd hnl (Zd hN (Zd hin (Zd hbel hb1))))));have hk4':(k:Int)<4:=by omega
      clear hq hOR hnl hN hin hbel hb1 hwc hrow hror hrom HK;go_wp2_with (first|(at_builtin;(refine Xc rfl _ _ 47 rfl 0 29 i0 _ 1 24 Zi9 HI.o.1.1 HI.o.1.2.1 HI.o.1.2.2.1 HI.o.1.2.2.2 rfl (by decide) (.slice ro q co) q (OR.map (·.1)) rfl (HR1.o _) (.slice (some ⟨wr.heap.size,0,none⟩) 1 1) 1 [.slice r1 N c1] rfl (VK wr _ _) (by intro u hu;simp at hu;subst hu;rfl) (by unfold maxLen;omega) (by omega) (Zy _) ?_);intro ra2 ca2 w2 ho2 hg2 hv2;have hk1:=Zed HWR.o _ hg2 (by show w2.ownsRow 0 _ 1 _ (OR.length+1) _;rw[HQ.o.1];exact ho2) HRL.o hv2;have c5:=hk1.c5;have f5:=hk1.f5;have c6:=hk1.c6;replace hk1:=Zc hk1;have hs2:=Zc (Xx w2 ⟨wb,5,none⟩ (.slice ra2 (q+1) ca2));clear hg2 hv2 ho2)|(at_builtin;(refine Xc rfl _ _ 48 rfl 0 3 i2 _ 1 8 Zgb HI.o.2.1.1 HI.o.2.1.2.1 HI.o.2.1.2.2.1 HI.o.2.1.2.2.2 rfl (by decide) (.slice rm q cm) q (OR.map λp=>.int .i64 p.2) rfl (XL (HQ.o.1▸hk1.out.r2) _) (.slice (some ⟨w2.heap.size,0,none⟩) 1 1) 1 [.int .i64 m] rfl (Te _ _ _ _ hs2.out) (by intro u hu;simp at hu;subst hu;rfl) (by unfold maxLen;omega) (by omega) (Zy _) ?_);intro ra4 ca4 w4 ho4 hg4 hv4;have hk2:=Zdn HWR.o HB.o (Zw hNm (by decide)) (λg hg hu=>by have h1:=hU g hu;have h2:=(Zs HRL.o g hg).1;omega) hk1.out _ hg4 (by show w4.ownsRow 0 _ 1 _ (OR.length+1) _;rw[HQ.o.1];exact ho4) hv4;have c7:=hk2.c6;have f7:=hk2.f6;replace hk2:=Zc hk2;have hs4:=Zc (Xx w4 ⟨wb,6,none⟩ (.slice ra4 (q+1) ca4));clear hg4 hv4 ho4)|(at_builtin;(refine Vh rfl _ _ 29 rfl b1 40 i3 _ 6 48 XR HI.o.2.2.1 HI.o.2.2.2.1 HI.o.2.2.2.2.1 HI.o.2.2.2.2.2 rfl (by decide) (.slice r1 N c1) N ((List.replicate N (inkL m)).flatten) rfl (XL hk2.out.rl _) ⟨w4.heap.size,0,none⟩ 1 1 (inkL m) rfl rfl (Zb7 _ _ _ hs4.out) (Zhd m) (by unfold maxLen;omega) (by omega) (by rw[Xb,hs4.out];exact Nat.le_succ_of_le (Zw HQ.o.2.2.2.2.2.2 hk2.out.sz)) ?_);intro ra6 ca6 w6 ho6 hg6))
      have HKN:Hid (Vp w w6 U b1 wb n1 i (k+1) m x (.slice ra6 (N+1) ca6)):=Zje hk2.out HQ.o.2.2.2.2.2.1 hU HQ.o.2.2.2.2.2.2 HQ.o.2.1 HQ.o.2.2.1 HQ.o.2.2.2.1 HQ.o.2.2.2.2.1 _ hg6.out.1 (λg hg=>⟨Qu HRL.o g hg,(hg6.out.2.1 g hg).1,(hg6.out.2.1 g hg).2⟩) hg6.out.2.2 ho6.out;exact⟨⟨k+1,by omega,by go_num,HKN⟩,by simp[intOf];omega⟩
     ·have hke:k=4:=by omega
      subst hke;go_wp2_with fail;go_end0
      refine⟨rfl,m,u1,?_⟩;rw[HM.o.1];exact HK.o
end
section
open Go.RowKit
def Ziv (bys:List (Value×UInt8))(g N:Nat)(m:UInt8):Prop:=∀p∈bys,p.1.ownBlock=some g→∃np cp,p.1=.slice (some ⟨g,0,none⟩) np cp∧np≤N∧p.2=m
theorem Zhb (m:UInt8)(N i:Nat)(h:i<N):(List.replicate N (B m))[i]?=some (.int .u8 m.toNat):=by rw[List.getElem?_replicate,Zg h];rfl
structure Apt (x:Vw)(vl:Value):Prop where
 c:∀g,vl.ownBlock=some g→x.vc.ownBlock≠some g
 i:∀g,vl.ownBlock=some g→∀v∈x.ins,v.ownBlock≠some g
 e:∀g,vl.ownBlock=some g→∀v∈x.ex,v.ownBlock≠some g
section
variable {w w':World} {U:Nat→Prop} {wb:Nat} {x:Vw}
theorem VC.stayB {m:UInt8}(h:VC w U wb x)(hty:Ty w g 5)(hin:Ziv x.bys g N m)(hc:x.vc.ownBlock≠some g)(hi:∀v∈x.ins,v.ownBlock≠some g)(he:∀v∈x.ex,v.ownBlock≠some g)
  (h1:w.grownBy w' (some g)) (h2:∀j u,(List.replicate N (B m))[j]?=some u→w'.cell? ⟨g,j,none⟩=some u) (h3:∃cur,w'.heap[g]?=some (.cells cur 5 (0,0))):VC w' U wb x:=by
 have hf:Fr (λk=>k=g) w w':=(Fr.of_grown h1).mono (λk _ e=>Zv e);have kt:∀a t,Ty w a t→t≠5→w'.heap[a]?=w.heap[a]?:=λa t ha ht=>hf.block a ha.lt (λe=>ha.ne hty ht e);exact {
  blk:=(kt wb _ h.wty (by decide)).trans h.blk
  ral:=YY h.ral (λg hg=>kt g _ (Xd h.ral hg) (by decide))
  rin:=YY h.rin (λg hg=>kt g _ (Xd h.rin hg) (by decide))
  rby:=YY h.rby (λg hg=>kt g _ (Xd h.rby hg) (by decide))
  rbm:=YY h.rbm (λa ha=>hf.block a (Xd h.rbm ha).lt (λe=>hc (by rw[ha,e])))
  ror:=YY h.ror (λg hg=>kt g _ (Xd h.ror hg) (by decide))
  rom:=YY h.rom (λg hg=>kt g _ (Xd h.rom hg) (by decide))
  ful:=λv hv=>(h.ful v hv).keep' (λa ha=>hf.block a ((h.ful v hv).ty ha).lt (λe=>hi v hv (by rw[ha,e])))
  exo:=λv hv a ha=>(h.exo v hv a ha).keep (hf.block a (h.exo v hv a ha).lt (λe=>he v hv (by rw[ha,e])))
  inb:=by
   intro p hp;by_cases e:p.1.ownBlock=some g
   ·obtain⟨np,cp,e1,e2,e3⟩:=hin p hp e;obtain⟨cur,hcu⟩:=h3;rcases h.inb p hp with i1|⟨a,n,cap,i1,i2,i3,i4⟩
    ·rw[i1] at e1;cases e1
    ·rw[e1] at i1;simp only[ZX,Ys,YB,and_true] at i1;obtain⟨rfl,rfl,rfl⟩:=i1;refine .inr ⟨g,np,cp,e1,i2,(Ze.1 hcu).1,λi hi => ?_⟩;rw[e3];exact h2 i _ (Zhb m N i (by omega))
   ·exact(h.inb p hp).keep (λa ha=>hf.block a (h.bob p hp a ha).lt (λe2=>e (by rw[ha,e2])))
  bob:=by
   intro p hp a ha;by_cases e:a=g
   ·rw[e];exact h3
   ·exact(h.bob p hp a ha).keep (hf.block a (h.bob p hp a ha).lt e)
  ink:=λp hp=>(h.ink p hp).keep (λa _ _ ha=>kt a _ ((h.ink p hp).ty ha) (by decide))
  nib:=h.nib
  nuc:=h.nuc
  nU:=h.nU}
theorem VC.addBy {m:UInt8}{vb' vc':Value}(h:VC w U wb x)(hU:∀k,U k→k<w.heap.size)
  (h1:w'.heap[wb]?=some (.cells ({x with vb:=vb',vc:=vc'}:Vw).blk 50)) (h2:w'.ownsRow 0 36 1 vb' (x.bys.length+1) (x.bys.map (·.1)++[vl])) (h3:w'.ownsRow 0 5 1 vc' (x.bys.length+1) ((x.bys.map λp=>.int .u8 p.2.toNat)++[.int .u8 m.toNat]))
  (hf:Fr (λk=>k=wb∨x.vb.ownBlock=some k∨x.vc.ownBlock=some k) w w') (hi:InkB w' vl m) (hvt:∀g,vl.ownBlock=some g→Ty w' g 5) (hvb:vb'.ownBlock=x.vb.ownBlock∨∃g,vb'.ownBlock=some g∧w.heap.size≤g) (hvc:vc'.ownBlock=x.vc.ownBlock∨∃g,vc'.ownBlock=some g∧w.heap.size≤g) (hvl:∀g,vl.ownBlock=some g→¬U g∧g<w.heap.size) (ha:Apt x vl):
  VC w' U wb {x with bys:=x.bys++[(vl,m)],vb:=vb',vc:=vc'}∧Fr (λk=>¬U k) w w':=by
 have kp:∀a,a<w.heap.size→a≠wb→x.vb.ownBlock≠some a→x.vc.ownBlock≠some a→w'.heap[a]?=w.heap[a]?:=λa hl p q r=>hf.block a hl (λe=>e.elim p (λe=>e.elim q r));have kt:∀a t,Ty w a t→t≠50→t≠36→t≠5→w'.heap[a]?=w.heap[a]?:=λa t ha t1 t2 t3=>kp a ha.lt (λe=>ha.ne h.wty t1 e) (λe=>ha.ne (Xd h.rby e) t2 rfl) (λe=>ha.ne (Xd h.rbm e) t3 rfl);have ku:∀a,Ty w a 5→x.vc.ownBlock≠some a→w'.heap[a]?=w.heap[a]?:=λa ha q=>kp a ha.lt (λe=>ha.ne h.wty (by decide) e) (λe=>ha.ne (Xd h.rby e) (by decide) rfl) q;refine⟨{
  blk:=h1
  ral:=YY h.ral (λg hg=>kt g _ (Xd h.ral hg) (by decide) (by decide) (by decide))
  rin:=YY h.rin (λg hg=>kp g (Xd h.rin hg).lt (λe=>(Xd h.rin hg).ne h.wty (by decide) e) (h.nib g hg) (λe=>(Xd h.rin hg).ne (Xd h.rbm e) (by decide) rfl))
  rby:=by rw[Zf,ZH];exact h2
  rbm:=by rw[Zf,ZH];exact h3
  ror:=YY h.ror (λg hg=>kt g _ (Xd h.ror hg) (by decide) (by decide) (by decide))
  rom:=YY h.rom (λg hg=>kt g _ (Xd h.rom hg) (by decide) (by decide) (by decide))
  ful:=λv hv=>(h.ful v hv).keep' (λg hg=>ku g ((h.ful v hv).ty hg) (λe=>(h.nuc g e).1 v hv hg))
  exo:=λv hv g hg=>(h.exo v hv g hg).keep (ku g (h.exo v hv g hg) (λe=>(h.nuc g e).2.1 v hv hg))
  inb:=?_
  bob:=?_
  ink:=λp hp=>(h.ink p hp).keep (λg _ _ hg=>kt g _ ((h.ink p hp).ty hg) (by decide) (by decide) (by decide))
  nib:=?_
  nuc:=?_
  nU:=?_},?_⟩
 ·intro p hp;rcases ZE.1 hp with hp|hp
  ·exact(h.inb p hp).keep (λg hg=>ku g (h.bob p hp g hg) (λe=>(h.nuc g e).2.2 p hp hg))
  ·simp at hp;rw[hp];exact hi
 ·intro p hp g hg;rcases ZE.1 hp with hp|hp
  ·exact(h.bob p hp g hg).keep (ku g (h.bob p hp g hg) (λe=>(h.nuc g e).2.2 p hp hg))
  ·simp at hp;rw[hp] at hg;exact hvt g hg
 ·intro g hg e;have e:vb'.ownBlock=some g:=e;rcases hvb with q|⟨g',q,q2⟩
  ·exact h.nib g hg (by rw[←q];exact e)
  ·rw[q] at e;cases e;have:=(Xd h.rin hg).lt;omega
 ·intro g hg;have hg:vc'.ownBlock=some g:=hg;rcases hvc with q|⟨g',q,q2⟩
  ·have hg2:x.vc.ownBlock=some g:=by rw[←q];exact hg
   obtain⟨p1,p2,p3⟩:=h.nuc g hg2;refine⟨p1,p2,λp hp => ?_⟩;rcases ZE.1 hp with hp|hp
   ·exact p3 p hp
   ·simp at hp;rw[hp];exact λe=>ha.c g e hg2
  ·rw[q] at hg;cases hg;refine⟨λv hv e=>by have:=((h.ful v hv).ty e).lt;omega,λv hv e=>by have:=(h.exo v hv g e).lt;omega,λp hp e => ?_⟩;rcases ZE.1 hp with hp|hp
   ·have:=(h.bob p hp g e).lt;omega
   ·simp at hp;rw[hp] at e;have:=(hvl g e).2;omega
 ·rintro k (e|e|e|e|e|e|e|e|e|⟨p,hp,e⟩|e) hk
  ·exact h.nU k (.inl e) hk
  ·exact h.nU k (.inr (.inl e)) hk
  ·exact h.nU k (.inr (.inr (.inl e))) hk
  ·have e:vb'.ownBlock=some k:=e;rcases hvb with q|⟨g',q,q2⟩
   ·exact h.nU k (.inr (.inr (.inr (.inl (by rw[←q];exact e))))) hk
   ·rw[q] at e;cases e;have:=hU k hk;omega
  ·have e:vc'.ownBlock=some k:=e;rcases hvc with q|⟨g',q,q2⟩
   ·exact h.nU k (.inr (.inr (.inr (.inr (.inl (by rw[←q];exact e)))))) hk
   ·rw[q] at e;cases e;have:=hU k hk;omega
  ·exact h.nU k (.inr (.inr (.inr (.inr (.inr (.inl e)))))) hk
  ·exact h.nU k (.inr (.inr (.inr (.inr (.inr (.inr (.inl e))))))) hk
  ·exact h.nU k (.inr (.inr (.inr (.inr (.inr (.inr (.inr (.inl e)))))))) hk
  ·exact h.nU k (.inr (.inr (.inr (.inr (.inr (.inr (.inr (.inr (.inl e))))))))) hk
  ·rcases ZE.1 hp with hp|hp
   ·exact h.nU k (.inr (.inr (.inr (.inr (.inr (.inr (.inr (.inr (.inr (.inl ⟨p,hp,e⟩)))))))))) hk
   ·simp at hp;rw[hp] at e;exact(hvl k e).1 hk
  ·exact h.nU k (.inr (.inr (.inr (.inr (.inr (.inr (.inr (.inr (.inr (.inr e)))))))))) hk
 ·refine hf.mono (λk _ e hk => ?_);rcases e with e|e|e
  ·exact h.nU k (.inl e) hk
  ·exact h.nU k (.inr (.inr (.inr (.inl e)))) hk
  ·exact h.nU k (.inr (.inr (.inr (.inr (.inl e))))) hk
end
structure B1s (wr w2:World)(wb N q:Nat)(x:Vw)(vb2 vl:Value)(ovs oms ys:List Value):Prop where
 c3:w2.cell? ⟨wb,3,none⟩=some x.vb
 f3:w2.frozen? ⟨wb,3,none⟩=false
 c4:w2.cell? ⟨wb,4,none⟩=some x.vc
 sz:wr.heap.size≤w2.heap.size
 blk:(w2.setCell ⟨wb,3,none⟩ vb2).heap[wb]?=some (.cells ({x with vb:=vb2}:Vw).blk 50)
 r1:(w2.setCell ⟨wb,3,none⟩ vb2).ownsRow 0 36 1 vb2 (q+1) ovs
 r2:(w2.setCell ⟨wb,3,none⟩ vb2).ownsRow 0 5 1 x.vc q oms
 rl:(w2.setCell ⟨wb,3,none⟩ vb2).ownsRow 0 5 1 vl N ys
 fr:Fr (λk=>k=wb∨x.vb.ownBlock=some k) wr (w2.setCell ⟨wb,3,none⟩ vb2)
 vob:vb2.ownBlock=x.vb.ownBlock∨∃g,vb2.ownBlock=some g∧wr.heap.size≤g
theorem Zd4 {vb2:Value}{ovs ys:List Value}(h:VC wr U wb x)(O:Obj)(hg:(wr.alloc O).grownBy w2 x.vb.ownBlock)(hown:w2.ownsRow 0 36 1 vb2 (x.bys.length+1) ovs)(hl:wr.ownsRow 0 5 1 vl N ys)(hv:vb2.ownBlock=x.vb.ownBlock∨vb2.ownBlock=some (wr.alloc O).heap.size):
  B1s wr w2 wb N x.bys.length x vb2 vl ovs (x.bys.map λp=>.int .u8 p.2.toNat) ys:=by
 have hf2:Fr (λk=>x.vb.ownBlock=some k) wr w2:=((Fr.alloc (λk=>some k=x.vb.ownBlock) wr O).trans (Fr.of_grown hg) (λ_ _ e=>e)).mono (λk _ e=>e.symm);have hkeep:∀a t,Ty wr a t→t≠36→w2.heap[a]?=wr.heap[a]?:=λa t ha ht=>hf2.block a ha.lt (λe=>ha.ne (Xd h.rby e) ht rfl);have hb2:w2.heap[wb]?=_:=(hkeep wb _ h.wty (by decide)).trans h.blk;have hf3:Fr (λk=>k=wb) w2 (w2.setCell ⟨wb,3,none⟩ vb2):=Fr.setCell w2 ⟨wb,3,none⟩ vb2;have hkeep3:∀a t,Ty w2 a t→t≠50→(w2.setCell ⟨wb,3,none⟩ vb2).heap[a]?=w2.heap[a]?:=λa t ha ht=>hf3.block a ha.lt (λe=>ha.ne ⟨_,hb2⟩ ht e);refine⟨Zk w2 wb 3 _ _ (0,0) hb2,by simp[World.frozen?,hb2],Zk w2 wb 4 _ _ (0,0) hb2,hf2.size,by rw[Zi w2 wb 3 _ _ _ hb2];rfl,?_,?_,?_,?_,hv.elim .inl (λe=>.inr ⟨_,e,by rw[Xb];omega⟩)⟩
 ·exact YY hown (λa ha=>hkeep3 a _ (Xd hown ha) (by decide))
 ·exact YY h.rbm (λa ha=>by have e:=hkeep a _ (Xd h.rbm ha) (by decide);exact(hkeep3 a _ ((Xd h.rbm ha).keep e) (by decide)).trans e)
 ·exact YY hl (λa ha=>by have e:=hkeep a _ (Xd hl ha) (by decide);exact(hkeep3 a _ ((Xd hl ha).keep e) (by decide)).trans e)
 ·exact(hf2.mono (λ_ _ e=>Or.inr e)).trans (hf3.mono (G:=λk=>k=wb∨x.vb.ownBlock=some k) (λ_ _ e=>Or.inl e)) (λ_ _ e=>e)
theorem Zfz {b:Nat}{v:Value}{m:UInt8}(h:w.ownsRow b 5 1 v n (List.replicate n (B m)))(hn:n≤4000000000000000000):InkB w v m:=by
 rcases h.2 with⟨h1,-⟩|⟨g,cap,cur,h1,h2,h3,h4,h5,h6,h7⟩
 ·exact .inl h1
 ·refine .inr ⟨g,n,cap,h1,hn,(Ze.1 h3).1,λi hi => ?_⟩;have:=h.cells (g:=g) (by rw[h1];rfl) i _ (Zhb m n i hi)
  rwa [Yg,ZN] at this
structure B2s (wr w4:World)(U:Nat→Prop)(wb N:Nat)(m:UInt8)(x:Vw)(vb2 vc2 vl:Value)(ys:List Value):Prop where
 c4:w4.cell? ⟨wb,4,none⟩=some x.vc
 f4:w4.frozen? ⟨wb,4,none⟩=false
 wc:VC (w4.setCell ⟨wb,4,none⟩ vc2) U wb {x with bys:=x.bys++[(vl,m)],vb:=vb2,vc:=vc2}
 rl:(w4.setCell ⟨wb,4,none⟩ vc2).ownsRow 0 5 1 vl N ys
 fr:Fr (λk=>¬U k) wr (w4.setCell ⟨wb,4,none⟩ vc2)
 sz:wr.heap.size≤w4.heap.size
 apc:∀g,vl.ownBlock=some g→vc2.ownBlock≠some g
theorem Zee {m:UInt8}{vb2 vc2:Value}(h:VC wr U wb x)(hU:∀k,U k→k<wr.heap.size)(hN:N≤2000000000)(hlw:wr.ownsRow 0 5 1 vl N (List.replicate N (B m)))(hvl:∀g,vl.ownBlock=some g→¬U g)(ha:Apt x vl)
  (k:B1s wr w2 wb N x.bys.length x vb2 vl (x.bys.map (·.1)++[vl]) (x.bys.map λp=>.int .u8 p.2.toNat) (List.replicate N (B m))) (O:Obj) (hg:((w2.setCell ⟨wb,3,none⟩ vb2).alloc O).grownBy w4 x.vc.ownBlock) (hown:w4.ownsRow 0 5 1 vc2 (x.bys.length+1) ((x.bys.map λp=>.int .u8 p.2.toNat)++[.int .u8 m.toNat]))
  (hv:vc2.ownBlock=x.vc.ownBlock∨vc2.ownBlock=some ((w2.setCell ⟨wb,3,none⟩ vb2).alloc O).heap.size):
  B2s wr w4 U wb N m x vb2 vc2 vl (List.replicate N (B m)):=by
 have hs3:=Xx w2 ⟨wb,3,none⟩ vb2;have hf4:Fr (λa=>x.vc.ownBlock=some a) (w2.setCell ⟨wb,3,none⟩ vb2) w4:=((Fr.alloc (λa=>some a=x.vc.ownBlock) (w2.setCell ⟨wb,3,none⟩ vb2) O).trans (Fr.of_grown hg) (λ_ _ e=>e)).mono (λa _ e=>e.symm);have hkeep:∀a t,Ty (w2.setCell ⟨wb,3,none⟩ vb2) a t→x.vc.ownBlock≠some a→w4.heap[a]?=(w2.setCell ⟨wb,3,none⟩ vb2).heap[a]?:=λa t ha hq=>hf4.block a ha.lt hq;have nty:∀a t,Ty (w2.setCell ⟨wb,3,none⟩ vb2) a t→t≠5→x.vc.ownBlock≠some a:=λa t ha ht e=>ha.ne (Xd k.r2 e) ht rfl;have hb4:w4.heap[wb]?=_:=(hkeep wb _ ⟨_,k.blk⟩ (nty wb _ ⟨_,k.blk⟩ (by decide))).trans k.blk;have hf5:Fr (λa=>a=wb) w4 (w4.setCell ⟨wb,4,none⟩ vc2):=Fr.setCell w4 ⟨wb,4,none⟩ vc2;have hkeep5:∀a t,Ty w4 a t→t≠50→(w4.setCell ⟨wb,4,none⟩ vc2).heap[a]?=w4.heap[a]?:=λa t ha ht=>hf5.block a ha.lt (λe=>ha.ne ⟨_,hb4⟩ ht e);have hfr:Fr (λa=>a=wb∨x.vb.ownBlock=some a∨x.vc.ownBlock=some a) wr (w4.setCell ⟨wb,4,none⟩ vc2):=
  (k.fr.mono (G:=λa=>a=wb∨x.vb.ownBlock=some a∨x.vc.ownBlock=some a) (λ_ _ e=>e.elim Or.inl (λe=>Or.inr (Or.inl e)))).trans ((hf4.mono (G:=λa=>a=wb∨x.vb.ownBlock=some a∨x.vc.ownBlock=some a) (λ_ _ e=>Or.inr (Or.inr e))).trans (hf5.mono (G:=λa=>a=wb∨x.vb.ownBlock=some a∨x.vc.ownBlock=some a) (λ_ _ e=>Or.inl e)) (λ_ _ e=>e)) (λ_ _ e=>e)
 have hrl:(w4.setCell ⟨wb,4,none⟩ vc2).ownsRow 0 5 1 vl N (List.replicate N (B m)):=YY k.rl (λa hal=>by have e:=hkeep a _ (Xd k.rl hal) (ha.c a hal);exact(hkeep5 a _ ((Xd k.rl hal).keep e) (by decide)).trans e)
 have hsz:=k.sz;obtain⟨q1,q2⟩:=h.addBy hU (w':=w4.setCell ⟨wb,4,none⟩ vc2) (vb':=vb2) (vc':=vc2) (vl:=vl) (m:=m) (by rw[Zi w4 wb 4 _ _ _ hb4];rfl) (YY k.r1 (λa hal=>by have e:=hkeep a _ (Xd k.r1 hal) (nty a _ (Xd k.r1 hal) (by decide));exact(hkeep5 a _ ((Xd k.r1 hal).keep e) (by decide)).trans e)) (YY hown (λa hal=>hkeep5 a _ (Xd hown hal) (by decide))) hfr (Zfz hrl (by omega)) (λg hgl=>Xd hrl hgl) k.vob (hv.elim .inl (λe=>.inr ⟨_,e,by rw[Xb];omega⟩)) (λg hgl=>⟨hvl g hgl,(Zs hlw g hgl).2⟩) ha
 refine⟨Zk w4 wb 4 _ _ (0,0) hb4,by simp[World.frozen?,hb4],q1,hrl,q2,?_,?_⟩
 ·have:=hf4.size;omega
 ·intro g hgl e;rcases hv with q|q
  ·exact ha.c g hgl (by rw[←q];exact e)
  ·rw[q] at e;cases e;have:=(Zs hlw _ hgl).2;rw[Xb] at this;omega
end
end Go.Proofs.YtphkchjejbffeaaGreat
