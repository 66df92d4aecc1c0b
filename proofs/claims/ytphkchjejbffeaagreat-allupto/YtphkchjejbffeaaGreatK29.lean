/- M6, M7, M8, V9, X1, X2, X3 -/
import Derived.Test.YtphkchjejbffeaaGreatK28
import Derived.Laws.IdiomStrings
import Derived.Laws.BytesArg
import Derived.Lib.BufferWrite
set_option maxHeartbeats 16000000
set_option maxRecDepth 100000
namespace Go.Proofs.YtphkchjejbffeaaGreat
open Tryz
open Go.RowKit
variable {b wb:Nat}{k:SK}{st:St}{x:Vw}{w w' w1:World}
section
open Go.RowKit
attribute [local go_sem ↓] Go.wp_at_zero Go.wp_at_succ
theorem Zk3 (n:Nat):∀m a,a+m=n+1→1≤a→Zbq (aftN n 1) (if m=0 then 0 else a) (List.range' a m):=by
 intro m;induction m with
 | zero=>intro a _ _;rfl
 | succ m ih=>
  intro a h ha;rw[List.range'_succ];refine⟨Zj (by omega),by omega,?_⟩;have e:aftN n 1 a=if m=0 then 0 else a+1:=by
   unfold aftN;by_cases hm:m=0
   ·rw[Zg hm,Zj (by omega)]
   ·rw[Zj hm,Zg (by omega)]
  rw[e];exact ih (a+1) (by omega) (by omega)
theorem lk_new (S L n:Nat)(hn:1≤n):Lk S L (n+1) 1 (λ_ _=>0) (λ_ _=>0) (λ_=>0) (aftN n 1) (λ_ _ _=>[]) (List.range' 1 n):=by
 refine⟨?_,?_,?_,?_,?_,?_,?_⟩
 ·intro s d p _;exact⟨trivial,rfl,rfl,List.nodup_nil⟩
 ·intro s d p _ x hx;cases hx
 ·intro s d p s' d' p' _ _ x hx;cases hx
 ·have:=Zk3 n n 1 (by omega) (by omega)
  rwa [Zj (by omega)] at this
 ·intro x hx;have:=List.mem_range'_1.1 hx;omega
 ·exact List.nodup_range'
 ·intro s d p _ x hx;cases hx
theorem fi_new (S L n:Nat)(st:St)(h:Inv st)(h1:st.qk=S)(h2:st.qj=L)(h3:st.pool=n)(h4:∀s d p,st.q s d p=[])(h5:st.used=[]):Fi S L (n+1) (λ_=>Xr) (λ_ _ _=>[]) (List.range' 1 n) (λ_=>none) st:=by
 have hr:st.ql=0:=by
  have:st.all=[]:=by simp[St.all,St.book,St.bids,St.asks,h4]
  unfold St.ql;rw[this];rfl
 refine⟨h1.symm,h2.symm,by rw[h3],λs d p _=>h4 s d p,by rw[List.length_range',hr,h3];rfl,λt=>by simp[h5],λs d p _ x hx=>(by cases hx),λt x hx=>(by cases hx),h,by rw[h5];exact List.nodup_nil,λt ht=>by rw[h5] at ht;cases ht⟩
def newC (pm bk:Nat):BC:={opn:=true,time:=0,bytes:=List.replicate 13 0,have_:=0,qg:=0,qi:=0,pm:=pm,bk:=bk,va:=.slice none 0 0,vt:=.slice none 0 0}
def Zff (pm bk:Nat):Obj:=.cells #[.bool true,.int .u64 0,.int .u8 0,.int .u8 0,.int .u8 0,.int .u8 0,.int .u8 0,.int .u8 0,.int .u8 0,.int .u8 0,.int .u8 0,.int .u8 0,.int .u8 0,.int .u8 0,.int .u8 0,.int .i64 0,.int .u32 0,.int .u32 0,.map (some pm),.pointer (some ⟨bk,0,none⟩),.slice none 0 0,.slice none 0 0] 101
theorem Zfc (pm bk:Nat):Zff pm bk=.cells (newC pm bk).cells 101:=rfl
def bare (s l p:Nat):St:={opened s l p with ans:=[]}
theorem inv_bare (s l p:Nat)(h1:1≤s∧s≤8)(h2:1≤l∧l≤64)(h3:1≤p∧p≤64):Inv (bare s l p):=
 (Inv.opened s l p h1 h2 h3).of_q rfl rfl rfl rfl (λ_ q=>q) (by show 0<4294967296;omega) (by show 0<4294967296;omega) (by show 0<281474976710656;omega)
theorem Zfa (s l p:Nat):(bare s l p).ql=0:=by
 have:(bare s l p).all=[]:=by simp[St.all,St.book,St.bids,St.asks,bare,opened]
 unfold St.ql;rw[this];rfl
theorem rel_new {s l p:Nat}(h1:1≤s∧s≤8)(h2:1≤l∧l≤64)(h3:1≤p∧p≤64)(kn:k.n=p+1)(kS:k.S=s)(kL:k.L=l)(kok:k.ok)(kF:∀j,k.F j→(w.alloc (.map #[] 0)).heap.size≤j)
  (hbk:IsBk w1 k 1 0 (λ_ _=>0) (λ_ _=>0) (λ_=>0) (aftN p 1) (λ_=>Xr)) (hb1:Below (w.alloc (.map #[] 0)).heap.size (w.alloc (.map #[] 0)) w1):
  Rel (w1.alloc (Zff w.heap.size k.bk)) w1.heap.size (newC w.heap.size k.bk) k (bare s l p)∧(∀j,GB w1.heap.size (newC w.heap.size k.bk) k j→w.heap.size≤j)∧Below w.heap.size w (w1.alloc (Zff w.heap.size k.bk)):=by
 have hs1:=hb1.size;rw[Xb] at hs1;have hkp:∀j,j<w1.heap.size→(w1.alloc (Zff w.heap.size k.bk)).heap[j]?=w1.heap[j]?:=λj hj=>by rw[YX,Zj (by omega)]
 refine⟨⟨⟨by rw[YX,Zg rfl,Zfc],rfl⟩,rfl,ZO _ _ _ _,ZO _ _ _ _,rfl,rfl,rfl,?_,λ_=>none,λ_=>Xr,λ_ _ _=>[],List.range' 1 p,⟨kok,1,_,_,_,_,by rw[Zfa];exact hbk.keep (λj hj=>hkp j (hbk.lt j hj)),by rw[kS,kL,kn];exact lk_new s l p h3.1⟩,?_,by rw[kS,kL,kn];exact fi_new s l p _ (inv_bare s l p h1 h2 h3) rfl rfl rfl (λ_ _ _=>rfl) rfl⟩,?_,?_⟩
 ·refine⟨λe => ?_,?_,λe => ?_,by nofun,by nofun,by nofun,by nofun,by nofun,by nofun,by nofun⟩
  ·have:=hbk.lt _ e;omega
  ·show w.heap.size≠w1.heap.size;omega
  ·have:=kF _ e;rw[Xb] at this;have:w.heap.size+1≤w.heap.size:=this;omega
 ·show IsM _ w.heap.size 0 _;refine((IsM.new w).keep (hb1.block w.heap.size (by rw[Xb];omega))).keep (hkp _ (by omega))
 ·intro j hj;rcases hj with e|e|e|e|e
  ·rw[e];omega
  ·rw[e];exact Zh _
  ·have:=kF j e;rw[Xb] at this;omega
  ·cases e
  ·cases e
 ·have hA:Below w.heap.size w (w.alloc (.map #[] 0)):=(Zm _ _).alloc (Zh _) _;have hB:Below w.heap.size w w1:=hA.trans (hb1.mono (by rw[Xb];omega));exact hB.alloc hB.size _
theorem new_any (s l p:Nat)(w:World)(h1:1≤s∧s≤8)(h2:1≤l∧l≤64)(h3:1≤p∧p≤64):
  Calls prog 22 #[.int .i64 s,.int .i64 l,.int .i64 p] w λe w'=>∃b c k,
   e=.returned (.tuple #[.pointer (some ⟨b,0,none⟩),.int .i64 0])∧Rel w' b c k (opened s l p)∧Inb c (opened s l p)∧(∀j,GB b c k j→w.heap.size≤j)∧Below w.heap.size w w':=by
 have HW1:=Zc (Vs s 1 8 w (by omega) (by omega));have HW2:=Zc (Vs l 1 64 w (by omega) (by omega));have HW3:=Zc (Vs p 1 64 w (by omega) (by omega));have HN:=Zc (Zd h1 (Zd h2 h3));clear h1 h2 h3;go_enter func22,ntmps22;go_wp2_with fail;refine HW1.o.mono (Zb ?_);clear HW1;go_wp2_with fail;refine HW2.o.mono (Zb ?_);clear HW2;go_wp2_with fail;refine HW3.o.mono (Zb ?_);clear HW3;have hmk:(Instr.makeMap 62 none).run prog w=.ok (.map (some w.heap.size)) (w.alloc (.map #[] 0)):=rfl;go_wp2_with fail;refine(Zfu s l p _ HN.o.1 HN.o.2.1 HN.o.2.2).mono ?_;rintro e w1 ⟨k,rfl,kn,kS,kL,kok,kF,hbk,hb1⟩;have HR:=Zc (rel_new HN.o.1 HN.o.2.1 HN.o.2.2 kn kS kL kok kF hbk hb1);clear kn kS kL kok kF hbk hb1 hmk;go_wp2_with fail;replace HR:Hid (Rel (w1.alloc (Obj.cells #[.bool true,.int .u64 0,.int .u8 0,.int .u8 0,.int .u8 0,.int .u8 0,.int .u8 0,.int .u8 0,.int .u8 0,.int .u8 0,.int .u8 0,.int .u8 0,.int .u8 0,.int .u8 0,.int .u8 0,.int .i64 0,.int .u32 0,.int .u32 0,.map (some w.heap.size),.pointer (some ⟨k.bk,0,none⟩),.slice none 0 0,.slice none 0 0] 101)) w1.heap.size (newC w.heap.size k.bk) k (bare s l p)∧(∀j,GB w1.heap.size (newC w.heap.size k.bk) k j→w.heap.size≤j)∧Below w.heap.size w (w1.alloc (Obj.cells #[.bool true,.int .u64 0,.int .u8 0,.int .u8 0,.int .u8 0,.int .u8 0,.int .u8 0,.int .u8 0,.int .u8 0,.int .u8 0,.int .u8 0,.int .u8 0,.int .u8 0,.int .u8 0,.int .u8 0,.int .i64 0,.int .u32 0,.int .u32 0,.map (some w.heap.size),.pointer (some ⟨k.bk,0,none⟩),.slice none 0 0,.slice none 0 0] 101))):=HR;generalize w1.alloc (Obj.cells #[.bool true,.int .u64 0,.int .u8 0,.int .u8 0,.int .u8 0,.int .u8 0,.int .u8 0,.int .u8 0,.int .u8 0,.int .u8 0,.int .u8 0,.int .u8 0,.int .u8 0,.int .u8 0,.int .u8 0,.int .i64 0,.int .u32 0,.int .u32 0,.map (some w.heap.size),.pointer (some ⟨k.bk,0,none⟩),.slice none 0 0,.slice none 0 0] 101)=W at HR ⊢;have hR:=HR.o.1;refine(Zb1 w1.heap.size _ [] W hR.B (by show 0<18446744073709551616;omega) (by show 0<4294967296;omega) hR.A (by nofun) (by show 0+64≤140737488355328;omega)).mono ?_;rintro e w2 ⟨rfl,ht⟩;obtain⟨c2,hR2,hS2,-,-⟩:=hR.tellA (l:=[79,0,0,0,0,0,0]) ht (show(79::enc 0 6:List UInt8)=[79,0,0,0,0,0,0] by decide +kernel);have HX:Hid (Rel w2 w1.heap.size c2 k (opened s l p)∧Inb c2 (opened s l p)∧(∀j,GB w1.heap.size c2 k j→w.heap.size≤j)∧Below w.heap.size w w2):=by
  refine⟨hR2,⟨hS2.opn,hS2.have_,by rw[hS2.have_];rfl,Or.inl hS2.have_⟩,?_,?_⟩
  ·intro j hj;rcases hS2.sub j hj with e|e
   ·exact HR.o.2.1 j e
   ·exact Zw HR.o.2.2.size e
  ·exact HR.o.2.2.trans (hS2.fr.below (HR.o.2.2.size) HR.o.2.1)
 clear ht hR2 hS2 hR HR;go_wp2_with fail;go_ret2
 exact⟨_,c2,k,rfl,HX.o⟩
end
section
open Go.RowKit
def AtR (w:World)(b:Nat)(G:Nat→Prop)(st:St):Prop:=∃c k,Rel w b c k st∧Inb c st∧G=GB b c k
theorem Zgw {v:Value}{l:List UInt8}(h:Own w b v l):∃a n k,v=.slice a n k:=by obtain⟨a,cap,h1,-⟩:=h.len;exact⟨a,_,cap,h1⟩
theorem rel_told {c:BC}(h:Rel w b c k st)(hB:IsB w' b {c with va:=.slice none 0 0})(hf:Fr (λj=>j=b) w w'):Rel w' b {c with va:=.slice none 0 0} k st.told:=by have hd:=h.dist;obtain⟨M,od,ps,fl,h1,h2,h3⟩:=h.ex;refine⟨hB,h.bk,ZO _ _ _ _,h.T.keep (λg hg=>hf.block g (Own.lt h.T g hg).2 (λe=>hd.tb (e▸hg))),h.time,h.qg,h.qi,?_,M,od,ps,fl,h1.fr hf (λj hj e=>hd.bF (e▸hj)),h2.keep (hf.block _ h2.lt hd.pb),h3.of_st (h.inv.of_q rfl rfl rfl rfl (λ_ q=>q) h.inv.qg h.inv.qi h.inv.time) rfl rfl rfl rfl rfl⟩;exact⟨hd.bF,hd.pb,hd.pF,by nofun,by nofun,by nofun,hd.tb,hd.tp,hd.tF,by nofun⟩
theorem Zku {c:BC}(h:Rel w b c k st)(hB:IsB w' b {c with vt:=.slice none 0 0})(hf:Fr (λj=>j=b) w w'):Rel w' b {c with vt:=.slice none 0 0} k st.taped:=by have hd:=h.dist;obtain⟨M,od,ps,fl,h1,h2,h3⟩:=h.ex;refine⟨hB,h.bk,h.A.keep (λg hg=>hf.block g (Own.lt h.A g hg).2 (λe=>hd.ab (e▸hg))),ZO _ _ _ _,h.time,h.qg,h.qi,?_,M,od,ps,fl,h1.fr hf (λj hj e=>hd.bF (e▸hj)),h2.keep (hf.block _ h2.lt hd.pb),h3.of_st (h.inv.of_q rfl rfl rfl rfl (λ_ q=>q) h.inv.qg h.inv.qi h.inv.time) rfl rfl rfl rfl rfl⟩;exact⟨hd.bF,hd.pb,hd.pF,hd.ab,hd.ap,hd.aF,by nofun,by nofun,by nofun,λ_ _=>by nofun⟩
theorem the_api :Api AtR where
 lt:=by rintro w b G st ⟨c,k,h,hi,rfl⟩ j hj;exact h.lt j hj
 keep:=by rintro w w' b G st ⟨c,k,h,hi,rfl⟩ hk;exact⟨c,k,h.keep hk,hi,rfl⟩
 new:=by intro s l p w s1 s2 l1 l2 p1 p2;obtain⟨s,rfl⟩:∃n:Nat,s=n:=⟨s.toNat,by omega⟩;obtain⟨l,rfl⟩:∃n:Nat,l=n:=⟨l.toNat,by omega⟩;obtain⟨p,rfl⟩:∃n:Nat,p=n:=⟨p.toNat,by omega⟩;refine(new_any s l p w ⟨by omega,by omega⟩ ⟨by omega,by omega⟩ ⟨by omega,by omega⟩).mono ?_;rintro e w' ⟨b,c,k,rfl,h1,h2,h3,h4⟩;exact⟨b,GB b c k,rfl,⟨c,k,h1,h2,rfl⟩,h3,h4⟩
 feed:=by rintro b G st v l w ⟨c,k,h,hi,rfl⟩ hrd ha ht;refine(feed_any b c k st v l w h hi hrd ha ht).mono ?_;rintro e w' ⟨rfl,c',h1,h2,h3,h4⟩;exact⟨GB b c' k,rfl,⟨c',k,h1,h2,rfl⟩,h4,h3⟩
 tick:=by
  rintro b G st n w ⟨c,k,h,hi,rfl⟩ n0 n1;obtain⟨n,rfl⟩:∃m:Nat,n=m:=⟨n.toNat,by omega⟩;have htm:=h.inv.time;have hct:=h.time;refine(tick_any b c n w h.B (by omega) (by omega)).mono ?_;rintro e w' ⟨rfl,hB,hf⟩;have ho:=h.own (c':={c with time:=(c.time+n)%281474976710656}) (st':=st.tick n) hB hf rfl rfl rfl rfl rfl rfl (by show(c.time+n)%281474976710656=(st.time+n)%281474976710656;rw[hct]) h.qg h.qi
   (h.inv.of_q rfl rfl rfl rfl (λ_ q=>q) h.inv.qg h.inv.qi (YF _ (by omega))) rfl rfl rfl rfl rfl
  exact⟨rfl,⟨_,k,ho.1,⟨hi.opn,hi.len,hi.took,hi.less⟩,rfl⟩,ho.2.1⟩
 answers:=by
  rintro b G st w ⟨c,k,h,hi,rfl⟩;refine(Zgs b c w h.B (Zgw h.A)).mono ?_;rintro e w' ⟨rfl,hB,hf⟩;have hd:=h.dist;refine⟨c.va,GB b {c with va:=.slice none 0 0} k,rfl,h.A.keep (λg hg=>hf.block g (Own.lt h.A g hg).2 (λe=>hd.ab (e▸hg))),⟨_,k,rel_told h hB hf,⟨hi.opn,hi.len,hi.took,hi.less⟩,rfl⟩,?_,?_,hf.mono (λj _ e=>Or.inl e)⟩
  ·rintro j (e|e|e|e|e)
   ·exact Or.inl (Or.inl e)
   ·exact Or.inl (Or.inr (Or.inl e))
   ·exact Or.inl (Or.inr (Or.inr (Or.inl e)))
   ·cases e
   ·exact Or.inl (Or.inr (Or.inr (Or.inr (Or.inr e))))
  ·intro g hg;refine⟨Or.inl (Or.inr (Or.inr (Or.inr (Or.inl hg)))),?_⟩;rintro(e|e|e|e|e)
   ·exact hd.ab (e▸hg)
   ·exact hd.ap (hg.trans (congrArg some e))
   ·exact hd.aF g hg e
   ·cases e
   ·exact hd.atb g hg e
 tape:=by
  rintro b G st w ⟨c,k,h,hi,rfl⟩;refine(tape_any b c w h.B (Zgw h.T)).mono ?_;rintro e w' ⟨rfl,hB,hf⟩;have hd:=h.dist;refine⟨c.vt,GB b {c with vt:=.slice none 0 0} k,rfl,h.T.keep (λg hg=>hf.block g (Own.lt h.T g hg).2 (λe=>hd.tb (e▸hg))),⟨_,k,Zku h hB hf,⟨hi.opn,hi.len,hi.took,hi.less⟩,rfl⟩,?_,?_,hf.mono (λj _ e=>Or.inl e)⟩
  ·rintro j (e|e|e|e|e)
   ·exact Or.inl (Or.inl e)
   ·exact Or.inl (Or.inr (Or.inl e))
   ·exact Or.inl (Or.inr (Or.inr (Or.inl e)))
   ·exact Or.inl (Or.inr (Or.inr (Or.inr (Or.inl e))))
   ·cases e
  ·intro g hg;refine⟨Or.inl (Or.inr (Or.inr (Or.inr (Or.inr hg)))),?_⟩;rintro(e|e|e|e|e)
   ·exact hd.tb (e▸hg)
   ·exact hd.tp (hg.trans (congrArg some e))
   ·exact hd.tF g hg e
   ·exact hd.atb g e hg
   ·cases e
 look:=by rintro b G st w ⟨c,k,h,hi,rfl⟩;exact look_any b c k st w h hi
 book:=by rintro b G st s w ⟨c,k,h,hi,rfl⟩ s0 s1;obtain⟨s,rfl⟩:∃n:Nat,s=n:=⟨s.toNat,by omega⟩;exact book_any b c k st s w h (by omega)
end
section
open Go.RowKit
attribute [local go_sem ↓] Go.wp_at_zero Go.wp_at_succ
theorem US (n a z:Int)(w:World)(h:n<a∨z<n):Calls prog 46 #[.int .i64 n,.int .i64 a,.int .i64 z] w λe w'=>e=.returned (.bool false)∧w'=w:=by
 by_cases h1:n<a
 ·have h2:¬a≤n:=by omega
  clear h h1;go_enter func46,ntmps46;go_wp2_with fail;go_ret;exact⟨rfl,rfl⟩
 ·have h2:a≤n:=by omega
  have h3:¬n≤z:=by omega
  clear h h1;go_enter func46,ntmps46;go_wp2_with fail;go_ret;exact⟨rfl,rfl⟩
theorem tick_bad (w:World)(b:Nat)(n:Int)(h:n<0∨1000000<n):
  Calls prog 30 #[.pointer (some ⟨b,0,none⟩),.int .i64 n] w λe w'=>e=.returned (.int .i64 1)∧w'=w:=by
 have HW:=Zc (US n 0 1000000 w h);clear h;go_enter func30,ntmps30;go_wp2_with fail;refine HW.o.mono (Zb ?_);go_wp2_with fail;go_ret;exact⟨rfl,rfl⟩
theorem book_bad {G:Nat→Prop}(h:AtR w b G st)(s:Int)(_hI:-9223372036854775808≤s)(hs:s<0∨(st.qk:Int)≤s):
  Calls prog 17 #[.pointer (some ⟨b,0,none⟩),.int .i64 s] w λe w'=>e=.returned (.tuple #[.slice none 0 0,.int .i64 1])∧w'=w:=by
 obtain⟨c,k,h,-,-⟩:=h;obtain⟨M,od,ps,fl,hbk,hM,hF⟩:=h.ex;obtain⟨free,fs,ls,bef,aft,hIs,hLk⟩:=hbk.ex;have g19:w.cell? ⟨b,19,none⟩=some (.pointer (some ⟨k.bk,0,none⟩)):=by rw[h.B.cell,←h.bk];exact(c.get h.B.len).2.2.2.2.2.2.1
 have HST:=Zc (Qi k.bk (k.kc free st.ql) w hIs.K);have hS:k.S=st.qk:=hF.hS;have ks:(k.S:Int)≤8:=by have:=hbk.ok.S;omega
 have HW:=Zc (US s 0 ((k.S:Int)-1) w (by omega));replace HST:Hid (Calls prog 47 #[.pointer (some ⟨k.bk,0,none⟩)] w λe w'=>e=.returned (.int .i64 k.S)∧w'=w):=HST;clear hS hs h hbk hM hF hIs hLk;go_enter func17,ntmps17;go_wp2_with fail;refine HST.o.mono (Zb ?_);clear HST;go_wp2_with fail;refine HW.o.mono (Zb ?_);clear HW;go_wp2_with fail;refine ZC (v:=.tuple #[.slice none 0 0,.int .i64 1]) (by simp[results,results17,go_sem]) rfl ?_;exact⟨rfl,rfl⟩
theorem new_bad (w:World)(s l p:Int)(h:s<1∨8<s∨l<1∨64<l∨p<1∨64<p):
  Calls prog 22 #[.int .i64 s,.int .i64 l,.int .i64 p] w λe w'=>e=.returned (.tuple #[.pointer none,.int .i64 1])∧w'=w:=by
 by_cases h1:s<1∨8<s
 ·have HW:=Zc (US s 1 8 w h1);clear h h1;go_enter func22,ntmps22;go_wp2_with fail;refine HW.o.mono (Zb ?_);go_wp2_with fail;refine ZC (v:=.tuple #[.pointer none,.int .i64 1]) (by simp[results,results22,go_sem]) rfl ?_;exact⟨rfl,rfl⟩
 ·have HW1:=Zc (Vs s 1 8 w (by omega) (by omega));by_cases h2:l<1∨64<l
  ·have HW:=Zc (US l 1 64 w h2);clear h h1 h2;go_enter func22,ntmps22;go_wp2_with fail;refine HW1.o.mono (Zb ?_);clear HW1;go_wp2_with fail;refine HW.o.mono (Zb ?_);go_wp2_with fail;refine ZC (v:=.tuple #[.pointer none,.int .i64 1]) (by simp[results,results22,go_sem]) rfl ?_;exact⟨rfl,rfl⟩
  ·have HW2:=Zc (Vs l 1 64 w (by omega) (by omega));have HW:=Zc (US p 1 64 w (by omega));clear h h1 h2;go_enter func22,ntmps22;go_wp2_with fail;refine HW1.o.mono (Zb ?_);clear HW1;go_wp2_with fail;refine HW2.o.mono (Zb ?_);clear HW2;go_wp2_with fail;refine HW.o.mono (Zb ?_);go_wp2_with fail;refine ZC (v:=.tuple #[.pointer none,.int .i64 1]) (by simp[results,results22,go_sem]) rfl ?_;exact⟨rfl,rfl⟩
end
section
open Go.RowKit
structure Tn  where
 tb:Nat
 bx:Nat
 rb:Nat
 G:Nat→Prop
 c:Rc
 v:Value
 all:List UInt8
 st:St
 F:Nat
 tk:Nat
def TnS (t:Tn)(k:Nat):Prop:=k=t.tb∨t.G k∨RG t.rb t.c k∨t.v.ownBlock=some k
structure TnA (w:World)(t:Tn):Prop where
 blk:w.heap[t.tb]?=some (.cells #[.pointer (some ⟨t.bx,0,none⟩),.pointer (some ⟨t.rb,0,none⟩),t.v] 73)
 at_:AtR w t.bx t.G t.st
 rw:RW w t.rb t.c t.st t.F t.tk
 tke:t.all.length≤t.tk
 own:Own w 0 t.v t.all
 gr:∀k,t.G k→¬RG t.rb t.c k
 tg:¬t.G t.tb
 tr:¬RG t.rb t.c t.tb
 vg:∀g,t.v.ownBlock=some g→¬t.G g∧¬RG t.rb t.c g
theorem TnA.tbl {t:Tn}(h:TnA w t):t.tb<w.heap.size:=(Ze.1 h.blk).1
theorem TnA.lt {t:Tn}(h:TnA w t)(k:Nat)(hk:TnS t k):k<w.heap.size:=by
 rcases hk with rfl|e|e|e
 ·exact h.tbl
 ·exact the_api.lt h.at_ k e
 ·exact h.rw.lt k e
 ·exact(h.own.lt k e).2
theorem TnA.keep {t:Tn}(h:TnA w t)(hk:∀k,TnS t k→w'.heap[k]?=w.heap[k]?):TnA w' t:=
 ⟨(hk _ (.inl rfl)).trans h.blk,the_api.keep h.at_ (λk e=>hk k (.inr (.inl e))),h.rw.keep (λk e=>hk k (.inr (.inr (.inl e)))),h.tke,h.own.keep (λg e=>hk g (.inr (.inr (.inr e)))),h.gr,h.tg,h.tr,h.vg⟩
theorem TnA.vt {t:Tn}(h:TnA w t):t.v.ownBlock≠some t.tb:=λe=>by have h1:Ty w t.tb 73:=⟨_,h.blk⟩;exact h1.ne (Xd h.own e) (by decide) rfl
theorem TnA.cells {t:Tn}(h:TnA w t):w.cell? ⟨t.tb,0,none⟩=some (.pointer (some ⟨t.bx,0,none⟩))∧w.cell? ⟨t.tb,1,none⟩=some (.pointer (some ⟨t.rb,0,none⟩))∧w.cell? ⟨t.tb,2,none⟩=some t.v∧w.frozen? ⟨t.tb,2,none⟩=false:=
 ⟨Zk w t.tb 0 _ _ (0,0) h.blk,Zk w t.tb 1 _ _ (0,0) h.blk,Zk w t.tb 2 _ _ (0,0) h.blk,by simp[World.frozen?,h.blk]⟩
theorem TnA.half {t:Tn}(h:TnA w t)(hf:Fr t.G w w1):RW w1 t.rb t.c t.st t.F t.tk∧w1.heap[t.tb]?=w.heap[t.tb]?:=
 ⟨h.rw.keep (λk e=>hf.block k (h.rw.lt k e) (λe2=>h.gr k e2 e)),hf.block _ h.tbl h.tg⟩
theorem TnA.two {w2:World}{t:Tn}{G':Nat→Prop}{c':Rc}{st':St}{F' tk':Nat}(h:TnA w t)(hf:Fr t.G w w1)(ha:AtR w1 t.bx G' st')(hg:∀k,G' k→t.G k∨w.heap.size≤k)(hr:RW w2 t.rb c' st' F' tk')(hk:t.tk≤tk')(hs:RStg w1 w2 t.rb t.c c'):
  TnA w2 {t with G:=G',c:=c',st:=st',F:=F',tk:=tk'}∧Fr (TnS t) w w2∧(∀k,TnS {t with G:=G',c:=c',st:=st',F:=F',tk:=tk'} k→TnS t k∨w.heap.size≤k):=by
 have h1s:=hf.size;have nG:∀k,G' k→¬RG t.rb t.c k:=λk e e2=>(hg k e).elim (λe=>h.gr k e e2) (λe=>by have:=h.rw.lt k e2;omega);have nR:∀k,RG t.rb c' k→k<w.heap.size→RG t.rb t.c k:=λk e hk=>(hs.nw k e).elim id (λe=>by omega);have kb:∀k,k<w.heap.size→¬t.G k→¬RG t.rb t.c k→w2.heap[k]?=w.heap[k]?:=λk hk a b=>(hs.fr.block k (by omega) b).trans (hf.block k hk a);refine⟨⟨(kb _ h.tbl h.tg h.tr).trans h.blk,the_api.keep ha (λk e=>hs.fr.block k (the_api.lt ha k e) (nG k e)),hr,Zw h.tke hk,h.own.keep (λg e=>kb g (h.own.lt g e).2 (h.vg g e).1 (h.vg g e).2),?_,?_,?_,?_⟩,?_,?_⟩
 ·intro k e e2;rcases hs.nw k e2 with q|q
  ·exact nG k e q
  ·have:=the_api.lt ha k e;omega
 ·exact λe=>(hg _ e).elim h.tg (λe=>by have:=h.tbl;have e:w.heap.size≤t.tb:=e;omega)
 ·exact λe=>h.tr (nR _ e h.tbl)
 ·intro g e;have hl:=(h.own.lt g e).2;exact⟨λq=>(hg g q).elim (h.vg g e).1 (λq=>by omega),λq=>(h.vg g e).2 (nR g q hl)⟩
 ·exact(hf.mono (G:=TnS t) (λk _ e=>.inr (.inl e))).trans (hs.fr.mono (G:=TnS t) (λk _ e=>.inr (.inr (.inl e)))) (λ_ _ e=>e)
 ·rintro k (e|e|e|e)
  ·exact .inl (.inl e)
  ·exact(hg k e).elim (λe=>.inl (.inr (.inl e))) .inr
  ·rcases hs.nw k e with q|q
   ·exact .inl (.inr (.inr (.inl q)))
   ·exact .inr (by omega)
  ·exact .inl (.inr (.inr (.inr e)))
theorem TnA.setV {w3:World}{t:Tn}{v':Value}{all':List UInt8}(h:TnA w t)(hf:Fr (λk=>t.v.ownBlock=some k) w w3)(ho:Own w3 0 v' all')(hv:v'.ownBlock=t.v.ownBlock∨∃g,v'.ownBlock=some g∧w.heap.size≤g)(hk:all'.length≤t.tk):
  w3.cell? ⟨t.tb,2,none⟩=some t.v∧w3.frozen? ⟨t.tb,2,none⟩=false∧TnA (w3.setCell ⟨t.tb,2,none⟩ v') {t with v:=v',all:=all'}∧Fr (TnS t) w (w3.setCell ⟨t.tb,2,none⟩ v')∧(∀k,TnS {t with v:=v',all:=all'} k→TnS t k∨w.heap.size≤k):=by
 have hb3:w3.heap[t.tb]?=_:=(hf.block _ h.tbl h.vt).trans h.blk;have hf2:=Fr.setCell w3 ⟨t.tb,2,none⟩ v';have kb:∀k,k<w.heap.size→k≠t.tb→t.v.ownBlock≠some k→(w3.setCell ⟨t.tb,2,none⟩ v').heap[k]?=w.heap[k]?:=λk hk a b=>(hf2.block k (Zn hk hf.size) a).trans (hf.block k hk b);have hvt:v'.ownBlock≠some t.tb:=λe=>by have h1:Ty w3 t.tb 73:=⟨_,hb3⟩;exact h1.ne (Xd ho e) (by decide) rfl
 refine⟨Zk w3 t.tb 2 _ _ (0,0) hb3,by simp[World.frozen?,hb3],⟨by rw[Zi w3 t.tb 2 _ _ _ hb3];rfl,the_api.keep h.at_ (λk e=>kb k (the_api.lt h.at_ k e) (λq=>h.tg (by rw[←q];exact e)) (λq=>(h.vg k q).1 e)),h.rw.keep (λk e=>kb k (h.rw.lt k e) (λq=>h.tr (by rw[←q];exact e)) (λq=>(h.vg k q).2 e)),hk,ho.keep (λg e=>hf2.block g (ho.lt g e).2 (λq=>hvt (by rw[e,q]))),h.gr,h.tg,h.tr,?_⟩,?_,?_⟩
 ·intro g e;have e:v'.ownBlock=some g:=e;rcases hv with q|⟨g',q,q2⟩
  ·exact h.vg g (by rw[←q];exact e)
  ·rw[q] at e;cases e;exact⟨λp=>by have:=the_api.lt h.at_ _ p;omega,λp=>by have:=h.rw.lt _ p;omega⟩
 ·exact(hf.mono (G:=TnS t) (λk _ e=>.inr (.inr (.inr e)))).trans hf2 (λk _ e=>.inl e)
 ·rintro k (e|e|e|e)
  ·exact .inl (.inl e)
  ·exact .inl (.inr (.inl e))
  ·exact .inl (.inr (.inr (.inl e)))
  ·have e:v'.ownBlock=some k:=e;rcases hv with q|⟨g',q,q2⟩
   ·exact .inl (.inr (.inr (.inr (by rw[←q];exact e))))
   ·rw[q] at e;cases e;exact .inr q2
def LU (x:Vw)(ts:List Tn)(k:Nat):Prop:=(∃t∈ts,TnS t k)∨x.E k
structure Io (a b:World):Prop where
 os:b.os=a.os
 tape:b.tape=a.tape
 output:b.output=a.output
theorem Fr.io {F:Nat→Prop}(h:Fr F w w'):Io w w':=⟨h.os,h.tape,h.output⟩
theorem Below.io {n:Nat}(h:Below n w w'):Io w w':=⟨h.os,h.tape,h.output⟩
theorem Io.trans {a b c:World}(h:Io a b)(k:Io b c):Io a c:=⟨k.os.trans h.os,k.tape.trans h.tape,k.output.trans h.output⟩
structure LW (w:World)(wb:Nat)(x:Vw)(ts:List Tn):Prop where
 vc:VC w (LU x ts) wb x
 tsx:x.ts=ts.map (·.tb)
 tn:∀t∈ts,TnA w t
 dj:ts.Pairwise (λa b=>∀k,TnS a k→¬TnS b k)
 ex:x.ex=[]
 ek:∀k,x.E k→w.heap[k]?=x.ob k∧k<w.heap.size
 en:∀t∈ts,∀k,TnS t k→¬x.E k
 io:Io x.w0 w
theorem LW.ult {ts:List Tn}(h:LW w wb x ts):∀k,LU x ts k→k<w.heap.size:=by
 rintro k (⟨t,ht,hk⟩|hk)
 ·exact(h.tn t ht).lt k hk
 ·exact(h.ek k hk).2
theorem LW.world {x':Vw}{ts:List Tn}{n:Nat}(h:LW w wb x ts)(hv:VC w' (LU x ts) wb x')(hg:Vg x x' n)(hf:Fr (λk=>¬LU x ts k) w w'):LW w' wb x' ts:=by
 refine⟨?_,hg.ts.trans h.tsx,λt ht=>(h.tn t ht).keep (λk hk=>hf.block k ((h.tn t ht).lt k hk) (λe=>e (.inl ⟨t,ht,hk⟩))),h.dj,hg.ex,?_,?_,by rw[hg.w0];exact h.io.trans hf.io⟩
 ·have e:LU x' ts=LU x ts:=by unfold LU;rw[hg.E]
  rw[e];exact hv
 ·intro k hk;rw[hg.E] at hk;rw[hg.ob];obtain⟨a,b⟩:=h.ek k hk;exact⟨(hf.block k b (λe=>e (.inr hk))).trans a,Zn b hf.size⟩
 ·intro t ht k hk;rw[hg.E];exact h.en t ht k hk
theorem LW.below {ts:List Tn}(h:LW w wb x ts)(hB:Below w.heap.size w w'):LW w' wb x ts:=
 ⟨h.vc.below hB,h.tsx,λt ht=>(h.tn t ht).keep (λk hk=>hB.block k ((h.tn t ht).lt k hk)),h.dj,h.ex,λk hk=>⟨(hB.block k (h.ek k hk).2).trans (h.ek k hk).1,Zn (h.ek k hk).2 hB.size⟩,h.en,h.io.trans ⟨hB.os,hB.tape,hB.output⟩⟩
theorem Zjo {A B:List Tn}{t t':Tn}(htn:∀s∈A++t::B,TnA w s)(hdj:(A++t::B).Pairwise (λa b=>∀k,TnS a k→¬TnS b k))(ht:TnA w' t')(hf:Fr (TnS t) w w')(hn:∀k,TnS t' k→TnS t k∨w.heap.size≤k):
  (∀s∈A++t'::B,TnA w' s)∧(A++t'::B).Pairwise (λa b=>∀k,TnS a k→¬TnS b k)∧(∀k,(∃s∈A++t'::B,TnS s k)→(∃s∈A++t::B,TnS s k)∨w.heap.size≤k):=by
 rw[Yq,Yn] at hdj;have hmem:t∈A++t::B:=by simp
 have oth:∀s,s∈A∨s∈B→s∈A++t::B:=λs hs=>hs.elim (λe=>by simp[e]) (λe=>by simp[e]);have nt:∀s,s∈A∨s∈B→∀k,TnS s k→¬TnS t k:=λs hs k e e2=>hs.elim (λq=>hdj.2.2 s q t (by simp) k e e2) (λq=>hdj.2.1.1 s q k e2 e);have nt':∀s,s∈A∨s∈B→∀k,TnS s k→¬TnS t' k:=λs hs k e e2=>(hn k e2).elim (nt s hs k e) (λq=>by have:=(htn s (oth s hs)).lt k e;omega);refine⟨?_,?_,?_⟩
 ·intro s hs;rcases ZE.1 hs with q|q
  ·exact(htn s (oth s (.inl q))).keep (λk hk=>hf.block k ((htn s (oth s (.inl q))).lt k hk) (nt s (.inl q) k hk))
  ·rcases ZL.1 q with rfl|q
   ·exact ht
   ·exact(htn s (oth s (.inr q))).keep (λk hk=>hf.block k ((htn s (oth s (.inr q))).lt k hk) (nt s (.inr q) k hk))
 ·rw[Yq,Yn];refine⟨hdj.1,⟨λs hs k e e2=>nt' s (.inr hs) k e2 e,hdj.2.1.2⟩,λa ha b hb => ?_⟩;rcases ZL.1 hb with rfl|hb
  ·exact nt' a (.inl ha)
  ·exact hdj.2.2 a ha b (by simp[hb])
 ·rintro k ⟨s,hs,e⟩;rcases ZE.1 hs with q|q
  ·exact .inl ⟨s,oth s (.inl q),e⟩
  ·rcases ZL.1 q with rfl|q
   ·exact(hn k e).elim (λe=>.inl ⟨t,hmem,e⟩) .inr
   ·exact .inl ⟨s,oth s (.inr q),e⟩
theorem LW.twin {A B:List Tn}{t t':Tn}(h:LW w wb x (A++t::B))(hb:t'.tb=t.tb)(ht:TnA w' t')(hf:Fr (TnS t) w w')(hn:∀k,TnS t' k→TnS t k∨w.heap.size≤k):LW w' wb x (A++t'::B):=by
 obtain⟨h1,h2,h3⟩:=Zjo h.tn h.dj ht hf hn;have hmem:t∈A++t::B:=by simp
 refine⟨h.vc.turnU (hf.mono (λk _ e=>.inl ⟨t,hmem,e⟩)) ?_,?_,h1,h2,h.ex,?_,?_,h.io.trans hf.io⟩
 ·rintro k (e|e)
  ·exact(h3 k e).elim (λe=>.inl (.inl e)) .inr
  ·exact .inl (.inr e)
 ·rw[h.tsx];simp[hb]
 ·intro k hk;obtain⟨a,b⟩:=h.ek k hk;exact⟨(hf.block k b (λe=>h.en t hmem k e hk)).trans a,Zn b hf.size⟩
 ·intro s hs k hk he;rcases h3 k ⟨s,hs,hk⟩ with⟨s',hs',e⟩|e
  ·exact h.en s' hs' k e he
  ·have:=(h.ek k he).2;omega
theorem LW.free {A B:List Tn}{t:Tn}(h:LW w wb x (A++t::B)){g:Nat}(hg:TnS t g∨w.heap.size≤g){t':Tn}(hn:¬TnS t' g):¬LU x (A++t'::B) g∧¬VS wb x g:=by
 have hdj:=h.dj;rw[Yq,Yn] at hdj;have oth:∀s,s∈A∨s∈B→s∈A++t::B:=λs hs=>hs.elim (λe=>by simp[e]) (λe=>by simp[e]);refine⟨?_,?_⟩
 ·rintro(⟨s,hs,e⟩|he)
  ·have key:s∈A∨s∈B→False:=λq=>hg.elim (λe2=>q.elim (λq=>hdj.2.2 s q t (by simp) g e e2) (λq=>hdj.2.1.1 s q g e2 e)) (λe2=>by have:=(h.tn s (oth s q)).lt g e;omega);rcases ZE.1 hs with q|q
   ·exact key (.inl q)
   ·rcases ZL.1 q with rfl|q
    ·exact hn e
    ·exact key (.inr q)
  ·rcases hg with e2|e2
   ·exact h.en t (by simp) g e2 he
   ·have:=(h.ek g he).2;omega
 ·intro e;rcases hg with e2|e2
  ·exact h.vc.nU g e (.inl ⟨t,by simp,e2⟩)
  ·have:=h.vc.lt g e;omega
structure Ok (x:Vw):Prop where
 nn:x.nn≤900000000
 ins:x.ins.length≤900000000
 bys:x.bys.length≤3600000000
 ords:x.ords.length≤3600000000
end
section
open Go.RowKit
attribute [local go_sem ↓] Go.wp_at_zero Go.wp_at_succ
structure Opr  where
 kind:Int
 on:Int
 a:Int
 b:Int
 c:Int
 s:List UInt8
def Opr.cells (o:Opr):List Value:=[.int .i64 o.kind,.int .i64 o.on,.int .i64 o.a,.int .i64 o.b,.int .i64 o.c,.string ⟨o.s.toArray⟩]
theorem RW.lens {c:Rc}{F tk:Nat}(h:RW w b c st F tk)(hF:F≤1600000):st.ans.length≤1000000000∧tk+st.tape.length≤960000000:=by obtain⟨r,n,-,-,hd,hn,-⟩:=h.ex;have h1:=hd.ans;have h2:=hd.tape;omega
theorem gave {t:Tn}(h:TnA w t){G':Nat→Prop}{c':Rc}{st':St}{F' tk':Nat}(_hs:w.heap.size≤w1.heap.size)(hn:∀k,RG t.rb c' k→RG t.rb t.c k∨w1.heap.size≤k){g:Nat}(hg:t.G g∨w.heap.size≤g)(hG:¬G' g)(hl:g<w1.heap.size):
  ¬TnS {t with G:=G',c:=c',st:=st',F:=F',tk:=tk'} g∧(TnS t g∨w.heap.size≤g):=by
 refine⟨?_,hg.elim (λe=>.inl (.inr (.inl e))) .inr⟩;rintro(e|e|e|e)
 ·have e:g=t.tb:=e;have h1:=h.tbl;rcases hg with q|q
  ·exact h.tg (by rw[←e];exact q)
  ·omega
 ·exact hG e
 ·rcases hn g e with q|q
  ·rcases hg with p|p
   ·exact h.gr g p q
   ·have:=h.rw.lt g q;omega
  ·omega
 ·have e:t.v.ownBlock=some g:=e;rcases hg with q|q
  ·exact(h.vg g e).1 q
  ·have:=(h.own.lt g e).2;omega
theorem QO {Ta Tb:List Tn}{t:Tn}(h:LW w wb x (Ta++t::Tb))(hok:Ok x)(hF:t.F≤1600000)(o:Opr)(hk:o.kind=4):
  Calls prog 14 #[.pointer (some ⟨wb,0,none⟩),.pointer (some ⟨t.tb,0,none⟩),.agg o.cells.toArray] w λe w'=>e=.returned (.bool true)∧∃x' t',LW w' wb x' (Ta++t'::Tb)∧Vg x x' 1∧t'.F=t.F∧t'.st=t.st.told:=by
 obtain⟨W0,hW0⟩:=Za (w.alloc (.cells o.cells.toArray 43));obtain⟨bx,hbx⟩:=Za (w.heap.size);have hB0:Below w.heap.size w W0:=by rw[←hW0];exact(Zm _ w).alloc (Zh _) _
 have hxb:W0.heap[bx]?=some (.cells o.cells.toArray 43):=by rw[←hW0,YX,Zg hbx.symm]
 obtain⟨kd,on,a,b,c,s⟩:=o;simp only at hk;subst hk;have q0:W0.cell? ⟨bx,0,none⟩=some (.int .i64 4):=Zk W0 bx 0 _ _ (0,0) hxb;have h0:=h.below hB0;have ht0:=h0.tn t (by simp);obtain⟨c0,c1,-,-⟩:=ht0.cells;have HAN:=Zc (the_api.answers t.bx t.G t.st W0 ht0.at_);have H0:=Zc (Zd h0 (Zd ht0 hok));clear h hB0 hxb h0 ht0 hok;go_enter func14,ntmps14;go_wp2_with fail;clear hW0;refine HAN.o.mono ?_;rintro e W1 ⟨v,G',rfl,hown1,hat1,hG1,hgv1,hfr1⟩;clear HAN;obtain⟨hrw1,hbl1⟩:=H0.o.2.1.half hfr1;have HRA:=Zc (Zft (hrw1.keep (w':=W1.drew) (λ_ _=>rfl)));obtain⟨ra,cap,hv,-,-⟩:=hown1.len;have c1':W1.cell? ⟨t.tb,1,none⟩=some (.pointer (some ⟨t.rb,0,none⟩)):=(YC (a:=⟨t.tb,1,none⟩) hbl1).trans c1;have t1:(convert 36 9 v).run prog W1.drew=.ok (.string ⟨t.st.ans.toArray⟩) W1.drew:=Tc ((hown1.rd (F:=λ_=>False) (λ_ _ e=>e)).mono (λ_ _ e=>e) |>.fr (Fr.drew (λ_=>False) W1) (λ_ _ e=>e.elim));have HX:Hid (∀(w2:World) (c2:Rc),RStg W1.drew w2 t.rb t.c c2→Own w2 0 v t.st.ans):=λw2 c2 hs=>hown1.keep (λg hg=>(hs.fr.block g (hown1.lt g hg).2 (λe=>by
  rcases(hgv1 g hg).1 with q|q
  ·exact H0.o.2.1.gr g q e
  ·have:=H0.o.2.1.rw.lt g e;omega)))
 have HD:=Zc (Zd hown1 (Zd hat1 (Zd hG1 (Zd hgv1 hfr1))));have HV:=Zc hv;subst hv;obtain⟨n,hn⟩:=Za (t.st.ans.length);rw[hn] at HX HD t1 HV;rw[hn];clear hown1 hat1 hG1 hgv1 hfr1 hbl1;go_upto_region 4 with(fail)
 go_cut [8] from 20 (λs8 wx=>s8=.bool true∧Hid (∃c2 v2,Own wx 0 (.slice ra n cap) t.st.ans∧Own wx 0 v2 t.st.ans∧RW wx t.rb c2 t.st.told t.F t.tk∧RStg W1.drew wx t.rb t.c c2))
 case first=>
  go_region_with (go_at_call 33;refine HRA.o.mono ?_;rintro e w2 ⟨v2,c2,rfl,ho2,hr2,-,hs2⟩;have ho3:=HX.o w2 c2 hs2;have t2:=Tc (ho3.rd (F:=λ_=>False) (λ_ _ e=>e));have t3:=Tc (ho2.rd (F:=λ_=>False) (λ_ _ e=>e)))
  all_goals
   go_wp2_with fail;go_meet
   case rel=>exact⟨by simp,c2,v2,ho3,ho2,hr2,hs2⟩
 case rest=>
  obtain⟨rfl,HC⟩:=hcut;obtain⟨c2,v2,ho3,-,hr2,hs2⟩:=HC.o;obtain⟨-,hat1,hG1,hgv1,hfr1⟩:=HD.o;have hf2:Fr t.G W0 W1.drew:=hfr1.trans (Fr.drew _ W1) (λ_ _ e=>e);obtain⟨hT,hFr,hSub⟩:=H0.o.2.1.two hf2 (the_api.keep hat1 (λ_ _=>rfl)) hG1 hr2 (Zh _) hs2;have hlw:=H0.o.1.twin (t':={t with G:=G',c:=c2,st:=t.st.told,F:=t.F,tk:=t.tk}) rfl hT hFr hSub;have hfree:∀g,Value.ownBlock (.slice ra n cap)=some g→¬LU x (Ta++{t with G:=G',c:=c2,st:=t.st.told,F:=t.F,tk:=t.tk}::Tb) g∧¬VS wb x g:=by intro g hg;obtain⟨p1,p2⟩:=hgv1 g hg;obtain⟨q1,q2⟩:=gave H0.o.2.1 (G':=G') (c':=c2) (st':=t.st.told) (F':=t.F) (tk':=t.tk) (w1:=W1.drew) hf2.size hs2.nw p1 p2 (HD.o.1.lt g hg).2;exact H0.o.1.free q2 q1
  have hl1:=(H0.o.2.1.rw.lens hF).1;have hrw3:wc.ownsRow 0 5 1 (.slice ra n cap) n (t.st.ans.map B):=by
   have:wc.ownsRow 0 5 1 (.slice ra n cap) t.st.ans.length (t.st.ans.map B):=ho3
   rwa [hn] at this
  have HKB:=Zc (Zcp hlw.vc hlw.ult (by have:=H0.o.2.2.nn;omega) (by omega) (by have:=H0.o.2.2.bys;omega) hrw3 hfree);have HL:=Zc hlw;clear HC hr2 hs2 hf2 hT hFr hSub hlw hfree hrw3 ho3 hat1 hG1 hgv1 hfr1 t1 HRA HX q0 c0 c1 c1';go_wp2_with fail;refine HKB.o.mono ?_;rintro e W3 ⟨rfl,m,vl,hbp⟩;obtain⟨new,vb',vc',hvc,hnl,-,-⟩:=hbp.ex;have hvg:Vg x {x with nn:=x.nn+1,bys:=x.bys++new,vb:=vb',vc:=vc'} 1:=⟨HL.o.ex,rfl,rfl,Zh _,ZM _ _,by show(x.bys++new).length≤_;rw[Zf,hnl];exact Zh _,ZM _ _⟩;have HF:=Zc (Zd (HL.o.world hvc hvg hbp.fr) hvg);clear HKB hbp hvc hvg hnl;go_wp2_with fail;go_ret;exact⟨rfl,_,_,HF.o.1,HF.o.2,rfl,rfl⟩
end
section
open Go.RowKit
attribute [local go_sem ↓] Go.wp_at_zero Go.wp_at_succ
attribute [local go_sem ↓] app_rd
theorem Zeb {Ta Tb:List Tn}{t:Tn}(h:LW w wb x (Ta++t::Tb))(hok:Ok x)(hF:t.F≤1600000)(o:Opr)(hk:o.kind=5):
  Calls prog 14 #[.pointer (some ⟨wb,0,none⟩),.pointer (some ⟨t.tb,0,none⟩),.agg o.cells.toArray] w λe w'=>e=.returned (.bool true)∧∃x' t',LW w' wb x' (Ta++t'::Tb)∧Vg x x' 1∧t'.F=t.F∧t'.st=t.st.taped:=by
 obtain⟨W0,hW0⟩:=Za (w.alloc (.cells o.cells.toArray 43));obtain⟨bx,hbx⟩:=Za (w.heap.size);have hB0:Below w.heap.size w W0:=by rw[←hW0];exact(Zm _ w).alloc (Zh _) _
 have hxb:W0.heap[bx]?=some (.cells o.cells.toArray 43):=by rw[←hW0,YX,Zg hbx.symm]
 obtain⟨kd,on,a,b,c,s⟩:=o;simp only at hk;subst hk;have q0:W0.cell? ⟨bx,0,none⟩=some (.int .i64 5):=Zk W0 bx 0 _ _ (0,0) hxb;have h0:=h.below hB0;have ht0:=h0.tn t (by simp);obtain⟨c0,c1,c2c,-⟩:=ht0.cells;have HAN:=Zc (the_api.tape t.bx t.G t.st W0 ht0.at_);have H0:=Zc (Zd h0 (Zd ht0 hok));clear h hB0 hxb h0 ht0 hok;go_enter func14,ntmps14;go_wp2_with fail;clear hW0;refine HAN.o.mono ?_;rintro e W1 ⟨v,G',rfl,hown1,hat1,hG1,hgv1,hfr1⟩;clear HAN;obtain⟨hrw1,hbl1⟩:=H0.o.2.1.half hfr1;have HRA:=Zc (Zjy hrw1);obtain⟨ra,cap,hv,-,-⟩:=hown1.len;have c1':W1.cell? ⟨t.tb,1,none⟩=some (.pointer (some ⟨t.rb,0,none⟩)):=(YC (a:=⟨t.tb,1,none⟩) hbl1).trans c1;have HD:=Zc (Zd hown1 (Zd hat1 (Zd hG1 (Zd hgv1 hfr1))));subst hv;obtain⟨n,hn⟩:=Za (t.st.tape.length);rw[hn] at HD;rw[hn];clear hown1 hat1 hG1 hgv1 hfr1 hbl1;go_wp2_with fail;refine HRA.o.mono ?_;rintro e w2 ⟨v2,c2,rfl,ho2,hr2,hgv2,hs2⟩;clear HRA c0 c1 c1' q0;obtain⟨hown1,hat1,hG1,hgv1,hfr1⟩:=HD.o;have ho3:Own w2 0 (.slice ra n cap) t.st.tape:=hown1.keep (λg hg=>(hs2.fr.block g (hown1.lt g hg).2 (λe=>by
  rcases(hgv1 g hg).1 with q|q
  ·exact H0.o.2.1.gr g q e
  ·have:=H0.o.2.1.rw.lt g e;omega)))
 obtain⟨hT,hFr,hSub⟩:=H0.o.2.1.two hfr1 hat1 hG1 hr2 (ZM _ _) hs2;have hlens:=H0.o.2.1.rw.lens hF;have htke:=H0.o.2.1.tke;obtain⟨rt,ct,hvt,-,-⟩:=hT.own.len;obtain⟨ra3,n3,cap3,w3,hrun3,hown3,hgr3,hob3⟩:=VQ hT.own (ho2.rd (F:=λ_=>False) (λ_ _ e=>e)) (by show t.all.length+t.st.tape.length≤_;omega);have hf3:Fr (λk=>t.v.ownBlock=some k) w2 w3:=(Fr.of_grown hgr3).mono (λk _ e=>e.symm);obtain⟨k2,f2,hT3,hFr3,hSub3⟩:=hT.setV hf3 hown3 (hob3.elim .inl (λe=>.inr ⟨_,e,Zh _⟩)) (by rw[Zf];show t.all.length+t.st.tape.length≤t.tk+t.st.tape.length;omega);have hlw2:=H0.o.1.twin (t':={t with G:=G',c:=c2,st:=t.st.taped,F:=t.F,tk:=t.tk+t.st.tape.length}) rfl hT hFr hSub;have hlw3:=hlw2.twin (t':={t with G:=G',c:=c2,st:=t.st.taped,F:=t.F,tk:=t.tk+t.st.tape.length,v:=.slice ra3 n3 cap3,all:=t.all++t.st.tape}) rfl hT3 hFr3 hSub3;have hng:∀g,Value.ownBlock (.slice ra n cap)=some g→¬TnS {t with G:=G',c:=c2,st:=t.st.taped,F:=t.F,tk:=t.tk+t.st.tape.length} g∧(TnS t g∨W0.heap.size≤g)∧g<w2.heap.size:=by intro g hg;obtain⟨p1,p2⟩:=hgv1 g hg;obtain⟨q1,q2⟩:=gave H0.o.2.1 (G':=G') (c':=c2) (st':=t.st.taped) (F':=t.F) (tk':=t.tk+t.st.tape.length) (w1:=W1) hfr1.size hs2.nw p1 p2 (hown1.lt g hg).2;exact⟨q1,q2,(ho3.lt g hg).2⟩
 have hfree:∀g,Value.ownBlock (.slice ra n cap)=some g→¬LU x (Ta++{t with G:=G',c:=c2,st:=t.st.taped,F:=t.F,tk:=t.tk+t.st.tape.length,v:=.slice ra3 n3 cap3,all:=t.all++t.st.tape}::Tb) g∧¬VS wb x g:=by intro g hg;obtain⟨q1,q2,q3⟩:=hng g hg;exact H0.o.1.free q2 (λe=>(hSub3 g e).elim q1 (λe=>by omega))
 have ho4:Own (w3.setCell ⟨t.tb,2,none⟩ (.slice ra3 n3 cap3)) 0 (.slice ra n cap) t.st.tape:=ho3.keep (λg hg=>hFr3.block g (ho3.lt g hg).2 (hng g hg).1);have hrw4:(w3.setCell ⟨t.tb,2,none⟩ (.slice ra3 n3 cap3)).ownsRow 0 5 1 (.slice ra n cap) n (t.st.tape.map B):=by
  have:(w3.setCell ⟨t.tb,2,none⟩ (.slice ra3 n3 cap3)).ownsRow 0 5 1 (.slice ra n cap) t.st.tape.length (t.st.tape.map B):=ho4
  rwa [hn] at this
 have HKB:=Zc (Zcp hlw3.vc hlw3.ult (by have:=H0.o.2.2.nn;omega) (by omega) (by have:=H0.o.2.2.bys;omega) hrw4 hfree);have HL:=Zc hlw3;have t1:(convert 36 9 (.slice ra n cap)).run prog w2=.ok (.string ⟨t.st.tape.toArray⟩) w2:=Tc (ho3.rd (F:=λ_=>False) (λ_ _ e=>e));have t2:(convert 36 9 v2).run prog w2=.ok (.string ⟨t.st.tape.toArray⟩) w2:=Tc (ho2.rd (F:=λ_=>False) (λ_ _ e=>e));have c22:w2.cell? ⟨t.tb,2,none⟩=some t.v:=hT.cells.2.2.1;have hvt:t.v=.slice rt t.all.length ct:=hvt;have hrun:(Zd7 #[36,36] 36 #[t.v,v2]).run prog w2=.ok (.slice ra3 n3 cap3) w3:=hrun3;obtain⟨rv2,cv2,hv2,-,-⟩:=ho2.len;have k2:w3.cell? ⟨t.tb,2,none⟩=some t.v:=k2;have f2:w3.frozen? ⟨t.tb,2,none⟩=false:=f2;rw[hvt] at c22 hrun k2;subst hv2;rw[hn] at t2 hrun;rw[hn];clear ho2 hr2 hgv2 hs2 hown1 hat1 hG1 hgv1 hfr1 ho3 hT hFr hSub hrun3 hown3 hgr3 hob3 hf3 hT3 hFr3 hSub3 hlw2 hlw3 hng hfree ho4 hrw4 hvt hlens htke;go_wp2_with fail;refine HKB.o.mono ?_;rintro e W3 ⟨rfl,m,vl,hbp⟩;obtain⟨new,vb',vc',hvc,hnl,-,-⟩:=hbp.ex;have hvg:Vg x {x with nn:=x.nn+1,bys:=x.bys++new,vb:=vb',vc:=vc'} 1:=⟨HL.o.ex,rfl,rfl,Zh _,ZM _ _,by show(x.bys++new).length≤_;rw[Zf,hnl];exact Zh _,ZM _ _⟩;have HF:=Zc (Zd (HL.o.world hvc hvg hbp.fr) hvg);clear HKB hbp hvc hvg hnl;go_wp2_with fail;go_ret;exact⟨by simp,_,_,HF.o.1,HF.o.2,rfl,rfl⟩
end
section
open Go.RowKit
attribute [local go_sem ↓] Go.wp_at_zero Go.wp_at_succ
def bkC (st:St)(s:Int):List Ord:=if 0≤s∧s<st.qk then st.book s.toNat else []
def bkE (st:St)(s:Int):Int:=if 0≤s∧s<st.qk then 0 else 1
theorem Zj9 {G:Nat→Prop}(h:AtR w b G st)(s:Int)(hI:-9223372036854775808≤s):
  Calls prog 17 #[.pointer (some ⟨b,0,none⟩),.int .i64 s] w λe w'=>∃v,e=.returned (.tuple #[v,.int .i64 (bkE st s)])∧RsAt w' w.heap.size v (bkC st s)∧Below w.heap.size w w':=by
 unfold bkC bkE;by_cases hs:0≤s∧s<st.qk
 ·rw[Zg hs,Zg hs];exact the_api.book b G st s w h hs.1 hs.2
 ·rw[Zj hs,Zj hs];refine(book_bad h s hI (by omega)).mono ?_;rintro e w' ⟨rfl,hw⟩;rw[hw];exact⟨_,rfl,ZO _ _ _ _,Zm _ _⟩
theorem ref_book {c:Rc}{F tk:Nat}(h:RW w b c st F tk)(s:Int):
  Calls prog 37 #[.pointer (some ⟨b,0,none⟩),.int .i64 s] w λe w'=>∃v,e=.returned (.tuple #[v,.int .i64 (bkE st s)])∧RsAt w' w.heap.size v (bkC st s)∧Below w.heap.size w w':=by
 unfold bkC bkE;by_cases hs:0≤s∧s<st.qk
 ·rw[Zg hs,Zg hs];exact Zj5 h s hs.1 hs.2
 ·rw[Zj hs,Zj hs];refine(Zko h s (by omega)).mono ?_;rintro e w' ⟨rfl,hw⟩;rw[hw];exact⟨_,rfl,ZO _ _ _ _,Zm _ _⟩
theorem bk_len (hi:Inv st)(s:Int):(bkC st s).length≤64:=by
 unfold bkC;split
 ·rename_i hs;have h1:(st.book s.toNat).length≤st.all.length:=by rw[←Zay hi s.toNat (by omega)];exact YW _ _
  have h2:=hi.room;have h3:=hi.pool.2;unfold St.ql at h2;omega
 ·exact Zy _
theorem Zeg {Ta Tb:List Tn}{t:Tn}(h:LW w wb x (Ta++t::Tb))(hok:Ok x)(o:Opr)(hk:o.kind=6)(hI:-9223372036854775808≤o.a):
  Calls prog 14 #[.pointer (some ⟨wb,0,none⟩),.pointer (some ⟨t.tb,0,none⟩),.agg o.cells.toArray] w λe w'=>e=.returned (.bool true)∧∃x' t',LW w' wb x' (Ta++t'::Tb)∧Vg x x' 1∧t'.F=t.F:=by
 obtain⟨W0,hW0⟩:=Za (w.alloc (.cells o.cells.toArray 43));obtain⟨bx,hbx⟩:=Za (w.heap.size);have hB0:Below w.heap.size w W0:=by rw[←hW0];exact(Zm _ w).alloc (Zh _) _
 have hxb:W0.heap[bx]?=some (.cells o.cells.toArray 43):=by rw[←hW0,YX,Zg hbx.symm]
 obtain⟨kd,on,a,b,c,s⟩:=o;simp only at hk hI;subst hk;have q0:W0.cell? ⟨bx,0,none⟩=some (.int .i64 6):=Zk W0 bx 0 _ _ (0,0) hxb;have q2:W0.cell? ⟨bx,2,none⟩=some (.int .i64 a):=Zk W0 bx 2 _ _ (0,0) hxb;have hbl:bx<W0.heap.size:=(Ze.1 hxb).1;have h0:=h.below hB0;have ht0:=h0.tn t (by simp);obtain⟨c0,c1,-,-⟩:=ht0.cells;have HBK:=Zc (Zj9 (the_api.keep (w':=W0.drew) ht0.at_ (λ_ _=>rfl)) a hI);have hcl:=bk_len ht0.rw.inv a;have HTL:=Zc ht0.tbl;have H0:=Zc (Zd h0 (Zd ht0 hok));obtain⟨C,hC⟩:=Za (bkC t.st a);obtain⟨er,her⟩:=Za (bkE t.st a);rw[hC,her] at HBK;rw[hC] at hcl;have HCE:=Zc (Zd hC her);clear h hB0 hxb h0 ht0 hok hC her;go_enter func14,ntmps14;go_upto_region 15 with(fail)
 clear hW0;go_cut [12,13] from 20 (λs12 s13 wx=>∃ra cap,s12=.slice ra C.length cap∧s13=.int .i64 er∧Hid (RsAt wx W0.heap.size (.slice ra C.length cap) C∧Below W0.heap.size W0 wx))
 case first=>
  go_region_with (go_at_call 17;refine HBK.o.mono ?_;rintro e w1 ⟨v1,rfl,hr1,hB1⟩;obtain⟨ra1,ca1,hv1,-,-,-⟩:=hr1.form;subst hv1)
  all_goals
   go_wp2_with fail;go_meet
   case rel=>exact⟨ra1,ca1,rfl,rfl,hr1,⟨hB1.os,hB1.tape,hB1.output,hB1.size,hB1.block⟩⟩
 case rest=>
  obtain⟨ra,cap,rfl,rfl,HC1⟩:=hcut;obtain⟨W1,hW1⟩:∃W1,W1=wc:=⟨_,rfl⟩;subst hW1;have c1':W1.cell? ⟨t.tb,1,none⟩=some (.pointer (some ⟨t.rb,0,none⟩)):=(HC1.o.2.cell (p:=⟨t.tb,1,none⟩) HTL.o).trans c1;have q2':W1.cell? ⟨bx,2,none⟩=some (.int .i64 a):=(HC1.o.2.cell (p:=⟨bx,2,none⟩) hbl).trans q2;have ht1:=(H0.o.1.below HC1.o.2).tn t (by simp);have HBR:=Zc (ref_book (ht1.rw.keep (w':=W1.drew) (λ_ _=>rfl)) a);rw[HCE.o.1,HCE.o.2] at HBR;clear HBK c0 c1 q0 q2 ht1;go_upto_region 16 with(fail)
  go_cut [14,15] from 20 (λs14 s15 wx=>∃ra2 cap2,s14=.slice ra2 C.length cap2∧s15=.int .i64 er∧Hid (RsAt wx W1.heap.size (.slice ra2 C.length cap2) C∧Below W1.heap.size W1 wx))
  case first=>
   go_region_with (go_at_call 37;refine HBR.o.mono ?_;rintro e w1 ⟨v1,rfl,hr1,hB1⟩;obtain⟨ra1,ca1,hv1,-,-,-⟩:=hr1.form;subst hv1)
   all_goals
    go_wp2_with fail;go_meet
    case rel=>exact⟨ra1,ca1,rfl,rfl,hr1,⟨hB1.os,hB1.tape,hB1.output,hB1.size,hB1.block⟩⟩
  case rest=>
   obtain⟨ra2,cap2,rfl,rfl,HC2⟩:=hcut;obtain⟨w2,hw2⟩:∃w2,w2=wc:=⟨_,rfl⟩;subst hw2;clear HBR c1' q2';have hB02:Below W0.heap.size W0 w2:=HC1.o.2.trans (HC2.o.2.mono HC1.o.2.size);have hr2:RsAt w2 W0.heap.size (.slice ra C.length cap) C:=YY HC1.o.1 (λg hg=>HC2.o.2.block g (Zs HC1.o.1 g hg).2);have HSO:=Zc (Tp w2 _ _ _ _ C hr2 HC2.o.1 (by omega));have HR2:=Zc (Zd hr2 hB02);clear hr2 hB02;go_wp2_with fail;refine HSO.o.mono ?_;rintro e w3 ⟨rfl,hB3⟩;clear HSO;have hB03:Below W0.heap.size W0 w3:=HR2.o.2.trans (hB3.mono HR2.o.2.size);have hlw3:=H0.o.1.below hB03;have hr3:w3.ownsRow W0.heap.size 40 6 (.slice ra C.length cap) C.length (C.flatMap Ord.cells):=YY HR2.o.1 (λg hg=>hB3.block g (Zs HR2.o.1 g hg).2);have HKO:=Zc (Zcw hlw3.vc (b1:=W0.heap.size) (λk hk=>H0.o.1.ult k hk) hB03.size (by have:=H0.o.2.2.nn;omega) (by omega) (by have:=H0.o.2.2.ords;omega) hr3 (λk hk=>H0.o.1.vc.lt k hk));have HL:=Zc hlw3;clear hB3 hB03 hlw3 hr3;go_wp2_with fail;refine HKO.o.mono ?_;rintro e W4 ⟨rfl,m,vl,hvp⟩;obtain⟨new,vo',vm',hvc,hnl,-⟩:=hvp.ex;have hvg:Vg x {x with nn:=x.nn+1,ords:=x.ords++new,vo:=vo',vm:=vm'} 1:=⟨HL.o.ex,rfl,rfl,Zh _,ZM _ _,ZM _ _,by show(x.ords++new).length≤_;rw[Zf,hnl];exact Zh _⟩;have HF:=Zc (Zd (HL.o.world hvc hvg hvp.fr) hvg);clear HKO hvp hvc hvg hnl;go_wp2_with (go_at_call 24;refine(Ul er W4).mono ?_;rintro e w8 ⟨rfl,rfl⟩)
   go_ret;exact⟨by simp,_,_,HF.o.1,HF.o.2,rfl⟩
end
end Go.Proofs.YtphkchjejbffeaaGreat
