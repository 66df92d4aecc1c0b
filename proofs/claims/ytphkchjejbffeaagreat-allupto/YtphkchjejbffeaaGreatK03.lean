/- K4, K5, App, K6, K7, P7, PD, T1, PE, T2, T3 -/
import Derived.Test.YtphkchjejbffeaaGreatK02
import Derived.Deep.RegionHeld3
import Derived.Deep.DrawnRows
import Derived.Maps.AppendAt
import Derived.Laws.AppendOwnNone
set_option maxHeartbeats 16000000
set_option maxRecDepth 100000
namespace Go.Proofs.YtphkchjejbffeaaGreat
open Tryz
open Go.RowKit
variable {L l1 l2:List Ord}{R b n p s t:Nat}{M:Nat→Option Nat}{G:Nat→Prop}{q:Nat→UInt8→Nat→List Ord}{f o y:Ord}{d:UInt8}{v:Value}{w w':World}
section
open Go.RowKit
theorem Api.below {At:World→Nat→(Nat→Prop)→St→Prop}(api:Api At){st:St}(h:At w b G st)(hb:Below w.heap.size w w'):At w' b G st:=
 api.keep h (λk hk=>hb.block k (api.lt h k hk))
theorem Own.below {l:List UInt8}(h:Own w b v l)(hb:Below w.heap.size w w'):Own w' b v l:=
 h.keep (λg hg=>hb.block g (h.lt g hg).2)
theorem Own.fr {l:List UInt8}{F:Nat→Prop}(h:Own w b v l)(hb:Fr F w w')(hF:∀g,v.ownBlock=some g→¬F g):Own w' b v l:=
 h.keep (λg hg=>hb.block g (h.lt g hg).2 (hF g hg))
structure House (At:World→Nat→(Nat→Prop)→St→Prop)(w:World)(hb b:Nat)(G:Nat→Prop)(vo vt:Value)(st:St)(out tape:List UInt8):Prop where
 cell:w.heap[hb]?=some (.cells #[.pointer (some ⟨b,0,none⟩),vo,vt] 38)
 at_:At w b G st
 out:Own w 0 vo out
 tape:Own w 0 vt tape
 hG:¬G hb
 ho:∀g,vo.ownBlock=some g→¬G g∧g≠hb
 ht:∀g,vt.ownBlock=some g→¬G g∧g≠hb
 hot:∀g,vo.ownBlock=some g→vt.ownBlock≠some g
def HF (hb:Nat)(G:Nat→Prop)(vo vt:Value)(k:Nat):Prop:=k=hb∨G k∨vo.ownBlock=some k∨vt.ownBlock=some k
theorem House.step {At:World→Nat→(Nat→Prop)→St→Prop}{hb:Nat}{G':Nat→Prop}{vo vt:Value}{st st':St}{out tape:List UInt8}
  (h:House At w hb b G vo vt st out tape) (hat:At w' b G' st') (hfr:Fr G w w') (hG:∀k,G' k→G k∨w.heap.size≤k):House At w' hb b G' vo vt st' out tape:=by
 have hlt:hb<w.heap.size:=(Ze.1 h.cell).1;refine⟨(hfr.block hb hlt h.hG).trans h.cell,hat,h.out.fr hfr (λg hg=>(h.ho g hg).1),h.tape.fr hfr (λg hg=>(h.ht g hg).1),?_,?_,?_,h.hot⟩
 ·intro hk;rcases hG _ hk with hk|hk
  ·exact h.hG hk
  ·omega
 ·intro g hg;refine⟨λhk => ?_,(h.ho g hg).2⟩;rcases hG _ hk with hk|hk
  ·exact(h.ho g hg).1 hk
  ·have:=(h.out.lt g hg).2;omega
 ·intro g hg;refine⟨λhk => ?_,(h.ht g hg).2⟩;rcases hG _ hk with hk|hk
  ·exact(h.ht g hg).1 hk
  ·have:=(h.tape.lt g hg).2;omega
theorem House.lt {At:World→Nat→(Nat→Prop)→St→Prop}(api:Api At){hb:Nat}{vo vt:Value}{st:St}{out tape:List UInt8}
  (h:House At w hb b G vo vt st out tape) (k:Nat) (hk:HF hb G vo vt k):k<w.heap.size:=by
 rcases hk with rfl|hk|hk|hk
 ·exact(Ze.1 h.cell).1
 ·exact api.lt h.at_ k hk
 ·exact(h.out.lt k hk).2
 ·exact(h.tape.lt k hk).2
theorem Fr.then {F:Nat→Prop}{a b c:World}(h:Fr F a b)(k:Fr F b c):Fr F a c:=h.trans k (λ_ _ h=>h)
end
section
open Go.RowKit
attribute [local go_sem ↓] Go.wp_at_zero Go.wp_at_succ
def St.done (st:St)(a:Act):St:=if pick a.kind 11=10 then st.tick (pick a.qc 100) else st.feed a.message
end
section
open Go.RowKit
theorem XE {ops:Array Oper}{rest:List Oper}{o:Oper}{a:Go.Act}{Q:Exit→Go.Act→World→Prop}(hgd:o.guard=none)(s x:Operand)
  (ho:o.op=.call {callee:=.builtin .append,args:=#[s,x],argTypes:=#[36,36]})
  (base:Nat) (vo:Value) (out:List UInt8) (hs:a.eval s=vo) (hown:Own w base vo out) (vx:Value) (l:List UInt8) (hx:a.eval x=vx) (F:Nat→Prop) (hrd:Rd w F vx l)
  (hlen:out.length+l.length≤140737488355328) (hbase:base≤w.heap.size)
  (h:∀ra n cap w',Own w' base (.slice ra n cap) (out++l)→w.grownBy w' vo.ownBlock→(Value.ownBlock (.slice ra n cap)=vo.ownBlock∨Value.ownBlock (.slice ra n cap)=some w.heap.size)→wpList prog ops Q rest (a.put o.dst (.slice ra n cap)) w'):
  wpList prog ops Q (o::rest) a w:=by
 obtain⟨i0,hi,hz0,hz1,hz2⟩:=info_parts info5;rcases hrd with⟨rfl,rfl⟩|⟨g,off,cap,rfl,hl,hc1,hc2,_,_⟩
 ·refine wpList_append_own_none hgd s x 36 ho base 5 i0 1 underlying36 hi vo _ _ hs hown hx ?_;obtain⟨ra,cap,rfl,_,_⟩:=hown.len;exact h ra _ cap w (by rw[ZG];exact hown) ⟨rfl,rfl,rfl,Zh _,λ_ _ _=>rfl⟩ (.inl rfl)
 ·refine wpList_append_own_at w hgd s x 36 ho base 5 i0 (.int .u8 0) 1 1 underlying36 hi hz0 hz1 hz2 rfl (by decide) vo _ _ hs hown ⟨g,off,none⟩ l.length cap (l.map B) hx (by simp) ?_ ?_ (by unfold maxLen;omega) (by omega) hbase ?_
  ·intro j u hu;rw[Yi,YA] at hu;obtain⟨c,hc',rfl⟩:=hu;rw[Yg];exact hl j c hc'
  ·intro u hu;simp at hu;obtain⟨c,_,rfl⟩:=hu;rfl
  ·intro v' w' h2 h3 _ h5;have h2':Own w' base v' (out++l):=by unfold Own;rw[Zf,ZH];exact h2
   obtain⟨ra,cap,rfl,_,_⟩:=h2'.len;exact h ra _ cap w' h2' h3 h5
theorem Zal (w:World)(c:UInt8)(n:Int)(hn:n=c.toNat)(F:Nat→Prop)(hF:¬F w.heap.size):Rd (w.alloc (.cells #[.int .u8 n] 5)) F (.slice (some ⟨w.heap.size,0,none⟩) 1 1) [c]:=by
 subst hn;refine .inr ⟨w.heap.size,0,1,rfl,?_,by simp,by unfold maxLen;omega,hF,by rw[Xb];omega⟩;intro j d hd;cases j with
 | zero=>
  simp at hd;subst hd;rw[Zk _ w.heap.size 0 _ 5 (0,0) (by rw[YX,Zg rfl])];rfl
 | succ j=>simp at hd
def Uo (w:World)(size:Nat)(v:Value)(m:Nat)(xs:List Value):Prop:=
 (v=.slice none 0 0∧m=0∧xs=[])∨∃g o cap,v=.slice (some ⟨g,o,none⟩) m cap∧xs.length=m*size∧∀j u,xs[j]?=some u→w.cell? ⟨g,o+j,none⟩=some u
theorem Xf {e:TypeId}{size:Nat}{xs:List Value}(h:w.ownsRow b e size v n xs):∃a cap,v=.slice a n cap∧n≤cap∧cap≤maxLen:=by
 rcases h.2 with⟨h1,h2⟩|⟨g,cap,cur,h1,h2,h3,h4,h5,h6,h7⟩
 ·exact⟨none,0,by rw[h1,h2],by omega,by unfold maxLen;omega⟩
 ·exact⟨_,cap,h1,h4,h5⟩
theorem YY {e:TypeId}{size:Nat}{xs:List Value}(h:w.ownsRow b e size v n xs)(hk:∀g,v.ownBlock=some g→w'.heap[g]?=w.heap[g]?):w'.ownsRow b e size v n xs:=by
 refine⟨h.1,?_⟩;rcases h.2 with h|⟨g,cap,cur,h1,h2,h3,h4⟩
 ·exact .inl h
 ·exact .inr ⟨g,cap,cur,h1,h2,(hk g (by rw[h1];rfl)).trans h3,h4⟩
theorem Xc {ops:Array Oper}{rest:List Oper}{o:Oper}{a:Go.Act}{Q:Exit→Go.Act→World→Prop}(hgd:o.guard=none)(s x:Operand)(t:TypeId)
  (ho:o.op=.call {callee:=.builtin .append,args:=#[s,x],argTypes:=#[t,t]})
  (base:Nat) (e:TypeId) (i:TypeInfo) (z:Value) (size bytes:Nat) (ht:prog.underlying t=some (.slice e)) (hi:prog.info? e=some i) (hz:i.zero=some z)
  (hsize:i.size=size) (hby:i.bytes=bytes) (hzs:z.cells.size=size) (hsz:0<size)
  (vo:Value) (n:Nat) (xs:List Value) (hs:a.eval s=vo) (hown:w.ownsRow base e size vo n xs) (vx:Value) (m:Nat) (ys:List Value) (hx:a.eval x=vx) (hrd:Uo w size vx m ys) (h1:∀u∈ys,u.oneCell'=true)
  (h63:n+m≤maxLen) (hbytes:(n+m)*bytes≤140737488355328) (hbase:base≤w.heap.size)
  (h:∀ra cap w',w'.ownsRow base e size (.slice ra (n+m) cap) (n+m) (xs++ys)→w.grownBy w' vo.ownBlock→(Value.ownBlock (.slice ra (n+m) cap)=vo.ownBlock∨Value.ownBlock (.slice ra (n+m) cap)=some w.heap.size)→wpList prog ops Q rest (a.put o.dst (.slice ra (n+m) cap)) w'):
  wpList prog ops Q (o::rest) a w:=by
 rcases hrd with⟨rfl,rfl,rfl⟩|⟨g,off,cap,rfl,hl,hc⟩
 ·refine wpList_append_own_none hgd s x t ho base e i size ht hi vo _ _ hs hown hx ?_;obtain⟨ra,cap,rfl,_,_⟩:=Xf hown;exact h ra cap w (by rw[ZG];exact hown) ⟨rfl,rfl,rfl,Zh _,λ_ _ _=>rfl⟩ (.inl rfl)
 ·refine wpList_append_own_at w hgd s x t ho base e i z size bytes ht hi hz hsize hby hzs hsz vo _ _ hs hown ⟨g,off,none⟩ m cap ys hx hl ?_ h1 h63 hbytes hbase ?_
  ·intro j u hu;rw[Yg];exact hc j u hu
  ·intro v' w' h2 h3 _ h5;obtain⟨ra,cap,rfl,_,_⟩:=Xf h2;exact h ra cap w' h2 h3 h5
end
section
open Go.RowKit
attribute [local go_sem ↓] Go.wp_at_zero Go.wp_at_succ
theorem cells3 {W:World}{k:Nat}{T:TypeId}{v0 v1 v2:Value}(h:W.heap[k]?=some (.cells #[v0,v1,v2] T)):
  W.cell? ⟨k,0,none⟩=some v0∧W.cell? ⟨k,1,none⟩=some v1∧W.cell? ⟨k,2,none⟩=some v2∧W.frozen? ⟨k,1,none⟩=false∧W.frozen? ⟨k,2,none⟩=false:=by
 refine⟨?_,?_,?_,by simp[World.frozen?,h],by simp[World.frozen?,h]⟩<;>(rw[Zk W k _ _ T (0,0) h];rfl)
end
section
open Go.RowKit
structure Run  where
 st:St
 out:List UInt8
 tape:List UInt8
def Run.act (x:Run)(a:Act):Run:=
 if pick a.kind 11=10 then {x with st:=x.st.tick (pick a.qc 100)}
 else {st:=(x.st.feed a.message).told.taped,out:=x.out++(x.st.feed a.message).ans,tape:=x.tape++(x.st.feed a.message).tape}
def started (pool:Int):Run:={st:=openSt (1+pick pool 64),out:=[],tape:=[]}
def ActsAt (w:World)(v:Value)(l:List Act):Prop:=
 (∃ra rc,v=.slice ra 0 rc∧l=[])∨∃g o cap,v=.slice (some ⟨g,o,none⟩) l.length cap∧g<w.heap.size∧l.length≤9223372036854775807∧
  ∀i a,l[i]?=some a→a.ok∧∀j u,a.cells[j]?=some u→w.cell? ⟨g,o+i*7+j,none⟩=some u
theorem ActsAt.below {l:List Act}(h:ActsAt w v l)(hb:Below w.heap.size w w'):ActsAt w' v l:=by
 rcases h with h|⟨g,o,cap,h1,h2,h3,h4⟩
 ·exact .inl h
 ·exact .inr ⟨g,o,cap,h1,Zn h2 hb.size,h3,λi a hi=>⟨(h4 i a hi).1,λj u hu=>(hb.cell (p:=⟨g,o+i*7+j,none⟩) h2).trans ((h4 i a hi).2 j u hu)⟩⟩
end
section
theorem enc4 (v:Nat):enc v 4=[UInt8.ofNat (v / 256 / 256 / 256),UInt8.ofNat (v / 256 / 256),UInt8.ofNat (v / 256),UInt8.ofNat v]:=rfl
theorem enc2 (v:Nat):enc v 2=[UInt8.ofNat (v / 256),UInt8.ofNat v]:=rfl
theorem num4 (v:Nat)(h:v<4294967296):num [UInt8.ofNat (v / 256 / 256 / 256),UInt8.ofNat (v / 256 / 256),UInt8.ofNat (v / 256),UInt8.ofNat v] 0=v:=by rw[←enc4,Zjt];exact Nat.mod_eq_of_lt h
theorem num2 (v:Nat)(h:v<65536):num [UInt8.ofNat (v / 256),UInt8.ofNat v] 0=v:=by rw[←enc2,Zjt];exact Nat.mod_eq_of_lt h
def XI (t:Nat)(qe qd:UInt8)(qc qa:Nat)(kind:UInt8):List UInt8:=[69]++enc t 4++[qe,qd]++enc qc 2++enc qa 2++[kind]
theorem Za0 (t:Nat)(qe qd:UInt8)(qc qa:Nat)(kind:UInt8):(XI t qe qd qc qa kind).length=sizeOf (Xa (XI t qe qd qc qa kind) 0)∧0<(XI t qe qd qc qa kind).length:=by simp[XI,YZ,Xa,sizeOf]
theorem Ze9 (st:St)(t:Nat)(qe qd:UInt8)(qc qa:Nat)(kind:UInt8)(h1:t<4294967296)(h2:qc<65536)(h3:qa<65536):
  st.act (XI t qe qd qc qa kind)=st.enter t qe qd.toNat qc qa kind:=by
 unfold St.act;rw[Zg (by simp[XI,Xa])];have a1:at_ (XI t qe qd qc qa kind) 1 4=t:=by unfold XI;rw[enc4,enc2,enc2];exact num4 t h1
 have a2:at_ (XI t qe qd qc qa kind) 7 2=qc:=by unfold XI;rw[enc4,enc2,enc2];exact num2 qc h2
 have a3:at_ (XI t qe qd qc qa kind) 9 2=qa:=by unfold XI;rw[enc4,enc2,enc2];exact num2 qa h3
 have b1:Xa (XI t qe qd qc qa kind) 5=qe:=by unfold XI;rw[enc4,enc2,enc2];rfl
 have b2:Xa (XI t qe qd qc qa kind) 6=qd:=by unfold XI;rw[enc4,enc2,enc2];rfl
 have b3:Xa (XI t qe qd qc qa kind) 11=kind:=by unfold XI;rw[enc4,enc2,enc2];rfl
 rw[a1,a2,a3,b1,b2,b3]
def XT (t n:Nat):List UInt8:=[67]++enc t 4++enc n 2
theorem QT (t n:Nat):(XT t n).length=sizeOf (Xa (XT t n) 0)∧0<(XT t n).length:=by simp[XT,YZ,Xa,sizeOf]
theorem Zc7 (st:St)(t n:Nat)(h1:t<4294967296)(h2:n<65536):st.act (XT t n)=st.cancel t n:=by
 unfold St.act;rw[Zj (by simp[XT,Xa]),Zj (by simp[XT,Xa]),Zg (by simp[XT,Xa])];have a1:at_ (XT t n) 1 4=t:=by unfold XT;rw[enc4,enc2];exact num4 t h1
 have a2:at_ (XT t n) 5 2=n:=by unfold XT;rw[enc4,enc2];exact num2 n h2
 rw[a1,a2]
def XC (t n qc qa:Nat):List UInt8:=[82]++enc t 4++enc n 4++enc qc 2++enc qa 2
theorem TZ (t n qc qa:Nat):(XC t n qc qa).length=sizeOf (Xa (XC t n qc qa) 0)∧0<(XC t n qc qa).length:=by simp[XC,YZ,Xa,sizeOf]
theorem Zbv (st:St)(t n qc qa:Nat)(h1:t<4294967296)(h2:n<4294967296)(h3:qc<65536)(h4:qa<65536):st.act (XC t n qc qa)=st.replace t n qc qa:=by
 unfold St.act;rw[Zj (by simp[XC,Xa]),Zg (by simp[XC,Xa])];have a1:at_ (XC t n qc qa) 1 4=t:=by unfold XC;rw[enc4,enc4,enc2,enc2];exact num4 t h1
 have a2:at_ (XC t n qc qa) 5 4=n:=by unfold XC;rw[enc4,enc4,enc2,enc2];exact num4 n h2
 have a3:at_ (XC t n qc qa) 9 2=qc:=by unfold XC;rw[enc4,enc4,enc2,enc2];exact num2 qc h3
 have a4:at_ (XC t n qc qa) 11 2=qa:=by unfold XC;rw[enc4,enc4,enc2,enc2];exact num2 qa h4
 rw[a1,a2,a3,a4]
def St.does (st:St)(a:Act):St:=
 if pick a.kind 11<6 then st.enter (pick a.qf 40) (Ze3 (pick a.qe 2)) (pick a.qd 4) (pick a.qc 12) (pick a.qa 60) (Zer (pick a.other 4))
 else if pick a.kind 11<8 then st.cancel (pick a.qf 40) (pick a.qa 60)
 else st.replace (pick a.qf 40) (pick a.other 40) (pick a.qc 12) (pick a.qa 60)
theorem Zep (st:St)(a:Act)(ho:st.opn=true)(hp:st.part=[]):st.feed a.message=st.does a:=by
 have b1:=VP a.qf 40 (by omega);have b2:=VP a.qc 12 (by omega);have b3:=VP a.qa 60 (by omega);have b4:=VP a.other 40 (by omega);have b5:=VP a.qd 4 (by omega);unfold St.does Act.message;by_cases h1:pick a.kind 11<6
 ·rw[Zg h1,Zg h1];have e:=Ze9 st (pick a.qf 40) (Ze3 (pick a.qe 2)) (UInt8.ofNat (pick a.qd 4)) (pick a.qc 12) (pick a.qa 60) (Zer (pick a.other 4)) (by omega) (by omega) (by omega);rw[show(UInt8.ofNat (pick a.qd 4)).toNat=pick a.qd 4 by simp;omega] at e;rw[←e];exact Qj _ st ho hp (Za0 _ _ _ _ _ _).1 (Za0 _ _ _ _ _ _).2
 ·rw[Zj h1,Zj h1];by_cases h2:pick a.kind 11<8
  ·rw[Zg h2,Zg h2,←Zc7 st _ _ (by omega) (by omega)];exact Qj _ st ho hp (QT _ _).1 (QT _ _).2
  ·rw[Zj h2,Zj h2,←Zbv st _ _ _ _ (by omega) (by omega) (by omega) (by omega)];exact Qj _ st ho hp (TZ _ _ _ _).1 (TZ _ _ _ _).2
def Tok (t:Nat):Prop:=t<40∨t=1000∨t=1001
theorem Zgd (n:Nat):∀l:List Nat,l.Nodup→(∀x∈l,x<n)→l.length≤n:=by
 induction n with
 | zero=>
  intro l _ h;cases l with
  | nil=>simp
  | cons x l=>have:=h x (by simp);omega
 | succ n ih=>
  intro l hn h;have h2:(l.erase n).length≤n:=by refine ih _ (hn.erase n) ?_;intro x hx;have:=(hn.mem_erase_iff).1 hx;have:=h x this.2;omega
  have:l.length≤(l.erase n).length+1:=by rw[List.length_erase];split<;>omega
  omega
theorem tok_len (l:List Nat)(hn:l.Nodup)(h:∀t∈l,Tok t):l.length≤42:=by
 have:=Zgd 42 (l.map λt=>if t=1000 then 40 else if t=1001 then 41 else t) ?_ ?_
 ·simpa using this
 ·refine UD _ _ hn ?_;intro a ha b hb e;have h1:=h a ha;have h2:=h b hb;unfold Tok at h1 h2;split at e<;>split at e<;>(try split at e)<;>(try split at e)<;>omega
 ·intro x hx;obtain⟨t,ht,rfl⟩:=ZP.1 hx;have:=h t ht;unfold Tok at this;split
  ·omega
  ·split<;>omega
structure Good (p n:Nat)(x:Run):Prop where
 inv:Inv x.st
 qk:x.st.qk=3
 qj:x.st.qj=10
 pool:x.st.pool=p
 opn:x.st.opn=true
 part:x.st.part=[]
 ans:x.st.ans=[]
 tape:x.st.tape=[]
 nodup:x.st.used.Nodup
 tok:∀t∈x.st.used,Tok t
 outLen:x.out.length≤14*n+4000*x.st.used.length
 tapeLen:x.tape.length≤14*n+4000*x.st.used.length
theorem Zad (st:St)(t n:Nat):(st.cancel t n).used=st.used:=by
 unfold St.cancel;split
 ·rfl
 ·split
  ·rfl
  ·dsimp only;split<;>rfl
theorem TO (st:St)(a:Act):(Grew st (st.does a) 14 14 0∧(st.does a).used=st.used)∨∃t,Grew st (st.does a) 4000 4000 1∧t∉st.used∧(st.does a).used=t::st.used∧Tok t:=by
 have b1:=VP a.qf 40 (by omega);have b4:=VP a.other 40 (by omega);unfold St.does;split
 ·rcases Zbo st (pick a.qf 40) (Ze3 (pick a.qe 2)) (pick a.qd 4) (pick a.qc 12) (pick a.qa 60) (Zer (pick a.other 4)) with h|h
  ·exact .inl h
  ·exact .inr ⟨_,h.1,h.2.1,h.2.2,.inl b1⟩
 ·split
  ·exact .inl ⟨Za2 _ _ _,Zad _ _ _⟩
  ·rcases QN st (pick a.qf 40) (pick a.other 40) (pick a.qc 12) (pick a.qa 60) with h|h
   ·exact .inl h
   ·exact .inr ⟨_,h.1,h.2.1,h.2.2,.inl b4⟩
theorem Ziw (st:St)(a:Act):Keeps st (st.does a):=by
 unfold St.does;split
 ·exact Tx _ _ _ _ _ _ _
 ·split
  ·exact Th _ _ _
  ·exact UC _ _ _ _ _
theorem Inv.does {st:St}(h:Inv st)(a:Act):Inv (st.does a):=by
 have b1:=VP a.qf 40 (by omega);have b4:=VP a.other 40 (by omega);unfold St.does;split
 ·exact h.enter _ _ _ _ _ _ (by omega)
 ·split
  ·exact h.cancel _ _
  ·exact h.replace _ _ _ _ (by omega)
theorem Good.act {x:Run}(h:Good p n x)(a:Act):Good p (n+1) (x.act a):=by
 unfold Run.act;split
 ·exact⟨h.inv.tick _,h.qk,h.qj,h.pool,h.opn,h.part,h.ans,h.tape,h.nodup,h.tok,by have:=h.outLen;show x.out.length≤14*(n+1)+4000*x.st.used.length;omega,by have:=h.tapeLen;show x.tape.length≤14*(n+1)+4000*x.st.used.length;omega⟩
 ·rw[Zep x.st a h.opn h.part];have hk:=Ziw x.st a;have hi:=h.inv.does a;have o1:=h.outLen;have o2:=h.tapeLen;have z1:x.st.ans.length=0:=by rw[h.ans];rfl
  have z2:x.st.tape.length=0:=by rw[h.tape];rfl
  refine⟨hi.told.taped,hk.same.qk.trans h.qk,hk.same.qj.trans h.qj,hk.same.pool.trans h.pool,hk.opn.trans h.opn,hk.part.trans h.part,rfl,rfl,?_,?_,?_,?_⟩
  ·show(x.st.does a).used.Nodup;rcases TO x.st a with⟨-,hu⟩|⟨t,-,ht,hu,-⟩
   ·rw[hu];exact h.nodup
   ·rw[hu,ZK];exact⟨ht,h.nodup⟩
  ·show ∀t∈(x.st.does a).used,Tok t;rcases TO x.st a with⟨-,hu⟩|⟨t,-,-,hu,ht⟩
   ·rw[hu];exact h.tok
   ·rw[hu];intro t' ht';rcases ZL.1 ht' with rfl|ht'
    ·exact ht
    ·exact h.tok t' ht'
  ·show(x.out++(x.st.does a).ans).length≤14*(n+1)+4000*(x.st.does a).used.length;rw[Zf];rcases TO x.st a with⟨g,-⟩|⟨t,g,-⟩
   ·have:=g.ans;have:=g.used;omega
   ·have:=g.ans;have:=g.used;omega
  ·show(x.tape++(x.st.does a).tape).length≤14*(n+1)+4000*(x.st.does a).used.length;rw[Zf];rcases TO x.st a with⟨g,-⟩|⟨t,g,-⟩
   ·have:=g.tape;have:=g.used;omega
   ·have:=g.tape;have:=g.used;omega
theorem Good.lens {x:Run}(h:Good p n x):x.out.length≤14*n+168000∧x.tape.length≤14*n+168000:=by have h1:=h.outLen;have h2:=h.tapeLen;have h3:=tok_len _ h.nodup h.tok;omega
structure Hl  where
 qf:Nat
 left:Nat
 qe:UInt8
 over:Bool
def Hl.less (h:Hl)(n:Nat):Hl:={h with left:=h.left-n}
def Hl.done (h:Hl):Hl:={h with over:=true}
def Tv (t n:Nat)(l:List Hl):List Hl:=l.map λh=>if h.qf=t then h.less n else h
def Qf (t:Nat)(l:List Hl):List Hl:=l.map λh=>if h.qf=t then h.done else h
inductive Qm :List UInt8→List Hl→List Hl→Prop
 | acc (t6:List UInt8) (tok:Nat) (qe qd:UInt8) (qc qa:Nat) (kind:UInt8) (ref:Nat) (l:List Hl) (h6:t6.length=6) (h1:tok<4294967296) (h2:qa<65536) (h3:∀h∈l,h.qf≠tok):
   Qm (65::t6++enc tok 4++[qe,qd]++enc qc 2++enc qa 2++[kind]++enc ref 4) l (l++[⟨tok,qa,qe,false⟩])
 | rep (t6:List UInt8) (new old qc qa ref:Nat) (l:List Hl) (h:Hl) (h6:t6.length=6) (h1:new<4294967296) (h2:qa<65536) (h3:∀h∈l,h.qf≠new) (h4:h∈l) (h5:h.qf=old) (h7:1≤h.left) (h8:h.over=false) (h9:old<4294967296):
   Qm (85::t6++enc new 4++enc qc 2++enc qa 2++enc ref 4++enc old 4) l (Qf old l++[⟨new,qa,h.qe,false⟩])
 | can (t6:List UInt8) (tok n:Nat) (r:UInt8) (l:List Hl) (h:Hl) (h6:t6.length=6) (h1:tok<4294967296) (h2:n<65536) (h4:h∈l) (h5:h.qf=tok) (h7:n≤h.left):
   Qm (88::t6++enc tok 4++enc n 2++[r]) l (Tv tok n l)
 | rej (t6:List UInt8) (tok:Nat) (r:UInt8) (l:List Hl) (h6:t6.length=6) (h1:tok<4294967296):Qm (74::t6++enc tok 4++[r]) l l
 | fil (t6:List UInt8) (a b n p m:Nat) (l:List Hl) (ha hb:Hl) (h6:t6.length=6) (h1:a<4294967296) (h2:b<4294967296) (h3:n<65536) (h0:1≤n) (h4:ha∈l) (h5:ha.qf=a) (h7:hb∈l) (h8:hb.qf=b) (h9:a≠b) (h10:ha.qe≠hb.qe)
   (h11:n≤ha.left) (h12:n≤hb.left):
   Qm (70::t6++enc a 4++enc n 2++enc p 2++enc m 4++(70::t6++enc b 4++enc n 2++enc p 2++enc m 4)) l (Tv b n (Tv a n l))
inductive Reads :List UInt8→List Hl→List Hl→Prop
 | nil (l:List Hl):Reads [] l l
 | cons (m r:List UInt8) (l l' l'':List Hl) (h:Qm m l l') (k:Reads r l' l''):Reads (m++r) l l''
theorem Reads.one {m:List UInt8}{l l':List Hl}(h:Qm m l l'):Reads m l l':=by
 have:=Reads.cons m [] l l' l' h (.nil l')
 rwa [ZG] at this
theorem Reads.app {a b:List UInt8}{l l' l'':List Hl}(h:Reads a l l')(k:Reads b l' l''):Reads (a++b) l l'':=by
 induction h with
 | nil l=>exact k
 | cons m r l l1 l2 h _ ih=>
  rw[Zo];exact .cons m (r++b) l l1 l'' h (ih k)
def XS (o:Ord):List Ord:=if o.qa=0 then [] else [o]
def Hl.fits (h:Hl)(x:Ord):Prop:=h.qf=x.qf∧h.left=x.qa∧h.qe=x.qe∧h.over=false
structure Live (ords:List Ord)(l:List Hl):Prop where
 ndl:(l.map (·.qf)).Nodup
 ndo:(ords.map (·.qf)).Nodup
 have_:∀x∈ords,1≤x.qa∧∃h∈l,h.fits x
 only:∀h∈l,h.over=false→h.left≠0→∃x∈ords,h.fits x
theorem Live.perm {a b:List Ord}{l:List Hl}(h:Live a l)(p:a.Perm b):Live b l:=
 ⟨h.ndl,(p.map _).nodup_iff.1 h.ndo,λx hx=>h.have_ x (p.mem_iff.2 hx),λy hy h1 h2=>by obtain⟨x,hx,e⟩:=h.only y hy h1 h2;exact⟨x,p.mem_iff.1 hx,e⟩⟩
theorem nd_eq {l:List Hl}(h:(l.map (·.qf)).Nodup){a b:Hl}(ha:a∈l)(hb:b∈l)(e:a.qf=b.qf):a=b:=by
 induction l with
 | nil=>cases ha
 | cons x l ih=>
  rw[ZV,ZK] at h;rcases ZL.1 ha with rfl|ha'
  ·rcases ZL.1 hb with rfl|hb'
   ·rfl
   ·exact absurd (ZP.2 ⟨b,hb',e.symm⟩) h.1
  ·rcases ZL.1 hb with rfl|hb'
   ·exact absurd (ZP.2 ⟨a,ha',e⟩) h.1
   ·exact ih h.2 ha' hb'
theorem Zgi (t n:Nat)(l:List Hl):(Tv t n l).map (·.qf)=l.map (·.qf):=by unfold Tv;rw[List.map_map];refine List.map_congr_left λh _ => ?_;simp only[Function.comp_apply];split<;>rfl
theorem Zg4 (t:Nat)(l:List Hl):(Qf t l).map (·.qf)=l.map (·.qf):=by unfold Qf;rw[List.map_map];refine List.map_congr_left λh _ => ?_;simp only[Function.comp_apply];split<;>rfl
theorem Zbs {l:List Hl}{h:Hl}:h∈Tv t n l↔∃a∈l,h=if a.qf=t then a.less n else a:=by unfold Tv;rw[ZP];exact⟨λ⟨a,ha,e⟩=>⟨a,ha,e.symm⟩,λ⟨a,ha,e⟩=>⟨a,ha,e.symm⟩⟩
theorem Zci {l:List Hl}{h:Hl}:h∈Qf t l↔∃a∈l,h=if a.qf=t then a.done else a:=by unfold Qf;rw[ZP];exact⟨λ⟨a,ha,e⟩=>⟨a,ha,e.symm⟩,λ⟨a,ha,e⟩=>⟨a,ha,e.symm⟩⟩
theorem Live.less {R:List Ord}{l:List Hl}(h:Live (f::R) l)(n:Nat)(h2:n≤f.qa):
  Live (XS {f with qa:=f.qa-n}++R) (Tv f.qf n l):=by
 have hnd:=h.ndo;rw[ZV,ZK] at hnd;obtain⟨hf1,hf,hfl,hff⟩:=h.have_ f (by simp);refine⟨by rw[Zgi];exact h.ndl,?_,?_,?_⟩
 ·unfold XS;split
  ·exact hnd.2
  ·show(f.qf::R.map (·.qf)).Nodup;exact h.ndo
 ·intro x hx;rcases ZE.1 hx with hx|hx
  ·unfold XS at hx;split at hx
   ·cases hx
   ·rename_i hne;simp at hx;subst hx;refine⟨?_,hf.less n,Zbs.2 ⟨hf,hfl,by rw[Zg hff.1]⟩,?_⟩
    ·simp only at hne ⊢;omega
    ·exact⟨hff.1,by show hf.left-n=f.qa-n;rw[hff.2.1],hff.2.2.1,hff.2.2.2⟩
  ·obtain⟨h1,y,hy,hyf⟩:=h.have_ x (by simp[hx]);refine⟨h1,y,Zbs.2 ⟨y,hy,?_⟩,hyf⟩;rw[Zj];intro e;exact hnd.1 (ZP.2 ⟨x,hx,by rw[←hyf.1,e]⟩)
 ·intro y hy ho hl;obtain⟨a,ha,e⟩:=Zbs.1 hy;by_cases hat:a.qf=f.qf
  ·rw[Zg hat] at e;have:a=hf:=nd_eq h.ndl ha hfl (by rw[hat,hff.1]);subst this;subst e;have hne:f.qa-n≠0:=by intro e0;apply hl;show a.left-n=0;rw[hff.2.1];exact e0
   refine⟨{f with qa:=f.qa-n},?_,?_⟩
   ·unfold XS;rw[Zj hne];simp
   ·exact⟨hff.1,by show a.left-n=f.qa-n;rw[hff.2.1],hff.2.2.1,hff.2.2.2⟩
  ·rw[Zj hat] at e;subst e;obtain⟨x,hx,hxf⟩:=h.only y ha ho hl;rcases ZL.1 hx with rfl|hx
   ·exact absurd hxf.1 hat
   ·exact⟨x,by simp[hx],hxf⟩
theorem Live.add {x:Ord}{R:List Ord}{l:List Hl}(h:Live R l)(hn:∀y∈l,y.qf≠x.qf)(h1:1≤x.qa):Live (x::R) (l++[⟨x.qf,x.qa,x.qe,false⟩]):=by
 refine⟨?_,?_,?_,?_⟩
 ·rw[ZH,Ya];refine⟨h.ndl,by simp,?_⟩;intro a ha b hb e;simp at hb;obtain⟨y,hy,rfl⟩:=ZP.1 ha;exact hn y hy (by rw[e,hb])
 ·rw[ZV,ZK];refine⟨?_,h.ndo⟩;intro hx;obtain⟨y,hy,e⟩:=ZP.1 hx;obtain⟨-,z,hz,hzf⟩:=h.have_ y hy;exact hn z hz (by rw[hzf.1,e])
 ·intro y hy;rcases ZL.1 hy with rfl|hy
  ·exact⟨h1,⟨y.qf,y.qa,y.qe,false⟩,by simp,rfl,rfl,rfl,rfl⟩
  ·obtain⟨a,z,hz,hzf⟩:=h.have_ y hy;exact⟨a,z,by simp[hz],hzf⟩
 ·intro y hy ho hl;rcases ZE.1 hy with hy|hy
  ·obtain⟨z,hz,hzf⟩:=h.only y hy ho hl;exact⟨z,by simp[hz],hzf⟩
  ·simp at hy;subst hy;exact⟨x,by simp,rfl,rfl,rfl,rfl⟩
theorem Live.swap {old new:Ord}{R:List Ord}{l:List Hl}(h:Live (old::R) l)(hn:∀y∈l,y.qf≠new.qf)(h1:1≤new.qa):Live (new::R) (Qf old.qf l++[⟨new.qf,new.qa,new.qe,false⟩]):=by
 have hnd:=h.ndo;rw[ZV,ZK] at hnd;have hmid:Live R (Qf old.qf l):=by
  refine⟨by rw[Zg4];exact h.ndl,hnd.2,?_,?_⟩
  ·intro x hx;obtain⟨a,y,hy,hyf⟩:=h.have_ x (by simp[hx]);refine⟨a,y,Zci.2 ⟨y,hy,?_⟩,hyf⟩;rw[Zj];intro e;exact hnd.1 (ZP.2 ⟨x,hx,by rw[←hyf.1,e]⟩)
  ·intro y hy ho hl;obtain⟨a,ha,e⟩:=Zci.1 hy;by_cases hat:a.qf=old.qf
   ·rw[Zg hat] at e;subst e;cases ho
   ·rw[Zj hat] at e;subst e;obtain⟨x,hx,hxf⟩:=h.only y ha ho hl;rcases ZL.1 hx with rfl|hx
    ·exact absurd hxf.1 hat
    ·exact⟨x,hx,hxf⟩
 refine hmid.add ?_ h1;intro y hy;obtain⟨a,ha,e⟩:=Zci.1 hy;have:=hn a ha;rw[e];split<;>exact this
def isR (t:Nat)(o:Ord):Bool:=o.ref==t&&o.qa !=0
def liv (L:List Ord)(t:Nat):Option Ord:=L.find? (isR t)
def Xz (L:List Ord)(t:Nat):Nat:=match liv L t with|none=>0|some o=>o.qa
def chL (t:Nat)(f:Ord→Ord)(L:List Ord):List Ord:=L.map λo=>if isR t o then f o else o
def XP (t n:Nat)(L:List Ord):List Ord:=chL t (λo=>{o with qa:=o.qa-n}) L
theorem Xy (t:Nat)(o:Ord):isR t o=true↔o.ref=t∧o.qa≠0:=by simp[isR]
def Ix (L:List Ord)(M:Nat→Option Nat):Prop:=∀t p,M t=some p↔∃o,L[p]?=some o∧isR t o=true
theorem Ix.nil :Ix [] (λ_=>none):=λt p=>⟨λh=>(by cases h),λ⟨o,h,_⟩=>(by simp at h)⟩
theorem Ix.unfound (h:Ix L M)(ht:M t=none):liv L t=none:=by
 cases hl:liv L t with
 | none=>rfl
 | some o=>
  have h1:=List.find?_some hl;obtain⟨i,hi⟩:=List.mem_iff_getElem?.1 (List.mem_of_find?_eq_some hl);have:=(h t i).2 ⟨o,hi,h1⟩;rw[ht] at this;cases this
theorem Ix.found (h:Ix L M)(ht:M t=some p):∃o,L[p]?=some o∧isR t o=true∧liv L t=some o:=by
 obtain⟨o,ho,hr⟩:=(h t p).1 ht;refine⟨o,ho,hr,?_⟩;cases hl:liv L t with
 | none=>
  have:=List.find?_eq_none.1 hl o (ZW ho);exact absurd hr this
 | some o'=>
  have h1:=List.find?_some hl;obtain⟨i,hi⟩:=List.mem_iff_getElem?.1 (List.mem_of_find?_eq_some hl);have h2:=(h t i).2 ⟨o',hi,h1⟩;rw[ht] at h2;cases h2;rw[ho] at hi;exact hi.symm
theorem Ix.left (h:Ix L M)(t:Nat):Xz L t=(match M t with|none=>0|some p=>(match L[p]? with|none=>0|some o=>o.qa)):=by
 unfold Xz;cases ht:M t with
 | none=>rw[h.unfound ht]
 | some p=>
  obtain⟨o,ho,-,hl⟩:=h.found ht;rw[hl];simp only[ho]
theorem VD (h:liv L t=some o):Xz L t=o.qa:=by unfold Xz;rw[h]
theorem Ix.part (h:Ix L M)(ht:M t=some p)(ho:L[p]?=some o)(hy:isR t y=true):Ix (L.set p y) M:=by
 have hp:=(Zl.1 ho).1;intro u i;rw[h u i,YO];by_cases hi:p=i
 ·subst hi;rw[Zg rfl,Zg hp,ho];obtain⟨o',ho',hr,-⟩:=h.found ht;rw[ho] at ho';cases ho';rw[Xy] at hr hy;constructor
  ·rintro⟨x,hx,hr2⟩;cases hx;rw[Xy] at hr2;exact⟨y,rfl,(Xy _ _).2 ⟨by omega,hy.2⟩⟩
  ·rintro⟨x,hx,hr2⟩;cases hx;rw[Xy] at hr2;exact⟨o,rfl,(Xy _ _).2 ⟨by omega,hr.2⟩⟩
 ·rw[Zj hi]
theorem Ix.add (h:Ix L M)(ht:M y.ref=none)(hy:y.qa≠0):Ix (L++[y]) (updM M y.ref (some L.length)):=by
 intro u i;by_cases hu:u=y.ref
 ·subst hu;rw[Xt];constructor
  ·intro e;cases e;exact⟨y,by simp,(Xy _ _).2 ⟨rfl,hy⟩⟩
  ·rintro⟨x,hx,hr⟩;by_cases hi:i<L.length
   ·rw[Ye hi] at hx;have:=(h y.ref i).2 ⟨x,hx,hr⟩;rw[ht] at this;cases this
   ·have:i<(L++[y]).length:=(Zl.1 hx).1;simp at this
    congr 1
    omega
 ·rw[XF _ _ _ _ hu,h u i];by_cases hi:i<L.length
  ·rw[Ye hi]
  ·constructor
   ·rintro⟨x,hx,-⟩;exact absurd (Zl.1 hx).1 hi
   ·rintro⟨x,hx,hr⟩;have:i<(L++[y]).length:=(Zl.1 hx).1;simp at this;have e:i=L.length:=by omega
    subst e;simp at hx;subst hx;rw[Xy] at hr;exact absurd hr.1.symm hu
theorem Ix.put (h:Ix L M)(ho:L[p]?=some o)(h0:o.qa=0)(ht:M y.ref=none)(hy:y.qa≠0):Ix (L.set p y) (updM M y.ref (some p)):=by
 have hp:=(Zl.1 ho).1;intro u i;rw[YO];by_cases hu:u=y.ref
 ·subst hu;rw[Xt];by_cases hi:p=i
  ·subst hi;rw[Zg rfl,Zg hp];exact⟨λ_=>⟨y,rfl,(Xy _ _).2 ⟨rfl,hy⟩⟩,λ_=>rfl⟩
  ·rw[Zj hi];constructor
   ·intro e;cases e;exact absurd rfl hi
   ·intro hx;have:=(h y.ref i).2 hx;rw[ht] at this;cases this
 ·rw[XF _ _ _ _ hu,h u i];by_cases hi:p=i
  ·subst hi;rw[Zg rfl,Zg hp,ho];constructor
   ·rintro⟨x,hx,hr⟩;cases hx;rw[Xy] at hr;exact absurd h0 hr.2
   ·rintro⟨x,hx,hr⟩;cases hx;rw[Xy] at hr;exact absurd hr.1.symm hu
  ·rw[Zj hi]
def Xn (c:UInt8):Nat:=if c=97 then 17 else if c=101 then 17 else if c=120 then 13 else if c=100 then 11 else if c=117 then 19 else 0
def fOrd (f:List UInt8):Ord:={ref:=at_ f 0 4,qf:=0,qe:=Xa f 4,qd:=(Xa f 5).toNat,qc:=at_ f 8 2,qa:=at_ f 6 2}
def Tz (L:List Ord)(f:List UInt8):Option (List Ord):=
 if Xz L (at_ f 0 4)≠0∨¬(Xa f 4=66∨Xa f 4=83)∨at_ f 6 2=0 then none else some (L++[fOrd f])
def Qy (L:List Ord)(f:List UInt8):Option (List Ord):=
 if at_ f 4 2=0∨Xz L (at_ f 0 4)<at_ f 4 2 then none else some (XP (at_ f 0 4) (at_ f 4 2) L)
def QA (L:List Ord)(f:List UInt8):Option (List Ord):=
 if at_ f 4 2=0∨Xz L (at_ f 0 4)≤at_ f 4 2 then none else some (XP (at_ f 0 4) (at_ f 4 2) L)
def QH (L:List Ord)(f:List UInt8):Option (List Ord):=
 if Xz L (at_ f 0 4)=0 then none else some (XP (at_ f 0 4) (Xz L (at_ f 0 4)) L)
def fNew (o:Ord)(f:List UInt8):Ord:={ref:=at_ f 4 4,qf:=0,qe:=o.qe,qd:=o.qd,qc:=at_ f 10 2,qa:=at_ f 8 2}
def Za1 (L:List Ord)(f:List UInt8):Option (List Ord):=
 match liv L (at_ f 0 4) with
 | none=>none
 | some o=>
  if (at_ f 4 4≠at_ f 0 4∧Xz L (at_ f 4 4)≠0)∨at_ f 8 2=0 then none
  else if at_ f 10 2=o.qc∧at_ f 8 2≤o.qa then some (chL (at_ f 0 4) (λ_=>fNew o f) L)
  else some (XP (at_ f 0 4) o.qa L++[fNew o f])
def fol (L:List Ord)(c:UInt8)(f:List UInt8):Option (List Ord):=
 if c=97 then Tz L f else if c=101 then Qy L f else if c=120 then QA L f else if c=100 then QH L f else if c=117 then Za1 L f else none
def tb :Nat→List Ord→List UInt8→Option (List Ord)×List UInt8
 | 0,L,b=>(some L,b)
 | k+1,L,b=>
  if b=[] then (some L,[]) else
  if Xn (Xa b 0)=0∨b.length<Xn (Xa b 0) then (none,b) else
  match fol L (Xa b 0) ((b.take (Xn (Xa b 0))).drop 7) with
  | none=>(none,b)
  | some L'=>tb k L' (b.drop (Xn (Xa b 0)))
def Bld (bs:List UInt8)(L L':List Ord):Prop:=∀rest k,(bs++rest).length≤k→∃k',rest.length≤k'∧tb k L (bs++rest)=tb k' L' rest
theorem Bld.nil (L:List Ord):Bld [] L L:=λ_ k h=>⟨k,h,rfl⟩
theorem Bld.app {a b:List UInt8}{M N:List Ord}(h:Bld a L M)(g:Bld b M N):Bld (a++b) L N:=by intro rest k hk;rw[Zo] at hk ⊢;obtain⟨k1,h1,e1⟩:=h (b++rest) k hk;obtain⟨k2,h2,e2⟩:=g rest k1 h1;exact⟨k2,h2,e1.trans e2⟩
theorem Bld.one {L':List Ord}(c:UInt8)(m f:List UInt8)(hm:m.length=6)(hs:(c::(m++f)).length=Xn c)(hf:fol L c f=some L'):Bld (c::(m++f)) L L':=by
 intro rest k hk;have hne:(c::(m++f))++rest≠[]:=by simp
 have hb:Xa ((c::(m++f))++rest) 0=c:=rfl;have htk:(((c::(m++f))++rest).take (Xn c)).drop 7=f:=by rw[←hs,List.take_left];rw[show c::(m++f)=(c::m)++f from rfl,show 7=(c::m).length by simp[hm],List.drop_left]
 have hdr:((c::(m++f))++rest).drop (Xn c)=rest:=by rw[←hs,List.drop_left]
 have hlen:((c::(m++f))++rest).length=Xn c+rest.length:=by rw[Zf,hs]
 have hpos:Xn c≠0:=by rw[←hs];simp
 cases k with
 | zero=>rw[hlen] at hk;omega
 | succ k=>
  refine⟨k,by rw[hlen] at hk;omega,?_⟩;show(if _ then _ else _)=_;rw[Zj hne,hb,Zj (by rw[hlen];omega),htk,hf,hdr]
structure Led (st:St)(l:List Hl):Prop where
 live:Live st.all l
 used:∀h∈l,h.qf∈st.used
theorem t6 (st:St):(enc st.time 6).length=6:=YZ _ _
theorem Zcg (k:Nat):∀(st:St) (o:Ord),(st.meet k o).1.qk=st.qk∧(st.meet k o).1.qj=st.qj∧(st.meet k o).1.used=st.used∧(st.meet k o).2.qd=o.qd∧(st.meet k o).2.qe=o.qe∧(st.meet k o).2.qc=o.qc∧(st.meet k o).2.qf=o.qf∧(st.meet k o).2.qa≤o.qa:=by
 induction k with
 | zero=>intro st o;exact⟨rfl,rfl,rfl,rfl,rfl,rfl,rfl,Zh _⟩
 | succ k ih=>
  intro st o;unfold St.meet;split
  ·exact⟨rfl,rfl,rfl,rfl,rfl,rfl,rfl,Zh _⟩
  ·split
   ·exact⟨rfl,rfl,rfl,rfl,rfl,rfl,rfl,Zh _⟩
   ·rename_i f _;obtain⟨a,b,c,d,e,g,i,j⟩:=ih (st.execute o f (min o.qa f.qa)) {o with qa:=o.qa-min o.qa f.qa};exact⟨a,b,c,d,e,g,i,Zw j (Nat.sub_le _ _)⟩
def Steps (st st':St)(l:List Hl):Prop:=∃bs l',st'.ans=st.ans++bs∧Reads bs l l'∧Led st' l'
theorem Led.same {st:St}{l:List Hl}(h:Led st l):Steps st st l:=⟨[],l,by simp,.nil l,h⟩
theorem Led.reject {st:St}{l:List Hl}(h:Led st l)(t:Nat)(r:UInt8)(ht:t<4294967296):Steps st (st.reject t r) l:=
 ⟨_,l,rfl,.one (.rej (enc st.time 6) t r l (t6 st) ht),⟨h.live,h.used⟩⟩
theorem Zky {st:St}{qe:UInt8}{qd qc qa:Nat}{kind:UInt8}(h:st.why t qe qd qc qa kind=none):
  t∉st.used∧(qe=66∨qe=83)∧qd<st.qk∧1≤qc∧qc≤st.qj∧1≤qa∧qa≤9999:=by
 unfold St.why at h;split at h
 ·cases h
 ·split at h
  ·cases h
  ·split at h
   ·cases h
   ·split at h
    ·cases h
    ·split at h
     ·cases h
     ·rename_i a b c d e;refine⟨a,?_,by omega,by omega,by omega,by omega,by omega⟩;by_cases h1:qe=66
      ·exact .inl h1
      ·by_cases h2:qe=83
       ·exact .inr h2
       ·exact absurd ⟨h1,h2⟩ b
theorem Zix (t n:Nat)(l:List Ord)(h:∃x∈l,x.qf=t)(hn:(l.map (·.qf)).Nodup):∀o∈l,o.qf=t→∃l1 l2,l=l1++o::l2∧redO t n l=l1++(XS {o with qa:=o.qa-n}++l2)∧delO t l=l1++l2∧∀y,subO t y l=l1++y::l2:=by
 induction l with
 | nil=>intro o ho;cases ho
 | cons x l ih=>
  intro o ho hot;rw[ZV,ZK] at hn;by_cases hx:x.qf=t
  ·have:o=x:=by
    rcases ZL.1 ho with rfl|ho
    ·rfl
    ·exact absurd (ZP.2 ⟨o,ho,by rw[hot,hx]⟩) hn.1
   subst this;refine⟨[],l,rfl,?_,?_,?_⟩
   ·simp only[redO,Zg hx,XS];by_cases hs:o.qa≤n
    ·rw[Zg hs,Zg (by omega)];rfl
    ·rw[Zj hs,Zj (by omega)];rfl
   ·simp only[delO,Zg hx];rfl
   ·intro y;simp only[subO,Zg hx];rfl
  ·have ho':o∈l:=by
    rcases ZL.1 ho with rfl|ho
    ·exact absurd hot hx
    ·exact ho
   obtain⟨l1,l2,e1,e2,e3,e4⟩:=ih ⟨o,ho',hot⟩ hn.2 o ho' hot;refine⟨x::l1,l2,by rw[e1];rfl,?_,?_,?_⟩
   ·simp only[redO,Zj hx,e2];rfl
   ·simp only[delO,Zj hx,e3];rfl
   ·intro y;simp only[subO,Zj hx,e4];rfl
theorem Ze5 {st:St}(hi:Inv st)(hv:Valid st s d p):((st.q s d p).map (·.qf)).Nodup:=by obtain⟨A,B,e1,-⟩:=Uc st s d p hv;have:=hi.nodup;rw[e1] at this;simp only[ZH] at this;rw[Ya] at this;have:=this.1;rw[Ya] at this;exact this.2.1
theorem Zit {st:St}{qc qa:Nat}(h:st.whyR t qc qa=none):t∉st.used∧1≤qc∧qc≤st.qj∧1≤qa∧qa≤9999:=by
 unfold St.whyR at h;split at h
 ·cases h
 ·split at h
  ·cases h
  ·split at h
   ·cases h
   ·rename_i a b c;exact⟨a,by omega,by omega,by omega,by omega⟩
def tok0 (o:Ord):Ord:={o with qf:=0}
def alive (o:Ord):Bool:=o.qa !=0
def inK (s:Nat)(d:UInt8)(p:Nat)(o:Ord):Bool:=o.qa !=0&&(o.qd==s&&(o.qe==d&&o.qc==p))
theorem VZ (s:Nat)(d:UInt8)(p:Nat)(o:Ord):inK s d p o=true↔o.qa≠0∧o.qd=s∧o.qe=d∧o.qc=p:=by simp[inK]
structure Tq (q:Nat→UInt8→Nat→List Ord)(R:Nat)(L:List Ord):Prop where
 cls:∀s d p,L.filter (inK s d p)=(q s d p).map tok0
 uq:((L.filter alive).map (·.ref)).Nodup
 low:∀o∈L,o.ref≤R
theorem Tq.le {R':Nat}(h:Tq q R L)(hR:R≤R'):Tq q R' L:=⟨h.cls,h.uq,λo ho=>Zw (h.low o ho) hR⟩
theorem Tq.of_q {q':Nat→UInt8→Nat→List Ord}(h:Tq q R L)(e:q'=q):Tq q' R L:=e▸h
theorem Zdr {α:Type}(o:α):∀(A A' B B':List α),A++o::B=A'++o::B'→o∉A→o∉A'→A=A'∧B=B':=by
 intro A;induction A with
 | nil=>
  intro A' B B' h _ h2;cases A' with
  | nil=>simp at h;exact⟨rfl,h⟩
  | cons x A'=>simp at h;exact absurd (by rw[h.1];simp) h2
 | cons x A ih=>
  intro A' B B' h h1 h2;cases A' with
  | nil=>simp at h;exact absurd (by rw[h.1];simp) h1
  | cons y A'=>
   simp at h;obtain⟨rfl,h⟩:=h;obtain⟨e1,e2⟩:=ih A' B B' h (λhh=>h1 (by simp[hh])) (λhh=>h2 (by simp[hh]));exact⟨by rw[e1],e2⟩
theorem Tq.find (h:Tq q R L)(hq:q s d p=l1++f::l2):
  ∃A B,L=A++tok0 f::B∧A.filter (inK s d p)=l1.map tok0∧B.filter (inK s d p)=l2.map tok0∧(∀x∈A,isR f.ref x=false)∧(∀x∈B,isR f.ref x=false)∧inK s d p (tok0 f)=true:=by
 have hc:=h.cls s d p;rw[hq,ZH,ZV] at hc;have hm:tok0 f∈L.filter (inK s d p):=by rw[hc];simp
 obtain⟨hmL,hK⟩:=Yt.1 hm;obtain⟨A,B,rfl⟩:=YV hmL;have hal:alive (tok0 f)=true:=by have:=(VZ _ _ _ _).1 hK;simp[alive,this.1]
 have hu:=h.uq;rw[ZS,Yc hal,ZH,ZV,Ya] at hu;obtain⟨u1,u2,u3⟩:=hu;rw[ZK] at u2;have hA:∀x∈A,isR f.ref x=false:=by
  intro x hx;cases hr:isR f.ref x with
  | false=>rfl
  | true=>
   rw[Xy] at hr;have m1:x.ref∈(A.filter alive).map (·.ref):=ZP.2 ⟨x,Yt.2 ⟨hx,by simp[alive,hr.2]⟩,rfl⟩;have:=u3 _ m1 (tok0 f).ref (by simp);exact absurd hr.1 this
 have hB:∀x∈B,isR f.ref x=false:=by
  intro x hx;cases hr:isR f.ref x with
  | false=>rfl
  | true=>
   rw[Xy] at hr;have m1:x.ref∈(B.filter alive).map (·.ref):=ZP.2 ⟨x,Yt.2 ⟨hx,by simp[alive,hr.2]⟩,rfl⟩;rw[hr.1] at m1;exact absurd m1 u2.1
 have hnA:∀C:List Ord,(∀x∈C,isR f.ref x=false)→tok0 f∉C.filter (inK s d p):=by intro C hC hx;have:=hC _ (Yt.1 hx).1;have h2:=(VZ _ _ _ _).1 hK;have:isR f.ref (tok0 f)=true:=(Xy _ _).2 ⟨rfl,h2.1⟩;simp_all
 rw[ZS,Yc hK] at hc;have hn1:tok0 f∉l1.map tok0:=by
  intro hx;have hnd:((l1.map tok0++tok0 f::l2.map tok0).map (·.ref)).Nodup:=by
   rw[←hc];have hsub:(A.filter (inK s d p)++tok0 f::B.filter (inK s d p)).Sublist (A.filter alive++tok0 f::B.filter alive):=by
    have e:∀C:List Ord,(C.filter (inK s d p)).Sublist (C.filter alive):=λC=>by
     have:C.filter (inK s d p)=(C.filter alive).filter (inK s d p):=by
      rw[List.filter_filter]
      congr 1
      funext x
      unfold inK alive;cases x.qa !=0<;>simp
     rw[this];exact List.filter_sublist
    exact(e A).append ((e B).cons_cons _)
   refine(hsub.map (·.ref)).nodup ?_;have:=h.uq
   rwa [ZS,Yc hal] at this
  rw[ZH,ZV,Ya] at hnd;have:=hnd.2.2 (tok0 f).ref (ZP.2 ⟨tok0 f,hx,rfl⟩) (tok0 f).ref (by simp);exact this rfl
 obtain⟨e1,e2⟩:=Zdr _ _ _ _ _ hc (hnA A hA) hn1;exact⟨A,B,rfl,e1,e2,hA,hB,hK⟩
theorem ch_at {A B:List Ord}(f:Ord→Ord)(hA:∀x∈A,isR t x=false)(hB:∀x∈B,isR t x=false)(ho:isR t o=true):chL t f (A++o::B)=A++f o::B:=by
 have e:∀C:List Ord,(∀x∈C,isR t x=false)→C.map (λo=>if isR t o then f o else o)=C:=λC hC=>by
  conv=>rhs;rw[←List.map_id C]
  refine List.map_congr_left (λx hx => ?_);rw[hC x hx];rfl
 unfold chL;rw[ZH,ZV,e A hA,e B hB,Zg ho]
theorem liv_at {A B:List Ord}(hA:∀x∈A,isR t x=false)(ho:isR t o=true):liv (A++o::B) t=some o:=by unfold liv;rw[List.find?_append,List.find?_eq_none.2 (λx hx=>by simp[hA x hx])];simp[ho]
def updq (q:Nat→UInt8→Nat→List Ord)(s:Nat)(d:UInt8)(p:Nat)(l:List Ord):Nat→UInt8→Nat→List Ord:=λs' d' p'=>if s'=s∧d'=d∧p'=p then l else q s' d' p'
theorem Tq.turn (h:Tq q R L)(hq:q s d p=l1++f::l2)(h1:y.qd=s)(h2:y.qe=d)(h3:y.qc=p)(h4:y.qa=0∨y.ref=f.ref∨R<y.ref)(g:Ord→Ord)(hg:g (tok0 f)=tok0 y):
  liv L f.ref=some (tok0 f)∧Tq (updq q s d p (l1++(XS y++l2))) (max R y.ref) (chL f.ref g L):=by
 obtain⟨A,B,rfl,eA,eB,hA,hB,hK⟩:=h.find hq;have hK2:=(VZ _ _ _ _).1 hK;have hR:isR f.ref (tok0 f)=true:=(Xy _ _).2 ⟨rfl,hK2.1⟩;refine⟨liv_at hA hR,?_⟩;rw[ch_at g hA hB hR,hg];have hal:alive (tok0 f)=true:=by simp[alive,hK2.1]
 refine⟨?_,?_,?_⟩
 ·intro s' d' p';unfold updq;by_cases hc:s'=s∧d'=d∧p'=p
  ·obtain⟨rfl,rfl,rfl⟩:=hc;rw[Zg ⟨rfl,rfl,rfl⟩,ZS,ZH,eA,ZH]
   congr 1
   by_cases h0:y.qa=0
   ·rw[YE (by rw[VZ];exact λhh=>hh.1 h0),eB,XS,Zg h0];rfl
   ·rw[Yc (by rw[VZ];exact⟨h0,h1,h2,h3⟩),eB,XS,Zj h0];rfl
  ·rw[Zj hc,←h.cls s' d' p',ZS,ZS,YE (by rw[VZ];rintro⟨_,e1,e2,e3⟩;exact hc ⟨e1.symm.trans h1,e2.symm.trans h2,e3.symm.trans h3⟩),
    YE (by rw[VZ];rintro⟨_,e1,e2,e3⟩;exact hc ⟨e1.symm.trans hK2.2.1,e2.symm.trans hK2.2.2.1,e3.symm.trans hK2.2.2.2⟩)]
 ·have hu:=h.uq;rw[ZS,Yc hal,ZH,ZV,Ya] at hu;obtain⟨u1,u2,u3⟩:=hu;rw[ZK] at u2;rw[ZS];by_cases h0:y.qa=0
  ·rw[YE (by simp[alive,tok0,h0]),ZH,Ya];exact⟨u1,u2.2,λa ha b hb=>u3 a ha b (by simp[hb])⟩
  ·rw[Yc (by simp[alive,tok0,h0]),ZH,ZV,Ya,ZK];have hlow:∀C:List Ord,(∀x∈C,x.ref≤R)→R<y.ref→y.ref∉(C.filter alive).map (·.ref):=by intro C hC hlt hx;obtain⟨x,hx,e⟩:=ZP.1 hx;have:=hC x (Yt.1 hx).1;omega
   have lA:∀x∈A,x.ref≤R:=λx hx=>h.low x (by simp[hx]);have lB:∀x∈B,x.ref≤R:=λx hx=>h.low x (by simp[hx]);rcases h4 with h4|h4|h4
   ·exact absurd h4 h0
   ·have e:(tok0 y).ref=(tok0 f).ref:=h4;rw[e];exact⟨u1,u2,u3⟩
   ·refine⟨u1,⟨hlow B lB h4,u2.2⟩,?_⟩;intro a ha b hb;rcases ZL.1 hb with rfl|hb
    ·intro e;rw[e] at ha;exact hlow A lA h4 ha
    ·exact u3 a ha b (by simp[hb])
 ·intro o ho;rcases ZE.1 ho with ho|ho
  ·exact Zw (h.low o (by simp[ho])) (Nat.le_max_left _ _)
  ·rcases ZL.1 ho with rfl|ho
   ·exact Nat.le_max_right _ _
   ·exact Zw (h.low o (by simp[ho])) (Nat.le_max_left _ _)
theorem Tq.add (h:Tq q R L)(ho:R<o.ref)(h0:o.qa≠0):Tq (updq q o.qd o.qe o.qc (q o.qd o.qe o.qc++[o])) o.ref (L++[tok0 o]):=by
 refine⟨?_,?_,?_⟩
 ·intro s' d' p';unfold updq;rw[ZS,h.cls];by_cases hc:s'=o.qd∧d'=o.qe∧p'=o.qc
  ·obtain⟨rfl,rfl,rfl⟩:=hc;rw[Zg ⟨rfl,rfl,rfl⟩,Yc (by rw[VZ];exact⟨h0,rfl,rfl,rfl⟩),ZH];rfl
  ·rw[Zj hc,YE (by rw[VZ];rintro⟨_,e1,e2,e3⟩;exact hc ⟨e1.symm,e2.symm,e3.symm⟩)];simp
 ·rw[ZS,Yc (by simp[alive,tok0,h0]),ZH,Ya];refine⟨h.uq,by simp,?_⟩;intro a ha b hb e;subst e;simp at hb;obtain⟨x,hx,e⟩:=ZP.1 ha;have:=h.low x (Yt.1 hx).1;have e2:(tok0 o).ref=o.ref:=rfl;omega
 ·intro x hx;rcases ZE.1 hx with hx|hx
  ·have:=h.low x hx;omega
  ·simp at hx;rw[hx];exact Zh _
theorem Tq.mem_low (h:Tq q R L)(hf:f∈q s d p):f.ref≤R:=by
 have:tok0 f∈L.filter (inK s d p):=by rw[h.cls];exact ZP.2 ⟨f,hf,rfl⟩
 exact h.low (tok0 f) (Yt.1 this).1
theorem Tq.less (h:Tq q R L)(hq:q s d p=l1++f::l2)(hf:Fits s d p f)(n:Nat):
  Xz L f.ref=f.qa∧Tq (updq q s d p (l1++(XS {f with qa:=f.qa-n}++l2))) R (XP f.ref n L):=by
 obtain⟨h1,h2⟩:=h.turn hq (y:={f with qa:=f.qa-n}) hf.qd hf.qe hf.qc (.inr (.inl rfl)) (λo=>{o with qa:=o.qa-n}) rfl;have:=h.mem_low (s:=s) (d:=d) (p:=p) (f:=f) (by rw[hq];simp);exact⟨(VD h1).trans rfl,h2.le (by show max R f.ref≤R;omega)⟩
structure Td (st:St)(L:List Ord):Prop where
 tq:Tq st.q st.qg L
 cnt:st.qg≤st.used.length
def TStep (st st':St)(L:List Ord):Prop:=∃bs L',st'.tape=st.tape++bs∧Bld bs L L'∧Td st' L'
theorem Td.same {st st':St}(h:Td st L)(h1:st'.tape=st.tape)(h2:st'.q=st.q)(h3:st'.qg=st.qg)(h4:st'.used=st.used):TStep st st' L:=
 ⟨[],L,by simp[h1],.nil L,⟨by rw[h2,h3];exact h.tq,by rw[h3,h4];exact h.cnt⟩⟩
end
end Go.Proofs.YtphkchjejbffeaaGreat
