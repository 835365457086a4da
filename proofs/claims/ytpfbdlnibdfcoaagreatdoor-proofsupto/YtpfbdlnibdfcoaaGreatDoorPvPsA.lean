import Derived.Test.YtpfbdlnibdfcoaaGreatDoorPvMapC
import Derived.Test.YtpfbdlnibdfcoaaGreatDoorPvBtB
namespace Go.Proofs.YtpfbdlnibdfcoaaGreatDoor
open Go.RowKit Tryz
open Value renaming int->Ia,string->La,slice->Ma,bool->Oa,pointer->Qa,agg->Sa,tuple->Wa,iface->ca,nilIface->da
open IntKind renaming i64->ka
open Obj renaming cells->ma
open Ending renaming returned->na
open Tryz renaming prog->oa
set_option maxRecDepth 100000
set_option maxHeartbeats 0
structure Pq where
 bx:Nat
 bz:Nat
 v:Value
 l:List Ed
def Pq.has(p:Pq)(g:Nat):Prop:=g=p.bx\/g=p.bz\/p.v.ownBlock=some g
structure Bs where
 x:Value
 z:Value
 t:Value
 es:List nh
 n:Nat
def Nv(bw:Nat)(q:Bs)(g:Nat):Prop:=g=bw\/q.x.ownBlock=some g\/q.z.ownBlock=some g\/q.t.ownBlock=some g
abbrev E8(f:Pq->Nat)(ps:List Pq):List Value:=ps.map λp=>Value.pointer (some ⟨f p,0,none⟩)
structure WM(B:Nat)(S:Bb)(w:Fa)(bw:Nat)(q:Bs)(ps:List Pq):Prop where
 heap:w.heap[bw]? =some (ma #[Ma none 0 0,q.x,q.z,q.t,Ma none 0 0,Ia ka (q.n:Int)] 34 (0,0))
 wa:ua B S w
 sb:∀g,Nv bw q g->S g=none
 ox:Db w B 1 q.x ps.length (E8 (·.bx) ps)
 oz:Db w B 1 q.z ps.length (E8 (·.bz) ps)
 ot:Db w B 5 q.t q.es.length (q.es.flatMap Ha)
 qi:∀p∈ps,Pr B S w p.bx p.bz p.v p.l
 Cq:∀e∈q.es,Il w q.t e/\∀g,e.has g->B<=g/\S g=none/\¬Nv bw q g/\∀p∈ps,¬p.has g
 apart:∀i j (hi:i<ps.length) (hj:j<ps.length),i≠j->∀g,ps[i].has g->¬ps[j].has g
 base:∀p∈ps,∀g,p.has g->¬Nv bw q g
 bx:q.x.ownBlock≠some bw
 bz:q.z.ownBlock≠some bw
 bt:q.t.ownBlock≠some bw
 xz:∀g,q.x.ownBlock=some g->q.z.ownBlock≠some g/\q.t.ownBlock≠some g
 zt:∀g,q.z.ownBlock=some g->q.t.ownBlock≠some g
 low:B<=bw
 CA:ps.length<=5
theorem Pr.lt{B:Nat}{S:Bb}{w:Fa}{p:Pq}(h:Pr B S w p.bx p.bz p.v p.l){g:Nat}(hg:p.has g):g<w.heap.size:=by
 rcases hg with rfl|rfl|hg;.exact h.t.Qs
 .exact h.r.lt
 .exact(h.r.row.block g hg).2
section
variable{B:Nat}{S S':Bb}{w w':Fa}{bw:Nat}{q:Bs}{ps:List Pq}(h:WM B S w bw q ps)
include h
theorem WM.lt:bw<w.heap.size:=(Zg.1 h.heap).1
theorem WM.ln{g:Nat}(hg:Nv bw q g):B<=g/\g<w.heap.size:=by
 rcases hg with rfl|hg|hg|hg;.exact⟨h.low,h.lt⟩
 .exact h.ox.block g hg
 .exact h.oz.block g hg
 .exact h.ot.block g hg
theorem WM.cells:(w.cell? ⟨bw,1,none⟩=some q.x/\w.cell? ⟨bw,2,none⟩=some q.z)/\w.frozen? ⟨bw,1,none⟩=false/\w.frozen? ⟨bw,2,none⟩=false:=⟨⟨Ju w _ 1 _ _ (0,0) h.heap,Ju w _ 2 _ _ (0,0) h.heap⟩,Kd w _ 1 _ _ h.heap,Kd w _ 2 _ _ h.heap⟩
theorem WM.step{k:Nat}(hk:k<ps.length){v':Value}{l':List Ed}(hf:yd B (λj=>j=ps[k].bx\/j=ps[k].bz) S S' w w')(hp:Pr B S' w' ps[k].bx ps[k].bz v' l')(hv:v'=ps[k].v\/∀g,v'.ownBlock=some g->w.heap.size<=g):WM B S' w' bw q (ps.set k ⟨ps[k].bx,ps[k].bz,v',l'⟩):=by
 have r:=Zy hk;have K:∀g,Nv bw q g->¬(g=ps[k].bx\/g=ps[k].bz):=λg a x=>h.base _ r g (x.elim .inl λe=>.inr (.inl e)) a;have n:∀g,Nv bw q g->w'.heap[g]? =w.heap[g]? :=λg a=>hf.other g (h.ln a).2 (h.sb g a) (K g a);have l:∀g,(Pq.mk ps[k].bx ps[k].bz v' l').has g->ps[k].has g\/w.heap.size<=g:=λg a=>by
  rcases a with a|a|a;.exact .inl (.inl a)
  .exact .inl (.inr (.inl a))
  .exact hv.imp (λe=>.inr (.inr (by rw[<-e];exact a))) λe=>e g a
 have u:∀f:Pq->Nat,f ⟨ps[k].bx,ps[k].bz,v',l'⟩=f ps[k]->E8 f (ps.set k ⟨ps[k].bx,ps[k].bz,v',l'⟩)=E8 f ps:=λf e=>by
  unfold E8;rw[List.map_set,e];refine List.ext_getElem (by simp) λj s A=>?_;by_cases e:k=j;.subst e;rw[List.getElem_set_self];simp
  .rw[List.getElem_set_ne e]
 have m:∀p∈ps.set k ⟨ps[k].bx,ps[k].bz,v',l'⟩,p=⟨ps[k].bx,ps[k].bz,v',l'⟩\/∃j,∃b:j<ps.length,k≠j/\ps[j]=p:=λp d=>by
  obtain⟨j,b,rfl⟩:=Xv d;rw[Ve]at b;by_cases e:k=j;.subst e;exact .inl (List.getElem_set_self ..)
  .exact .inr ⟨j,b,e,(List.getElem_set_ne e ..).symm⟩
 refine⟨(n bw (.inl rfl)).trans h.heap,hf.wa,λg a=>hf.new g (h.ln a).2 (h.sb g a),?_,?_,h.ot.Cb hf.size λg _ e=>n g (.inr (.inr (.inr e))),λp d=>?_,λe L=>?_,λi j t b o g a c=>?_,λp d g a D=>?_,h.bx,h.bz,h.bt,h.xz,h.zt,h.low,by rw[Ve];exact h.CA⟩;.rw[u _ rfl,Ve];exact h.ox.Cb hf.size λg _ e=>n g (.inr (.inl e))
 .rw[u _ rfl,Ve];exact h.oz.Cb hf.size λg _ e=>n g (.inr (.inr (.inl e)))
 .rcases m p d with rfl|⟨j,b,e,rfl⟩;.exact hp
  .have C:∀g,ps[j].has g->¬(g=ps[k].bx\/g=ps[k].bz):=λg a x=>h.apart j k b hk (λJ=>e J.symm) g a (x.elim .inl λe=>.inr (.inl e));exact(h.qi _ (Zy b)).uc hf (C _ (.inl rfl)) (C _ (.inr (.inl rfl))) λg a=>C g (.inr (.inr a))
 .obtain⟨s,A⟩:=h.Cq e L;refine⟨s.Cb hf.size (λg a=>?_) λg a=>(s.ap g a).2,λg a=>?_⟩;.obtain⟨-,z,-,y⟩:=A g a;exact hf.other g (s.ap g a).1 z λx=>y _ r (x.elim .inl λe=>.inr (.inl e))
  .obtain⟨H,z,I,y⟩:=A g a;refine⟨H,hf.new g (s.ap g a).1 z,I,λp d G=>?_⟩;rcases m p d with rfl|⟨j,b,e,rfl⟩
   .rcases l g G with e|e;.exact y _ r e
    .have :=(s.ap g a).1;omega
   .exact y _ (Zy b) G
 .rw[Ve]at t b;by_cases E:k=i
  .subst E;rw[List.getElem_set_self]at a;rw[List.getElem_set_ne o]at c;rcases l g a with a|a;.exact h.apart k j t b o g a c
   .have :=(h.qi _ (Zy b)).lt c;omega
  .rw[List.getElem_set_ne E]at a;by_cases F:k=j
   .subst F;rw[List.getElem_set_self]at c;rcases l g c with c|c;.exact h.apart i k t b o g a c
    .have :=(h.qi _ (Zy t)).lt a;omega
   .rw[List.getElem_set_ne F]at c;exact h.apart i j t b o g a c
 .rcases m p d with rfl|⟨j,b,e,rfl⟩
  .rcases l g a with a|a;.exact h.base _ r g a D
   .have :=(h.ln D).2;omega
  .exact h.base _ (Zy b) g a D
theorem WM.frame(hf:Fr B S S' w w'):WM B S' w' bw q ps:=by have b:∀g,Nv bw q g->w'.heap[g]? =w.heap[g]? :=λg a=>hf.other g (h.ln a).2 (h.sb g a);refine⟨(b bw (.inl rfl)).trans h.heap,hf.wa,λg a=>hf.new g (h.ln a).2 (h.sb g a),h.ox.Cb hf.size λg _ e=>b g (.inr (.inl e)),h.oz.Cb hf.size λg _ e=>b g (.inr (.inr (.inl e))),h.ot.Cb hf.size λg _ e=>b g (.inr (.inr (.inr e))),λp i=>(h.qi p i).uc (hf.x λ_=>False) (λh=>h) (λh=>h) λ_ _ h=>h,λe f=>?_,h.apart,h.base,h.bx,h.bz,h.bt,h.xz,h.zt,h.low,h.CA⟩;obtain⟨c,d⟩:=h.Cq e f;exact⟨c.Cb hf.size (λg a=>hf.other g (c.ap g a).1 (d g a).2.1) λg a=>(c.ap g a).2,λg a=>⟨(d g a).1,hf.new g (c.ap g a).1 (d g a).2.1,(d g a).2.2⟩⟩
theorem WM.behind(hb:Ba w w'):WM B S w' bw q ps:=h.frame (Fr.xa h.wa hb)
theorem WM.book{l:Value}(hk:Rn B bw (Ma none 0 0) q.x q.z (Ma none 0 0) q.t q.es q.n l w w')(hl:∀g,l.ownBlock=some g->B<=g/\S g=none/\¬Nv bw q g/\∀p∈ps,¬p.has g)(hln:∀e∈q.es,∀g,e.has g->l.ownBlock≠some g):∃t x,WM B S w' bw ⟨q.x,q.z,t,q.es++[x],q.n+1⟩ ps/\yd B (λk=>Nv bw q k\/l.ownBlock=some k) S S w w':=by
 obtain⟨x,t,N,O,G,P,r⟩:=hk.book;have Q:=h.wa.le;have j:∀g,g<w.heap.size->¬Nv bw q g->l.ownBlock≠some g->w'.heap[g]? =w.heap[g]? :=λg a c d=>hk.block g a (λe=>c (.inl e)) (λe=>c (.inr (.inr (.inr e)))) d;have A:yd B (λk=>Nv bw q k\/l.ownBlock=some k) S S w w':=⟨hk.os,hk.tape,hk.output,hk.size,λg a _ E=>j g a (λe=>E (.inl e)) λe=>E (.inr e),h.wa.Cb hk.size λg u a=>j g (h.wa.lt a) (λe=>by rw[h.sb g e]at a;cases a) (λe=>by rw[(hl g e).2.1]at a;cases a),λ_ _ h=>h,λ_ _ h=>h⟩;have o:∀g,Nv bw ⟨q.x,q.z,t,q.es++[x],q.n+1⟩ g->Nv bw q g\/w.heap.size<=g:=λg a=>by
  rcases a with a|a|a|a;.exact .inl (.inl a)
  .exact .inl (.inr (.inl a))
  .exact .inl (.inr (.inr (.inl a)))
  .exact(r g a).imp (λe=>.inr (.inr (.inr e))) id
 have F:∀g,x.has g->B<=g/\S g=none/\¬Nv bw ⟨q.x,q.z,t,q.es++[x],q.n+1⟩ g/\∀p∈ps,¬p.has g:=λg a=>by
  have D:=(G.ap g a).2;rcases P g a with e|e
  .obtain⟨H,I,y,J⟩:=hl g e;exact⟨H,I,λb=>by
    rcases b with b|b|b|b;.exact y (.inl b)
    .exact y (.inr (.inl b))
    .exact y (.inr (.inr (.inl b)))
    .exact D b,J⟩
  .exact⟨by omega,h.wa.fresh e,λb=>by
    rcases b with b|b|b|b;.have :=h.lt;omega
    .have :=(h.ox.block g b).2;omega
    .have :=(h.oz.block g b).2;omega
    .exact D b,λp i M=>by have :=(h.qi p i).lt M;omega⟩
 have s:∀g,g<w.heap.size->l.ownBlock≠some g->g≠bw->q.t.ownBlock≠some g->w'.heap[g]? =w.heap[g]? :=λg c d K L=>hk.block g c K L d;have v:∀g,Nv bw q g->l.ownBlock≠some g:=λg a e=>(hl g e).2.2.1 a;refine⟨t,x,⟨N,A.wa,λg a=>(o g a).elim (h.sb g) h.wa.fresh,h.ox.Cb hk.size λg a e=>s g a (v g (.inr (.inl e))) (λf=>h.bx (f▸e)) (h.xz g e).2,h.oz.Cb hk.size λg a e=>s g a (v g (.inr (.inr (.inl e)))) (λf=>h.bz (f▸e)) (h.zt g e),?_,λp i=>?_,λe m=>?_,h.apart,λp i g a b=>?_,h.bx,h.bz,?_,λg a=>⟨(h.xz g a).1,λe=>?_⟩,λg a e=>?_,h.low,h.CA⟩,A⟩;.simpa using O
 .have C:∀g,p.has g->¬(Nv bw q g\/l.ownBlock=some g):=λg a e=>e.elim (h.base p i g a) λe=>(hl g e).2.2.2 p i a;exact(h.qi p i).uc A (C _ (.inl rfl)) (C _ (.inr (.inl rfl))) λg a=>C g (.inr (.inr a))
 .rcases Yc.1 m with m|m
  .obtain⟨c,d⟩:=h.Cq e m;refine⟨c.Cb hk.size (λg a=>j g (c.ap g a).1 (d g a).2.2.1 (hln e m g a)) λg a f=>?_,λg a=>⟨(d g a).1,(d g a).2.1,λb=>?_,(d g a).2.2.2⟩⟩
   .rcases r g f with f|f;.exact(c.ap g a).2 f
    .have :=(c.ap g a).1;omega
   .rcases o g b with b|b;.exact(d g a).2.2.1 b
    .have :=(c.ap g a).1;omega
  .rw[Y8.1 m];exact⟨G,F⟩
 .rcases o g b with b|b;.exact h.base p i g a b
  .have :=(h.qi p i).lt a;omega
 .intro e;rcases r bw e with e|e;.exact h.bt e
  .have :=h.lt;omega
 .rcases r g e with e|e;.exact(h.xz g a).2 e
  .have :=(h.ox.block g a).2;omega
 .rcases r g e with e|e;.exact h.zt g a e
  .have :=(h.oz.block g a).2;omega
theorem WM.more{w1 w2:Fa}{vx' vz':Value}{y:Pq}(hfew:ps.length<5)(hp:Pr B S w y.bx y.bz y.v y.l)(hfx:∀p∈ps,∀g,p.has g->¬y.has g)(hyb:∀g,y.has g->¬Nv bw q g)(hye:∀e∈q.es,∀g,e.has g->¬y.has g)(ho1:Db w1 B 1 vx' (ps.length+1) (E8 (·.bx) ps++[Qa (some ⟨y.bx,0,none⟩)]))(hg1:∀k,k<w.heap.size->q.x.ownBlock≠some k->k≠bw->w1.heap[k]? =w.heap[k]?)(hn1:∀g,vx'.ownBlock=some g->q.x.ownBlock=some g\/w.heap.size<=g)(hs1:w.heap.size<=w1.heap.size)(ho2:Db w2 B 1 vz' (ps.length+1) (E8 (·.bz) ps++[Qa (some ⟨y.bz,0,none⟩)]))(hg2:∀k,k<w1.heap.size->q.z.ownBlock≠some k->k≠bw->w2.heap[k]? =w1.heap[k]?)(hn2:∀g,vz'.ownBlock=some g->q.z.ownBlock=some g\/w1.heap.size<=g)(hs2:w1.heap.size<=w2.heap.size)(hh:w2.heap[bw]? =some (ma #[Ma none 0 0,vx',vz',q.t,Ma none 0 0,Ia ka (q.n:Int)] 34 (0,0)))(hos:w2.os=w.os)(hta:w2.tape=w.tape)(hou:w2.output=w.output):WM B S w2 bw ⟨vx',vz',q.t,q.es,q.n⟩ (ps++[y])/\yd B (Nv bw q) S S w w2:=by
 have N:=h.lt;have D:∀k,k<w.heap.size->q.x.ownBlock≠some k->q.z.ownBlock≠some k->k≠bw->w2.heap[k]? =w.heap[k]? :=λk d J K G=>(hg2 k (by omega) K G).trans (hg1 k d J G);have r:∀k,k<w.heap.size->¬Nv bw q k->w2.heap[k]? =w.heap[k]? :=λk d f=>D k d (λe=>f (.inr (.inl e))) (λe=>f (.inr (.inr (.inl e)))) λe=>f (.inl e);have s:yd B (Nv bw q) S S w w2:=⟨hos,hta,hou,Z2 hs1 hs2,λk d _ O=>r k d O,h.wa.Cb (Z2 hs1 hs2) λk t d=>r k (h.wa.lt d) λf=>(by rw[h.sb k f]at d;cases d),λ_ _ h=>h,λ_ _ h=>h⟩;have C:∀g,Nv bw ⟨vx',vz',q.t,q.es,q.n⟩ g->Nv bw q g\/w.heap.size<=g:=λg a=>by
  rcases a with a|a|a|a;.exact .inl (.inl a)
  .exact(hn1 g a).imp (λe=>.inr (.inl e)) id
  .rcases hn2 g a with e|e;.exact .inl (.inr (.inr (.inl e)))
   .exact .inr (by omega)
  .exact .inl (.inr (.inr (.inr a)))
 have o:∀p,p∈ps++[y]->Pr B S w p.bx p.bz p.v p.l/\∀g,p.has g->¬Nv bw q g:=λp b=>by
  rcases Yc.1 b with b|b;.exact⟨h.qi p b,h.base p b⟩
  .rw[Y8.1 b];exact⟨hp,hyb⟩
 refine⟨⟨hh,s.wa,λg a=>(C g a).elim (h.sb g) h.wa.fresh,?_,?_,h.ot.Cb (Z2 hs1 hs2) λg a e=>D g a (λc=>(h.xz g c).2 e) (λc=>h.zt g c e) λc=>h.bt (c▸e),λp b=>?_,λe H=>?_,?_,λp b g a f=>?_,?_,?_,h.bt,?_,?_,h.low,by rw[Zq];simp;omega⟩,s⟩
 .show Db w2 B 1 vx' _ _;unfold E8;rw[Zq,Xk];have :∀k,vx'.ownBlock=some k->k≠bw/\q.z.ownBlock≠some k:=λk d=>by
   rcases hn1 k d with e|e;.exact⟨λc=>h.bx (c▸e),(h.xz k e).1⟩
   .exact⟨by omega,λc=>by have :=(h.oz.block k c).2;omega⟩
  exact ho1.Cb hs2 λk d e=>hg2 k d (this k e).2 (this k e).1
 .show Db w2 B 1 vz' _ _;unfold E8;rw[Zq,Xk];exact ho2
 .exact(o p b).1.uc s ((o p b).2 _ (.inl rfl)) ((o p b).2 _ (.inr (.inl rfl))) λg a=>(o p b).2 _ (.inr (.inr a))
 .obtain⟨E,A⟩:=h.Cq e H;refine⟨E.Cb (Z2 hs1 hs2) (λg a=>r g (E.ap g a).1 (A g a).2.2.1) λg a=>(E.ap g a).2,λg a=>⟨(A g a).1,(A g a).2.1,λf=>?_,λp b hh=>?_⟩⟩
  .rcases C g f with f|f;.exact(A g a).2.2.1 f
   .have :=(E.ap g a).1;omega
  .rcases Yc.1 b with b|b;.exact(A g a).2.2.2 p b hh
   .rw[Y8.1 b]at hh;exact hye e H g a hh
 .intro i j L M I g a m;rw[Zq,List.length_singleton]at L M;by_cases F:i<ps.length
  .rw[List.getElem_append_left F]at a;by_cases u:j<ps.length;.rw[List.getElem_append_left u]at m;exact h.apart i j F u I g a m
   .rw[List.getElem_append_right (by omega)]at m;simp only[List.getElem_singleton]at m;exact hfx _ (Zy F) g a m
  .rw[List.getElem_append_right (by omega)]at a;simp only[List.getElem_singleton]at a;have u:j<ps.length:=by omega
   rw[List.getElem_append_left u]at m;exact hfx _ (Zy u) g m a
 .rcases C g f with e|e;.exact(o p b).2 g a e
  .have :=(o p b).1.lt a;omega
 .intro e;rcases hn1 bw e with e|e;.exact h.bx e
  .omega
 .intro e;rcases hn2 bw e with e|e;.exact h.bz e
  .omega
 .intro g a;refine⟨λe=>?_,λe=>?_⟩
  .rcases hn2 g e with e|e
   .rcases hn1 g a with c|c;.exact(h.xz g c).1 e
    .have :=(h.oz.block g e).2;omega
   .have :=(ho1.block g a).2;omega
  .rcases hn1 g a with c|c;.exact(h.xz g c).2 e
   .have :=(h.ot.block g e).2;omega
 .intro g a e;rcases hn2 g a with c|c;.exact h.zt g c e
  .have :=(h.ot.block g e).2;omega
end
end Go.Proofs.YtpfbdlnibdfcoaaGreatDoor
