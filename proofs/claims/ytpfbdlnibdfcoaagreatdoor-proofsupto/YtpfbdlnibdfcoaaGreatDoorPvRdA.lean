import Derived.Test.YtpfbdlnibdfcoaaGreatDoorPvNodB
import Derived.Test.YtpfbdlnibdfcoaaGreatDoorPvQuie
import Derived.Test.YtpfbdlnibdfcoaaGreatDoorPvBooA
namespace Go.Proofs.YtpfbdlnibdfcoaaGreatDoor
open Go.RowKit Tryz
open Value renaming int->Ia,string->La,slice->Ma,bool->Oa,pointer->Qa,agg->Sa,tuple->Wa,iface->ca,nilIface->da
open IntKind renaming i64->ka
open Obj renaming cells->ma
open Ending renaming returned->na
open Tryz renaming prog->oa
set_option maxRecDepth 100000
set_option maxHeartbeats 0
section
def ke(w:Fa)(v:Value)(n:Nat)(m:Da):Prop:=(v=Ma none 0 0/\n=0)\/∃g cap,v=Ma (some ⟨g,0,none⟩) n cap/\∀i,i<n->w.cell? ⟨g,i,none⟩=some (La m)
variable{w:Fa}{v:Value}{n:Nat}{m:Da}
theorem ke.shape(h:ke w v n m):∃p c,v=Ma p n c:=by rcases h with⟨rfl,rfl⟩|⟨g,cap,rfl,_⟩<;>exact⟨_,_,rfl⟩
variable{w':Fa}
theorem ke.Cb(h:ke w v n m)(hb:∀k,v.ownBlock=some k->w'.heap[k]? =w.heap[k]?):ke w' v n m:=by
 rcases h with h|⟨g,cap,rfl,h⟩;.exact .inl h
 .exact .inr ⟨g,cap,rfl,λi a=>(Zc (hb g rfl)).trans (h i a)⟩
def yT(m:Da)(n:Nat):List Value:=List.replicate n (La m)
variable{u:Value}
theorem rG{i:Nat}(h:(yT m n)[i]? =some u):u=La m:=by unfold yT at h;exact(List.mem_replicate.1 (Vw h)).2
theorem iL(m:Da)(a b:Nat):yT m a++yT m b=yT m (a+b):=List.replicate_append_replicate
theorem rC(m:Da)(n:Nat):∀u∈yT m n,u.oneCell'=true:=λu hu=>by rw[(List.mem_replicate.1 hu).2];rfl
variable{B:Nat}
theorem Db.Ip(h:Db w B 1 v n (yT m n)):ke w v n m:=by
 rcases h.2 with h|⟨g,cap,rfl,_,_,_,_,_,h⟩;.exact .inl h
 .refine .inr ⟨g,cap,rfl,λi a=>?_⟩;have :=h i (La m) (by unfold yT;rw[List.getElem?_replicate,Zo a]);rwa [Zf]at this
variable{j k:Nat}
theorem ke.append{x:Value}(h:ke w x j m)(hx:∀g,x.ownBlock=some g->g<w.heap.size)(hg:w.grownBy w' v.ownBlock)(hc:∀g,v.ownBlock=some g->∀i,w'.cell? ⟨g,i,none⟩=w.cell? ⟨g,i,none⟩\/∃u,n<=i/\(yT m k)[i-n]? =some u/\w'.cell? ⟨g,i,none⟩=some u):ke w' x j m:=by
 rcases h with h|⟨g,cap,rfl,h⟩;.exact .inl h
 .refine .inr ⟨g,cap,rfl,λi a=>?_⟩;by_cases b:v.ownBlock=some g
  .rcases hc g b i with e|⟨u,_,a2,a3⟩;.exact e.trans (h i a)
   .rw[a3,rG a2]
  .exact(Zc (hg.block g (hx g rfl) λe=>b e.symm)).trans (h i a)
structure zn(w1:Fa)(p:Option Addr)(n c:Nat)(m:Da)(k:Nat)(wr:Fa):Prop where
 grown:w1.grownBy wr (Value.slice p n c).ownBlock
 row:∀g,p=some ⟨g,0,none⟩->g<wr.heap.size/\wr.there g 0 c/\∀i,i<k->wr.cell? ⟨g,i,none⟩=some (La m)
variable{w1:Fa}{c:Nat}
theorem zn.next{g:Nat}{wr:Fa}(h:zn w1 (some ⟨g,0,none⟩) n c m k wr)(hk:k<n)(hc:n<=c):zn w1 (some ⟨g,0,none⟩) n c m (k+1) (wr.setCell ⟨g,k,none⟩ (La m)):=by
 obtain⟨j,b,l⟩:=h.row g rfl;refine⟨CL (a:=⟨g,k,none⟩) h.grown rfl _,λp e=>?_⟩;simp only[Xj,Addr.mk.injEq,and_true]at e;subst e;refine⟨by simpa using j,Bq b ⟨g,k,none⟩ (La m),λi q=>?_⟩;by_cases d:i=k;.subst d;have :=(b i (by omega)).1;rw[Zf]at this;obtain⟨u,o⟩:=X9.1 this;exact Ys _ _ _ o
 .rw[Zp _ _ _ _ (λe=>by have f:=Y5 Addr.off e;simp only at f;omega)];exact l i (by omega)
variable{p:Option Addr}{cs:List Value}
theorem zn.start(h:Db w1 B 1 (Ma p n c) n cs):zn w1 p n c m 0 w1:=by
 refine⟨⟨rfl,rfl,rfl,Za _,λ_ _ _=>rfl⟩,λg e=>?_⟩;subst e;rcases h.2 with⟨h,_⟩|⟨g',cap,e,h1,h2,h3,h4,h5,h6⟩;.cases h
 .simp only[Z3,Xj,Addr.mk.injEq,and_true,true_and]at e;obtain⟨rfl,rfl⟩:=e;rw[Nat.mul_one]at h5;exact⟨h2,h5,λi a=>by omega⟩
variable{lo:Nat}
theorem zn.own{wr:Fa}(h:zn w1 p n c m n wr)(ho:Db w1 lo 1 (Ma p n c) n cs):Db wr lo 1 (Ma p n c) n (yT m n):=by
 rcases ho.2 with⟨e,h0⟩|⟨g,cap,e,h1,h2,h3,h4,h5,h6⟩;.subst h0;rw[e];exact Db.nil _ _ _
 .simp only[Z3,true_and]at e;obtain⟨rfl,rfl⟩:=e;obtain⟨b,d,f⟩:=h.row g rfl;refine⟨by simp[yT],.inr ⟨g,c,rfl,h1,b,h3,h4,by rw[Nat.mul_one];exact d,λj u a=>?_⟩⟩;have i:=(Zw.1 a).1;rw[Zf,f j (by simpa[yT]using i),rG a]
structure Dl(w1:Fa)(l:Value)(m:Da)(a:Value)(j:Nat)(W:Fa):Prop where
 full:ke W a j m
 fresh:∀k,a.ownBlock=some k->(l.ownBlock=some k\/w1.heap.size<=k)/\k<W.heap.size
theorem Dl.Cb{w1:Fa}{l:Value}{m:Da}{a:Value}{j:Nat}{W w':Fa}(h:Dl w1 l m a j W)(hs:W.heap.size<=w'.heap.size)(hb:∀k,a.ownBlock=some k->w'.heap[k]? =W.heap[k]?):Dl w1 l m a j w':=⟨h.full.Cb hb,λb hb'=>⟨(h.fresh b hb').1,Zm (h.fresh b hb').2 hs⟩⟩
variable{l a:Value}{xb:Nat}{W:Fa}{o:Obj}
theorem Dl.more{idx:Nat}(h:Dl w1 l m a j W)(hn:¬a.ownBlock=some xb)(hg:(W.alloc o).grownBy w' l.ownBlock)(hc:∀g,l.ownBlock=some g->∀i,w'.cell? ⟨g,i,none⟩=(W.alloc o).cell? ⟨g,i,none⟩\/∃u,n<=i/\(yT m k)[i-n]? =some u/\w'.cell? ⟨g,i,none⟩=some u):Dl w1 l m a j (w'.setCell ⟨xb,idx,none⟩ u):=by have c:Dl w1 l m a j (W.alloc o):=h.Cb (by simp) λk d=>Z0 _ _ _ (h.fresh k d).2;have p:Dl w1 l m a j w':=⟨c.full.append (λg hg=>(c.fresh g hg).2) hg hc,λb f=>⟨(c.fresh b f).1,Zm (c.fresh b f).2 hg.size⟩⟩;exact p.Cb (by simp) λk d=>Zd _ _ _ _ λe=>hn (by rw[d];exact Y5 some e)
structure an(w1:Fa)(lo:Nat)(l:Value)(n xb:Nat)(m:Da)(a b c:Value)(W:Fa):Prop where
 grown:w1.grownBy W l.ownBlock
 own:Db W lo 1 l n (yT m n)
 x:Lb W xb [l,a,b,c,La m]
theorem an.more{b c:Value}{idx:Nat}(h:an w1 lo l n xb m a b c W)(hx:w1.heap.size<=xb)(hl:∀k,l.ownBlock=some k->k<w1.heap.size)(hi:idx<5)(hO:Db w' lo 1 u (n+j) (yT m n++yT m j))(hO2:Db w' lo 1 l n (yT m n))(hg:(W.alloc o).grownBy w' l.ownBlock)(hf:∀k,u.ownBlock=some k->l.ownBlock=some k\/(W.alloc o).heap.size<=k):w1.grownBy (w'.setCell ⟨xb,idx,none⟩ u) l.ownBlock/\Db (w'.setCell ⟨xb,idx,none⟩ u) lo 1 l n (yT m n)/\Lb (w'.setCell ⟨xb,idx,none⟩ u) xb (([l,a,b,c,La m]:List Value).set idx u)/\Lb w' xb [l,a,b,c,La m]/\Dl w1 l m u (n+j) (w'.setCell ⟨xb,idx,none⟩ u)/\¬u.ownBlock=some xb:=by
 have s:=h.grown.size;have q:=hg.size;rw[Yz]at q hf;have f:∀k,w1.heap.size<=k->l.ownBlock≠some k:=λk d e=>by have :=hl k e;omega
 have p:=h.x.Cb ((hg.block xb (by have :=h.x.1;simp;omega) (λe=>f xb hx e.symm)).trans (Z0 _ _ _ h.x.1)) (by omega);have r:=GJ hg;rw[iL]at hO;have i:¬u.ownBlock=some xb:=λe=>by
  rcases hf xb e with e1|e1;.exact f xb hx e1
  .have :=h.x.1;omega
 have g:∀k,k≠xb->(w'.setCell ⟨xb,idx,none⟩ u).heap[k]? =w'.heap[k]? :=λk d=>Zd _ _ _ _ d;refine⟨AK (a:=⟨xb,idx,none⟩) (rE h.grown r) hx u,hO2.Cb (by simp) (λk _ d=>g k (λe=>f xb hx (e▸d))),p.setAt idx u (by simpa using hi),p,⟨hO.Ip.Cb (λk d=>g k (λe=>i (e▸d))),λk d=>⟨?_,by simpa using(hO.block k d).2⟩⟩,i⟩;rcases hf k d with e|e;.exact .inl e
 .exact .inr (by omega)
structure Il(w:Fa)(v:Value)(e:nh):Prop where
 fl:ke w e.l e.n e.m
 fa:ke w e.a (e.n+1) e.m
 fb:ke w e.b (e.n+2) e.m
 fc:ke w e.c (e.n+3) e.m
 hn:e.n<=1048576
 ap:∀k,e.has k->k<w.heap.size/\v.ownBlock≠some k
theorem Il.Cb{w w':Fa}{v v':Value}{e:nh}(h:Il w v e)(hs:w.heap.size<=w'.heap.size)(hb:∀k,e.has k->w'.heap[k]? =w.heap[k]?)(hv:∀k,e.has k->v'.ownBlock≠some k):Il w' v' e:=⟨h.fl.Cb λk hk=>hb k (.inl hk),h.fa.Cb λk hk=>hb k (.inr (.inl hk)),h.fb.Cb λk hk=>hb k (.inr (.inr (.inl hk))),h.fc.Cb λk hk=>hb k (.inr (.inr (.inr hk))),h.hn,λk hk=>⟨Zm (h.ap k hk).1 hs,hv k hk⟩⟩
structure Rn(B bw:Nat)(a0 a1 a2 a4 vt:Value)(es:List nh)(N:Nat)(l:Value)(w w':Fa):Prop where
 os:w'.os=w.os
 tape:w'.tape=w.tape
 output:w'.output=w.output
 size:w.heap.size<=w'.heap.size
 block:∀k,k<w.heap.size->k≠bw->vt.ownBlock≠some k->l.ownBlock≠some k->w'.heap[k]? =w.heap[k]?
 book:∃x vt',w'.heap[bw]? =some (ma #[a0,a1,a2,vt',a4,Ia ka ((N+1:Nat):Int)] 34 (0,0))/\Db w' B 5 vt' (es.length+1) (es.flatMap Ha++Ha x)/\Il w' vt' x/\(∀k,x.has k->l.ownBlock=some k\/w.heap.size<=k)/\∀k,vt'.ownBlock=some k->vt.ownBlock=some k\/w.heap.size<=k
theorem YM{bw N:Nat}{a0 a1 a2 a4 vt b c v2:Value}{es:List nh}{w0:Fa}(hh:w.heap[bw]? =some (ma #[a0,a1,a2,vt,a4,Ia ka (N:Int)] 34 (0,0)))(hv:Db w B 5 vt es.length (es.flatMap Ha))(hvb:vt.ownBlock≠some bw)(hlb:∀g,l.ownBlock=some g->g≠bw/\vt.ownBlock≠some g/\g<w.heap.size)(hn:n<=1048576)(hw0:w0=w.setCell ⟨bw,5,none⟩ (Ia ka ((N+1:Nat):Int)))(hb1:Ba w0 w1)(hS:an w1 lo l n xb m a b c W)(L1:Dl w1 l m a (n+1) W)(L2:Dl w1 l m b (n+2) W)(L3:Dl w1 l m c (n+3) W)(hO:Db w' B 5 v2 (es.length+1) (es.flatMap Ha++Ha ⟨l,a,b,c,n,m⟩))(hg:(W.alloc o).grownBy w' vt.ownBlock)(hf:∀k,v2.ownBlock=some k->vt.ownBlock=some k\/(W.alloc o).heap.size<=k):Rn B bw a0 a1 a2 a4 vt es N l w (w'.setCell ⟨bw,3,none⟩ v2):=by
 have E:=(Zg.1 hh).1;have F:w0.heap.size=w.heap.size:=by rw[hw0];simp
 have G:=hb1.size;have H:=hS.grown.size;have z:=hg.size;rw[Yz]at z hf;have C:w0.heap[bw]? =some (ma #[a0,a1,a2,vt,a4,Ia ka ((N+1:Nat):Int)] 34 (0,0)):=by rw[hw0];exact De (cs:=[a0,a1,a2,vt,a4,Ia ka (N:Int)]) hh 5 _
 have v:∀k,k<w.heap.size->k≠bw->vt.ownBlock≠some k->l.ownBlock≠some k->w'.heap[k]? =w.heap[k]? :=λk d f q i=>by rw[hg.block k (by simp;omega) λe=>q e.symm,Z0 _ _ _ (by omega),hS.grown.block k (by omega) λe=>i e.symm,hb1.block k (by omega),hw0];exact Zd _ _ _ _ f
 have u:w'.heap[bw]? =some (ma #[a0,a1,a2,vt,a4,Ia ka ((N+1:Nat):Int)] 34 (0,0)):=by rw[hg.block bw (by simp;omega) λe=>hvb e.symm,Z0 _ _ _ (by omega),hS.grown.block bw (by omega) λe=>(hlb bw e.symm).1 rfl,hb1.block bw (by omega)];exact C
 have p:∀k,k≠bw->(w'.setCell ⟨bw,3,none⟩ v2).heap[k]? =w'.heap[k]? :=λk d=>Zd _ _ _ _ d;have y:v2.ownBlock≠some bw:=λe=>by
  rcases hf bw e with e|e;.exact hvb e
  .omega
 have r:∀k,(⟨l,a,b,c,n,m⟩:nh).has k->(l.ownBlock=some k\/w.heap.size<=k)/\k<W.heap.size:=λk d=>by
  have t:∀x j,Dl w1 l m x j W->x.ownBlock=some k->(l.ownBlock=some k\/w.heap.size<=k)/\k<W.heap.size:=λx j L h=>⟨(L.fresh k h).1.imp id λh=>by omega,(L.fresh k h).2⟩;rcases d with d|d|d|d;.exact⟨.inl d,(hS.own.block k d).2⟩
  .exact t _ _ L1 d
  .exact t _ _ L2 d
  .exact t _ _ L3 d
 have s:∀k,(⟨l,a,b,c,n,m⟩:nh).has k->k≠bw/\vt.ownBlock≠some k/\v2.ownBlock≠some k:=λk d=>by
  obtain⟨f,q⟩:=r k d;have i:k≠bw/\vt.ownBlock≠some k:=by
   rcases f with f|f;.exact⟨(hlb k f).1,(hlb k f).2.1⟩
   .exact⟨by omega,λe=>by have :=(hv.block k e).2;omega⟩
  refine⟨i.1,i.2,λe=>?_⟩;rcases hf k e with e|e;.exact i.2 e
  .omega
 have d:∀k,(⟨l,a,b,c,n,m⟩:nh).has k->(w'.setCell ⟨bw,3,none⟩ v2).heap[k]? =W.heap[k]? :=λk d=>by rw[p k (s k d).1,hg.block k (by have :=(r k d).2;simp;omega) λe=>(s k d).2.1 e.symm,Z0 _ _ _ (r k d).2]
 refine⟨?_,?_,?_,by simp;omega,λk f q i D=>(p k q).trans (v k f q i D),⟨l,a,b,c,n,m⟩,v2,De (cs:=[a0,a1,a2,vt,a4,Ia ka ((N+1:Nat):Int)]) u 3 v2,?_,?_,λk h=>(r k h).1,λk e=>?_⟩;.show w'.os=w.os;rw[hg.os,show(W.alloc o).os=W.os from rfl,hS.grown.os,hb1.os,hw0];rfl
 .show w'.tape=w.tape;rw[hg.tape,show(W.alloc o).tape=W.tape from rfl,hS.grown.tape,hb1.tape,hw0];rfl
 .show w'.output=w.output;rw[hg.output,show(W.alloc o).output=W.output from rfl,hS.grown.output,hb1.output,hw0];rfl
 .exact hO.Cb (by simp) λk _ e=>p k λA=>y (A▸e)
 .exact⟨hS.own.Ip.Cb λk h=>d k (.inl h),L1.full.Cb λk h=>d k (.inr (.inl h)),L2.full.Cb λk h=>d k (.inr (.inr (.inl h))),L3.full.Cb λk h=>d k (.inr (.inr (.inr h))),hn,λk h=>⟨by have :=(r k h).2;simp;omega,(s k h).2.2⟩⟩
 .rcases hf k e with e|e;.exact .inl e
  .exact .inr (by omega)
end
section
theorem zL(l:List Nat):Hd l=Nk l\/(1000000000<=Hd l/\1000000000<=Nk l):=by
 have b:∀(l:List Nat) (n m:Nat),n=m\/(1000000000<=n/\1000000000<=m)->l.foldl (λn x=>if n<1000000000 then 256*n+x else n) n=l.foldl (λn x=>n*256+x) m\/(1000000000<=l.foldl (λn x=>if n<1000000000 then 256*n+x else n) n/\1000000000<=l.foldl (λn x=>n*256+x) m):=by
  intro l;induction l with
  |nil=>intro n m h;exact h
  |cons x l ih=>
   intro n m h;rw[X6,X6];apply ih;rcases h with rfl|⟨h1,h2⟩
   .by_cases a:n<1000000000;.rw[Zo a];omega
    .rw[Zj a];omega
   .rw[Zj (by omega)];omega
 exact b l 0 0 (.inl rfl)
def Eu(l:List Nat)(at_ end_:Nat):Nat:=let r:=Ak l at_ end_
 if r.2≠0 then r.2
 else if end_-(at_+r.1.2.2)<r.1.2.1 then 2
 else if r.1.1=false/\Kh ((l.drop (at_+r.1.2.2)).take r.1.2.1)≠(l.drop at_).take (r.1.2.2+r.1.2.1)then 3
 else 0
variable{l:List Nat}{at_ end_:Nat}
theorem qv{j:Nat}(hj:at_+j<end_)(he:end_<=l.length):((l.take end_).drop at_)[j]! =l[at_+j]! :=by rw[Z9 _ j (by rw[Yi,Zx];omega),Z9 l _ (by omega),Vt,Vu]
variable{n:Nat}
theorem JQ{a:Nat}(h:at_+a+n<=end_):(((l.take end_).drop at_).drop a).take n=(l.drop (at_+a)).take n:=by rw[Jt,List.drop_take,Jb,Vf (by omega)]
theorem ko{z e:Nat}{mc:Bool}(h:Ak l at_ end_=((mc,n,z),e)):Eu l at_ end_=if e≠0 then e else if end_-(at_+z)<n then 2 else if mc=false/\Kh ((l.drop (at_+z)).take n)≠(l.drop at_).take (z+n)then 3 else 0:=by unfold Eu;rw[h]
theorem oB(h:at_<l.length):(l.drop at_).take (1+n)=l[at_]! ::(l.drop (at_+1)).take n:=by rw[Yv h,J3 1 n,Y7,Z9 l at_ h]
theorem nT{b base k:Nat}{mc:Bool}(he:end_<=l.length)(h0:at_<end_)(hb:l[at_]! =b)(hB:(base=192/\mc=true/\192<=b)\/(base=128/\mc=false/\128<=b/\b<192))(hb8:b<256)(hk:b-base=k)(h55:k<=55):Ny ((l.take end_).drop at_)=if(if end_-(at_+1)<k then 2 else if mc=false/\Kh ((l.drop (at_+1)).take k)≠(l.drop at_).take (1+k)then 3 else 0)=0 then .ok (mc,1,k)else .error (if end_-(at_+1)<k then 2 else if mc=false/\Kh ((l.drop (at_+1)).take k)≠(l.drop at_).take (1+k)then 3 else 0):=by
 have o:((l.take end_).drop at_).length=end_-at_:=by rw[Yi,Zx];omega
 have d:((l.take end_).drop at_)[0]! =b:=by rw[qv (j:=0) (by omega) he,V0,hb]
 unfold Ny;rw[Zj (by omega),d,Zj (by omega)];rcases hB with⟨rfl,rfl,h1⟩|⟨rfl,rfl,h1,h2⟩
 .rw[Zj (by omega),Cv (by rw[d];omega),d,o,hk];by_cases f:end_-at_-1<k
  .have a:end_-(at_+1)<k:=by omega
   rw[Zo f,Zo a];simp
  .have a:¬end_-(at_+1)<k:=by omega
   rw[Zj f,Zj a];simp
 .rw[Zo h2,Cv (by rw[d];omega),d,o,hk];by_cases f:end_-at_-1<k
  .have a:end_-(at_+1)<k:=by omega
   rw[Zo f,Zo a];simp
  .have a:¬end_-(at_+1)<k:=by omega
   rw[Zj f,Zj a];simp only;have m:((l.drop (at_+1)).take k).length=k:=by rw[Zx,Yi];omega
   have g:=oB (l:=l) (at_:=at_) (n:=k) (by omega);rw[hb]at g;by_cases c:k=1/\((l.take end_).drop at_)[1]! <128
   .rw[Zo c];have q:((l.drop (at_+1)).take k)[0]! =((l.take end_).drop at_)[1]! :=by rw[qv (j:=1) (by omega) he,Z9 _ 0 (by omega),Z9 l _ (by omega),Vu,Vt]
    have e:Kh ((l.drop (at_+1)).take k)≠(l.drop at_).take (1+k):=by rw[g];unfold Kh;rw[Zo ⟨by rw[m];exact c.1,by rw[q];exact c.2⟩];intro h;have :=Y5 List.length h;simp only[Xi,Zu]at this;omega
    simp[e]
   .rw[Zj c];have e:Kh ((l.drop (at_+1)).take k)=(l.drop at_).take (1+k):=by
     rw[g];unfold Kh K4;rw[m,Zj,Zo h55]
     .have i:(128+k)%256=b:=by omega
      rw[i];rfl
     .rintro⟨r,p⟩;refine c ⟨r,?_⟩;rw[qv (j:=1) (by omega) he];rw[Z9 _ 0 (by omega),Vu,Vt]at p;rw[Z9 l _ (by omega)];simpa using p
    simp[e]
theorem uJ(hb:∀x∈l,x<256){b k:Nat}(h1:128<=b)(h2:b<192)(hbb:l[at_]! =b)(hk:b-128=k)(h55:55<k)(hn:Nk ((l.drop (at_+1)).take (k-55))=n)(hn55:55<n)(hz:l[at_+1]! ≠0)(hr:at_+(k-54)+n<=l.length):Kh ((l.drop (at_+(k-54))).take n)=(l.drop at_).take (k-54+n):=by
 have d:((l.drop (at_+(k-54))).take n).length=n:=by rw[Zx,Yi];omega
 have a:((l.drop (at_+1)).take (k-55)).length=k-55:=by rw[Zx,Yi];omega
 have c:G4 n=(l.drop (at_+1)).take (k-55):=by rw[<-hn];refine jw _ (λx e=>hb x (Yu (Y4 e))) (by omega) (λ_=>?_);rw[Z9 _ 0 (by omega),Vu,Vt,<-Z9 l _ (by omega)];simpa using hz
 unfold Kh K4;rw[d,Zj (by omega),Zj (by omega),c,a,show(128+55+(k-55))%256=b by omega];rw[show k-54+n=1+((k-55)+n)by omega,oB (by omega),hbb,Vh];refine Y5 (List.cons b) ?_;rw[List.take_add,Jt,show at_+1+(k-55)=at_+(k-54)by omega]
theorem vH(hb:∀x∈l,x<256)(he:end_<=l.length)(hl:l.length<=1000000):Ny ((l.take end_).drop at_)=if Eu l at_ end_=0 then .ok ((Ak l at_ end_).1.1,(Ak l at_ end_).1.2.2,(Ak l at_ end_).1.2.1)else .error (Eu l at_ end_):=by
 have S:((l.take end_).drop at_).length=end_-at_:=by rw[Yi,Zx];omega
 by_cases v:end_<=at_
 .have H:Ak l at_ end_=((false,0,0),2):=by unfold Ak;rw[Zo v]
  have R:=ko H;rw[Zo (by omega)]at R;rw[R,H];unfold Ny;rw[Zo (by omega)];simp
 .obtain⟨b,e⟩:=nm l[at_]!;have I:b<256:=by rw[<-e,Z9 l at_ (by omega)];exact hb _ (Zy _)
  have s:((l.take end_).drop at_)[0]! =b:=by rw[qv (j:=0) (by omega) he,V0,e]
  by_cases d:b<128
  .have H:Ak l at_ end_=((false,1,0),0):=by unfold Ak;rw[Zj v,e,Zo d]
   have R:=ko H;have V:(l.drop at_).take (0+1)=[b]:=by have :=oB (l:=l) (at_:=at_) (n:=0) (by omega);rw[e]at this;simpa using this
   have W:Kh ((l.drop (at_+0)).take 1)=(l.drop at_).take (0+1):=by rw[V0,show(l.drop at_).take 1=(l.drop at_).take (0+1)from rfl,V];unfold Kh;rw[Zo ⟨rfl,by simpa using d⟩];rfl
   have Q:¬end_-(at_+0)<1:=by omega
   have Y:¬(false=false/\Kh ((l.drop (at_+0)).take 1)≠(l.drop at_).take (0+1)):=λh=>h.2 W;rw[Zj (by omega),Zj Q,Zj Y]at R;rw[R,H];unfold Ny;rw[Zj (by omega),s,Zo d];simp
  .obtain⟨t,a⟩:=nm ((if 192<=b then 192 else 128));obtain⟨k,r⟩:=nm (b-t);obtain⟨f,m⟩:=nm (decide (192<=b));have D:(t=192/\f=true/\192<=b)\/(t=128/\f=false/\128<=b/\b<192):=by
    rw[<-m];by_cases h:192<=b;.rw[Zo h]at a;exact .inl ⟨a.symm,Z5 h,h⟩
    .rw[Zj h]at a;exact .inr ⟨a.symm,Zt h,by omega,by omega⟩
   by_cases o:k<=55
   .have H:Ak l at_ end_=((f,k,1),0):=by unfold Ak;rw[Zj v,e,Zj d,a,r,Zo o,m]
    have R:=ko H;rw[Zj (by omega)]at R;rw[R,H];exact nT he (by omega) e D I r o
   .have K:(((l.take end_).drop at_).drop 1).take (k-55)=((l.take end_).drop (at_+1)).take (k-55):=by rw[Jt]
    have B:Ny ((l.take end_).drop at_)=if(if end_-at_<k-54 then 2 else if((l.take end_).drop at_)[1]! =0\/Nk ((((l.take end_).drop at_).drop 1).take (k-55))<=55 then 3 else if end_-at_-(k-54)<Nk ((((l.take end_).drop at_).drop 1).take (k-55))then 2 else 0)=0 then .ok (f,k-54,Nk ((((l.take end_).drop at_).drop 1).take (k-55)))else .error (if end_-at_<k-54 then 2 else if((l.take end_).drop at_)[1]! =0\/Nk ((((l.take end_).drop at_).drop 1).take (k-55))<=55 then 3 else if end_-at_-(k-54)<Nk ((((l.take end_).drop at_).drop 1).take (k-55))then 2 else 0):=by
     unfold Ny;rw[Zj (by omega),s,Zj d];generalize hX:(l.take end_).drop at_=X at S s;generalize hNN:Nk ((X.drop 1).take (k-55))=N;generalize w:X[1]! =q;have T:∀u,b-u=k->Ad X u=if end_-at_<k-54 then .error false else if q=0\/N<=55 then .error true else if end_-at_-(k-54)<N then .error false else .ok (k-54,N):=λu C=>by rw[EC (by rw[s,C];exact o),s,C,S,hNN,w]
     rcases D with⟨rfl,rfl,h1⟩|⟨rfl,rfl,h1,h2⟩
     .rw[Zj (by omega),T 192 r];by_cases g:end_-at_<k-54;.simp[g]
      .by_cases i:q=0\/N<=55;.simp[g,i]
       .by_cases p:end_-at_-(k-54)<N;.simp[g,i,p]
        .simp[g,i,p]
     .rw[Zo h2,T 128 r];by_cases g:end_-at_<k-54;.simp[g]
      .by_cases i:q=0\/N<=55;.simp[g,i]
       .have U:N≠1:=λh=>i (.inr (by omega));by_cases p:end_-at_-(k-54)<N;.simp[g,i,p]
        .simp[g,i,p,U]
    rw[B];clear B K;by_cases g:end_-at_<k-54
    .have H:Ak l at_ end_=((f,k,k-54),2):=by unfold Ak;rw[Zj v,e,Zj d,a,r,Zj o,Zo (by omega),m]
     have R:=ko H;rw[Zo (by omega)]at R;rw[R,H,Zo g];simp
    .have hcut:(((l.take end_).drop at_).drop 1).take (k-55)=(l.drop (at_+1)).take (k-55):=JQ (by omega);have L:((l.take end_).drop at_)[1]! =l[at_+1]! :=qv (j:=1) (by omega) he;rw[hcut,L,Zj g];have J:=zL ((l.drop (at_+1)).take (k-55));obtain⟨n,G⟩:=nm (Nk ((l.drop (at_+1)).take (k-55)));obtain⟨c,E⟩:=nm (Hd ((l.drop (at_+1)).take (k-55)));obtain⟨q,w⟩:=nm (l[at_+1]!);rw[G,E]at J;rw[G,w];have A:¬end_<at_+(k-54):=by omega
     by_cases i:q=0\/n<=55
     .have y:q=0\/c<=55:=by omega
      have H:Ak l at_ end_=((f,c,k-54),3):=by unfold Ak;rw[Zj v,e,Zj d,a,r,Zj o,Zj A,w,E,Zo y,m]
      have R:=ko H;rw[Zo (by omega)]at R;rw[R,H,Zo i];simp
     .have y:¬(q=0\/c<=55):=by omega
      have H:Ak l at_ end_=((f,c,k-54),0):=by unfold Ak;rw[Zj v,e,Zj d,a,r,Zj o,Zj A,w,E,Zj y,m]
      have R:=ko H;rw[Zj (by omega)]at R;rw[Zj i];by_cases p:end_-at_-(k-54)<n
      .have z:end_-(at_+(k-54))<c:=by omega
       rw[Zo z]at R;rw[R,H,Zo p];simp
      .have F:c=n:=by omega
       have z:¬end_-(at_+(k-54))<c:=by omega
       subst F;have P:¬(f=false/\Kh ((l.drop (at_+(k-54))).take c)≠(l.drop at_).take (k-54+c)):=by
        rintro⟨M,O⟩;rcases D with⟨_,h,_⟩|⟨hb1,_,h1,h2⟩;.rw[M]at h;cases h
        .subst hb1;exact O (uJ hb h1 h2 e r (by omega) G (by omega) (by rw[w];omega) (by omega))
       rw[Zj z,Zj P]at R;rw[R,H,Zj p]
end
section
abbrev Hb:Value:=Sa #[Oa false,La ⟨#[]⟩,Ma none 0 0,Ia ka 0,Ia ka 0]
def Ar(w:Fa)(b j:Nat)(v:Value):Prop:=w.cell? ⟨b,j,none⟩=some v/\w.frozen? ⟨b,j,none⟩=false
variable{w:Fa}
theorem Lb.Ch{b:Nat}{v0 v1 v2 v3 v4:Value}(h:Lb w b [v0,v1,v2,v3,v4]):Ar w b 0 v0/\Ar w b 1 v1/\Ar w b 2 v2/\Ar w b 3 v3/\Ar w b 4 v4:=⟨h.2 0 _ rfl,h.2 1 _ rfl,h.2 2 _ rfl,h.2 3 _ rfl,h.2 4 _ rfl⟩
theorem Lb.four{b:Nat}{v0 v1 v2 v3:Value}(h:Lb w b [v0,v1,v2,v3]):Ar w b 0 v0/\Ar w b 1 v1/\Ar w b 2 v2/\Ar w b 3 v3:=⟨h.2 0 _ rfl,h.2 1 _ rfl,h.2 2 _ rfl,h.2 3 _ rfl⟩
structure ff(w:Fa)(at_ hb:Nat)(l:Bool)(N Z:Nat)(w2:Fa):Prop where
 below:Ba w w2
 r0:Lb w2 w.heap.size [Oa false,La ⟨#[]⟩,Ma none 0 0,Ia ka 0,Ia ka 0]
 r1:Lb w2 (w.heap.size+1) [Ia ka 0,Ia ka 0,Ia ka 0,Ia ka 0]
 x:Lb w2 (w.heap.size+2) [Oa false,La ⟨#[]⟩,Ma none 0 0,Ia ka (at_:Int),Ia ka 0]
 h:Lb w2 hb [Oa l,Ia ka (N:Int),Ia ka (Z:Int)]
 hb:w.heap.size+3<=hb
variable{at_ hb N Z:Nat}{l:Bool}
theorem ff.step{w2 w3:Fa}(h:ff w at_ hb l N Z w2)(hB:Ba w2 w3):ff w at_ hb l N Z w3:=⟨Below.behind h.below hB,h.r0.below hB,h.r1.below hB,h.x.below hB,h.h.below hB,h.hb⟩
theorem ff.ne{W:Fa}(h:ff w at_ hb l N Z W):¬hb=w.heap.size/\¬hb=w.heap.size+1/\¬hb=w.heap.size+2:=by have :=h.hb;omega
theorem ff.cells{w2 W:Fa}(h:ff w at_ hb l N Z w2)(hS:Ba w2 W):W.cell? ⟨hb,0,none⟩=some (Oa l)/\W.cell? ⟨hb,1,none⟩=some (Ia ka (N:Int)):=⟨((h.step hS).h.2 0 _ rfl).1,((h.step hS).h.2 1 _ rfl).1⟩
theorem ff.start{w1:Fa}(hb1:Below (((w.alloc (ma #[Oa false,La ⟨#[]⟩,Ma none 0 0,Ia ka 0,Ia ka 0] 152)).alloc (ma #[Ia ka 0,Ia ka 0,Ia ka 0,Ia ka 0] 91)).alloc (ma #[Oa false,La ⟨#[]⟩,Ma none 0 0,Ia ka (at_:Int),Ia ka 0] 152)).heap.size (((w.alloc (ma #[Oa false,La ⟨#[]⟩,Ma none 0 0,Ia ka 0,Ia ka 0] 152)).alloc (ma #[Ia ka 0,Ia ka 0,Ia ka 0,Ia ka 0] 91)).alloc (ma #[Oa false,La ⟨#[]⟩,Ma none 0 0,Ia ka (at_:Int),Ia ka 0] 152)) w1):ff w at_ w1.heap.size l N Z (w1.alloc (ma #[Oa l,Ia ka (N:Int),Ia ka (Z:Int)] 277)):=by
 have b:=hb1.size;simp only[Yz]at b;have a:Ba w1 (w1.alloc (ma #[Oa l,Ia ka (N:Int),Ia ka (Z:Int)] 277)):=(Zb _ _).alloc (Za _) _;refine⟨Below.behind (Below.behind ((((Zb _ _).alloc (Za _) _).alloc (by simp) _).alloc (by simp;omega) _) hb1) a,((((Lb.fresh w [Oa false,La ⟨#[]⟩,Ma none 0 0,Ia ka 0,Ia ka 0] _).alloc _).alloc _).below hb1).below a,?_,?_,?_,by omega⟩;.have :=(((Lb.fresh (w.alloc (ma #[Oa false,La ⟨#[]⟩,Ma none 0 0,Ia ka 0,Ia ka 0] 152)) [Ia ka 0,Ia ka 0,Ia ka 0,Ia ka 0] 91).alloc _).below hb1).below a;simpa using this
 .have :=((Lb.fresh ((w.alloc (ma #[Oa false,La ⟨#[]⟩,Ma none 0 0,Ia ka 0,Ia ka 0] 152)).alloc (ma #[Ia ka 0,Ia ka 0,Ia ka 0,Ia ka 0] 91)) [Oa false,La ⟨#[]⟩,Ma none 0 0,Ia ka (at_:Int),Ia ka 0] 152).below hb1).below a;simpa using this
 .exact Lb.fresh w1 [Oa l,Ia ka (N:Int),Ia ka (Z:Int)] _
theorem MH(s:Da)(at_ end_ deep:Nat)(w:Fa)(l:Bool)(N Z E:Nat)(hE:0<E)(hH:∀W,Calls oa 173 #[La s,Ia ka (at_:Int),Ia ka (end_:Int)] W λe w'=>e=na (E2 l N Z E)/\Ba W w'):Calls oa 129 #[La s,Ia ka (at_:Int),Ia ka (end_:Int),Ia ka (deep:Int)] w (Hp (Wa #[Hb,Ki E 0 0 at_]) w):=by
 have y:((E:Int)==0)=false:=by simp;omega
 have z:((E:Int) != 0)=true:=by simp;omega
 have g:=Hq hH;clear hH hE;go_enter func129,ntmps129;go_wp2_with fail
 refine(g _).mono ?_;rintro e f ⟨rfl,c⟩;have b:=ff.start (l:=l) (N:=N) (Z:=Z) c;clear c;go_wp2_with fail
 obtain⟨u,a⟩:=nm f.heap.size;generalize f.alloc (ma #[Oa l,Ia ka (N:Int),Ia ka (Z:Int)] 277)=w2 at b⊢;rw[a]at b⊢;have i:=Hq b;clear b a;refine ml (C:=λW=>Ba w2 W) (by kernel_rfl) (by kernel_rfl) ((Zb _ _).drew) ?_;repeat (go_big_quiet_step (exact λ_=>rfl))
 refine X4 λW d=>?_;have A2:Aside (ff w at_ u l N Z W):=i.step d;have T:=A2.r0.1;have B:=A2.x.1;have a:=A2.h.1;obtain⟨⟨j,D⟩,⟨k,F⟩,⟨m,G⟩,⟨n,H⟩,o,I⟩:=A2.r0.Ch;obtain⟨⟨p,J⟩,⟨q,K⟩,⟨r,L⟩,t,M⟩:=A2.r1.four;obtain⟨⟨U,y0⟩,⟨V,y1⟩,⟨X,y2⟩,⟨Y,y3⟩,x4,y4⟩:=A2.x.Ch;obtain⟨O,z0⟩:=A2.h.2 0 _ rfl;obtain⟨P,z1⟩:=A2.h.2 1 _ rfl;obtain⟨Q,R,S⟩:=A2.ne;clear d;go_wp2;refine Zv (v:=Wa #[Hb,Ki E 0 0 at_]) (by simp[results,results129,go_sem,j,k,m,n,o,p,q,r,t]) rfl ⟨rfl,?_⟩;refine Yr (Yr (Yr (Yr (Yr (Yr (Yr (Yr (Yr A2.below ?_ _) ?_ _) ?_ _) ?_ _) ?_ _) ?_ _) ?_ _) ?_ _) ?_ _<;>(simp only;omega)
theorem TF(s:Da)(at_ end_ deep:Nat)(w:Fa)(l:Bool)(N Z fr rm:Nat)(hfr:wrap64 ((at_:Int)+(Z:Int))=(fr:Int))(hrm:wrap64 ((end_:Int)-(fr:Int))=(rm:Int))(hN:(rm:Int)<(N:Int))(hH:∀W,Calls oa 173 #[La s,Ia ka (at_:Int),Ia ka (end_:Int)] W λe w'=>e=na (E2 l N Z 0)/\Ba W w'):Calls oa 129 #[La s,Ia ka (at_:Int),Ia ka (end_:Int),Ia ka (deep:Int)] w (Hp (Wa #[Hb,Ki 2 0 0 at_]) w):=by
 have g:=Hq hH;clear hH;go_enter func129,ntmps129;go_wp2_with fail
 refine(g _).mono ?_;rintro e f ⟨rfl,c⟩;have b:=ff.start (l:=l) (N:=N) (Z:=Z) c;clear c;go_wp2_with fail
 obtain⟨u,a⟩:=nm f.heap.size;generalize f.alloc (ma #[Oa l,Ia ka (N:Int),Ia ka (Z:Int)] 277)=w2 at b⊢;rw[a]at b⊢;have i:=Hq b;clear b a;refine ml (C:=λW=>Ba w2 W) (by kernel_rfl) (by kernel_rfl) ((Zb _ _).drew) ?_;repeat (go_big_quiet_step (exact λ_=>rfl))
 refine X4 λW d=>?_;have A2:Aside (ff w at_ u l N Z W):=i.step d;have Q:=A2.r0.1;have y:=A2.x.1;have a:=A2.h.1;obtain⟨⟨j,z⟩,⟨k,B⟩,⟨m,D⟩,⟨n,E⟩,o,F⟩:=A2.r0.Ch;obtain⟨⟨p,G⟩,⟨q,H⟩,⟨r,I⟩,t,J⟩:=A2.r1.four;obtain⟨⟨R,X⟩,⟨S,Y⟩,⟨T,y2⟩,⟨U,y3⟩,V,y4⟩:=A2.x.Ch;obtain⟨K,z0⟩:=A2.h.2 0 _ rfl;obtain⟨L,z1⟩:=A2.h.2 1 _ rfl;obtain⟨M,O,P⟩:=A2.ne;clear d;go_wp2;refine Zv (v:=Wa #[Hb,Ki 2 0 0 at_]) (by simp[results,results129,go_sem,j,k,m,n,o,p,q,r,t]) rfl ⟨rfl,?_⟩;refine Yr (Yr (Yr (Yr (Yr (Yr (Yr (Yr (Yr A2.below ?_ _) ?_ _) ?_ _) ?_ _) ?_ _) ?_ _) ?_ _) ?_ _) ?_ _<;>(simp only;omega)
theorem mH(s:Da)(at_ end_ deep:Nat)(w:Fa)(N Z fr rm T:Nat)(hfr:wrap64 ((at_:Int)+(Z:Int))=(fr:Int))(hrm:wrap64 ((end_:Int)-(fr:Int))=(rm:Int))(hN:(N:Int)<=(rm:Int))(cut cut2 tc:Da)(hT:IntKind.i64.wrap ((fr:Int)+(N:Int))=(T:Int))(hI:(fr:Int)<=(T:Int)/\(T:Int)<=(s.size:Int)/\(at_:Int)<=(T:Int))(hx:s.extract fr T=cut)(hx2:s.extract at_ T=cut2)(hne:(tc.toList==cut2.toList)=false)(hH:∀W,Calls oa 173 #[La s,Ia ka (at_:Int),Ia ka (end_:Int)] W λe w'=>e=na (E2 false N Z 0)/\Ba W w')(hC:∀W,Calls oa 88 #[La cut] W λe w'=>e=na (La tc)/\Ba W w'):Calls oa 129 #[La s,Ia ka (at_:Int),Ia ka (end_:Int),Ia ka (deep:Int)] w (Hp (Wa #[Hb,Ki 3 0 0 at_]) w):=by
 have n:=Hq hH;have m:=Hq hC;have p:=Hq hT;have o:=Hq hI;have q:=Hq hx;have i:=Hq hx2;have g:=Hq hne;clear hH hC hT hI hx hx2 hne;go_enter func129,ntmps129;go_wp2_with fail
 refine(n _).mono ?_;rintro e k ⟨rfl,d⟩;have c:=ff.start (l:=false) (N:=N) (Z:=Z) d;clear d;go_wp2_with fail
 obtain⟨G,b⟩:=nm k.heap.size;generalize k.alloc (ma #[Oa false,Ia ka (N:Int),Ia ka (Z:Int)] 277)=w2 at c⊢;rw[b]at c⊢;have f:=Hq c;clear c b;rw[hfr];have hT:=p.o;have hx:=q.o;have hx2:=i.o;obtain⟨V,X,Y⟩:=o.o;have hne:=g.o;refine ml (C:=λW=>Ba w2 W) (by kernel_rfl) (by kernel_rfl) ((Zb _ _).drew) ?_;repeat (go_big_quiet_step (first|exact λ_=>rfl|exact λa=>(m _).Cb a| (intro a;rw[(f.cells a).1];exact⟨rfl,rfl⟩)| (intro a;rw[(f.cells a).2];exact⟨rfl,rfl⟩)))
 refine X4 λW j=>?_;have A2:Aside (ff w at_ G false N Z W):=f.step j;have r0:=A2.r0.1;have H:=A2.x.1;have b:=A2.h.1;obtain⟨⟨r,I⟩,⟨t,J⟩,⟨u,K⟩,⟨y,L⟩,z,M⟩:=A2.r0.Ch;obtain⟨⟨B,O⟩,⟨D,P⟩,⟨E,Q⟩,F,R⟩:=A2.r1.four;obtain⟨⟨x0,y0⟩,⟨x1,y1⟩,⟨x2,y2⟩,⟨x3,y3⟩,x4,y4⟩:=A2.x.Ch;obtain⟨S,z0⟩:=A2.h.2 0 _ rfl;obtain⟨U,z1⟩:=A2.h.2 1 _ rfl;obtain⟨n1,n2,n3⟩:=A2.ne;clear j;go_wp2;refine Zv (v:=Wa #[Hb,Ki 3 0 0 at_]) (by simp[results,results129,go_sem,r,t,u,y,z,B,D,E,F]) rfl ⟨rfl,?_⟩;refine Yr (Yr (Yr (Yr (Yr (Yr (Yr (Yr (Yr A2.below ?_ _) ?_ _) ?_ _) ?_ _) ?_ _) ?_ _) ?_ _) ?_ _) ?_ _<;>(simp only;omega)
end
end Go.Proofs.YtpfbdlnibdfcoaaGreatDoor
