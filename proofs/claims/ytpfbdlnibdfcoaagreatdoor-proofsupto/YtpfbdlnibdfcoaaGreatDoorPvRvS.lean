import Derived.Test.YtpfbdlnibdfcoaaGreatDoorPvRefAccW
namespace Go.Proofs.YtpfbdlnibdfcoaaGreatDoor
open Go.RowKit Tryz
open Value renaming int->Ia,string->La,slice->Ma,bool->Oa,pointer->Qa,agg->Sa,tuple->Wa,iface->ca,nilIface->da
open IntKind renaming i64->ka
open Obj renaming cells->ma
open Ending renaming returned->na
open Tryz renaming prog->oa
set_option maxRecDepth 100000
set_option maxHeartbeats 0
theorem aD(c:List Nat)(hc:c.length<=1048576)(W:Fa):Calls oa 24 #[La (Kg c)] W λe w'=>e=na (Sa ((Ky c).map Kf).toArray)/\Ba W w':=Dr (Kg c) W (by rw[me];omega)
structure Sn(w:Fa)(h ad sl:List Nat)(W:Fa):Prop where
 below:Ba w W
 root:W.rangeAt w.heap.size 0 (h.map Kf)
 yF:W.rangeAt (w.heap.size+1) 0 (ad.map Kf)
 slt:W.rangeAt (w.heap.size+1+1) 0 (sl.map Kf)
 Qd:W.heap[w.heap.size+1+1+1]? =some (ma #[Ia ka 0,Ia ka 0,Ia ka 0,Ia ka 0] 91 (0,0))
variable{w W:Fa}{h ad sl:List Nat}
theorem Sn.lt(k:Sn w h ad sl W):w.heap.size+1+1+1<W.heap.size:=(Zg.1 k.Qd).1
theorem Sn.step{W':Fa}(k:Sn w h ad sl W)(hb:Ba W W'):Sn w h ad sl W':=by have a:=k.lt;exact⟨k.below.va hb,zc k.root (hb.block _ (by omega)),zc k.yF (hb.block _ (by omega)),zc k.slt (hb.block _ (by omega)),(hb.block _ a).trans k.Qd⟩
theorem Sn.start(w:Fa)(h ad sl:List Nat):Sn w h ad sl ((((w.alloc (ma (h.map Kf).toArray 39)).alloc (ma (ad.map Kf).toArray 48)).alloc (ma (sl.map Kf).toArray 37)).alloc (ma #[Ia ka 0,Ia ka 0,Ia ka 0,Ia ka 0] 91)):=by
 have l:Ba w (w.alloc (ma (h.map Kf).toArray 39)):=(Zb _ _).alloc (Za _) _;have p:=wg w (h.map Kf) 39;obtain⟨a,f⟩:=nm (w.alloc (ma (h.map Kf).toArray 39));have r:a.heap.size=w.heap.size+1:=by rw[<-f];simp
 rw[f]at l p⊢;have m:Ba a (a.alloc (ma (ad.map Kf).toArray 48)):=(Zb _ _).alloc (Za _) _;have j:=wg a (ad.map Kf) 48;obtain⟨b,g⟩:=nm (a.alloc (ma (ad.map Kf).toArray 48));have s:b.heap.size=w.heap.size+1+1:=by rw[<-g];simp[r]
 rw[g]at m j⊢;have n:Ba b (b.alloc (ma (sl.map Kf).toArray 37)):=(Zb _ _).alloc (Za _) _;have k:=wg b (sl.map Kf) 37;obtain⟨c,i⟩:=nm (b.alloc (ma (sl.map Kf).toArray 37));have t:c.heap.size=w.heap.size+1+1+1:=by rw[<-i];simp[s]
 rw[i]at n k⊢;have o:Ba c (c.alloc (ma #[Ia ka 0,Ia ka 0,Ia ka 0,Ia ka 0] 91)):=(Zb _ _).alloc (Za _) _;have q:(c.alloc (ma #[Ia ka 0,Ia ka 0,Ia ka 0,Ia ka 0] 91)).heap[c.heap.size]? =some (ma #[Ia ka 0,Ia ka 0,Ia ka 0,Ia ka 0] 91 (0,0)):=Z6;rw[r]at j;rw[s]at k;rw[t]at q;have e:Ba b (c.alloc (ma #[Ia ka 0,Ia ka 0,Ia ka 0,Ia ka 0] 91)):=n.trans (o.mono (by omega));have d:Ba a (c.alloc (ma #[Ia ka 0,Ia ka 0,Ia ka 0,Ia ka 0] 91)):=m.trans (e.mono (by omega));exact⟨l.trans (d.mono (by omega)),zc p (d.block _ (by omega)),zc j (e.block _ (by omega)),zc k (o.block _ (by omega)),q⟩
structure Wh(wB:Fa)(f:Nat)(z0 z1 z2 z3:Value)(W:Fa):Prop where
 le:wB.heap.size<=f
 below:Ba wB W
 ub:W.heap[f]? =some (ma #[z0,z1,z2,z3] 91 (0,0))
section
variable{wB W W':Fa}{f:Nat}{z0 z1 z2 z3:Value}
theorem Wh.lt(h:Wh wB f z0 z1 z2 z3 W):f<W.heap.size:=(Zg.1 h.ub).1
theorem Wh.more(h:Wh wB f z0 z1 z2 z3 W)(hb:Ba W W'):Wh wB f z0 z1 z2 z3 W':=⟨h.le,h.below.va hb,(hb.block f h.lt).trans h.ub⟩
theorem Wh.kj(h:Wh wB f z0 z1 z2 z3 W)(v:Value):Wh wB f z0 v z2 z3 (W.setCell ⟨f,1,none⟩ v):=⟨h.le,h.below.setCell (p:=⟨f,1,none⟩) h.le _,De (cs:=[z0,z1,z2,z3]) h.ub 1 _⟩
theorem Wh.tm(h:Wh wB f z0 z1 z2 z3 W)(v:Value):Wh wB f z0 z1 v z3 (W.setCell ⟨f,2,none⟩ v):=⟨h.le,h.below.setCell (p:=⟨f,2,none⟩) h.le _,De (cs:=[z0,z1,z2,z3]) h.ub 2 _⟩
theorem Wh.all(h:Wh wB f z0 z1 z2 z3 W)(y0 y1 y2 y3:Value):Wh wB f y0 y1 y2 y3 ((((W.setCell ⟨f,0,none⟩ y0).setCell ⟨f,1,none⟩ y1).setCell ⟨f,2,none⟩ y2).setCell ⟨f,3,none⟩ y3):=⟨h.le,(((h.below.setCell (p:=⟨f,0,none⟩) h.le _).setCell (p:=⟨f,1,none⟩) h.le _).setCell (p:=⟨f,2,none⟩) h.le _).setCell (p:=⟨f,3,none⟩) h.le _,rn h.ub _ _ _ _⟩
end
structure Ik(wB:Fa)(f ab:Nat)(Rt:List Value)(y0 y1 y2 y3:Value)(d:Bool)(W:Fa):Prop where
 fl:∃z0 z1 z2 z3,Wh wB f z0 z1 z2 z3 W/\(d=true->z0=y0/\z1=y1/\z2=y2/\z3=y3)
 root:W.rangeAt ab 2 Rt
 lt:ab<W.heap.size
 ne:f≠ab
section
variable{wB W W':Fa}{f ab:Nat}{Rt:List Value}{y0 y1 y2 y3:Value}{d:Bool}
theorem Ik.below(h:Ik wB f ab Rt y0 y1 y2 y3 d W):Ba wB W:=by obtain⟨_,_,_,_,a,_⟩:=h.fl;exact a.below
theorem Ik.more(h:Ik wB f ab Rt y0 y1 y2 y3 d W)(hb:Ba W W'):Ik wB f ab Rt y0 y1 y2 y3 d W':=by obtain⟨c,e,g,i,a,b⟩:=h.fl;exact⟨⟨c,e,g,i,a.more hb,b⟩,zc h.root (hb.block _ h.lt),Zm h.lt hb.size,h.ne⟩
theorem Ik.there(h:Ik wB f ab Rt y0 y1 y2 y3 d W):W.there f 0 4:=by obtain⟨c,e,g,i,a,b⟩:=h.fl;exact vj a.ub rfl
theorem Ik.put(h:Ik wB f ab Rt y0 y1 y2 y3 d W):Ik wB f ab Rt y0 y1 y2 y3 true ((((W.setCell ⟨f,0,none⟩ y0).setCell ⟨f,1,none⟩ y1).setCell ⟨f,2,none⟩ y2).setCell ⟨f,3,none⟩ y3):=by obtain⟨e,g,i,j,b,c⟩:=h.fl;have a:=Qf f [y0,y1,y2,y3] 0 W ab h.ne.symm;refine⟨⟨y0,y1,y2,y3,b.all y0 y1 y2 y3,λ_=>⟨rfl,rfl,rfl,rfl⟩⟩,zc h.root a,?_,h.ne⟩;have :=Xh h.lt;rw[<-a]at this;exact(Zg.1 this).1
theorem Ik.fin(h:Ik wB f ab Rt y0 y1 y2 y3 true W):Wh wB f y0 y1 y2 y3 W:=by obtain⟨c,d,e,g,a,b⟩:=h.fl;obtain⟨rfl,rfl,rfl,rfl⟩:=b rfl;exact a
end
theorem zr{a b c d a' b' c' d':Nat}(h:Ki a b c d=Ki a' b' c' d'):a=a'/\b=b'/\c=c'/\d=d':=by unfold Ki at h;simp at h;omega
theorem Sv:∀{e:Er},e.Wb->e.num≠0
 | .base n,h=>(by decide:∀n∈Gq,n≠0) n h
 | .place _ e,h=>Sv (e:=e) h
 | .noNode _,_=>(by show(8:Nat)≠0;omega)
 | .inNode _ e,h=>Sv (e:=e) h
 | .inProof _ e,h=>Sv (e:=e) h
theorem tR{wB w3 w4 w5:Fa}{f:Nat}{Rt P Q:List Value}{AA:Array Value}{v:Value}{x0 x1 x2 x3 y0 y1 y2 y3:Value}(h4:Wh wB f x0 x1 x2 x3 w4)(hr:w4.rangeAt w3.heap.size 0 AA.toList/\w3.heap.size<w4.heap.size)(hA:AA.toList=P++Rt++Q)(hP:P.length=2:=by rfl)(hf:f<w3.heap.size)(h5:w4.setCells f 0 [v,v,v,v]=w5):Ik wB f w3.heap.size Rt y0 y1 y2 y3 false w5/\Wh wB f v v v v w5:=by
 have h:=h4.all v v v v;have a:w5.heap[w3.heap.size]? =w4.heap[w3.heap.size]? :=by rw[<-h5];exact Qf f [v,v,v,v] 0 w4 _ (by omega)
 have b:w3.heap.size<w5.heap.size:=by have :=Xh hr.2;rw[<-a]at this;exact(Zg.1 this).1
 replace h:Wh wB f v v v v w5:=by rw[<-h5];exact h
 refine⟨⟨⟨v,v,v,v,h,λq=>(by cases q)⟩,?_,b,by omega⟩,h⟩;have :=hr.1;rw[hA]at this;have :=xr this;rw[hP]at this;exact zc this a
variable{q:Except Er (Option Da)}
theorem nz{W1:Fa}{S:Da}{B:Bool}{e1 e2 e3 e4 rb:Nat}(hS:Ng q=S)(hB:Nh q=B)(hF:Nq q=Ki e1 e2 e3 e4)(hb:Ba w W)(hrb:w.heap.size<=rb)(ht:W.there rb 0 4)(hW:W.setCells rb 0 [Ia ka (e1:Int),Ia ka (e2:Int),Ia ka (e3:Int),Ia ka (e4:Int)]=W1)(tmps:Array Value)(h10:tmps.getD 10 undef=La S)(h11:tmps.getD 11 undef=Oa B)(h12:tmps.getD 12 undef=Qa (some ⟨rb,0,none⟩)):bodyPost oa f47 (λe w'=>e=na (Wa #[La (Ng q),Oa (Nh q),Nq q])/\Ba w w') .ret ⟨tmps,[]⟩ W1:=by subst hW;exact Zv (v:=Wa #[La S,Oa B,Ki e1 e2 e3 e4]) (Fp results47 h10 h11 h12 (Zn _ _ _ _ ht)) rfl ⟨by rw[hS,hB,hF],Cg hb hrb _ _⟩
theorem ZJ(h ad sl:List Nat)(l1 l2:List Da)(p1 p2:Option Addr)(c1 c2:Nat)(hh:h.length=32)(hhb:∀x∈h,x<256)(had:ad.length=20)(hsl:sl.length=32)(hab:∀x∈ad,x<256)(hsb:∀x∈sl,x<256)(hr1:Nf w p1 l1 c1)(hr2:Nf w p2 l2 c2)(hl1:l1.length<=9223372036854775806)(hl2:l2.length<=9223372036854775806)(hq:Ae h ad sl (l1.map Ke) (l2.map Ke)=q):Calls oa 47 #[Sa (h.map Kf).toArray,Sa (ad.map Kf).toArray,Sa (sl.map Kf).toArray,Ma p1 l1.length c1,Ma p2 l2.length c2] w λe w'=>e=na (Wa #[La (Ng q),Oa (Nh q),Nq q])/\Ba w w':=by
 have dt:=underlying39;have fu:(oa.info? 39).map (·.size)=some (h.map Kf).length:=by
  have :(oa.info? 39).map (·.size)=some 32:=by kernel_rfl
  rw[this];simp[hh]
 have HT:=Hq Qn;have HQ:=Hq hq;have HX:=Hq (A6 hh hhb had hsl hab (A5 hsb hr1 hr2 hl1 hl2));have ei:=Hq (Sn.start w h ad sl);clear hh hhb had hsl hab hsb hr1 hr2 hl1 hl2 hq;go_enter func47,ntmps47;go_wp2;go_loopg [13,14] 20 (λgh u i wr=>∃x:Nat,x<=20/\gh=20-x/\i=Ia ka (x:Int)/\u=La (Kg (ad.take x))/\Sn w h ad sl wr)
 case atStart=>exact⟨0,by omega,rfl,rfl,rfl,ei.o⟩
 case round=>
  obtain⟨x,hx,rfl,rfl,rfl,hV⟩:=hrel;by_cases gc:x<20
  .have bl:x<ad.length:=by have :=HX.o;omega
   have fo:(x:Int)<20:=by omega
   obtain⟨b,bf⟩:=nm ad[x];have c0:wr.cell? ⟨w.heap.size+1,x,none⟩=some (Ia .u8 (b:Int)):=by have :=hV.yF x (Kf b) (by rw[Yt,Zk bl,bf];rfl);rw[Zf]at this;exact this
   have aj:ad.take (x+1)=ad.take x++[b]:=by rw[Z1 bl,bf]
   have dg:=λW=>wi (ad.take x) [b] (by rw[Zx];simp only[Zu,Yq];omega) W;rw[<-aj]at dg;have fk:=HT wr b;have HV:=Hq hV;have ae:¬w.heap.size+1=wr.heap.size:=by have :=hV.lt;omega
   clear hV aj bf bl;go_wp2;go_roundg (20-(x+1))
   case measure=>omega
   case rel=>exact⟨x+1,by omega,rfl,by first|rfl|rw[Im x (by omega)],rfl,HV.step ((Zb _ _).alloc (Za _) _)⟩
  .have fm:x=20:=by omega
   have fo:¬(x:Int)<20:=by omega
   have aj:ad.take x=ad:=Zz (by have :=HX.o;omega);rw[aj];have HV:=Hq hV;clear hV aj fm ei;go_wp2;go_loopg [15,16] 32 (λgh u i wr=>∃x:Nat,x<=32/\gh=32-x/\i=Ia ka (x:Int)/\u=La (Kg (sl.take x))/\Sn w h ad sl wr)
   case atStart=>exact⟨0,by omega,rfl,rfl,rfl,HV.o⟩
   case round=>
    obtain⟨y,hy,rfl,rfl,rfl,hV⟩:=hrel;by_cases fy:y<32
    .have bl:y<sl.length:=by have :=HX.o;omega
     have fp:(y:Int)<32:=by omega
     obtain⟨b,bf⟩:=nm sl[y];have c0:wr.cell? ⟨w.heap.size+1+1,y,none⟩=some (Ia .u8 (b:Int)):=by have :=hV.slt y (Kf b) (by rw[Yt,Zk bl,bf];rfl);rw[Zf]at this;exact this
     have aj:sl.take (y+1)=sl.take y++[b]:=by rw[Z1 bl,bf]
     have dg:=λW=>wi (sl.take y) [b] (by rw[Zx];simp only[Zu,Yq];omega) W;rw[<-aj]at dg;have fk:=HT wr b;have N:=Hq hV;have ae:¬w.heap.size+1+1=wr.heap.size:=by have :=hV.lt;omega
     clear hV aj bf bl;go_wp2;go_roundg (32-(y+1))
     case measure=>omega
     case rel=>exact⟨y+1,by omega,rfl,by first|rfl|rw[Im y (by omega)],rfl,N.step ((Zb _ _).alloc (Za _) _)⟩
    .have fp:¬(y:Int)<32:=by omega
     have aj:sl.take y=sl:=Zz (by have :=HX.o;omega);rw[aj];have N:=Hq hV;clear hV aj;go_upto_region 11 with fail
     obtain⟨wB,rfl⟩:∃x,x=wr:=⟨_,rfl⟩;obtain⟨q1,J⟩:=nm (Ao h (Kg (Kl (Ky ad))) (l1.map Ke));obtain⟨f0,f1,f2,f3,F⟩:=pw q1;obtain⟨S,P⟩:=nm (Ng q1);obtain⟨B,O⟩:=nm (Nh q1);obtain⟨A,hA⟩:=nm (Kg ad);obtain⟨V,aq⟩:∃v:Value,v=Ia ka (f0:Int):=⟨_,rfl⟩;obtain⟨X,ar⟩:∃v:Value,v=Ia ka (f1:Int):=⟨_,rfl⟩;obtain⟨Y,au⟩:∃v:Value,v=Ia ka (f2:Int):=⟨_,rfl⟩;obtain⟨Z,aw⟩:∃v:Value,v=Ia ka (f3:Int):=⟨_,rfl⟩;have ch:=Hq (A5 (⟨aq,ar,au,aw⟩:(V=Ia ka (f0:Int)/\X=Ia ka (f1:Int)/\Y=Ia ka (f2:Int)/\Z=Ia ka (f3:Int))) J F P O);have ba:Hid ((#[V,X,Y,Z]:Array Value).all (·.oneCell')=true):=Hq (by rw[aq,ar,au,aw];simp[Value.oneCell']);have cf:Hid (∀W,Ba wB W->Calls oa 44 #[Sa (h.map Kf).toArray,Sa ((Ky ad).map Kf).toArray,Ma p1 l1.length c1] W λe w'=>e=na (Wa #[La S,Oa B,Sa #[V,X,Y,Z]])/\Ba W w'):=λW hb=>by have :=YC h (Ky ad) p1 l1 c1 (Sh HX.2.2.2.2.2.2.1 (N.below.va hb)) HX.2.2.2.2.2.2.2.2.1 HX.1 HX.2.1 (Bh _) (Lk _) J;rw[P,O,F]at this;rw[aq,ar,au,aw];exact this
     have bq:Hid (∀W,Calls oa 24 #[La A] W λe w'=>e=na (Sa ((Ky ad).map Kf).toArray)/\Ba W w'):=λW=>by have :=aD ad (by have :=HX.o;omega) W;rw[hA]at this;exact this
     have bv:=Hq (λW=>LD (Ky ad) (Bh _) W);have HR:Hid (∀W,Ba wB W->W.rangeAt w.heap.size 0 (h.map Kf)):=λW hb=>by have hs:=N.lt;exact zc N.root (hb.block _ (by omega))
     rw[hA];clear aq ar au aw J F P O;go_cut [17,18,19] (λv17 v18 v19 wd=>∃f,v17=La S/\v18=Oa B/\v19=Qa (some ⟨f,0,none⟩)/\wB.heap.size<=f/\wd.heap[f]? =some (ma #[V,X,Y,Z] 91 (0,0))/\Ba wB wd)
     case first=>
      refine Vj (by kernel_rfl) ?_;change wpAny _ _ _ _ _ _ _ (World.drew _);obtain⟨vf,g⟩:∃vf:Nat->Option Value,vf=λi=>([some (Sa (h.map Kf).toArray),some (La A),some (Sa ((Ky ad).map Kf).toArray),some (Sa ((Ky ad).map Kf).toArray),some (Ma p1 l1.length c1),some (Wa #[La S,Oa B,Sa #[V,X,Y,Z]]),some (Wa #[La S,Oa B,Sa #[V,X,Y,Z]]),some (La S),some (Oa B),some (Sa #[V,X,Y,Z]),none,some (La S),some (Oa B),none]:List (Option Value)).getD i none:=⟨_,rfl⟩;refine jr _ (λd v w'=>(∀i x,vf i=some x->d i=true->v i=x)/\(λd v w'=>ri wB V X Y Z (d 10) (d 13) (v 10) w') d v w') (by kernel_rfl) (by kernel_rfl) ?_ _ (λ_=>undef) ?_ ?_
      .intro i o m du dw b W l p k j;have hi:=(Zg.1 m).1;match i,hi with
       |0,_=>obtain rfl:=Zi m;have t5:b.tmps[5]? =some (Qa (some ⟨w.heap.size,0,none⟩)):=(l.rest 5 (λi _=>Qh (by kernel_rfl) i)).trans rfl;refine Jv 39 (.tmp 5) rfl w.heap.size 0 (by simp only[Act.eval,Ya,t5,Yk]) (h.map Kf) _ (HR W j.2.below) dt rfl fu ?_;exact⟨_,rfl,mj j.1 (by rw[g];rfl),j.2⟩
       |1,_=>obtain rfl:=Zi m;have ge:=(l.rest 13 (λi _=>Qh (by kernel_rfl) i)).trans rfl;refine Qe j.1 (by rw[g];rfl) j.2 ?_;clear m k l j p g;go_simp
       |2,_=>
        obtain rfl:=Zi m;have gq:=sd l j.1 (k ⟨1,.data⟩ (by simp) rfl) rfl (by simp) (by rw[g];rfl);refine zo (Sa ((Ky ad).map Kf).toArray) (λw9 s=>⟨_,rfl,mj j.1 (by rw[g];rfl),j.2.more s⟩) ?_;clear m k l j p g;go_simp;go_at_call 24
        refine(bq W).mono ?_;rintro e w9 ⟨rfl,s⟩;exact⟨rfl,s⟩
       |3,_=>
        obtain rfl:=Zi m;have gv:=sd l j.1 (k ⟨2,.data⟩ (by simp) rfl) rfl (by simp) (by rw[g];rfl);refine zo (Sa ((Ky ad).map Kf).toArray) (λw9 s=>⟨_,rfl,mj j.1 (by rw[g];rfl),j.2.more s⟩) ?_;clear m k l j p g;go_simp;go_at_call 98
        refine(bv W).mono ?_;rintro e w9 ⟨rfl,s⟩;exact⟨rfl,s⟩
       |4,_=>obtain rfl:=Zi m;have t3:=(l.rest 3 (λi _=>Qh (by kernel_rfl) i)).trans rfl;refine Qe j.1 (by rw[g];rfl) j.2 ?_;clear m k l j p g;go_simp
       |5,_=>
        obtain rfl:=Zi m;have gn:=sd l j.1 (k ⟨0,.data⟩ (by simp) rfl) rfl (by simp) (by rw[g];rfl);have gw:=sd l j.1 (k ⟨3,.data⟩ (by simp) rfl) rfl (by simp) (by rw[g];rfl);have gy:=sd l j.1 (k ⟨4,.data⟩ (by simp) rfl) rfl (by simp) (by rw[g];rfl);refine zo (Wa #[La S,Oa B,Sa #[V,X,Y,Z]]) (λw9 s=>⟨_,rfl,mj j.1 (by rw[g];rfl),j.2.more s⟩) ?_;have di:=Hq j;clear m k l j p g;go_simp;go_at_call 44
        refine(cf W di.2.below).mono ?_;rintro e w9 ⟨rfl,s⟩;exact⟨rfl,s⟩
       |6,_=>obtain rfl:=Zi m;have i7:=sd l j.1 (k ⟨5,.data⟩ (by simp) rfl) rfl (by simp) (by rw[g];rfl);refine Qe j.1 (by rw[g];rfl) j.2 ?_;clear m k l j p g;go_simp
       |7,_=>obtain rfl:=Zi m;have f9:=sd l j.1 (k ⟨6,.data⟩ (by simp) rfl) rfl (by simp) (by rw[g];rfl);refine Qe j.1 (by rw[g];rfl) j.2 ?_;clear m k l j p g;go_simp
       |8,_=>obtain rfl:=Zi m;have f9:=sd l j.1 (k ⟨6,.data⟩ (by simp) rfl) rfl (by simp) (by rw[g];rfl);refine Qe j.1 (by rw[g];rfl) j.2 ?_;clear m k l j p g;go_simp
       |9,_=>obtain rfl:=Zi m;have f9:=sd l j.1 (k ⟨6,.data⟩ (by simp) rfl) rfl (by simp) (by rw[g];rfl);refine Qe j.1 (by rw[g];rfl) j.2 ?_;clear m k l j p g;go_simp
       |10,_=>obtain rfl:=Zi m;refine Vd (K:=λa' w'=>a'=b.put (some 19) (Qa (some ⟨W.heap.size,0,none⟩))/\w'=W.alloc (ma #[Ia ka 0,Ia ka 0,Ia ka 0,Ia ka 0] 91)) (by rintro a' w' ⟨rfl,rfl⟩;exact⟨_,rfl,vo j.1 (by rw[g];rfl),j.2.yv p⟩) ?_;clear m k l j p g;go_simp
       |11,_=>obtain rfl:=Zi m;have i8:=sd l j.1 (k ⟨7,.data⟩ (by simp) rfl) rfl (by simp) (by rw[g];rfl);refine Qe j.1 (by rw[g];rfl) j.2 ?_;clear m k l j p g;go_simp
       |12,_=>obtain rfl:=Zi m;have i9:=sd l j.1 (k ⟨8,.data⟩ (by simp) rfl) rfl (by simp) (by rw[g];rfl);refine Qe j.1 (by rw[g];rfl) j.2 ?_;clear m k l j p g;go_simp
       |13,_=>obtain rfl:=Zi m;have fv:=sd l j.1 (k ⟨9,.data⟩ (by simp) rfl) rfl (by simp) (by rw[g];rfl);have ej:=k ⟨10,.data⟩ (by simp) rfl;obtain⟨f,x0,x1,x2,x3,f1,f3,fj⟩:=j.2.put ej;have dv:=(l.done 10 19 ej rfl (by simp)).trans (Y5 some f1);refine J5 91 (.tmp 19) (.tmp 52) rfl f 0 #[V,X,Y,Z] (by simp only[Act.eval,Ya,dv,Yk]) (by simp only[Act.eval,Ya,fv,Yk]) (vj f3 rfl) (by kernel_rfl) ba.o ?_;exact⟨undef,rfl,vo j.1 (by rw[g];rfl),fj⟩
      .exact⟨λ_ _ _ h=>(by simp at h),ri.start (Zb _ _).drew (by simp) (by simp)⟩
      .intro dw W j;have e0:=j.1 0 _ (by rw[g];rfl) rfl;have e1:=j.1 1 _ (by rw[g];rfl) rfl;have e2:=j.1 2 _ (by rw[g];rfl) rfl;have e3:=j.1 3 _ (by rw[g];rfl) rfl;have e4:=j.1 4 _ (by rw[g];rfl) rfl;have e5:=j.1 5 _ (by rw[g];rfl) rfl;have e6:=j.1 6 _ (by rw[g];rfl) rfl;have e7:=j.1 7 _ (by rw[g];rfl) rfl;have e8:=j.1 8 _ (by rw[g];rfl) rfl;have e9:=j.1 9 _ (by rw[g];rfl) rfl;have ci:=j.1 11 _ (by rw[g];rfl) rfl;have cj:=j.1 12 _ (by rw[g];rfl) rfl;have hX:=j.2;simp only[Gx,Act.put,Zf,Nat.reduceAdd,Yn,Y9,Yw,e0,e1,e2,e3,e4,e5,e6,e7,e8,e9,ci,cj];clear j g e0 e1 e2 e3 e4 e5 e6 e7 e8 e9 ci cj;obtain⟨f,f1,f2,f3⟩:=hX.fin;have HY:=Hq (A4 f1 f2 f3 hX.below);clear hX f1 f2 f3;(try go_wp2);go_meet;exact⟨f,rfl,rfl,HY.1,HY.2⟩
     case rest=>
      obtain⟨f,rfl,rfl,rfl,eu,dq,ew⟩:=hcut;obtain⟨⟨rfl,rfl,rfl,rfl⟩,J,F,P,O⟩:=ch.o;have HF:Hid (Wh wB f (Ia ka (f0:Int)) (Ia ka (f1:Int)) (Ia ka (f2:Int)) (Ia ka (f3:Int)) wc):=⟨eu,ew,dq⟩;obtain⟨g0,g1,g2,g3,g4,g5,g6,g7⟩:=Wg dq;clear ch ba cf bq bv HR eu dq ew;cases hq1c:q1 with
      |error er=>
       rw[hq1c]at F P O J;have L:Hid (Ng q=⟨#[]⟩/\Nh q=false/\Nq q=Ki f0 1 f2 f3):=by have hq:=HQ.o;unfold Ae at hq;rw[J]at hq;subst hq;obtain⟨rfl,rfl,rfl,rfl⟩:=zr F;exact⟨rfl,rfl,rfl⟩
       have cw:((f0:Int) != 0)=true:=by obtain⟨rfl,rfl,rfl,rfl⟩:=zr F;have :=Sv (zu (Iw l1) J);simp;omega
       have dc:=P.symm;have cu:=O.symm;clear J F P O hq1c;go_upto_region 14 with fail
       have D:=Hq (HF.kj (Ia ka ((1:Nat):Int)));change Code.wp _ _ _ _ (wc.setCell ⟨f,1,none⟩ (Ia ka ((1:Nat):Int)));generalize wc.setCell ⟨f,1,none⟩ (Ia ka ((1:Nat):Int))=W9 at D⊢;obtain⟨t,R⟩:=nm f0;obtain⟨H,T⟩:∃n:Nat,1=n:=⟨_,rfl⟩;obtain⟨G,I⟩:=nm f2;obtain⟨z,ac⟩:=nm f3;have M:Hid (Ng q=⟨#[]⟩/\Nh q=false/\Nq q=Ki t H G z):=by rw[<-R,<-T,<-I,<-ac];exact L.o
       rw[R,T,I,ac]at D;obtain⟨rb,U⟩:=nm (w.heap.size+1+1+1);rw[U];clear R T I ac L HF g0 g1 g2 g3 g4 g5 g6 g7 cw dc cu;obtain⟨W0,ah⟩:=nm W9.drew;have r:Wh wB f (Ia ka (t:Int)) (Ia ka (H:Int)) (Ia ka (G:Int)) (Ia ka (z:Int)) W0:=by rw[<-ah];exact D.more (Zb _ _).drew
       obtain⟨W1,E⟩:=nm (W0.setCells rb 0 [Ia ka (t:Int),Ia ka (H:Int),Ia ka (G:Int),Ia ka (z:Int)]);have bc:=Hq E;have Q:=N.step r.below;have ae:f≠rb:=by have :=r.le;have :=N.lt;omega
       have ag:Hid (W0.there rb 0 4):=by rw[<-U];exact vj Q.Qd rfl
       have ao:Hid (∀W,W=W0\/W=W1->W.rangeAt f 0 [Ia ka (t:Int),Ia ka (H:Int),Ia ka (G:Int),Ia ka (z:Int)]):=λW hW=>by
        rcases hW with rfl|rfl;.exact Wi r.ub
        .rw[<-E];exact zc (Wi r.ub) (Qf _ _ _ _ _ ae)
       have am:=Hq (nz M.1 M.2.1 M.2.2 Q.below (by omega) ag E);clear r E Q ae U D M;refine Wo 3 (C:=λW=>W=W0) (by kernel_rfl) (by kernel_rfl) (by kernel_rfl) ah ?_;simp only[Y7,Xr,Y6,Yx];refine yq rfl 91 _ rfl f 0 rfl [Ia ka (t:Int),Ia ka (H:Int),Ia ka (G:Int),Ia ka (z:Int)] _ (by rintro _ rfl;exact ao _ (.inl rfl)) underlying91 rfl Qj ?_;simp only[Act.put,Yn,Y9,Yw];iterate 2 (go_big_quiet_step (fail))
       refine X4 ?_;rintro W0 rfl;refine Zs rfl 91 _ _ rfl rb 0 #[Ia ka (t:Int),Ia ka (H:Int),Ia ka (G:Int),Ia ka (z:Int)] rfl rfl ag Qj (by simp[Value.oneCell']) ?_;rw[show World.setCells W0 _ 0 _=W1 from bc.o];(try go_wp2);exact am _ rfl rfl rfl
      |ok o=>
       rw[hq1c]at F P O J;have ai:=F;clear F hq1c;obtain⟨rfl,rfl,rfl,rfl⟩:=zr ai;have bm:=Hq (N.step HF.below);cases hoc:o with
       |none=>
        rw[hoc]at J P O;have dc:=P.symm;have cu:=O.symm;subst dc cu;obtain⟨r0,r1,r2,r3,r4,r5,r6,r7⟩:=Wg bm.Qd;have L:Hid (q=if l2.length=0 then .ok none else .error (.inProof 2 (.inNode 0 (.base 4)))):=Hq<|by have hq:=HQ.o;unfold Ae at hq;rw[J]at hq;rw[<-hq];cases l2<;>simp
        by_cases h0:l2.length=0
        .have fi:=Zt (by omega);have fh:¬(0:Int)<(l2.length:Int):=by omega
         have M:Hid (q=.ok none):=Hq (by rw[L.o,Zo h0]);clear L J P O ai hoc;go_wp2;rw[M.o];exact Zv (v:=Wa #[La ⟨#[]⟩,Oa false,Ki 0 0 0 0]) (Fp (e1:=0) (e2:=0) (e3:=0) (e4:=0) results47 rfl rfl rfl (Wi (rn bm.Qd _ _ _ _))) rfl ⟨rfl,xt bm.below (by omega) _ _ _ _⟩
        .have fi:=Z5 (by omega);have fh:(0:Int)<(l2.length:Int):=by omega
         have M:Hid (q=.error (.inProof 2 (.inNode 0 (.base 4)))):=Hq (by rw[L.o,Zj h0]);clear L J P O ai hoc h0;go_wp2;rw[M.o];exact Zv (v:=Wa #[La ⟨#[]⟩,Oa false,Ki 4 2 0 0]) (Fp (e1:=4) (e2:=2) (e3:=0) (e4:=0) results47 rfl rfl rfl (Wi (rn bm.Qd _ _ _ _))) rfl ⟨rfl,xt bm.below (by omega) _ _ _ _⟩
       |some c=>
        rw[hoc]at J P O;have dc:=P.symm;have cu:=O.symm;subst dc cu;have dh:=Hq (bT S wc);cases hac:G0 (Ke S)with
        |error er=>
         have L:Hid (Ng q=⟨#[]⟩/\Nh q=false/\Nq q=Ki er.num 1 l1.length er.at_):=by have hq:=HQ.o;unfold Ae at hq;rw[J]at hq;simp only at hq;rw[hac]at hq;rw[<-hq,Zl];exact⟨rfl,rfl,rfl⟩
         have ay:Hid (Calls oa 40 #[La S] wc λe w'=>Ba wc w'/\e=na (Wa #[Sa (Ku Kk).toArray,Ki er.num 0 0 er.at_])):=dh.mono λe w' hs=>⟨hs.2,hs.1.1 er hac⟩;have I:=(WB (sh S) hac).2.1;obtain⟨t,R⟩:=nm er.num;obtain⟨z,ac⟩:=nm er.at_;rw[R,ac]at L ay;rw[R]at I;have cw:((t:Int) != 0)=true:=by simp;omega
         obtain⟨AA,ak⟩:=nm ((Ku Kk).toArray);have az:AA.size=66:=by rw[<-ak,Ym];rfl
         have cq:AA.all (·.oneCell')=true:=by rw[<-ak];exact qk _
         rw[ak]at ay;have df:(oa.info? 46).map (·.size)=some AA.size:=by rw[qh,az]
         clear dh ak hac R ac J P O ai hoc I;go_wp2_with fail
         refine ay.mono ?_;rintro e w3 ⟨de,rfl⟩;have H3:=Hq (HF.more de);have bj:∀C:Array Value,66=C.size->(w3.alloc (ma C 46)).there w3.heap.size 0 AA.size:=λC hC=>Le _ _ _ _ (by rw[az];exact hC);clear de g0 g1 g2 g3 g4 g5 g6 g7;unfold Ki;go_upto_region 23 with(first| (refine Zs rfl 46 _ _ rfl w3.heap.size 0 AA rfl rfl (bj _ rfl) df cq ?_;generalize hX:World.setCells _ w3.heap.size 0 _=w4;have H4:=Hq (H3.more (ug hX));have bi:w4.there f 0 4:=vj H4.ub rfl;clear hX bj)| (refine Zs rfl 91 _ _ rfl f 0 #[Ia ka (t:Int),Ia ka 0,Ia ka 0,Ia ka (z:Int)] rfl rfl bi Qj (by simp[Value.oneCell']) ?_;generalize hX:World.setCells w4 f 0 _=w5;have H5:Hid (Wh wB f (Ia ka (t:Int)) (Ia ka 0) (Ia ka 0) (Ia ka (z:Int)) w5):=Hq (by rw[<-hX];exact H4.all (Ia ka (t:Int)) (Ia ka 0) (Ia ka 0) (Ia ka (z:Int)));obtain⟨g0,g1,g2,g3,g4,g5,g6,g7⟩:=Wg H5.ub;clear hX bi))
         have D:=Hq ((H5.kj (Ia ka ((1:Nat):Int))).tm (Ia ka (l1.length:Int)));change Code.wp _ _ _ _ ((w5.setCell ⟨f,1,none⟩ (Ia ka ((1:Nat):Int))).setCell ⟨f,2,none⟩ (Ia ka (l1.length:Int)));generalize (w5.setCell ⟨f,1,none⟩ (Ia ka ((1:Nat):Int))).setCell ⟨f,2,none⟩ (Ia ka (l1.length:Int))=W9 at D⊢;obtain⟨H,T⟩:∃n:Nat,1=n:=⟨_,rfl⟩;obtain⟨G,I⟩:=nm l1.length;have M:Hid (Ng q=⟨#[]⟩/\Nh q=false/\Nq q=Ki t H G z):=by rw[<-T,<-I];exact L.o
         rw[T,I]at D;clear T I L HF g0 g1 g2 g3 g4 g5 g6 g7 cw H3 H4 H5 ay bm az cq df;obtain⟨rb,U⟩:=nm (w.heap.size+1+1+1);rw[U];obtain⟨W0,ah⟩:=nm W9.drew;have r:Wh wB f (Ia ka (t:Int)) (Ia ka (H:Int)) (Ia ka (G:Int)) (Ia ka (z:Int)) W0:=by rw[<-ah];exact D.more (Zb _ _).drew
         obtain⟨W1,E⟩:=nm (W0.setCells rb 0 [Ia ka (t:Int),Ia ka (H:Int),Ia ka (G:Int),Ia ka (z:Int)]);have bc:=Hq E;have Q:=N.step r.below;have ae:f≠rb:=by have :=r.le;have :=N.lt;omega
         have ag:Hid (W0.there rb 0 4):=by rw[<-U];exact vj Q.Qd rfl
         have ao:Hid (∀W,W=W0\/W=W1->W.rangeAt f 0 [Ia ka (t:Int),Ia ka (H:Int),Ia ka (G:Int),Ia ka (z:Int)]):=λW hW=>by
          rcases hW with rfl|rfl;.exact Wi r.ub
          .rw[<-E];exact zc (Wi r.ub) (Qf _ _ _ _ _ ae)
         have am:=Hq (nz M.1 M.2.1 M.2.2 Q.below (by omega) ag E);clear r E Q ae U D M;refine Wo 3 (C:=λW=>W=W0) (by kernel_rfl) (by kernel_rfl) (by kernel_rfl) ah ?_;simp only[Y7,Xr,Y6,Yx];refine yq rfl 91 _ rfl f 0 rfl [Ia ka (t:Int),Ia ka (H:Int),Ia ka (G:Int),Ia ka (z:Int)] _ (by rintro _ rfl;exact ao _ (.inl rfl)) underlying91 rfl Qj ?_;simp only[Act.put,Yn,Y9,Yw];iterate 2 (go_big_quiet_step (fail))
         refine X4 ?_;rintro W0 rfl;refine Zs rfl 91 _ _ rfl rb 0 #[Ia ka (t:Int),Ia ka (H:Int),Ia ka (G:Int),Ia ka (z:Int)] rfl rfl ag Qj (by simp[Value.oneCell']) ?_;rw[show World.setCells W0 _ 0 _=W1 from bc.o];(try go_wp2);exact am _ rfl rfl rfl
        |ok a=>
         have bn:=(DH (sh S) hac).1;have ay:Hid (Calls oa 40 #[La S] wc λe w'=>Ba wc w'/\e=na (Wa #[Sa (Ku a).toArray,Ki 0 0 0 0])):=dh.mono λe w' hs=>⟨hs.2,hs.1.2 a hac⟩;obtain⟨q2,al⟩:=nm (Ao a.root (Kg (Kl (Ky sl))) (l2.map Ke));have eh:Hid (q=Te q2):=by show q=Te q2;rw[<-HQ.o,Ae,J];simp only;rw[hac];simp only;rw[al]
         obtain⟨k0,k1,k2,k3,dr⟩:=pw q2;obtain⟨S2,dn⟩:=nm (Ng q2);obtain⟨B2,dm⟩:=nm (Nh q2);obtain⟨A2,dk⟩:=nm (Kg sl);obtain⟨V,aq⟩:∃v:Value,v=Ia ka (k0:Int):=⟨_,rfl⟩;obtain⟨X,ar⟩:∃v:Value,v=Ia ka (k1:Int):=⟨_,rfl⟩;obtain⟨Y,au⟩:∃v:Value,v=Ia ka (k2:Int):=⟨_,rfl⟩;obtain⟨Z,aw⟩:∃v:Value,v=Ia ka (k3:Int):=⟨_,rfl⟩;have ch:=Hq (A5 (⟨aq,ar,au,aw⟩:(V=Ia ka (k0:Int)/\X=Ia ka (k1:Int)/\Y=Ia ka (k2:Int)/\Z=Ia ka (k3:Int))) al dr dn dm);have ba:Hid ((#[V,X,Y,Z]:Array Value).all (·.oneCell')=true):=Hq (by rw[aq,ar,au,aw];simp[Value.oneCell']);have cf:Hid (∀W,Ba wB W->Calls oa 44 #[Sa (a.root.map Kf).toArray,Sa ((Ky sl).map Kf).toArray,Ma p2 l2.length c2] W λe w'=>e=na (Wa #[La S2,Oa B2,Sa #[V,X,Y,Z]])/\Ba W w'):=λW hb=>by have :=YC a.root (Ky sl) p2 l2 c2 (Sh HX.2.2.2.2.2.2.2.1 (N.below.va hb)) HX.2.2.2.2.2.2.2.2.2 bn.2.2.1 bn.2.2.2.2.1 (Bh _) (Lk _) al;rw[dn,dm,dr]at this;rw[aq,ar,au,aw];exact this
         have bq:Hid (∀W,Calls oa 24 #[La A2] W λe w'=>e=na (Sa ((Ky sl).map Kf).toArray)/\Ba W w'):=λW=>by have :=aD sl (by have :=HX.o;omega) W;rw[dk]at this;exact this
         have bv:=Hq (λW=>LD (Ky sl) (Bh _) W);rw[dk];obtain⟨AA,ak⟩:=nm ((Ku a).toArray);have az:AA.size=66:=by rw[<-ak,Ym];exact Lo bn.2.2.1 bn.2.2.2.1
         have cq:AA.all (·.oneCell')=true:=by rw[<-ak];exact qk _
         rw[ak]at ay;have df:(oa.info? 46).map (·.size)=some AA.size:=by rw[qh,az]
         have fq:=oo bn.2.2.1;have dz:Hid (AA.toList=[Km a.rj,Km a.rv]++a.root.map Kf++a.code.map Kf):=Hq (by rw[<-ak];simp[Ku]);clear dh ak hac J P O ai hoc al dr dn dm dk aq ar au aw bn;go_wp2_with fail
         refine ay.mono ?_;rintro e w3 ⟨de,rfl⟩;have H3:=Hq (HF.more de);have bj:∀C:Array Value,66=C.size->(w3.alloc (ma C 46)).there w3.heap.size 0 AA.size:=λC hC=>Le _ _ _ _ (by rw[az];exact hC);have hL:∀C:Array Value,66=C.size->AA.toList.length=C.size:=λC hC=>by rw[Yh,az];exact hC
         clear de g0 g1 g2 g3 g4 g5 g6 g7 az;unfold Ki;go_upto_region 24 with(first| (refine Zs rfl 46 _ _ rfl w3.heap.size 0 AA rfl rfl (bj _ rfl) df cq ?_;generalize hX:World.setCells _ w3.heap.size 0 _=w4;have H4:=Hq (H3.more (ug hX));have bi:w4.there f 0 4:=vj H4.ub rfl;have R4:=Hq (Lt hX (hL _ rfl));clear hX bj hL)| (refine Zs rfl 91 _ _ rfl f 0 #[Ia ka 0,Ia ka 0,Ia ka 0,Ia ka 0] rfl rfl bi Qj (by simp[Value.oneCell']) ?_;generalize hX:World.setCells w4 f 0 _=w5;have H5:Hid (Ik wB f w3.heap.size (a.root.map Kf) V X Y Z false w5/\Wh wB f (Ia ka 0) (Ia ka 0) (Ia ka 0) (Ia ka 0) w5):=Hq (tR H4 R4 dz (hf:=H3.lt) (h5:=hX));obtain⟨g0,g1,g2,g3,g4,g5,g6,g7⟩:=Wg H5.2.ub;clear hX bi))
         obtain⟨ab,hab⟩:=nm w3.heap.size;rw[hab]at H5⊢;have dj:=Hq (H5.1.more (Zb _ _).drew);clear g0 g1 g2 g3 g4 g5 g6 g7 hab H5 R4 H4 H3 ay HF dz df cq;go_cut [17,18] (λv17 v18 wd=>v17=La S2/\v18=Oa B2/\Wh wB f V X Y Z wd)
         case first=>
          refine Vj (by kernel_rfl) ?_;change wpAny _ _ _ _ _ _ _ (World.drew _);obtain⟨vf,g⟩:∃vf:Nat->Option Value,vf=λi=>([some (Qa (some ⟨ab,2,none⟩)),some (Sa (a.root.map Kf).toArray),some (La A2),some (Sa ((Ky sl).map Kf).toArray),some (Sa ((Ky sl).map Kf).toArray),some (Ma p2 l2.length c2),some (Wa #[La S2,Oa B2,Sa #[V,X,Y,Z]]),some (Wa #[La S2,Oa B2,Sa #[V,X,Y,Z]]),some (La S2),some (Oa B2),some (Sa #[V,X,Y,Z]),some (La S2),some (Oa B2),none]:List (Option Value)).getD i none:=⟨_,rfl⟩;refine jr _ (λd v w'=>(∀i x,vf i=some x->d i=true->v i=x)/\(λd v w'=>Ik wB f ab (a.root.map Kf) V X Y Z (d 13) w') d v w') (by kernel_rfl) (by kernel_rfl) ?_ _ (λ_=>undef) ?_ ?_
          .intro i o m du dw b W l p k j;have hi:=(Zg.1 m).1;match i,hi with
           |0,_=>obtain rfl:=Zi m;have gj:=(l.rest 20 (λi _=>Qh (by kernel_rfl) i)).trans rfl;refine Qe j.1 (by rw[g];rfl) j.2 ?_;clear m k l j p g;go_simp
           |1,_=>obtain rfl:=Zi m;have fw:=sd l j.1 (k ⟨0,.data⟩ (by simp) rfl) rfl (by simp) (by rw[g];rfl);refine Jv 39 (.tmp 79) rfl ab 2 (by simp only[Act.eval,Ya,fw,Yk]) (a.root.map Kf) _ j.2.root dt rfl fq ?_;exact⟨_,rfl,mj j.1 (by rw[g];rfl),j.2⟩
           |2,_=>obtain rfl:=Zi m;have gi:=(l.rest 15 (λi _=>Qh (by kernel_rfl) i)).trans rfl;refine Qe j.1 (by rw[g];rfl) j.2 ?_;clear m k l j p g;go_simp
           |3,_=>
            obtain rfl:=Zi m;have ib:=sd l j.1 (k ⟨2,.data⟩ (by simp) rfl) rfl (by simp) (by rw[g];rfl);refine zo (Sa ((Ky sl).map Kf).toArray) (λw9 s=>⟨_,rfl,mj j.1 (by rw[g];rfl),j.2.more s⟩) ?_;clear m k l j p g;go_simp;go_at_call 24
            refine(bq W).mono ?_;rintro e w9 ⟨rfl,s⟩;exact⟨rfl,s⟩
           |4,_=>
            obtain rfl:=Zi m;have ic:=sd l j.1 (k ⟨3,.data⟩ (by simp) rfl) rfl (by simp) (by rw[g];rfl);refine zo (Sa ((Ky sl).map Kf).toArray) (λw9 s=>⟨_,rfl,mj j.1 (by rw[g];rfl),j.2.more s⟩) ?_;clear m k l j p g;go_simp;go_at_call 98
            refine(bv W).mono ?_;rintro e w9 ⟨rfl,s⟩;exact⟨rfl,s⟩
           |5,_=>obtain rfl:=Zi m;have t4:=(l.rest 4 (λi _=>Qh (by kernel_rfl) i)).trans rfl;refine Qe j.1 (by rw[g];rfl) j.2 ?_;clear m k l j p g;go_simp
           |6,_=>
            obtain rfl:=Zi m;have ia:=sd l j.1 (k ⟨1,.data⟩ (by simp) rfl) rfl (by simp) (by rw[g];rfl);have ie:=sd l j.1 (k ⟨4,.data⟩ (by simp) rfl) rfl (by simp) (by rw[g];rfl);have ig:=sd l j.1 (k ⟨5,.data⟩ (by simp) rfl) rfl (by simp) (by rw[g];rfl);refine zo (Wa #[La S2,Oa B2,Sa #[V,X,Y,Z]]) (λw9 s=>⟨_,rfl,mj j.1 (by rw[g];rfl),j.2.more s⟩) ?_;have di:=Hq j;clear m k l j p g;go_simp;go_at_call 44
            refine(cf W di.2.below).mono ?_;rintro e w9 ⟨rfl,s⟩;exact⟨rfl,s⟩
           |7,_=>obtain rfl:=Zi m;have ii:=sd l j.1 (k ⟨6,.data⟩ (by simp) rfl) rfl (by simp) (by rw[g];rfl);refine Qe j.1 (by rw[g];rfl) j.2 ?_;clear m k l j p g;go_simp
           |8,_=>obtain rfl:=Zi m;have fg:=sd l j.1 (k ⟨7,.data⟩ (by simp) rfl) rfl (by simp) (by rw[g];rfl);refine Qe j.1 (by rw[g];rfl) j.2 ?_;clear m k l j p g;go_simp
           |9,_=>obtain rfl:=Zi m;have fg:=sd l j.1 (k ⟨7,.data⟩ (by simp) rfl) rfl (by simp) (by rw[g];rfl);refine Qe j.1 (by rw[g];rfl) j.2 ?_;clear m k l j p g;go_simp
           |10,_=>obtain rfl:=Zi m;have fg:=sd l j.1 (k ⟨7,.data⟩ (by simp) rfl) rfl (by simp) (by rw[g];rfl);refine Qe j.1 (by rw[g];rfl) j.2 ?_;clear m k l j p g;go_simp
           |11,_=>obtain rfl:=Zi m;have ij:=sd l j.1 (k ⟨8,.data⟩ (by simp) rfl) rfl (by simp) (by rw[g];rfl);refine Qe j.1 (by rw[g];rfl) j.2 ?_;clear m k l j p g;go_simp
           |12,_=>obtain rfl:=Zi m;have ik:=sd l j.1 (k ⟨9,.data⟩ (by simp) rfl) rfl (by simp) (by rw[g];rfl);refine Qe j.1 (by rw[g];rfl) j.2 ?_;clear m k l j p g;go_simp
           |13,_=>obtain rfl:=Zi m;have dv:b.tmps[19]? =some (Qa (some ⟨f,0,none⟩)):=(l.rest 19 (λi _=>Qh (by kernel_rfl) i)).trans rfl;have fx:b.tmps[88]? =some (Sa #[V,X,Y,Z]):=sd l j.1 (k ⟨10,.data⟩ (by simp) rfl) rfl (by simp) (by rw[g];rfl);refine J5 91 (.tmp 19) (.tmp 88) rfl f 0 #[V,X,Y,Z] (by simp only[Act.eval,Ya,dv,Yk]) (by simp only[Act.eval,Ya,fx,Yk]) j.2.there Qj ba.o ?_;exact⟨undef,rfl,vo j.1 (by rw[g];rfl),j.2.put⟩
          .exact⟨λ_ _ _ h=>(by simp at h),dj.o⟩
          .intro dw W j;have e0:=j.1 0 _ (by rw[g];rfl) rfl;have e1:=j.1 1 _ (by rw[g];rfl) rfl;have e2:=j.1 2 _ (by rw[g];rfl) rfl;have e3:=j.1 3 _ (by rw[g];rfl) rfl;have e4:=j.1 4 _ (by rw[g];rfl) rfl;have e5:=j.1 5 _ (by rw[g];rfl) rfl;have e6:=j.1 6 _ (by rw[g];rfl) rfl;have e7:=j.1 7 _ (by rw[g];rfl) rfl;have e8:=j.1 8 _ (by rw[g];rfl) rfl;have e9:=j.1 9 _ (by rw[g];rfl) rfl;have eo:=j.1 10 _ (by rw[g];rfl) rfl;have ci:=j.1 11 _ (by rw[g];rfl) rfl;have cj:=j.1 12 _ (by rw[g];rfl) rfl;have hX:=j.2;simp only[Gx,Act.put,Zf,Nat.reduceAdd,Yn,Y9,Yw,e0,e1,e2,e3,e4,e5,e6,e7,e8,e9,eo,ci,cj];clear j g e0 e1 e2 e3 e4 e5 e6 e7 e8 e9 eo ci cj;have HY:=Hq hX.fin;clear hX;(try go_wp2);go_meet;exact⟨rfl,rfl,HY.o⟩
         case rest=>
          obtain⟨rfl,rfl,hF⟩:=hcut;obtain⟨⟨rfl,rfl,rfl,rfl⟩,al,F,P,O⟩:=ch.o;have HF:=Hq hF;obtain⟨g0,g1,g2,g3,g4,g5,g6,g7⟩:=Wg hF.ub;clear ch ba cf bq bv dj hF;cases hq2c:q2 with
          |error er=>
           rw[hq2c]at F P O al;have L:Hid (Ng q=S2/\Nh q=B2/\Nq q=Ki k0 2 k2 k3):=by obtain⟨rfl,rfl,rfl,rfl⟩:=zr F;rw[eh.o,hq2c,<-P,<-O];exact⟨rfl,rfl,rfl⟩
           have cw:((k0:Int) != 0)=true:=by obtain⟨rfl,rfl,rfl,rfl⟩:=zr F;have :=Sv (zu (Iw l2) al);simp;omega
           clear al F P O hq2c;go_upto_region 27 with fail
           have D:=Hq (HF.kj (Ia ka ((2:Nat):Int)));change Code.wp _ _ _ _ (wc.setCell ⟨f,1,none⟩ (Ia ka ((2:Nat):Int)));generalize wc.setCell ⟨f,1,none⟩ (Ia ka ((2:Nat):Int))=W9 at D⊢;obtain⟨t,R⟩:=nm k0;obtain⟨H,T⟩:∃n:Nat,2=n:=⟨_,rfl⟩;obtain⟨G,I⟩:=nm k2;obtain⟨z,ac⟩:=nm k3;have M:Hid (Ng q=S2/\Nh q=B2/\Nq q=Ki t H G z):=by rw[<-R,<-T,<-I,<-ac];exact L.o
           rw[R,T,I,ac]at D;clear R T I ac L HF g0 g1 g2 g3 g4 g5 g6 g7 cw;obtain⟨rb,U⟩:=nm (w.heap.size+1+1+1);rw[U];obtain⟨W0,ah⟩:=nm W9.drew;have r:Wh wB f (Ia ka (t:Int)) (Ia ka (H:Int)) (Ia ka (G:Int)) (Ia ka (z:Int)) W0:=by rw[<-ah];exact D.more (Zb _ _).drew
           obtain⟨W1,E⟩:=nm (W0.setCells rb 0 [Ia ka (t:Int),Ia ka (H:Int),Ia ka (G:Int),Ia ka (z:Int)]);have bc:=Hq E;have Q:=N.step r.below;have ae:f≠rb:=by have :=r.le;have :=N.lt;omega
           have ag:Hid (W0.there rb 0 4):=by rw[<-U];exact vj Q.Qd rfl
           have ao:Hid (∀W,W=W0\/W=W1->W.rangeAt f 0 [Ia ka (t:Int),Ia ka (H:Int),Ia ka (G:Int),Ia ka (z:Int)]):=λW hW=>by
            rcases hW with rfl|rfl;.exact Wi r.ub
            .rw[<-E];exact zc (Wi r.ub) (Qf _ _ _ _ _ ae)
           have am:=Hq (nz M.1 M.2.1 M.2.2 Q.below (by omega) ag E);clear r E Q ae U D M;refine Wo 5 (C:=λW=>W=W0) (by kernel_rfl) (by kernel_rfl) (by kernel_rfl) ah ?_;simp only[Y7,Xr,Y6,Yx];iterate 2 (go_big_quiet_step (fail))
           refine yq rfl 91 _ rfl f 0 rfl [Ia ka (t:Int),Ia ka (H:Int),Ia ka (G:Int),Ia ka (z:Int)] _ (by rintro _ rfl;exact ao _ (.inl rfl)) underlying91 rfl Qj ?_;simp only[Act.put,Yn,Y9,Yw];iterate 2 (go_big_quiet_step (fail))
           refine X4 ?_;rintro W0 rfl;refine Zs rfl 91 _ _ rfl rb 0 #[Ia ka (t:Int),Ia ka (H:Int),Ia ka (G:Int),Ia ka (z:Int)] rfl rfl ag Qj (by simp[Value.oneCell']) ?_;rw[show World.setCells W0 _ 0 _=W1 from bc.o];(try go_wp2);exact am _ rfl rfl rfl
          |ok o2=>
           rw[hq2c]at F P O al;have ai:=F;obtain⟨rfl,rfl,rfl,rfl⟩:=zr ai;have L:Hid (Ng q=S2/\Nh q=B2/\Nq q=Ki 0 0 0 0):=by rw[eh.o,hq2c,<-P,<-O];exact⟨rfl,rfl,rfl⟩
           clear al F P O hq2c ai;go_upto_region 27 with fail
           have D:=Hq HF.o;generalize wc=W9 at D⊢;obtain⟨t,R⟩:∃n:Nat,0=n:=⟨_,rfl⟩;obtain⟨H,T⟩:∃n:Nat,0=n:=⟨_,rfl⟩;obtain⟨G,I⟩:∃n:Nat,0=n:=⟨_,rfl⟩;obtain⟨z,ac⟩:∃n:Nat,0=n:=⟨_,rfl⟩;have M:Hid (Ng q=S2/\Nh q=B2/\Nq q=Ki t H G z):=by rw[<-R,<-T,<-I,<-ac];exact L.o
           replace D:Hid (Wh wB f (Ia ka (t:Int)) (Ia ka (H:Int)) (Ia ka (G:Int)) (Ia ka (z:Int)) W9):=by rw[<-R,<-T,<-I,<-ac];exact D
           clear R T I ac L HF g0 g1 g2 g3 g4 g5 g6 g7;obtain⟨rb,U⟩:=nm (w.heap.size+1+1+1);rw[U];obtain⟨W0,ah⟩:=nm W9.drew;have r:Wh wB f (Ia ka (t:Int)) (Ia ka (H:Int)) (Ia ka (G:Int)) (Ia ka (z:Int)) W0:=by rw[<-ah];exact D.more (Zb _ _).drew
           obtain⟨W1,E⟩:=nm (W0.setCells rb 0 [Ia ka (t:Int),Ia ka (H:Int),Ia ka (G:Int),Ia ka (z:Int)]);have bc:=Hq E;have Q:=N.step r.below;have ae:f≠rb:=by have :=r.le;have :=N.lt;omega
           have ag:Hid (W0.there rb 0 4):=by rw[<-U];exact vj Q.Qd rfl
           have ao:Hid (∀W,W=W0\/W=W1->W.rangeAt f 0 [Ia ka (t:Int),Ia ka (H:Int),Ia ka (G:Int),Ia ka (z:Int)]):=λW hW=>by
            rcases hW with rfl|rfl;.exact Wi r.ub
            .rw[<-E];exact zc (Wi r.ub) (Qf _ _ _ _ _ ae)
           have am:=Hq (nz M.1 M.2.1 M.2.2 Q.below (by omega) ag E);clear r E Q ae U D M;refine Wo 5 (C:=λW=>W=W0) (by kernel_rfl) (by kernel_rfl) (by kernel_rfl) ah ?_;simp only[Y7,Xr,Y6,Yx];iterate 2 (go_big_quiet_step (fail))
           refine yq rfl 91 _ rfl f 0 rfl [Ia ka (t:Int),Ia ka (H:Int),Ia ka (G:Int),Ia ka (z:Int)] _ (by rintro _ rfl;exact ao _ (.inl rfl)) underlying91 rfl Qj ?_;simp only[Act.put,Yn,Y9,Yw];iterate 2 (go_big_quiet_step (fail))
           refine X4 ?_;rintro W0 rfl;refine Zs rfl 91 _ _ rfl rb 0 #[Ia ka (t:Int),Ia ka (H:Int),Ia ka (G:Int),Ia ka (z:Int)] rfl rfl ag Qj (by simp[Value.oneCell']) ?_;rw[show World.setCells W0 _ 0 _=W1 from bc.o];(try go_wp2);exact am _ rfl rfl rfl
end Go.Proofs.YtpfbdlnibdfcoaaGreatDoor
