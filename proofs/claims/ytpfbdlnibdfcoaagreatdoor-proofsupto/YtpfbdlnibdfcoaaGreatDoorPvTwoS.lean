import Derived.Test.YtpfbdlnibdfcoaaGreatDoorPvBtB
import Derived.Test.YtpfbdlnibdfcoaaGreatDoorPvRvH
namespace Go.Proofs.YtpfbdlnibdfcoaaGreatDoor
open Go.RowKit Tryz
open Value renaming int->Ia,string->La,slice->Ma,bool->Oa,pointer->Qa,agg->Sa,tuple->Wa,iface->ca,nilIface->da
open IntKind renaming i64->ka
open Obj renaming cells->ma
open Ending renaming returned->na
open Tryz renaming prog->oa
set_option maxRecDepth 100000
set_option maxHeartbeats 0
section
structure ek(W0 W1 W2:Fa)(d9 d10:Bool)(W:Fa):Prop where
 a:d9=false->W0=W
 b:d9=true->d10=true->W2=W
 c:d9=true->d10=false->W1=W
 d:d10=true->d9=true
section
variable{W0 W1 W2 W:Fa}{d9 d10:Bool}
theorem ek.any(h:ek W0 W1 W2 d9 d10 W):W=W0\/W=W1\/W=W2:=by
 cases h9:d9 with
 |false=>exact .inl (h.a h9).symm
 |true=>
  cases h10:d10 with
  |false=>exact .inr (.inl (h.c h9 h10).symm)
  |true=>exact .inr (.inr (h.b h9 h10).symm)
theorem ek.iH(h:ek W0 W1 W2 d9 d10 W)(e:d9=false):W=W0/\d10=false:=by
 refine⟨(h.a e).symm,?_⟩;cases h10:d10 with
 |false=>rfl
 |true=>rw[h.d h10]at e;cases e
theorem ek.bQ(h:ek W0 W1 W2 d9 d10 W)(e:d9=true)(e2:d10=false):W=W1:=(h.c e e2).symm
theorem ek.eQ(h:ek W0 W1 W2 d9 d10 W)(e:d9=true)(e2:d10=true):W=W2:=(h.b e e2).symm
theorem ek.yv(h:ek W0 W1 W2 d9 d10 W)(e:d9=false){W':Fa}(h1:W1=W'):ek W0 W1 W2 true d10 W':=by obtain⟨-,a⟩:=h.iH e;exact⟨λq=>(by cases q),λ_ q=>(by rw[a]at q;cases q),λ_ _=>h1,λ_=>rfl⟩
theorem ek.put(_:ek W0 W1 W2 d9 d10 W)(e:d9=true){W':Fa}(h2:W2=W'):ek W0 W1 W2 d9 true W':=⟨λq=>(by rw[e]at q;cases q),λ_ _=>h2,λ_ q=>(by cases q),λ_=>e⟩
end
variable{w:Fa}
theorem ID{b:Nat}{z0 z1 z2 z3 z4 z5 z6 z7 z8 y0 y1 y2 y3 y4 y5 y6 y7 y8:Value}{t:TypeId}(h:w.heap[b]? =some (ma #[z0,z1,z2,z3,z4,z5,z6,z7,z8] t (0,0))):(w.setCells b 0 [y0,y1,y2,y3,y4,y5,y6,y7,y8]).heap[b]? =some (ma #[y0,y1,y2,y3,y4,y5,y6,y7,y8] t (0,0)):=by simp only[World.setCells];exact De (De (De (De (De (De (De (De (De (cs:=[z0,z1,z2,z3,z4,z5,z6,z7,z8]) h 0 _) 1 _) 2 _) 3 _) 4 _) 5 _) 6 _) 7 _) 8 _
theorem rq{b:Nat}{y0 y1 y2 y3 y4 y5 y6 y7 y8:Value}{t:TypeId}(h:w.heap[b]? =some (ma #[y0,y1,y2,y3,y4,y5,y6,y7,y8] t (0,0))):w.cell? ⟨b,0,none⟩=some y0/\w.cell? ⟨b,1,none⟩=some y1/\w.cell? ⟨b,2,none⟩=some y2/\w.cell? ⟨b,3,none⟩=some y3/\w.cell? ⟨b,4,none⟩=some y4/\w.cell? ⟨b,5,none⟩=some y5/\w.cell? ⟨b,6,none⟩=some y6/\w.cell? ⟨b,7,none⟩=some y7/\w.cell? ⟨b,8,none⟩=some y8/\w.frozen? ⟨b,6,none⟩=false:=by refine⟨?_,?_,?_,?_,?_,?_,?_,?_,?_,?_⟩<;>simp[World.cell?,World.frozen?,h]
theorem aJ{n:Nat}{F:Nat->Prop}(fr en:Nat)(tx0:Da)(g cap:Nat)(fb eb:Nat)(lb:Bool)(tb:Da)(p2:Option Addr)(m2 c2:Nat)(y:It)(r:Da)(v:Nat)(hr:0<r.size)(hv:(r[0]'hr).toNat=v)(hv16:v<16)(hgs:g<w.heap.size)(hrow:w.rangeAt g (v*5) [Oa lb,La tb,Ma p2 m2 c2,Ia ka (fb:Int),Ia ka (eb:Int)])(hT:Tree Ni kP n w F ⟨fb,eb,lb,tb,Ma p2 m2 c2⟩ y):Calls oa 96 #[Rh ⟨fr,en,true,tx0,Ma (some ⟨g,0,none⟩) 17 cap⟩ r false false ⟨#[]⟩] w (Eb (if y.pd=true then .over none else .on y (r.extract 1 r.size)) n F w):=by
 have ar:(0:Int)<(r.size:Int):=by omega
 have aq:(1:Int)<=(r.size:Int):=by omega
 have az:(v:Int)<17:=by omega
 have HS:=Hq (Cl.start w (N3 ⟨fr,en,true,tx0,Ma (some ⟨g,0,none⟩) 17 cap⟩ r false false ⟨#[]⟩).toArray #[Oa true,La tx0,Ma (some ⟨g,0,none⟩) 17 cap,Ia ka (fr:Int),Ia ka (en:Int)] (N3 Ns ⟨#[]⟩ false false ⟨#[]⟩).toArray rfl);have ac:Hid (∀W,Calls oa 148 #[Sa #[Oa lb,La tb,Ma p2 m2 c2,Ia ka (fb:Int),Ia ka (eb:Int)]] W λe G=>e=na (Oa y.pd)/\Ba W G):=λW=>by rw[<-mI hT];exact aA fb eb lb tb p2 m2 c2 W
 obtain⟨em,ah⟩:=nm y.pd;rw[ah]at ac⊢;have HX:=Hq (A3 hgs hrow hT);obtain⟨z,ai⟩:=nm (r.extract 1 r.size);rw[ai];obtain⟨S,hS⟩:=nm ((if em=true then Sw.over none else Sw.on y z));rw[hS];have ae:=Hq hS;clear hrow hT hgs ah hS;go_enter func96,ntmps96;go_upto_region 4 with fail
 generalize hWz:World.alloc (World.alloc _ _) _=Wz;have hN:Cl w (N3 ⟨fr,en,true,tx0,Ma (some ⟨g,0,none⟩) 17 cap⟩ r false false ⟨#[]⟩).toArray #[Oa true,La tx0,Ma (some ⟨g,0,none⟩) 17 cap,Ia ka (fr:Int),Ia ka (en:Int)] Wz:=by rw[<-hWz];exact HS.o
 obtain⟨W0,ag⟩:=nm Wz.drew;have I:Cl w (N3 ⟨fr,en,true,tx0,Ma (some ⟨g,0,none⟩) 17 cap⟩ r false false ⟨#[]⟩).toArray #[Oa true,La tx0,Ma (some ⟨g,0,none⟩) 17 cap,Ia ka (fr:Int),Ia ka (en:Int)] W0:=by rw[<-ag];exact hN.step (Zb _ _).drew
 obtain⟨t,B⟩:∃t,t=W0.heap.size:=⟨_,rfl⟩;obtain⟨W1,J⟩:=nm (W0.alloc (ma #[Oa false,La ⟨#[]⟩,Ma none 0 0,Ia ka 0,Ia ka 0,La ⟨#[]⟩,Oa false,Oa false,La ⟨#[]⟩] 169));have h1:W1.heap[t]? =some (ma #[Oa false,La ⟨#[]⟩,Ma none 0 0,Ia ka 0,Ia ka 0,La ⟨#[]⟩,Oa false,Oa false,La ⟨#[]⟩] 169 (0,0)):=by rw[<-J,B];exact Z6
 have Q:Ba W0 W1:=by rw[<-J];exact(Zb _ _).alloc (Za _) _
 obtain⟨W2,L⟩:=nm (W1.setCells t 0 [Oa lb,La tb,Ma p2 m2 c2,Ia ka (fb:Int),Ia ka (eb:Int),La z,Oa false,Oa false,La ⟨#[]⟩]);have R:Ba W0 W2:=by rw[<-L];exact Cg Q (Jq B.symm) _ _
 have h2:W2.heap[t]? =some (ma #[Oa lb,La tb,Ma p2 m2 c2,Ia ka (fb:Int),Ia ka (eb:Int),La z,Oa false,Oa false,La ⟨#[]⟩] 169 (0,0)):=by rw[<-L];exact ID h1
 have hC:∀W,W=W0\/W=W1\/W=W2->W.cell? ⟨w.heap.size+2,2,none⟩=some (Ma (some ⟨g,0,none⟩) 17 cap)/\W.cell? ⟨w.heap.size,5,none⟩=some (La r)/\W.cell? ⟨g,v*5,none⟩=some (Oa lb)/\W.cell? ⟨g,v*5+1,none⟩=some (La tb)/\W.cell? ⟨g,v*5+2,none⟩=some (Ma p2 m2 c2)/\W.cell? ⟨g,v*5+3,none⟩=some (Ia ka (fb:Int))/\W.cell? ⟨g,v*5+4,none⟩=some (Ia ka (eb:Int)):=λW hW=>by
  have ao:Ba W0 W:=by
   rcases hW with rfl|rfl|rfl;.exact Zb _ _
   .exact Q
   .exact R
  have P:=I.step ao;have E:=zc HX.2.1 (P.below.block g HX.1);exact⟨by simp[World.cell?,P.item],by simp[World.cell?,P.box],E 0 _ rfl,E 1 _ rfl,E 2 _ rfl,E 3 _ rfl,E 4 _ rfl⟩
 have HC:=Hq hC;have aj:=Hq B;have al:=Hq J.symm;have am:=Hq L.symm;have ak:=Hq (vj h1 rfl);have D:=Hq (A3 (I.step R) h2 (by rw[B];exact(Zg.1 I.item).1:w.heap.size+2<t));clear hWz hN I B J L h1 Q R h2 hC HS;go_cut [5] (λx wd=>x=Qa (some ⟨t,0,none⟩)/\wd=W2)
 case first=>
  refine Vj (by kernel_rfl) ?_;change wpAny _ _ _ _ _ _ _ (World.drew _);obtain⟨vf,a⟩:∃vf:Nat->Option Value,vf=λi=>([some (Qa (some ⟨w.heap.size+2,2,none⟩)),some (Ma (some ⟨g,0,none⟩) 17 cap),some (Ia ka (v:Int)),some (Qa (some ⟨g,v*5,none⟩)),some (Sa #[Oa lb,La tb,Ma p2 m2 c2,Ia ka (fb:Int),Ia ka (eb:Int)]),some (Qa (some ⟨w.heap.size,5,none⟩)),some (La r),some (La z),some (Sa #[Oa lb,La tb,Ma p2 m2 c2,Ia ka (fb:Int),Ia ka (eb:Int),La z,Oa false,Oa false,La ⟨#[]⟩]),some (Qa (some ⟨t,0,none⟩)),none]:List (Option Value)).getD i none:=⟨_,rfl⟩;refine jr _ (λd v G=>(∀i x,vf i=some x->d i=true->v i=x)/\(λd v G=>ek W0 W1 W2 (d 9) (d 10) G) d v G) (by kernel_rfl) (by kernel_rfl) ?_ _ (λ_=>undef) ?_ ?_
  .intro i o l au ay b W j m f c;have hi:=(Zg.1 l).1;match i,hi with
   |0,_=>obtain rfl:=Zi l;have t3:=(j.rest 3 (λi _=>Qh (by kernel_rfl) i)).trans rfl;refine Qe c.1 (by rw[a];rfl) c.2 ?_;clear l f j c m a;go_simp
   |1,_=>obtain rfl:=Zi l;have ba:=sd j c.1 (f ⟨0,.data⟩ (by simp) rfl) rfl (by simp) (by rw[a];rfl);obtain⟨V,X,Y,Z,k4,k5,k6⟩:=HC W c.2.any;refine Qe c.1 (by rw[a];rfl) c.2 ?_;clear l f j c m a;go_simp
   |2,_=>obtain rfl:=Zi l;have t4:=(j.rest 4 (λi _=>Qh (by kernel_rfl) i)).trans rfl;refine Qe c.1 (by rw[a];rfl) c.2 ?_;clear l f j c m a;go_simp
   |3,_=>obtain rfl:=Zi l;have bc:=sd j c.1 (f ⟨1,.data⟩ (by simp) rfl) rfl (by simp) (by rw[a];rfl);have bf:=sd j c.1 (f ⟨2,.data⟩ (by simp) rfl) rfl (by simp) (by rw[a];rfl);refine Qe c.1 (by rw[a];rfl) c.2 ?_;clear l f j c m a;go_simp
   |4,_=>obtain rfl:=Zi l;have bi:=sd j c.1 (f ⟨3,.data⟩ (by simp) rfl) rfl (by simp) (by rw[a];rfl);obtain⟨V,X,Y,Z,k4,k5,k6⟩:=HC W c.2.any;refine Qe c.1 (by rw[a];rfl) c.2 ?_;clear l f j c m a;go_simp
   |5,_=>obtain rfl:=Zi l;have t1:=(j.rest 1 (λi _=>Qh (by kernel_rfl) i)).trans rfl;refine Qe c.1 (by rw[a];rfl) c.2 ?_;clear l f j c m a;go_simp
   |6,_=>obtain rfl:=Zi l;have bl:=sd j c.1 (f ⟨5,.data⟩ (by simp) rfl) rfl (by simp) (by rw[a];rfl);obtain⟨V,X,Y,Z,k4,k5,k6⟩:=HC W c.2.any;refine Qe c.1 (by rw[a];rfl) c.2 ?_;clear l f j c m a;go_simp
   |7,_=>obtain rfl:=Zi l;have bm:=sd j c.1 (f ⟨6,.data⟩ (by simp) rfl) rfl (by simp) (by rw[a];rfl);refine Qe c.1 (by rw[a];rfl) c.2 ?_;clear l f j c m a;go_simp
   |8,_=>obtain rfl:=Zi l;have bj:=sd j c.1 (f ⟨4,.data⟩ (by simp) rfl) rfl (by simp) (by rw[a];rfl);have bn:=sd j c.1 (f ⟨7,.data⟩ (by simp) rfl) rfl (by simp) (by rw[a];rfl);refine Qe c.1 (by rw[a];rfl) c.2 ?_;clear l f j c m a;go_simp
   |9,_=>
    obtain rfl:=Zi l;obtain⟨N,-⟩:=c.2.iH m;have B:t=W.heap.size:=by rw[N];exact aj.o
    refine Vd (K:=λa' G=>a'=b.put (some 5) (Qa (some ⟨W.heap.size,0,none⟩))/\G=W.alloc (ma #[Oa false,La ⟨#[]⟩,Ma none 0 0,Ia ka 0,Ia ka 0,La ⟨#[]⟩,Oa false,Oa false,La ⟨#[]⟩] 169)) (by rintro a' G ⟨rfl,rfl⟩;exact⟨_,rfl,by rw[<-B];exact mj c.1 (by rw[a];rfl),c.2.yv m (by rw[N];exact al.o)⟩) ?_;clear l f j c m a N B;go_simp
   |10,_=>obtain rfl:=Zi l;have t5:=sd j c.1 (f ⟨9,.data⟩ (by simp) rfl) rfl (by simp) (by rw[a];rfl);have aw:=sd j c.1 (f ⟨8,.data⟩ (by simp) rfl) rfl (by simp) (by rw[a];rfl);have N:=c.2.bQ (f ⟨9,.data⟩ (by simp) rfl) m;refine J5 169 (.tmp 5) (.tmp 28) rfl t 0 #[Oa lb,La tb,Ma p2 m2 c2,Ia ka (fb:Int),Ia ka (eb:Int),La z,Oa false,Oa false,La ⟨#[]⟩] (by simp only[Act.eval,Ya,t5,Yk]) (by simp only[Act.eval,Ya,aw,Yk]) (by rw[N];exact ak.o) (by kernel_rfl) (kp (e:=⟨fb,eb,lb,tb,Ma p2 m2 c2⟩) ⟨p2,m2,c2,rfl⟩ z false false ⟨#[]⟩) ?_;exact⟨undef,rfl,vo c.1 (by rw[a];rfl),by rw[N];exact c.2.put (f ⟨9,.data⟩ (by simp) rfl) am.o⟩
  .exact⟨λ_ _ _ h=>(by simp at h),⟨λ_=>ag.symm,λ_ q=>(by cases q),λq=>(by cases q),λq=>(by cases q)⟩⟩
  .intro ay W c;have e0:=c.1 0 _ (by rw[a];rfl) rfl;have e1:=c.1 1 _ (by rw[a];rfl) rfl;have e2:=c.1 2 _ (by rw[a];rfl) rfl;have e3:=c.1 3 _ (by rw[a];rfl) rfl;have e4:=c.1 4 _ (by rw[a];rfl) rfl;have e5:=c.1 5 _ (by rw[a];rfl) rfl;have e6:=c.1 6 _ (by rw[a];rfl) rfl;have e7:=c.1 7 _ (by rw[a];rfl) rfl;have e8:=c.1 8 _ (by rw[a];rfl) rfl;have e9:=c.1 9 _ (by rw[a];rfl) rfl;have hX:=c.2;simp only[Gx,Act.put,Zf,Nat.reduceAdd,Yn,Y9,Yw,e0,e1,e2,e3,e4,e5,e6,e7,e8,e9];clear c a e0 e1 e2 e3 e4 e5 e6 e7 e8 e9;obtain rfl:W=W2:=hX.eQ rfl rfl;(try go_wp2);go_meet;exact⟨rfl,rfl⟩
 case rest=>
  obtain⟨rfl,rfl⟩:=hcut;obtain⟨V,X,Y,Z,k4,k5,k6⟩:=HC _ (.inr (.inr rfl));clear ai aq ar;go_wp2_with fail
  refine(ac _).mono ?_;rintro e O ⟨rfl,M⟩;have u:=D.1.step M;have h3:=(M.block t (Zg.1 D.2.1).1).trans D.2.1;obtain⟨d0,d1,d2,d3,d4,d5,d6,d7,d8,d9⟩:=rq h3;cases em with
  |true=>
   have l:Fc t O (O.setCell ⟨t,6,none⟩ (Oa true)):=⟨rfl,rfl,rfl,by simp,λk _ T=>Zd _ _ _ _ T⟩;have C:Cl w (N3 ⟨fr,en,true,tx0,Ma (some ⟨g,0,none⟩) 17 cap⟩ r false false ⟨#[]⟩).toArray #[Oa true,La tx0,Ma (some ⟨g,0,none⟩) 17 cap,Ia ka (fr:Int),Ia ka (en:Int)] (O.setCell ⟨t,6,none⟩ (Oa true)):=by have hl:=D.2.2;have hs:=(Zg.1 u.item).1;refine⟨u.below.setCell (p:=⟨t,6,none⟩) (by show w.heap.size<=t;omega) _,(l.block _ (by omega) (by omega)).trans u.box,ve u.Qd (l.block _ (by omega) (by omega)),(l.block _ hs (by omega)).trans u.item⟩
   have H:=Hq C;have U:=C.Qd;clear M u h3 l C V X Y Z k4 k5 k6;go_wp2_with (refine Zs rfl 169 _ _ rfl (w.heap.size+1) 0 (N3 ⟨fb,eb,lb,tb,Ma p2 m2 c2⟩ z true false ⟨#[]⟩).toArray rfl rfl U (qo ⟨fb,eb,lb,tb,Ma p2 m2 c2⟩ z true false ⟨#[]⟩) (kp (e:=⟨fb,eb,lb,tb,Ma p2 m2 c2⟩) ⟨p2,m2,c2,rfl⟩ z true false ⟨#[]⟩) ?_)
   rw[<-ae.o];exact H.ret (s:=.over none) (x:=⟨fb,eb,lb,tb,Ma p2 m2 c2⟩) ⟨_,_,_,rfl⟩ rfl ⟨rfl,rfl,rfl⟩
  |false=>
   have l:Fc t O (O.setCell ⟨t,6,none⟩ (Oa false)):=⟨rfl,rfl,rfl,by simp,λk _ T=>Zd _ _ _ _ T⟩;have C:Cl w (N3 ⟨fr,en,true,tx0,Ma (some ⟨g,0,none⟩) 17 cap⟩ r false false ⟨#[]⟩).toArray #[Oa true,La tx0,Ma (some ⟨g,0,none⟩) 17 cap,Ia ka (fr:Int),Ia ka (en:Int)] (O.setCell ⟨t,6,none⟩ (Oa false)):=by have hl:=D.2.2;have hs:=(Zg.1 u.item).1;refine⟨u.below.setCell (p:=⟨t,6,none⟩) (by show w.heap.size<=t;omega) _,(l.block _ (by omega) (by omega)).trans u.box,ve u.Qd (l.block _ (by omega) (by omega)),(l.block _ hs (by omega)).trans u.item⟩
   have H:=Hq C;have U:=C.Qd;clear M u h3 l C V X Y Z k4 k5 k6;go_wp2_with (refine Zs rfl 169 _ _ rfl (w.heap.size+1) 0 (N3 ⟨fb,eb,lb,tb,Ma p2 m2 c2⟩ z false false ⟨#[]⟩).toArray rfl rfl U (qo ⟨fb,eb,lb,tb,Ma p2 m2 c2⟩ z false false ⟨#[]⟩) (kp (e:=⟨fb,eb,lb,tb,Ma p2 m2 c2⟩) ⟨p2,m2,c2,rfl⟩ z false false ⟨#[]⟩) ?_)
   rw[<-ae.o];exact H.ret (s:=.on y z) (x:=⟨fb,eb,lb,tb,Ma p2 m2 c2⟩) ⟨_,_,_,rfl⟩ rfl ⟨rfl,rfl,rfl,rfl,HX.2.2.below (Cg H.below (by omega) _ _)⟩
end
section
theorem PU(s:Da)(h:0<s.size):(Ke s)[0]! =s[0].toNat:=by rw[Z9 _ _ (by rw[ta];exact h)];unfold Ke;simp;rfl
variable{l:List It}{r:Da}
theorem UK{n:Nat}{fr en:Nat}{za:Nat}{t:Nd}{r':Da}{y:It}(h:N9 (n+1) (.list fr en l) za=.ok t)(hd:za<=64)(hr:r.size=64-za)(hnb:qd (Ke r))(hs:P5 l r=.on y r'):qd (Ke r')/\y∈l/\∃dep',dep'<=64/\r'.size=64-dep'/\((∃a b s,y=.text a b s)\/(y.So=true/\∃t',N9 n y dep'=.ok t')):=by
 have j:∀(y:It) (d:Nat) (u:Nd),Nw (N9 n) y d=.ok u->((∃a b s,y=.text a b s)\/(y.So=true/\∃t',N9 n y d=.ok t')):=λy d u z=>by
  cases y with
  |text a b s=>exact .inl ⟨a,b,s,rfl⟩
  |list a b l=>exact .inr ⟨rfl,u,z⟩
 rw[N9]at h;change To (N9 n) fr l za=.ok t at h;by_cases f:l.length=2
 .obtain⟨a,b,rfl⟩:=nr f;rw[oq]at h;have c:P4 a b r=.on y r':=hs;unfold Gw at h;split at h;.cases h
  .rename_i u1 u2 s
   cases hu:K6 s with
   |none=>rw[hu]at h;cases h
   |some q=>
    obtain⟨p,g⟩:=q;rw[hu]at h;simp only at h;have m:P4 (.text u1 u2 s) b r=(match K6 s with |none=>.over none|some (p,true)=>.over (if Kg p=r then some (Kg b.bytes)else none)|some (p,false)=>if K7 (Kg p) r then .on b (r.extract p.length r.size)else .over none):=rfl;rw[m,hu]at c;cases g with
    |true=>cases c
    |false=>
     rw[Zj (by simp)]at h;unfold Pm at h;split at h;.cases h
     .rename_i hc
      simp only[not_or]at hc;cases hq:Nw (N9 n) b (za+p.length)with
      |error e=>rw[hq]at h;cases h
      |ok t'=>
       simp only at c;split at c
       .rename_i hb
        cases c;have D:=me p;have B:=np hb;exact⟨zp hnb _,by simp,za+p.length,by omega,by rw[Cf];omega,j _ _ _ hq⟩
       .cases c
 .rw[vm f]at h;rw[tC f]at hs;split at h
  .rename_i h17
   unfold Pv at h;split at h;.cases h
   .rename_i hc
    simp only[not_or]at hc;cases hkd:Kw (N9 n) (za+1) (l.take 16)with
    |error e=>rw[hkd]at h;cases h
    |ok ns=>
     obtain⟨E,i⟩:=kz _ _ hkd;have o:=ta r;obtain⟨v,k⟩:=nm ((Ke r)[0]!);have w:v<16:=by rw[<-k,Z9 (Ke r) 0 (by omega)];exact hnb _ (Zy _)
     have C:(l.take 16).length=16:=by rw[Zx];omega
     obtain⟨-,A⟩:=i v (by omega);have x:l.getD v (.text 0 0 [])=(l.take 16)[v]'(by omega):=by rw[Vu,Yb,Zk (by omega),Yk]
     unfold Rf at hs;rw[k,x]at hs;split at hs;.cases hs
     .rename_i hem
      cases hs;refine⟨zp hnb _,Y4 (Zy _),za+1,by omega,by rw[Cf];omega,j _ _ _ (A (by simpa using hem))⟩
  .cases h
theorem WQ{n:Nat}{F:Nat->Prop}{w:Fa}{e:El}{fr en:Nat}{za:Nat}{t:Nd}(hT:Tree Ni kP (n+1) w F e (.list fr en l))(hg:(It.list fr en l).Md 2048)(h:N9 (n+1) (.list fr en l) za=.ok t)(hd:za<=64)(hr:r.size=64-za)(hnb:qd (Ke r)):Calls oa 96 #[Rh e r false false ⟨#[]⟩] w (Eb (P5 l r) n F w):=by
 rcases hT with⟨⟨h1,L⟩,h3⟩|⟨h1,ps,hrow,hsub,h4,h5⟩;.have W:It.list fr en l=.text e.fr e.ra (Ke e.text):=h3;cases W
 .have X:It.list fr en l=.list e.fr e.ra (ps.map (·.2)):=h5;cases X;rw[It.Md]at hg;obtain⟨_,_,_,ac⟩:=hg;have Z:∀q∈ps,q.2.Md 2048:=λq hq=>Me.1 ac _ (V7 hq);rw[N9]at h;change To (N9 n) e.fr (ps.map (·.2)) za=.ok t at h;by_cases L:ps.length=2
  .obtain⟨g,cap,I,T,d⟩:=Dz hrow (by omega) hsub;match ps,L with
   | [a,b],_=>
    have ae:P5 ([a,b].map (·.2)) r=P4 a.2 b.2 r:=rfl;rw[ae];change Gw (N9 n) e.fr a.2 b.2 za=.ok t at h;obtain⟨r1,p1,m1,c1,s1⟩:=d.2 0 (by simp);obtain⟨D,C,B,c2,E⟩:=d.2 1 (by simp);have N:=hsub a (by simp);have f:=hsub b (by simp);have Y:=uy N (Z a (by simp));obtain⟨⟨K,J,la,i,sa⟩,ya⟩:=a;obtain⟨⟨m,k,M,H,sb⟩,c⟩:=b;have ah:sa=Ma p1 m1 c1:=s1;have G:sb=Ma C B c2:=E;subst ah G;obtain⟨P,Q,U,R,V⟩:=e;have j:V=Ma (some ⟨g,0,none⟩) 2 cap:=I;have o:U=true:=h1;subst j o;rcases zk N with⟨k1,_,k3⟩|⟨_,_,_,_,_,k3⟩
    .have y:ya=.text K J (Ke i):=k3;have ag:la=false:=k1;subst y ag;unfold Gw at h;simp only at h;cases hu:K6 (Ke i)with
     |none=>rw[hu]at h;cases h
     |some q=>
      obtain⟨p,z⟩:=q;rw[hu]at h;simp only at h;have hS:P4 (.text K J (Ke i)) c r=Ej p z ⟨m,k,M,H,Ma C B c2⟩ c r:=by
       have he:P4 (.text K J (Ke i)) c r=(match K6 (Ke i)with |none=>.over none|some (p,true)=>.over (if Kg p=r then some (Kg c.bytes)else none)|some (p,false)=>if K7 (Kg p) r then .on c (r.extract p.length r.size)else .over none):=rfl;rw[he,hu];unfold Ej;cases z with
       |false=>rw[Zj (by simp)]
       |true=>
        rw[Zo rfl]at h;rw[Zo rfl];split at h;.cases h
        .rename_i hc
         simp only[not_or]at hc;rcases zk f with⟨_,_,j3⟩|⟨_,_,_,_,_,j3⟩;.have x:c=.text m k (Ke H):=j3;rw[x,It.bytes,Wm]
         .have x:c=.list _ _ _:=j3;rw[x]at hc;exact absurd rfl hc.2
      rw[hS];exact BP P Q R g cap K J false i p1 m1 c1 m k M H C B c2 c r hu (Y.2.2 rfl) d.1 r1 D f
    .have y:=k3;rw[y]at h;cases h
  .rw[vm (by rw[Zl];exact L),Zl]at h;rw[tC (by rw[Zl];exact L)];split at h
   .rename_i h17
    obtain⟨g,cap,I,T,d⟩:=Dz hrow (by omega) hsub;rw[h17]at I T;unfold Pv at h;split at h;.cases h
    .rename_i hc
     simp only[not_or]at hc;have ai:=ta r;have s:0<r.size:=by omega
     obtain⟨v,hv⟩:=nm (r[0]'s).toNat;have O:(Ke r)[0]! =v:=by rw[PU r s,hv]
     have S:v<16:=by rw[<-O,Z9 (Ke r) 0 (by omega)];exact hnb _ (Zy _)
     have u:v<ps.length:=by omega
     obtain⟨D,C,B,c2,E⟩:=d.2 v (by rw[Zl];exact u);simp only[Xf]at D E;have f:=hsub _ (Zy u);unfold Rf;rw[O,Yb,Yt,Zk u];simp only[Vp,Yk];generalize ps[v]=q at D E f⊢;obtain⟨⟨m,k,M,H,sb⟩,c⟩:=q;have G:=E;subst G;obtain⟨P,Q,U,R,V⟩:=e;have j:=I;have o:=h1;subst j o;exact aJ P Q R g cap m k M H C B c2 c r v s hv S d.1 D f
   .cases h
end
section
def No(t:List Nat)(k:Nat):List Value:=(t.take k).map Kf++List.replicate (32-k) (Kf 0)
theorem nE(t:List Nat)(k:Nat)(ht:t.length=32)(hk:k<=32):(No t k).length=32:=by unfold No;simp;omega
theorem NH(t:List Nat)(k:Nat)(ht:t.length=32)(hk:k<32):(No t k)[k]? =some (Kf 0):=by unfold No;rw[Z4 (by simp;omega),Zl,Zx,Vf (by omega),J4,List.getElem?_replicate,Zo (by omega)]
theorem dF(t:List Nat)(k:Nat)(ht:t.length=32)(hk:k<32):(No t k).set k (Kf t[k]!)=No t (k+1):=by unfold No;rw[List.set_append_right _ _ (by simp;omega),Zl,Zx,Vf (by omega),J4,show 32-k=(32-(k+1))+1 by omega,List.replicate_succ,Y9,<-List.take_append_getElem (by omega :k<t.length),Xk,Xz,Z9 t k (by omega)];rfl
theorem TI(t:List Nat)(ht:t.length=32):No t 32=t.map Kf:=by unfold No;rw[Zz (by omega)];simp
theorem BB(s:Da)(k:Nat)(h:k<s.size):(Ke s)[k]! =s[k].toNat:=by rw[Z9 _ _ (by rw[ta];exact h)];unfold Ke;simp;rfl
theorem JD{fn:Func}{p:Tmp}{t1:TypeId}(h:fn.results=#[.cell p t1])(tmps:Array Value)(P:Program)(w:Fa)(b:Nat)(hp:tmps.getD p undef=Qa (some ⟨b,0,none⟩)){v:Value}(hv:(loadVar t1 ⟨b,0,none⟩).run P w=.ok v w):(results fn tmps).run P w=.ok v w:=by simp only[results,h];simp only[Array.mapM_eq_mapM_toList,List.mapM_cons,List.mapM_nil,Je,Result.andThen,hp];simp[Result.andThen,asAddr,hv]
theorem QB(s:Da)(hs:s.size=32)(w:Fa):Calls oa 93 #[La s] w λe w'=>e=na (Sa ((Ke s).map Kf).toArray)/\Ba w w':=by
 have h:=ta s;have I:(s.size:Int)=32:=by omega
 go_enter func93,ntmps93;go_wp2;generalize hWW:World.alloc (World.alloc w _) _=W;have C:Hid (Ba w W/\Lb W w.heap.size (No (Ke s) 0)/\Lb W (w.heap.size+1) (No (Ke s) 0)):=by rw[<-hWW];refine⟨((Zb _ _).alloc (Za _) _).alloc (by simp) _,(Lb.fresh w (No (Ke s) 0) _).alloc _,?_⟩;have :=Lb.fresh (w.alloc (ma (No (Ke s) 0).toArray 39)) (No (Ke s) 0) 39;rw[Yz]at this;exact this
 clear hWW;have f:Hid ((Ke s).length=32):=by rw[h];exact hs
 have c:(oa.info? 39).map (·.size)=some ((Ke s).map Kf).length:=by rw[Zl,h,hs];exact Ck
 clear h hs;go_loopg [4] 32 (λgh i wr=>∃k,k<=32/\gh=32-k/\i=Ia ka (k:Int)/\Ba w wr/\Lb wr w.heap.size (No (Ke s) 0)/\Lb wr (w.heap.size+1) (No (Ke s) k))
 case atStart=>exact⟨0,by omega,rfl,rfl,C.o⟩
 case round=>
  obtain⟨k,E,rfl,rfl,m,g,a⟩:=hrel;by_cases b:k<32
  .have H:(k:Int)<32:=by omega
   have F:(k:Int)<(s.size:Int):=by omega
   have x:k<s.size:=by omega
   obtain⟨J,K⟩:=a.2 k _ (NH _ k f b);have M:=a.1;have d:=Hq (A3 m g a);have z:=Hq ((BB s k x).symm);clear m g a;go_wp2;go_roundg (32-(k+1))
   case measure=>omega
   case rel=>refine⟨k+1,by omega,rfl,ld (by omega),d.1.setCell (by simp only;omega) _,d.2.1.og (by simp only;omega) _,?_⟩;have :=d.2.2.setAt k (Kf (Ke s)[k]!) (by rw[nE _ _ f.o (by omega)];exact b);rw[dF _ k f.o b]at this;rw[z.o];exact this
  .have t:k=32:=by omega
   subst t;rw[TI _ f.o]at a;have o:wr.rangeAt (w.heap.size+1) 0 ((Ke s).map Kf):=λj u G=>by rw[Zf];exact(a.2 j u G).1
   have l:wr.there w.heap.size 0 ((Ke s).map Kf).toArray.size:=λj D=>by
    rw[Ym,Zl,f.o]at D;have r:(No (Ke s) 0)[j]? =some (Kf 0):=by unfold No;rw[Xr,J9,Xi,List.getElem?_replicate,Zo (by omega)]
    rw[Zf];exact⟨by rw[(g.2 j _ r).1];rfl,(g.2 j _ r).2⟩
   have p:(oa.info? 39).map (·.size)=some ((Ke s).map Kf).toArray.size:=by rw[Ym];exact c
   have n:((Ke s).map Kf).toArray.all (·.oneCell')=true:=by rw[List.all_toArray,Xy];exact Mo _
   have d:Aside (Ba w wr):=m;obtain⟨L,q⟩:=nm ((Ke s).map Kf);rw[q]at o l c p n;have B:=Hq q;clear m g a b q E;go_wp2_with (first
    | (refine Zr rfl 39 _ rfl (w.heap.size+1) 0 rfl L _ o underlying39 rfl c ?_)
    | (refine Zs rfl 39 _ _ rfl w.heap.size 0 L.toArray rfl rfl l p n ?_))
   have y:=Zn wr w.heap.size 0 L (by rw[<-Ym];exact l);refine Zv (v:=Sa L.toArray) (JD results93 _ _ _ w.heap.size rfl (Yg _ _ _ 39 _ _ y underlying39 rfl c)) rfl ⟨by rw[B.o],?_⟩;exact Cg d (Za _) _ _
end
section
section
variable{P:Program}{md:Region.Mode}{ops:Array Oper}{Q:Exit->Act->Fa->Prop}
theorem GN(a0 a1:Act)(val:Nat->Value)(S:Array Bool->Fa->Prop)(hinj:∀i k j,Gv ops i=some j->Gv ops k=some j->i=k)(hback:∀(i:Nat) (o:Oper),ops[i]? =some o->∀e∈o.after,Region.binds md e=true->e.on<i)(each:∀(i:Nat) (o:Oper),ops[i]? =some o->∀(listed:Array Bool) (a:Act) (w:Fa),Sat ops a0 val listed a->(∀e∈o.after,Region.binds md e=true->listed.getD e.on false=true)->listed.size=ops.size->listed.getD i false=false->S listed w->(Region.wanted o (yielded ops a.tmps)=true->o.wp P a w (λa' w'=>a'=a.put o.dst (val i)/\S (listed.setIfInBounds i true) w') Q)/\(Region.wanted o (yielded ops a.tmps)=false->val i=undef/\S (listed.setIfInBounds i true) w))(hend:Sat ops a0 val (Array.replicate ops.size true) a1)(hQ:∀w,S (Array.replicate ops.size true) w->Q .normal a1 w):∀(fuel:Nat) (listed:Array Bool) (a:Act) (w:Fa),listed.size=ops.size->Ek listed<=fuel->Sat ops a0 val listed a->S listed w->wpAny P md ops Q fuel listed a w:=by
 have q:∀(listed:Array Bool) (a:Act) (w:Fa),listed.size=ops.size->(∀i,i<ops.size->listed.getD i false=true)->Sat ops a0 val listed a->S listed w->Q .normal a w:=by
  intro listed a w d B b m;have :listed=Array.replicate ops.size true:=by
   apply Array.ext;.simp[d]
   .intro i g p;have :=B i (by omega);simp only[Array.getD,g,dif_pos]at this;simpa using this
  subst this;rw[b.same hend];exact hQ w m
 have u:∀(listed:Array Bool),listed.size=ops.size->Region.ready md ops listed=[]->∀i,i<ops.size->listed.getD i false=true:=by
  intro listed d C;have I:∀n i,i<n->i<ops.size->listed.getD i false=true:=by
   intro n;induction n with
   |zero=>intro i h;omega
   |succ n ih=>
    intro i L c;by_cases G:i<n;.exact ih i G c
    .by_cases z:listed.getD i false=true;.exact z
     .exfalso;have s:i∈Region.ready md ops listed:=by
       unfold Region.ready;rw[Xu];refine⟨X3.2 c,?_⟩;have g:listed.getD i true=false:=by simp only[Array.getD,show i<listed.size by omega,dif_pos]at z⊢;simpa using z
       rw[g,Xh c];simp only[Bool.not_false,Vp,Yk,Bool.true_and];rw[Jn];intro e A;by_cases x:Region.binds md e=true;.have :=hback i ops[i] (Xh c) e A x;rw[ih e.on (by omega) (by omega)];simp
       .simp[x]
      rw[C]at s;cases s
  exact λi c=>I (i+1) i (by omega) c
 intro fuel;induction fuel with
 |zero=>
  intro listed a w d B b m;have l:∀i,i<ops.size->listed.getD i false=true:=by
   intro i c;by_cases h:listed.getD i false=true;.exact h
   .exfalso;have :=Ox (listed:=listed) (i:=i) (by omega) (by simpa using h);omega
  refine⟨?_,q listed a w d l b m⟩;unfold Region.ready;rw[List.filter_eq_nil_iff];intro i c;have g:listed.getD i true=true:=by
   have p:=l i (X3.1 c);simp only[Array.getD]at p⊢;split
   .rename_i hk
    simpa[hk]using p
   .rfl
  rw[g];simp
 |succ fuel ih=>
  intro listed a w d B b m;refine⟨λC=>q listed a w d (u listed d C) b m,λi c=>?_⟩;unfold Region.ready at c;rw[Xu]at c;obtain⟨E,r⟩:=c;have F:=X3.1 E;have t:=Xh F;rw[t]at r;simp only[Vp,Yk,X5,Bool.not_eq_true']at r;obtain⟨g,p⟩:=r;have f:listed.getD i false=false:=by simp only[Array.getD,show i<listed.size by omega,dif_pos]at g⊢;exact g
  have v:∀e∈ops[i].after,Region.binds md e=true->listed.getD e.on false=true:=by intro e A K;have :=(Jn.1 p) e A;rw[K]at this;simpa using this
  unfold wpOp;rw[t];simp only;have y:=each i _ t listed a w b v d f m;have J:=Ox (listed:=listed) (i:=i) (by omega) f;cases hw:Region.wanted ops[i] (yielded ops a.tmps)with
  |true=>rw[Zo rfl];refine .inl (Vd ?_ (y.1 hw));rintro a' w' ⟨rfl,D⟩;exact ih _ _ w' (by simp[d]) (by omega) (b.put t (by omega) f hinj) D
  |false=>rw[Zj (by simp)];have H:=b.put t (by omega) f hinj;rw[(y.2 hw).1]at H;exact ih _ _ w (by simp[d]) (by omega) H (y.2 hw).2
def Ez(md:Region.Mode)(ops:Array Oper):Bool:=(List.range ops.size).all λi=>match ops[i]? with |some o=>o.after.all (λe=> !(Region.binds md e)||decide (e.on<i))|none=>true
theorem UT(h:Ez md ops=true):∀(i:Nat) (o:Oper),ops[i]? =some o->∀e∈o.after,Region.binds md e=true->e.on<i:=by intro i o a e c b;have d:=(Zg.1 a).1;have :=Xy.1 h i (X3.2 d);rw[a]at this;have :=(Jn.1 this) e c;rw[b]at this;simpa using this
theorem oM(a0 a1:Act)(val:Nat->Value)(S:Array Bool->Fa->Prop)(h1:Pj ops=true)(h2:Ez md ops=true)(each:∀(i:Nat) (o:Oper),ops[i]? =some o->∀(listed:Array Bool) (a:Act) (w:Fa),Sat ops a0 val listed a->(∀e∈o.after,Region.binds md e=true->listed.getD e.on false=true)->listed.size=ops.size->listed.getD i false=false->S listed w->(Region.wanted o (yielded ops a.tmps)=true->o.wp P a w (λa' w'=>a'=a.put o.dst (val i)/\S (listed.setIfInBounds i true) w') Q)/\(Region.wanted o (yielded ops a.tmps)=false->val i=undef/\S (listed.setIfInBounds i true) w))(w:Fa)(hS:S (Array.replicate ops.size false) w)(h3:Gx val ops.toList 0 a0=a1)(hQ:∀w,S (Array.replicate ops.size true) w->Q .normal a1 w):wpAny P md ops Q ops.size (Array.replicate ops.size false) a0 w:=by
 subst h3;have b:∀i,(Array.replicate ops.size false).getD i false=false:=by
  intro i;simp only[Array.getD];split;.simp
  .rfl
 refine GN a0 _ val S (IA h1) (UT h2) each (Sat.all (IA h1) ops.toList [] (Array.replicate ops.size false) a0 rfl (by simp) (λi=>by rw[b];exact(Zt (Nat.not_lt_zero _)).symm) (Sat.start ops a0 val ops.size)) hQ ops.size _ a0 w (by simp) ?_ (Sat.start ops a0 val ops.size) hS;unfold Ek;simp
end
end
section
structure SE(w2:Fa)(r0 r1:Nat)(L M:List Value)(b2 b3:Bool)(W:Fa):Prop where
 os:W.os=w2.os
 tape:W.tape=w2.tape
 output:W.output=w2.output
 size:W.heap.size=w2.heap.size
 block:∀k,k≠r0->k≠r1->W.heap[k]? =w2.heap[k]?
 t0:W.there r0 0 L.length
 t1:W.there r1 0 M.length
 d0:b2=true->W.rangeAt r0 0 L
 d1:b3=true->W.rangeAt r1 0 M
variable{w2:Fa}{r0 r1:Nat}{L M:List Value}
theorem SE.start(h0:w2.there r0 0 L.length)(h1:w2.there r1 0 M.length):SE w2 r0 r1 L M false false w2:=⟨rfl,rfl,rfl,rfl,λ_ _ _=>rfl,h0,h1,(λh=>by cases h),(λh=>by cases h)⟩
theorem SE.drew{w2:Fa}{r0 r1:Nat}{L M:List Value}{b2 b3:Bool}{W:Fa}(h:SE w2 r0 r1 L M b2 b3 W):SE w2 r0 r1 L M b2 b3 W.drew:=⟨h.os,h.tape,h.output,h.size,h.block,h.t0,h.t1,h.d0,h.d1⟩
variable{W:Fa}
theorem qE{r b:Nat}(h:W.rangeAt r 0 L)(hne:r≠b):(W.setCells b 0 M).rangeAt r 0 L:=λj u hu=>(Zc (Qf _ _ _ _ _ hne)).trans (h j u hu)
variable{b2 b3:Bool}
theorem SE.Dj(h:SE w2 r0 r1 L M b2 b3 W)(hne:r0≠r1):SE w2 r0 r1 L M true b3 (W.setCells r0 0 L):=by obtain⟨c,d,f,g⟩:=Og r0 L 0 W;exact⟨d.trans h.os,f.trans h.tape,g.trans h.output,c.trans h.size,λk a b=>(Qf _ _ _ _ _ a).trans (h.block k a b),Xb h.t0 _ _ _,Xb h.t1 _ _ _,λ_=>Zn _ _ _ _ h.t0,λe=>qE (h.d1 e) (λe=>hne e.symm)⟩
theorem SE.ui(h:SE w2 r0 r1 L M b2 b3 W)(hne:r0≠r1):SE w2 r0 r1 L M b2 true (W.setCells r1 0 M):=by obtain⟨c,d,f,g⟩:=Og r1 M 0 W;exact⟨d.trans h.os,f.trans h.tape,g.trans h.output,c.trans h.size,λk b a=>(Qf _ _ _ _ _ a).trans (h.block k b a),Xb h.t0 _ _ _,Xb h.t1 _ _ _,λe=>qE (h.d0 e) hne,λ_=>Zn _ _ _ _ h.t1⟩
theorem SE.below{w:Fa}(h:SE w2 r0 r1 L M b2 b3 W)(hb:Ba w w2)(h0:w.heap.size<=r0)(h1:w.heap.size<=r1):Ba w W:=⟨h.os.trans hb.os,h.tape.trans hb.tape,h.output.trans hb.output,by rw[h.size];exact hb.size,λk hk=>(h.block k (by omega) (by omega)).trans (hb.block k hk)⟩
theorem SE.range(h:SE w2 r0 r1 L M b2 b3 W){b:Nat}{C:List Value}(hr:w2.rangeAt b 0 C)(h0:b≠r0)(h1:b≠r1):W.rangeAt b 0 C:=λj u hu=>(Zc (h.block b h0 h1)).trans (hr j u hu)
variable{P:Program}{Q:Exit->Act->Fa->Prop}{ops:Array Oper}{a:Act}{S:Fa->Prop}
def Ra(P:Program)(ops:Array Oper)(a:Act)(S:Fa->Prop)(o:Oper)(v:Value):Prop:=∀(b:Act) (W:Fa) (K:Act->Fa->Prop) (Q:Exit->Act->Fa->Prop),(∀j,Em ops j=true->b.tmps[j]? =a.tmps[j]?)->S W->K (b.put o.dst v) W->o.wp P b W K Q
theorem zo{o:Oper}{b:Act}{K:Act->Fa->Prop}(v:Value)(h:∀w',Ba W w'->K (b.put o.dst v) w')(hw:o.wp P b W (λa' w'=>a'=b.put o.dst v/\Ba W w') Q):o.wp P b W K Q:=Vd (by rintro a' w' ⟨rfl,hb⟩;exact h w' hb) hw
theorem Qu{b:Act}{j:Nat}{v:Value}(h:b.tmps[j]? =some v):b.eval (.tmp j)=v:=by simp only[Act.eval,Ya,h,Yk]
theorem Om{o:Oper}{ty:TypeId}{p c f:Nat}{cs:List Value}{d:TypeDesc}(ho:o.op=.load ty (.tmp p))(hn:Em ops p=true)(ha:a.tmps[p]? =some (Qa (some ⟨c,f,none⟩)))(hu:P.underlying ty=some d)(hd:d.isRow=true)(hi:(P.info? ty).map (·.size)=some cs.length)(hc:∀W,S W->W.rangeAt c f cs):Ra P ops a S o (Sa cs.toArray):=λ_ W _ _ hb hW hK=>Jv ty _ ho c f (Qu ((hb p hn).trans ha)) cs d (hc W hW) hu hd hi hK
theorem SE.two{W0 Wd:Fa}{o0 o1 o2 o3:Oper}{i0 i1 p0 p1:Nat}{T0 T1:TypeId}(hS:SE W0 r0 r1 L M false false Wd)(hne:r0≠r1)(ho:ops=#[o0,o1,o2,o3])(h1:Pj ops=true)(h2:Eo .any ops=true)(d0:o0.dst=some i0)(d1:o1.dst=some i1)(d2:o2.dst=none)(d3:o3.dst=none)(q2:o2.op=.store T0 (.tmp p0) (.tmp i0))(q3:o3.op=.store T1 (.tmp p1) (.tmp i1))(e2:o2.after.any (λe=>Region.binds .any e&&decide (e.on=0))=true)(e3:o3.after.any (λe=>Region.binds .any e&&decide (e.on=1))=true)(n0:Em ops p0=true)(n1:Em ops p1=true)(a0:a.tmps[p0]? =some (Qa (some ⟨r0,0,none⟩)))(a1:a.tmps[p1]? =some (Qa (some ⟨r1,0,none⟩)))(s0:i0<a.tmps.size)(s1:i1<a.tmps.size)(z0:(P.info? T0).map (·.size)=some L.length)(z1:(P.info? T1).map (·.size)=some M.length)(l0:L.toArray.all (·.oneCell')=true)(l1:M.toArray.all (·.oneCell')=true)(y0:Ra P ops a (λW=>∃x y,SE W0 r0 r1 L M x y W) o0 (Sa L.toArray))(y1:Ra P ops a (λW=>∃x y,SE W0 r0 r1 L M x y W) o1 (Sa M.toArray))(hQ:∀W,SE W0 r0 r1 L M true true W->Q .normal ((a.put (some i0) (Sa L.toArray)).put (some i1) (Sa M.toArray)) W):wpAny P .any ops Q ops.size (Array.replicate ops.size false) a Wd:=by
 refine jr a (λd v G=>(d 0=true->v 0=Sa L.toArray)/\(d 1=true->v 1=Sa M.toArray)/\SE W0 r0 r1 L M (d 2) (d 3) G) h1 h2 ?_ Wd (λ_=>undef) ⟨λh=>(by cases h),λh=>(by cases h),hS⟩ ?_
 .intro i o hoi f z b W l E m n;obtain⟨p,r,c⟩:=n;have w:∀(q:Oper) (k:Nat),q.after.any (λe=>Region.binds .any e&&decide (e.on=k))=true->(∀e∈q.after,Region.binds .any e=true->f.getD e.on false=true)->f.getD k false=true:=λq k h F=>by obtain⟨e,C,u⟩:=Array.any_eq_true'.1 h;simp only[X5,Jw]at u;rw[<-u.2];exact F e C u.1
  have s:=λj (D:Em ops j=true)=>l.rs j D;rw[ho]at hoi;match i,hoi with
  |0,hoi=>obtain rfl:o0=o:=Zi hoi;exact y0 b W _ _ s ⟨_,_,c⟩ ⟨_,rfl,λ_=>rfl,r,c⟩
  |1,hoi=>obtain rfl:o1=o:=Zi hoi;exact y1 b W _ _ s ⟨_,_,c⟩ ⟨_,rfl,p,λ_=>rfl,c⟩
  |2,hoi=>obtain rfl:o2=o:=Zi hoi;have g:=w _ 0 e2 m;have t:=(l.done 0 i0 g (by rw[ho];exact d0) s0).trans (Y5 some (p g));exact J5 T0 _ _ q2 r0 0 L.toArray (Qu ((s p0 n0).trans a0)) (Qu t) c.t0 z0 l0 ⟨undef,rfl,p,r,c.Dj hne⟩
  |3,hoi=>obtain rfl:o3=o:=Zi hoi;have g:=w _ 1 e3 m;have t:=(l.done 1 i1 g (by rw[ho];exact d1) s1).trans (Y5 some (r g));exact J5 T1 _ _ q3 r1 0 M.toArray (Qu ((s p1 n1).trans a1)) (Qu t) c.t1 z1 l1 ⟨undef,rfl,p,r,c.ui hne⟩
  |k+4,hoi=>simp at hoi
 .intro z W n;subst ho;have A:=n.1 rfl;have B:=n.2.1 rfl;have :=hQ W n.2.2;simp only[Gx,Zf,A,B,d0,d1,d2,d3,Act.put]at this⊢;exact this
end
end Go.Proofs.YtpfbdlnibdfcoaaGreatDoor
