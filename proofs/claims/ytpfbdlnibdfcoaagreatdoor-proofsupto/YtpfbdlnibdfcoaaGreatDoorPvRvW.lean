import Derived.Test.YtpfbdlnibdfcoaaGreatDoorPvRvM
namespace Go.Proofs.YtpfbdlnibdfcoaaGreatDoor
open Go.RowKit Tryz
open Value renaming int->Ia,string->La,slice->Ma,bool->Oa,pointer->Qa,agg->Sa,tuple->Wa,iface->ca,nilIface->da
open IntKind renaming i64->ka
open Obj renaming cells->ma
open Ending renaming returned->na
open Tryz renaming prog->oa
set_option maxRecDepth 100000
set_option maxHeartbeats 0
section
theorem FL{t:Nd}(r:Da)(h:t.ok):(t.next r).1.ok:=by
 have a:Nd.no.ok:=by rw[Nd.ok];trivial
 cases t with
 |no=>exact a
 |leaf p v=>exact a
 |stub g=>exact a
 |ext p t=>
  rw[Nd.next];split;.rw[Nd.ok]at h;exact h.2.1
  .exact a
 |br ks=>
  rw[Nd.ok]at h;show(ks.getD ((Ke r)[0]!) .no).ok;rw[Yb];cases hx:ks[(Ke r)[0]!]? with
  |none=>exact a
  |some y=>exact wu h.2 (Vw hx)
theorem bH:∀(n:Nat) (t:Nd) (r:Da),t.ok->(t.walk n r).1.ok
 |0,_,_,h=>h
 |n+1,t,r,h=>by
  rw[Nd.walk];split;.exact h
  .exact bH n _ _ (FL r h)
theorem gC(k:Nat)(h:k+1<=9223372036854775807):wrap64 ((k:Int)+1)=((k+1:Nat):Int):=by rw[show(k:Int)+1=((k+1:Nat):Int)by omega];unfold wrap64;omega
variable{w W:Fa}
theorem Sh{p:Option Addr}{l:List Da}{c:Nat}(h:Nf w p l c)(hb:Ba w W):Nf W p l c:=by
 rcases h with h|⟨g,o,e1,e2,e3,e4⟩;.exact .inl h
 .refine .inr ⟨g,o,e1,e2,λh=>Zm (e3 h) hb.size,?_⟩;by_cases a:0<l.length;.exact zc e4 (hb.block g (e3 a))
  .rw[show l=[]from Vv.1 (by omega)];intro j u b;simp at b
theorem rH{P:Program}{ops:Array Oper}{rest:List Oper}{op:Oper}{a:Act}{Q:Exit->Act->Fa->Prop}(hw:Region.wanted op (yielded ops a.tmps)=true)(ty:TypeId)(x:Operand)(ho:op.op=.load ty x)(b o:Nat)(hx:a.eval x=Qa (some ⟨b,o,none⟩))(cs:List Value)(d:TypeDesc)(hc:w.rangeAt b o cs)(hu:P.underlying ty=some d)(hd:d.isRow=true)(hi:(P.info? ty).map (·.size)=some cs.length)(h:wpList P ops Q rest (a.put op.dst (Sa cs.toArray)) w):wpList P ops Q (op::rest) a w:=wpList_step λK hK=>by rw[Zo hw];exact Jv ty x ho b o hx cs d hc hu hd hi (hK _ _ h)
theorem Iy(W:Fa)(D:List Nat)(hD:D.length=32):(storeCells ⟨W.heap.size,0,none⟩ (D.map Kf)).run oa (W.alloc (ma lc 39))=.ok () (W.alloc (ma (D.map Kf).toArray 39)):=run_storeCells_new W 39 lc (D.map Kf).toArray (by
 have :(oa.info? 39).map (·.size)=some 32:=by kernel_rfl
 rw[this];simp[hD]) (by simp[hD]) (Bx _)
theorem Fp{fn:Func}{a b c:Tmp}(h:fn.results=#[.tmp a,.tmp b,.cell c 91]){tmps:Array Value}{f e1 e2 e3 e4:Nat}{x y:Value}(ha:tmps.getD a undef=x)(hb:tmps.getD b undef=y)(hp:tmps.getD c undef=Qa (some ⟨f,0,none⟩))(hr:W.rangeAt f 0 [Ia ka (e1:Int),Ia ka (e2:Int),Ia ka (e3:Int),Ia ka (e4:Int)]):(results fn tmps).run oa W=.ok (Wa #[x,y,Ki e1 e2 e3 e4]) W:=by have d:=Yg _ _ _ 91 _ _ hr underlying91 rfl Qj;simp only[results,h];simp only[Array.mapM_eq_mapM_toList,List.mapM_cons,List.mapM_nil,Je,Result.andThen,ha,hb,hp];simp[Result.andThen,asAddr,d]
theorem xt{f:Nat}(h:Ba w W)(hf:w.heap.size<=f)(y0 y1 y2 y3:Value):Ba w ((((W.setCell ⟨f,0,none⟩ y0).setCell ⟨f,1,none⟩ y1).setCell ⟨f,2,none⟩ y2).setCell ⟨f,3,none⟩ y3):=(((h.setCell (p:=⟨f,0,none⟩) hf _).setCell (p:=⟨f,1,none⟩) hf _).setCell (p:=⟨f,2,none⟩) hf _).setCell (p:=⟨f,3,none⟩) hf _
structure Dn(w:Fa)(h K:List Nat)(W:Fa):Prop where
 below:Ba w W
 root:W.rangeAt w.heap.size 0 (h.map Kf)
 key:W.rangeAt (w.heap.size+1) 0 (K.map Kf)
 Qd:W.heap[w.heap.size+1+1]? =some (ma #[Ia ka 0,Ia ka 0,Ia ka 0,Ia ka 0] 91 (0,0))
variable{h K:List Nat}
theorem Dn.lt(k:Dn w h K W):w.heap.size+1+1<W.heap.size:=(Zg.1 k.Qd).1
theorem Dn.step{W':Fa}(k:Dn w h K W)(hb:Ba W W'):Dn w h K W':=by have a:=k.lt;exact⟨k.below.va hb,zc k.root (hb.block _ (by omega)),zc k.key (hb.block _ (by omega)),(hb.block _ a).trans k.Qd⟩
theorem Dn.start(w:Fa)(h K:List Nat):Dn w h K (((w.alloc (ma (h.map Kf).toArray 39)).alloc (ma (K.map Kf).toArray 37)).alloc (ma #[Ia ka 0,Ia ka 0,Ia ka 0,Ia ka 0] 91)):=by
 have i:Ba w (w.alloc (ma (h.map Kf).toArray 39)):=(Zb _ _).alloc (Za _) _;have j:=wg w (h.map Kf) 39;obtain⟨a,c⟩:=nm (w.alloc (ma (h.map Kf).toArray 39));have l:a.heap.size=w.heap.size+1:=by rw[<-c];simp
 rw[c]at i j⊢;have e:Ba a (a.alloc (ma (K.map Kf).toArray 37)):=(Zb _ _).alloc (Za _) _;have g:=wg a (K.map Kf) 37;obtain⟨b,d⟩:=nm (a.alloc (ma (K.map Kf).toArray 37));have m:b.heap.size=w.heap.size+1+1:=by rw[<-d];simp[l]
 rw[d]at e g⊢;have f:Ba b (b.alloc (ma #[Ia ka 0,Ia ka 0,Ia ka 0,Ia ka 0] 91)):=(Zb _ _).alloc (Za _) _;have k:(b.alloc (ma #[Ia ka 0,Ia ka 0,Ia ka 0,Ia ka 0] 91)).heap[b.heap.size]? =some (ma #[Ia ka 0,Ia ka 0,Ia ka 0,Ia ka 0] 91 (0,0)):=Z6;rw[l]at g;rw[m]at k;exact⟨i.trans ((e.trans (f.mono (by omega))).mono (by omega)),zc j ((e.trans (f.mono (by omega))).block _ (by omega)),zc g (f.block _ (by omega)),k⟩
theorem YC(h:List Nat)(K:List Nat)(pp:Option Addr)(l:List Da)(cc:Nat)(hrow:Nf w pp l cc)(hl:l.length<=9223372036854775806)(hh:h.length=32)(hhb:∀x∈h,x<256)(hK:K.length=32)(hKb:∀x∈K,x<256){q:Except Er (Option Da)}(hq:Ao h (Kg (Kl K)) (l.map Ke)=q):Calls oa 44 #[Sa (h.map Kf).toArray,Sa (K.map Kf).toArray,Ma pp l.length cc] w λe w'=>e=na (Wa #[La (Ng q),Oa (Nh q),Nq q])/\Ba w w':=by
 have ar:=underlying39;have iu:=underlying37;have hz:∀D:List Nat,D.length=32->(oa.info? 39).map (·.size)=some (D.map Kf).length:=λD hD=>by
  have :(oa.info? 39).map (·.size)=some 32:=by kernel_rfl
  rw[this];simp[hD]
 have f9:=Hq CI;have HQ:=Hq hq;have J:Hid (Nf w pp l cc/\l.length<=9223372036854775806/\h.length=32/\(∀x∈h,x<256)/\K.length=32/\(∀x∈K,x<256)):=⟨hrow,hl,hh,hhb,hK,hKb⟩;clear hrow hl hh hhb hK hKb hq;go_enter func44,ntmps44;go_wp2_with fail
 refine(f9 _).mono ?_;rintro e w1 ⟨rfl,fy⟩;have h1:=(Dn.start w h K).step fy;clear fy;have g:=Iy w1 (Ky [128]) (Bh _);have ai:Ba w1 (w1.alloc (ma ((Ky [128]).map Kf).toArray 39)):=(Zb _ _).alloc (Za _) _;have cu:=wg w1 ((Ky [128]).map Kf) 39;go_upto_region 2 with fail
 have h2:=h1.step ai;obtain⟨eb,dv⟩:=nm w1.heap.size;have aj:eb<(w1.alloc (ma ((Ky [128]).map Kf).toArray 39)).heap.size:=by rw[<-dv];simp
 generalize w1.alloc (ma ((Ky [128]).map Kf).toArray 39)=W2 at h2 cu ai aj⊢;rw[dv]at cu⊢;have H2:Hid (Dn w h K W2/\W2.rangeAt eb 0 ((Ky [128]).map Kf)/\eb<W2.heap.size):=⟨h2,cu,aj⟩;have HP:=Hq (λW=>Lu K J.2.2.2.2.1 J.2.2.2.2.2 W);have fp:Hid (∀w:Fa,(Op.equalIn 10000 39 (Sa (h.map Kf).toArray) (Sa ((Ky [128]).map Kf).toArray)).run oa w=.ok (decide (h=Ky [128])) w):=Ft _ _ J.2.2.1 (Bh _) J.2.2.2.1 (Lk _);clear h1 g ai cu h2 aj dv f9;go_cut [23] (λx wd=>x=Oa (decide (l.length=0/\h=Ky [128]))/\Dn w h K wd)
 case first=>
  have je:=H2.1.root;have jf:=H2.2.1;have df:=hz h J.2.2.1;have ji:=hz (Ky [128]) (Bh _);have jn:=fp.o;by_cases bf:l.length=0
  .have i0:((l.length:Int)==0)=true:=by rw[bf];rfl
   have HD:Hid (decide (l.length=0/\h=Ky [128])=decide (h=Ky [128])):=decide_eq_decide.2 ⟨λk=>k.2,λk=>⟨bf,k⟩⟩;clear bf;go_wp2_with (first| (refine rH rfl 39 (.tmp 3) rfl w.heap.size 0 rfl (h.map Kf) _ je ar rfl df ?_)| (refine rH rfl 39 (.tmp 9) rfl eb 0 rfl ((Ky [128]).map Kf) _ jf ar rfl ji ?_))
   go_meet;exact⟨by rw[HD.o],H2.1⟩
  .have i0:((l.length:Int)==0)=false:=Xe.2 (by omega);have HD:Hid (decide (l.length=0/\h=Ky [128])=false):=Zt λk=>bf k.1;clear bf;go_wp2;go_meet;exact⟨by rw[HD.o],H2.1⟩
 case rest=>
  obtain⟨rfl,hV⟩:=hcut;obtain⟨W3,rfl⟩:∃x,x=wc:=⟨_,rfl⟩;have HV:=Hq hV;by_cases hE:l.length=0/\h=Ky [128]
  .rw[Z5 hE];obtain⟨c0,c1,c2,c3,d0,d1,d2,d3⟩:=Wg hV.Qd;have j7:Hid (q=.ok none):=by show q=.ok none;rw[<-HQ.o];unfold Ao;rw[Zo ⟨by rw[Vv.1 hE.1];rfl,hE.2⟩]
   clear hV hE;go_wp2;rw[j7.o];exact Zv (v:=Wa #[La ⟨#[]⟩,Oa false,Ki 0 0 0 0]) (Fp results44 rfl rfl rfl (Wi (rn HV.Qd _ _ _ _))) rfl ⟨rfl,xt HV.below (by omega) _ _ _ _⟩
  .rw[Zt hE];have fi:Hid (Af (l.map Ke) h (Kg (Kl K)) 0=q):=by show Af (l.map Ke) h (Kg (Kl K)) 0=q;rw[<-HQ.o];unfold Ao;rw[Zj];rintro⟨e1,e2⟩;exact hE ⟨by have :=Y5 List.length e1;simpa using this,e2⟩
   clear hV hE;have gy:=HV.key;have ij:(oa.info? 37).map (·.size)=some (K.map Kf).length:=by rw[qp];simp[J.2.2.2.2.1]
   go_wp2_with (refine Zr rfl 37 _ rfl (w.heap.size+1) 0 rfl (K.map Kf) _ gy iu rfl ij ?_)
   refine(HP _).mono ?_;rintro e w4 ⟨rfl,gc⟩;have dh:=Hq (HV.step gc);obtain⟨p,hp⟩:=nm (Kg (Kl K));rw[hp]at fi⊢;clear gc;go_upto_region 5 with fail
   have dt:Ba w4 (w4.alloc (ma (N3 Ns p false false ⟨#[]⟩).toArray 169)):=(Zb _ _).alloc (Za _) _;have ba:(w4.alloc (ma (N3 Ns p false false ⟨#[]⟩).toArray 169)).heap[w4.heap.size]? =some (ma (N3 Ns p false false ⟨#[]⟩).toArray 169 (0,0)):=Z6;have I:=dh.step dt;have aq:=dh.lt;obtain⟨F,ia⟩:=nm w4.heap.size;change Code.wp _ _ _ _ (w4.alloc (ma (N3 Ns p false false ⟨#[]⟩).toArray 169));generalize w4.alloc (ma (N3 Ns p false false ⟨#[]⟩).toArray 169)=W5 at dt ba I⊢;rw[ia]at ba aq⊢;have g:=Iy W5 h J.2.2.1;have i9:=I.root;have df:=hz h J.2.2.1;have jd:(h.map Kf).toArray.size=32:=by simp[J.2.2.1]
   have im:=J.2.2.1;have du:Ba W5 (W5.alloc (ma (h.map Kf).toArray 39)):=(Zb _ _).alloc (Za _) _;have gv:=wg W5 (h.map Kf) 39;have ie:=Le W5 (h.map Kf).toArray 39 32 (by simp[J.2.2.1]);have ig:Oj w (w.heap.size+1+1) F W5.heap.size Ns p false false ⟨#[]⟩ h (W5.alloc (ma (h.map Kf).toArray 39)):=by have h6:=I.step du;have cw:=(Zg.1 ba).1;exact⟨h6.below,⟨by omega,by omega,I.below.size⟩,⟨by omega,by have :=I.lt;omega,by omega⟩,h6.Qd,(du.block _ cw).trans ba,gv,ie,by simp⟩
   have di:=Hq ig;clear dt I du gv ie ig;go_upto_region 6 with(refine Zr rfl 39 _ rfl w.heap.size 0 rfl (h.map Kf) _ i9 ar rfl df ?_)
   obtain⟨wb,ii⟩:=nm W5.heap.size;obtain⟨rb,gw⟩:=nm (w.heap.size+1+1);generalize W5.alloc (ma (h.map Kf).toArray 39)=W6 at di⊢;rw[ii,gw]at di⊢;have fh:Hid (p.size=64/\qd (Ke p)):=by rw[<-hp,me,Cj,J.2.2.2.2.1];refine⟨rfl,?_⟩;rw[qg λx hx=>Nat.lt_trans (nB K J.2.2.2.2.2 x hx) (by omega)];exact nB K J.2.2.2.2.2
   clear g i9 df jd im ba aq ii gw hp ia HV dh H2 HP fp gy ij;go_wp2;go_loopg [12] (l.length+1) (λgh i wr=>∃k e r V,k<=l.length/\gh=l.length+1-k/\i=Ia ka ((k:Nat):Int)/\Oj w rb F wb e r false false ⟨#[]⟩ V wr/\(∃p m c,e.sub=Ma p m c)/\V.length=32/\(∀x∈V,x<256)/\r.size<=64/\qd (Ke r)/\Af ((l.map Ke).drop k) V r k=q)
   case atStart=>exact⟨0,Ns,p,h,Xa _,rfl,rfl,di.o,⟨_,_,_,rfl⟩,J.2.2.1,J.2.2.2.1,Jq fh.1,fh.2,fi.o⟩
   case round=>
    obtain⟨k,e,r,V,gn,rfl,rfl,hV,⟨p0,m0,jm,jc⟩,dz,gj,ei,i7,eu⟩:=hrel;have i1:(k:Int)<=(l.length:Int):=by omega
    have jj:=hz V dz;have jh:=hV.want;have b5:wr.cell? ⟨F,5,none⟩=some (La r):=by simp[World.cell?,hV.Mk]
    have bm:=iA 64 r.size (by omega) (by omega) ei;obtain⟨dp,ge⟩:=nm (64-r.size);rw[ge]at bm;have jl:wrap64 (64-(r.size:Int))=(dp:Int):=bm;have hrow:Nf wr pp l cc:=Sh J.1 hV.below;have HO:=Hq (yS pp l cc k V dp hrow dz gj (by omega));have bv:=Hq hV;have E:Hid (k<=l.length/\dp<=64/\r.size=64-dp/\qd (Ke r)/\Af ((l.map Ke).drop k) V r k=q):=⟨gn,by omega,by omega,i7,eu⟩;clear hV jc gn ei i7 eu ge hrow bm gj;go_wp2_with (refine Zr rfl 39 _ rfl wb 0 rfl (V.map Kf) _ jh ar rfl jj ?_)
    refine HO.mono ?_;rintro e9 X ⟨ci,hA,hB⟩;have Z:=Hq (bv.step ci);rcases Nat.lt_or_ge k l.length with hlt|hge
    .obtain⟨s,hs⟩:∃s,l[k]? =some s:=⟨l[k],Zk hlt⟩;have cj:(l.map Ke).drop k=Ke s::(l.map Ke).drop (k+1):=by rw[Yv (by rw[Zl];exact hlt),Xf];rw[Zk hlt]at hs;rw[Zi hs]
     obtain⟨dm,dn⟩:=hB s hs;cases hsh:Pc (Ke s) V dp with
     |error er=>
      obtain⟨gq,⟨L,N,M,O,s2⟩,⟨H,G,cx2,ae⟩,rfl⟩:=dm er hsh;have al:s2=Ma H G cx2:=ae;subst al;have T:Hid (Ng q=⟨#[]⟩/\Nh q=false/\Nq q=Ki er.num 0 k er.at_):=by have hv:=E.2.2.2.2;rw[cj,Af,show 64-r.size=dp by have :=E.o;omega,hsh]at hv;rw[<-hv];have hp:=MP (λy hy=>Qk s y hy) hsh;refine⟨rfl,rfl,?_⟩;show Ki er.num (Er.inNode k er).proof k er.at_=_;rw[show(Er.inNode k er).proof=er.proof from rfl,hp]
      obtain⟨z,ac⟩:=nm er.num;obtain⟨ea,ao⟩:=nm er.at_;rw[ac]at gq;rw[ac,ao]at T⊢;have j8:((z:Int) != 0)=true:=by simp;omega
      clear hA hB dm dn hs cj hsh ae gq ac ao hlt ci;go_upto_region 12 with fail
      have Q:=Z.step (yj X (ma #[Oa M,La O,Ma H G cx2,Ia ka (L:Int),Ia ka (N:Int)] 152) (ma [Ia ka (z:Int),Ia ka 0,Ia ka (k:Int),Ia ka (ea:Int)].toArray 91));have U:=tw X (ma #[Oa M,La O,Ma H G cx2,Ia ka (L:Int),Ia ka (N:Int)] 152) [Ia ka (z:Int),Ia ka 0,Ia ka (k:Int),Ia ka (ea:Int)] 91;have ej:=(Zg.1 Z.Qd).1;change Code.wp _ _ _ _ ((X.alloc (ma #[Oa M,La O,Ma H G cx2,Ia ka (L:Int),Ia ka (N:Int)] 152)).alloc (ma [Ia ka (z:Int),Ia ka 0,Ia ka (k:Int),Ia ka (ea:Int)].toArray 91));generalize (X.alloc (ma #[Oa M,La O,Ma H G cx2,Ia ka (L:Int),Ia ka (N:Int)] 152)).alloc (ma [Ia ka (z:Int),Ia ka 0,Ia ka (k:Int),Ia ka (ea:Int)].toArray 91)=W9 at Q U⊢;obtain⟨fb,bc⟩:=nm (X.heap.size+1);rw[bc]at U⊢;obtain⟨W0,R⟩:=nm W9.drew;have B:Oj w rb F wb e r false false ⟨#[]⟩ V W0:=by rw[<-R];exact Q.step (Zb _ _).drew
      have ah:W0.rangeAt fb 0 [Ia ka (z:Int),Ia ka 0,Ia ka (k:Int),Ia ka (ea:Int)]:=by rw[<-R];exact U
      obtain⟨W1,u⟩:=nm (W0.setCells rb 0 [Ia ka (z:Int),Ia ka 0,Ia ka (k:Int),Ia ka (ea:Int)]);have aw:=Hq u;have bi:fb≠rb:=by omega
      have Y:Hid (W0.there rb 0 4):=vj B.Qd rfl;have bl:Hid (∀W,W=W0\/W=W1->W.rangeAt fb 0 [Ia ka (z:Int),Ia ka 0,Ia ka (k:Int),Ia ka (ea:Int)]):=λW hW=>by
       rcases hW with rfl|rfl;.exact ah
       .rw[<-u];exact zc ah (Qf _ _ _ _ _ bi)
      have ag:Hid (∀d:Array Value,d.getD 6 undef=La ⟨#[]⟩->d.getD 7 undef=Oa false->d.getD 8 undef=Qa (some ⟨rb,0,none⟩)->bodyPost oa f44 (λe w'=>e=na (Wa #[La (Ng q),Oa (Nh q),Nq q])/\Ba w w') .ret ⟨d,[]⟩ W1):=λd h6 h7 h8=>by
       refine Zv (v:=Wa #[La ⟨#[]⟩,Oa false,Ki z 0 k ea]) (Fp (e2:=0) results44 h6 h7 h8 (by rw[<-u];exact Zn _ _ _ _ Y.o)) rfl ⟨?_,?_⟩;.rw[T.1,T.2.1,T.2.2]
       .rw[<-u];exact Cg B.below B.lo.1 _ _
      clear Q U ej B ah u bi bc Z bv HO E;refine Wo 3 (C:=λW=>W=W0) (by kernel_rfl) (by kernel_rfl) (by kernel_rfl) R ?_;simp only[Y7,Xr,Y6,Yx];refine yq rfl 91 _ rfl fb 0 rfl [Ia ka (z:Int),Ia ka 0,Ia ka (k:Int),Ia ka (ea:Int)] _ (by rintro _ rfl;exact bl _ (.inl rfl)) underlying91 rfl Qj ?_;simp only[Act.put,Yn,Y9,Yw];iterate 2 (go_big_quiet_step (fail))
      refine X4 ?_;rintro W0 rfl;refine Zs rfl 91 _ _ rfl rb 0 #[Ia ka (z:Int),Ia ka 0,Ia ka (k:Int),Ia ka (ea:Int)] rfl rfl Y Qj (by simp[Value.oneCell']) ?_;rw[show World.setCells W0 _ 0 _=W1 from aw.o];(try go_wp2);exact ag _ rfl rfl rfl
     |ok t=>
      obtain⟨x,⟨L,N,M,O,s2⟩,bj,hg,⟨H,G,cx2,ae⟩,hT,rfl⟩:=dn t hsh;have al:s2=Ma H G cx2:=ae;subst al;have ai:=yj X (ma #[Oa M,La O,Ma H G cx2,Ia ka (L:Int),Ia ka (N:Int)] 152) (ma #[Ia ka 0,Ia ka 0,Ia ka 0,Ia ka 0] 91);obtain⟨B0,fq⟩:=nm wr.heap.size;have dr:=Z.step ai;have aq:=(Zg.1 bv.Mk).1;rw[fq]at hT aq;have fw:=hT.below ai;have ip:((X.alloc (ma #[Oa M,La O,Ma H G cx2,Ia ka (L:Int),Ia ka (N:Int)] 152)).alloc (ma #[Ia ka 0,Ia ka 0,Ia ka 0,Ia ka 0] 91)).there F 0 5:=λj hj=>vj dr.Mk rfl j (by show j<9;omega);have Q:=dr.Oq ⟨L,N,M,O,Ma H G cx2⟩;have fx:=SD (b:=F) fw (by show ¬B0<=F;omega) 0 (Ni ⟨L,N,M,O,Ma H G cx2⟩);have fg:Hid (U8 (λj=>B0<=j) x r (World.setCells ((X.alloc (ma #[Oa M,La O,Ma H G cx2,Ia ka (L:Int),Ia ka (N:Int)] 152)).alloc (ma #[Ia ka 0,Ia ka 0,Ia ka 0,Ia ka 0] 91)) F 0 (Ni ⟨L,N,M,O,Ma H G cx2⟩)) ⟨L,N,M,O,Ma H G cx2⟩ r false false ⟨#[]⟩ 7):=by
       refine⟨⟨_,_,_,rfl⟩,.inr ⟨rfl,rfl,rfl,x,6,dp,rfl,fx,rfl,E.2.2.2.1,hg,E.2.1,E.2.2.1,?_⟩⟩;cases x with
       |text a b s=>rw[N9]at bj;cases bj
       |list a b l=>exact .inr ⟨rfl,t,bj⟩
      have fo:=Hq (aT 6 x dp r t 64 bj E.2.1 E.2.2.1 (by have :=E.o;omega) E.2.2.2.1);have fm:Hid ((match Ep (t.walk 64 r)with |some (h',r')=>Af ((l.map Ke).drop (k+1)) h' r' (k+1)|none=>if(l.map Ke).drop (k+1)=[]then .ok (P7 (t.walk 64 r).1 (t.walk 64 r).2)else .error (.inNode (k+1) (.base 4)))=q):=by have hv:=E.2.2.2.2;rw[cj,Af,show 64-r.size=dp by have :=E.o;omega,hsh]at hv;exact hv
      have iz:=Hq (SH (λy hy=>Qk s y hy) E.2.1 hsh);have fk:=Hq Q;have bn:Hid (k<l.length):=hlt;have iw:Hid (F<B0):=aq;clear fq hA hB dm dn hs cj hsh ae bj hg hT ai dr fw Q fx ci hlt b5 Z aq;go_wp2_with (refine Zs rfl 152 _ _ rfl F 0 #[Oa M,La O,Ma H G cx2,Ia ka (L:Int),Ia ka (N:Int)] rfl rfl ip nl (mq ⟨L,N,M,O,Ma H G cx2⟩ ⟨_,_,_,rfl⟩) ?_)
      generalize World.setCells (World.alloc _ _) F 0 _=Wq at fg fk⊢;dsimp only[Act.put];go_loopg [] 7 (λgh wq=>∃e r2 ov fd v,Oj w rb F wb e r2 ov fd v V wq/\U8 (λj=>B0<=j) x r wq e r2 ov fd v gh)
      case atStart=>exact⟨_,r,false,false,⟨#[]⟩,fk.o,fg.o⟩
      case round=>
       obtain⟨e3,r3,ov,fd,v,P,⟨p3,m3,cx3,am⟩,j9⟩:=hrel;obtain⟨ef,et,el,ex,es⟩:=e3;have ew:es=Ma p3 m3 cx3:=am;subst ew;obtain⟨y0,-,-,-,-,-,y6,-,-,-⟩:=rq P.Mk;have au:=Hq P;rcases j9 with⟨rfl,rfl,o,hw,rfl,rfl⟩|⟨rfl,rfl,rfl,y,n,za,rfl,hT,hw,hn3,hg3,hd3,hr3,hy⟩
       .have ay:=fo.o;rw[hw]at ay;obtain⟨g,eo⟩:=ay;have dc:=fm.o;rw[g]at dc;have S:(if(l.map Ke).drop (k+1)=[]then .ok (P7 (t.walk 64 r).1 (t.walk 64 r).2)else .error (.inNode (k+1) (.base 4)))=q:=dc;rw[eo]at S;have ib:=gC k (by have :=bn.o;have :=J.2.1;omega);by_cases gi:k+1<l.length
        .have dw:((k+1:Nat):Int)<(l.length:Int):=by omega
         have T:Hid (q=.error (.inNode (k+1) (.base 4))):=by rw[Zj (λe=>by have :=Y5 List.length e;simp at this;omega)]at S;exact S.symm
         obtain⟨k1,ak⟩:=nm (k+1);rw[ak]at ib dw T;obtain⟨c0,c1,c2,c3,d0,d1,d2,d3⟩:=Wg P.Qd;clear g eo dc S gi ak hw P am;go_wp2;rw[T.o];exact Zv (v:=Wa #[La ⟨#[]⟩,Oa false,Ki 4 0 k1 0]) (Fp (e1:=4) (e2:=0) (e3:=k1) (e4:=0) results44 rfl rfl rfl (Wi (rn au.Qd _ _ _ _))) rfl ⟨rfl,xt au.below au.lo.1 _ _ _ _⟩
        .have dw:decide (((k+1:Nat):Int)<(l.length:Int))=false:=Zt (by omega);have T:Hid (q=.ok o):=by rw[Zo (Xw (by rw[Zl];omega))]at S;exact S.symm
         obtain⟨k1,ak⟩:=nm (k+1);rw[ak]at ib dw;have jo:¬((k1:Int)<(l.length:Int)):=by omega
         have jp:(l.length:Int)<=(k1:Int):=by omega
         clear g eo dc S gi ak hw am;go_upto_region 20 with fail
         obtain⟨W0,R⟩:=nm wr.drew;have B:Oj w rb F wb ⟨ef,et,el,ex,Ma p3 m3 cx3⟩ r3 true o.isSome (o.getD ⟨#[]⟩) V W0:=by rw[<-R];exact P.step (Zb _ _).drew
         obtain⟨W1,u⟩:=nm (W0.setCells rb 0 [Ia ka 0,Ia ka 0,Ia ka 0,Ia ka 0]);have aw:=Hq u;have Y:Hid (W0.there rb 0 4):=vj B.Qd rfl;have ik:Hid (∀W,W=W0\/W=W1->W.cell? ⟨F,7,none⟩=some (Oa o.isSome)/\W.cell? ⟨F,8,none⟩=some (La (o.getD ⟨#[]⟩))):=λW hW=>by
          have jb:W.heap[F]? =W0.heap[F]? :=by
           rcases hW with rfl|rfl;.rfl
           .rw[<-u];exact Qf _ _ _ _ _ B.ne.1.symm
          have h9:=jb.trans B.Mk;exact⟨by simp[World.cell?,h9],by simp[World.cell?,h9]⟩
         have ag:Hid (∀d:Array Value,d.getD 6 undef=La (o.getD ⟨#[]⟩)->d.getD 7 undef=Oa o.isSome->d.getD 8 undef=Qa (some ⟨rb,0,none⟩)->bodyPost oa f44 (λe w'=>e=na (Wa #[La (Ng q),Oa (Nh q),Nq q])/\Ba w w') .ret ⟨d,[]⟩ W1):=λd h6 h7 h8=>by
          refine Zv (v:=Wa #[La (o.getD ⟨#[]⟩),Oa o.isSome,Ki 0 0 0 0]) (Fp (e1:=0) (e2:=0) (e3:=0) (e4:=0) results44 h6 h7 h8 (by rw[<-u];exact Zn _ _ _ _ Y.o)) rfl ⟨?_,?_⟩;.rw[T.o];rfl
          .rw[<-u];exact Cg B.below B.lo.1 _ _
         clear P B u y0 y6;obtain⟨d1,d2⟩:=ik W0 (.inl rfl);refine Wo 7 (C:=λW=>W=W0) (by kernel_rfl) (by kernel_rfl) (by kernel_rfl) R ?_;simp only[Y7,Xr,Y6,Yx];iterate 7 (go_big_quiet_step (fail))
         refine X4 ?_;rintro W0 rfl;refine Zs rfl 91 _ _ rfl rb 0 #[Ia ka 0,Ia ka 0,Ia ka 0,Ia ka 0] rfl rfl Y Qj (by simp[Value.oneCell']) ?_;rw[show World.setCells W0 _ 0 _=W1 from aw.o];(try go_wp2);exact ag _ rfl rfl rfl
       .have ch:=rI hT;rcases hy with⟨a,b,s,rfl⟩|⟨hL,t3,hrd3⟩
        .have aj:el=false:=ch;subst aj;have cq:s=Ke ex:=by
          rcases zk hT with⟨_,_,h3⟩|⟨h3,_⟩;.cases h3;rfl
          .cases h3
         rw[xE]at hw;have ay:=fo.o;rw[hw]at ay;obtain⟨a',b',s',jg,g⟩:=ay;cases jg;have eh:=bH 64 t r iz.1;have dk:s.length=32:=by
          have :(t.walk 64 r).1=.stub s:=by
           unfold Ep at g;split at g
           .rename_i q1 q2 e
            cases g;rw[e]
           .cases g
          rw[this,Nd.ok]at eh;exact eh.1
         have ic:ex.size=32:=by rw[<-ta,<-cq];exact dk
         have y1:wr.cell? ⟨F,1,none⟩=some (La ex):=by simp[World.cell?,P.Mk]
         have ix:=Hq (QB ex ic wr);have HN:Hid (qd (Ke r3)/\r3.size<=64/\(Ke ex).length=32/\Af ((l.map Ke).drop (k+1)) (Ke ex) r3 (k+1)=q):=by refine⟨hn3,by omega,by rw[<-cq];exact dk,?_⟩;have :=fm.o;rw[g]at this;rw[<-cq];exact this
         clear P hT hw hn3 hg3 hd3 hr3 ch am cq g eh dk ic;go_wp2_with fail
         refine ix.mono ?_;rintro e5 w5 ⟨rfl,az⟩;have I:=au.step az;have ir:=I.kg;have bq:=Hq (I.Ir HN.2.2.1);have jk:=hz _ HN.2.2.1;clear az I y0 y6 y1;go_wp2_with (refine Zs rfl 39 _ _ rfl wb 0 ((Ke ex).map Kf).toArray rfl rfl (by rw[Ym,Zl,HN.2.2.1];exact ir) (by rw[Ym];exact jk) (Bx _) ?_)
         go_roundg (l.length+1-(k+1))
         case measure=>have :=bn.o;omega
         case rel=>exact⟨k+1,_,r3,Ke ex,by have :=bn.o;omega,rfl,ld (gC k (by have :=bn.o;have :=J.2.1;omega)),bq.o,⟨_,_,_,rfl⟩,HN.2.2.1,Qk ex,HN.2.1,HN.1,HN.2.2.2⟩
        .have aj:el=true:=ch.trans hL;subst aj;cases y with
         |text a b s=>cases hL
         |list yf yt yl=>
          cases n with
          |zero=>rw[N9]at hrd3;cases hrd3
          |succ n=>
           have iy:=Hq (WQ hT hg3 hrd3 hd3 hr3 hn3);have tg:=Hq (λy' r'=>UK (y:=y') (r':=r') hrd3 hd3 hr3 hn3);have dj:Hid (Pp 6 x r=Pp (n+1) (.list yf yt yl) r3/\(It.list yf yt yl).Md 2048):=⟨hw,hg3⟩;have i8:=FN P.Mk;clear P hT hw hn3 hg3 hd3 hr3 ch hL hrd3 am;go_wp2_with (refine Zr rfl 169 _ rfl F 0 rfl (N3 ⟨ef,et,true,ex,Ma p3 m3 cx3⟩ r3 false false ⟨#[]⟩) _ i8 underlying169 rfl (qo ⟨ef,et,true,ex,Ma p3 m3 cx3⟩ r3 false false ⟨#[]⟩) ?_)
           refine iy.mono ?_;rintro e5 w5 ⟨az,⟨qf,qt,ql,qx,qs⟩,r5,dg,cf,v5,rfl,⟨p5,m5,cx5,cw⟩,fv⟩;have io:qs=Ma p5 m5 cx5:=cw;subst io;have I:=au.step az;have iq:w5.there F 0 9:=vj I.Mk rfl;have bq:=Hq (I.zq ⟨qf,qt,ql,qx,Ma p5 m5 cx5⟩ r5 dg cf v5);have fj:=Hq fv;clear az cw fv I y0 y6 i8;go_wp2_with (refine Zs rfl 169 _ _ rfl F 0 (N3 ⟨qf,qt,ql,qx,Ma p5 m5 cx5⟩ r5 dg cf v5).toArray rfl rfl iq (qo ⟨qf,qt,ql,qx,Ma p5 m5 cx5⟩ r5 dg cf v5) (kp (e:=⟨qf,qt,ql,qx,Ma p5 m5 cx5⟩) ⟨p5,m5,cx5,rfl⟩ r5 dg cf v5) ?_)
           have de:Pp (n+1) (.list yf yt yl) r3=match P5 yl r3 with | .over o=>.over o| .on y r'=>Pp n y r':=rfl
           cases g:P5 yl r3 with
           |over o=>
            have hS:=fj.o;rw[g]at hS de;obtain⟨rfl,rfl,rfl⟩:=hS;go_roundg 0
            case measure=>omega
            case rel=>exact⟨_,r5,true,_,_,bq.o,⟨_,_,_,rfl⟩,.inl ⟨rfl,rfl,o,dj.1.trans de,rfl,rfl⟩⟩
           |on y' r'=>
            have hS:=fj.o;rw[g]at hS de;obtain⟨rfl,rfl,rfl,rfl,ja⟩:=hS;obtain⟨g1,g2,il,g3,g4,g5⟩:=tg y' r5 g;have g6:y'.Md 2048:=by have :=dj.2;rw[It.Md]at this;exact Me.1 this.2.2.2 _ g2
            go_roundg (n+1)
            case measure=>omega
            case rel=>exact⟨_,r5,false,false,_,bq.o,⟨_,_,_,rfl⟩,.inr ⟨rfl,rfl,rfl,y',n,il,rfl,SD ja (by show ¬B0<=F;have :=iw.o;omega) _ _,dj.1.trans de,g1,g6,g3,g4,g5⟩⟩
    .obtain⟨⟨L,N,M,O,s2⟩,⟨H,G,cx2,ae⟩,rfl⟩:=hA hge;have al:s2=Ma H G cx2:=ae;subst al;have T:Hid (Ng q=⟨#[]⟩/\Nh q=false/\Nq q=Ki 2 0 k 0):=by have hv:=E.2.2.2.2;rw[Xw (by rw[Zl];omega),Af]at hv;rw[<-hv];exact⟨rfl,rfl,rfl⟩
     obtain⟨z,ac⟩:=nm 2;obtain⟨ea,ao⟩:=nm 0;have j8:((z:Int) != 0)=true:=by rw[<-ac];rfl
     have fu:Ki 2 0 0 0=Ki z 0 0 ea:=by rw[<-ac,<-ao]
     have dq:Ki 2 0 k 0=Ki z 0 k ea:=by rw[<-ac,<-ao]
     rw[dq]at T;rw[fu];clear hA hB ae ac ao hge ci fu dq;go_upto_region 12 with fail
     have Q:=Z.step (yj X (ma #[Oa M,La O,Ma H G cx2,Ia ka (L:Int),Ia ka (N:Int)] 152) (ma [Ia ka (z:Int),Ia ka 0,Ia ka (k:Int),Ia ka (ea:Int)].toArray 91));have U:=tw X (ma #[Oa M,La O,Ma H G cx2,Ia ka (L:Int),Ia ka (N:Int)] 152) [Ia ka (z:Int),Ia ka 0,Ia ka (k:Int),Ia ka (ea:Int)] 91;have ej:=(Zg.1 Z.Qd).1;change Code.wp _ _ _ _ ((X.alloc (ma #[Oa M,La O,Ma H G cx2,Ia ka (L:Int),Ia ka (N:Int)] 152)).alloc (ma [Ia ka (z:Int),Ia ka 0,Ia ka (k:Int),Ia ka (ea:Int)].toArray 91));generalize (X.alloc (ma #[Oa M,La O,Ma H G cx2,Ia ka (L:Int),Ia ka (N:Int)] 152)).alloc (ma [Ia ka (z:Int),Ia ka 0,Ia ka (k:Int),Ia ka (ea:Int)].toArray 91)=W9 at Q U⊢;obtain⟨fb,bc⟩:=nm (X.heap.size+1);rw[bc]at U⊢;obtain⟨W0,R⟩:=nm W9.drew;have B:Oj w rb F wb e r false false ⟨#[]⟩ V W0:=by rw[<-R];exact Q.step (Zb _ _).drew
     have ah:W0.rangeAt fb 0 [Ia ka (z:Int),Ia ka 0,Ia ka (k:Int),Ia ka (ea:Int)]:=by rw[<-R];exact U
     obtain⟨W1,u⟩:=nm (W0.setCells rb 0 [Ia ka (z:Int),Ia ka 0,Ia ka (k:Int),Ia ka (ea:Int)]);have aw:=Hq u;have bi:fb≠rb:=by omega
     have Y:Hid (W0.there rb 0 4):=vj B.Qd rfl;have bl:Hid (∀W,W=W0\/W=W1->W.rangeAt fb 0 [Ia ka (z:Int),Ia ka 0,Ia ka (k:Int),Ia ka (ea:Int)]):=λW hW=>by
      rcases hW with rfl|rfl;.exact ah
      .rw[<-u];exact zc ah (Qf _ _ _ _ _ bi)
     have ag:Hid (∀d:Array Value,d.getD 6 undef=La ⟨#[]⟩->d.getD 7 undef=Oa false->d.getD 8 undef=Qa (some ⟨rb,0,none⟩)->bodyPost oa f44 (λe w'=>e=na (Wa #[La (Ng q),Oa (Nh q),Nq q])/\Ba w w') .ret ⟨d,[]⟩ W1):=λd h6 h7 h8=>by
      refine Zv (v:=Wa #[La ⟨#[]⟩,Oa false,Ki z 0 k ea]) (Fp (e2:=0) results44 h6 h7 h8 (by rw[<-u];exact Zn _ _ _ _ Y.o)) rfl ⟨?_,?_⟩;.rw[T.1,T.2.1,T.2.2]
      .rw[<-u];exact Cg B.below B.lo.1 _ _
     clear Q U ej B ah u bi bc Z bv HO E;refine Wo 3 (C:=λW=>W=W0) (by kernel_rfl) (by kernel_rfl) (by kernel_rfl) R ?_;simp only[Y7,Xr,Y6,Yx];refine yq rfl 91 _ rfl fb 0 rfl [Ia ka (z:Int),Ia ka 0,Ia ka (k:Int),Ia ka (ea:Int)] _ (by rintro _ rfl;exact bl _ (.inl rfl)) underlying91 rfl Qj ?_;simp only[Act.put,Yn,Y9,Yw];iterate 2 (go_big_quiet_step (fail))
     refine X4 ?_;rintro W0 rfl;refine Zs rfl 91 _ _ rfl rb 0 #[Ia ka (z:Int),Ia ka 0,Ia ka (k:Int),Ia ka (ea:Int)] rfl rfl Y Qj (by simp[Value.oneCell']) ?_;rw[show World.setCells W0 _ 0 _=W1 from aw.o];(try go_wp2);exact ag _ rfl rfl rfl
end
section
def Rp:List Da->List Da->Option (Da×Da)
 |x::xs,y::ys=>if x=y then Rp xs ys else some (x,y)
 |_,_=>none
def Uc:Option (Da×Da)->Value
 |none=>Wa #[La ⟨#[]⟩,La ⟨#[]⟩,Oa false]
 |some (x,y)=>Wa #[La x,La y,Oa (decide ((G8 x).toList=(G8 y).toList))]
def P9(l:List Da):List Da:=if l=[]then[Kg [128]]else l
theorem uH:∀(M N:List Da),Ul (Ey (M.map Ke) (N.map Ke))=Uc (Rp M N)
 | [],_=>rfl
 |x::M,[]=>rfl
 |x::M,y::N=>by
  rw[Xm,Xm,Ey,Rp];by_cases h:x=y;.rw[Zo h,Zo (Y5 Ke h)];exact uH M N
  .rw[Zj h,Zj λe=>h (Mj e)];unfold Ul Uc Ky;simp only[Wm]
theorem iE(M:List Da):Pz (M.map Ke)=(P9 M).map Ke:=by
 cases M with
 |nil=>show[Kh []]=[Ke (Kg [128])];rw[lr (by omega)];rfl
 |cons x M=>rfl
variable{M N:List Da}{k:Nat}{s:Da}
theorem UR{t:Da}(h1:M[k]? =some s)(h2:N[k]? =some t):Rp (M.drop k) (N.drop k)=if s=t then Rp (M.drop (k+1)) (N.drop (k+1))else some (s,t):=by obtain⟨a,rfl⟩:=Zw.1 h1;obtain⟨b,rfl⟩:=Zw.1 h2;rw[Yv a,Yv b,Rp]
theorem cT(h:M=[]\/N=[]):Rp M N=none:=by
 rcases h with rfl|rfl;.rfl
 .cases M<;>rfl
theorem cC(h:k=0\/k<M.length):∃s,(P9 M)[k]? =some s/\((M.length=0/\s=Kg [128])\/(0<M.length/\M[k]? =some s)):=by
 cases M with
 |nil=>
  obtain rfl:k=0:=by simp at h;exact h
  exact⟨_,rfl,.inl ⟨rfl,rfl⟩⟩
 |cons x M=>
  have a:k<(x::M).length:=by rcases h with rfl|h<;>simp_all
  exact⟨(x::M)[k],Zk a,.inr ⟨by simp,Zk a⟩⟩
theorem lC{w:Fa}{p:Option Addr}{l:List Da}{c:Nat}(h:Nf w p l c)(hs:l[k]? =some s):∃g o,p=some ⟨g,o,none⟩/\w.cell? ⟨g,o+k,none⟩=some (La s):=by
 have a:=(Zw.1 hs).1;rcases h with⟨_,e,_⟩|⟨g,o,e1,_,_,e3⟩;.rw[e]at a;simp at a
 .exact⟨g,o,e1,e3 k _ (by rw[Yt,hs];rfl)⟩
theorem PR{w:Fa}{C b:Nat}{v:Value}{l:List Ed}{K:Array Nat}(h:vd w C b v l)(hl:l.length<=2097152)(hok:∀y∈l,nd 65 y)(hr:Sd 64 l)(hK:K.size=32)(hKb:K3 K)(p:Option Addr)(c:Nat)(N:List Da)(hs:Nf w p N c)(hN:N.length<=1048576)(hz:∀x∈N,x.size<=1048576){L:List (List Nat)}(hL:Hc 65 l (Kg (Kl K.toList)) []=L)(hLn:L.length<=1048576)(hLz:∀x∈L,x.length<=1048576):Calls oa 66 #[Qa (some ⟨b,0,none⟩),Sa (K.toList.map Kf).toArray,Ma p N.length c] w λx w'=>x=na (Uc (Rp (P9 (L.map Kg)) (P9 N)))/\Ba w w':=by
 have ci:=Mb hK
 have ay:=underlying37;have HP:Hid (∀W,Ba w W->Calls oa 57 #[Qa (some ⟨b,0,none⟩),Sa (K.toList.map Kf).toArray] W λx w'=>∃bf,x=na (Wa #[bf,Ia ka 0])/\Ba W w'/\Db w' W.heap.size 1 bf L.length (G9 L)):=λW hW=>JC (h.below hW) hl hok hr hK hKb hL;have HX:Hid (Nf w p N c/\N.length<=1048576/\(∀x∈N,x.size<=1048576)/\L.length<=1048576/\(∀x∈L,x.length<=1048576)):=⟨hs,hN,hz,hLn,hLz⟩;obtain⟨Kc,R⟩:=nm ((K.toList.map Kf).toArray);obtain⟨W0,ah⟩:=nm (w.alloc (ma Kc 37));have au:W0.rangeAt w.heap.size 0 (K.toList.map Kf):=by rw[<-ah,<-R];exact wg w _ _
 have ae:Hid (Ba w W0):=Hq (by rw[<-ah];exact(Zb _ _).alloc (Za _) _);have bi:Hid (∀(W:Fa) (z:Nat),(convert 116 9 (Ma (some ⟨W.heap.size,0,none⟩) 1 1)).run oa (W.alloc (ma #[Ia .u8 (z:Int)] 5))=.ok (La (Kg [z])) (W.alloc (ma #[Ia .u8 (z:Int)] 5))):=Qn;have bq:∀W:Fa,(convert 116 9 (Ma (some ⟨W.heap.size,0,none⟩) 1 1)).run oa (W.alloc (ma #[Ia .u8 128] 5))=.ok (La (Kg [128])) (W.alloc (ma #[Ia .u8 128] 5)):=λW=>bi W 128;obtain⟨M,hM⟩:=nm (L.map Kg);have ag:Hid (L.map Kg=M/\M.length=L.length):=⟨hM,by rw[<-hM,Zl]⟩;obtain⟨X,r⟩:=nm (Rp (P9 M) (P9 N));have dg:=Hq r;have dm:=cC (M:=M) (k:=0) (.inl rfl);rw[hM,r,R];clear h hl hok hr hK hKb hs hN hz hL hLn hLz hM r;go_enter func66,ntmps66;go_upto_region 1 with fail
 clear ah;rw[<-R]at *;clear R;go_wp2_with (first| (refine Zr rfl 37 _ rfl w.heap.size 0 rfl (K.toList.map Kf) _ au ay rfl ci ?_))
 refine(HP W0 ae.o).mono ?_;rintro x w1 ⟨bf,rfl,bl,bj⟩;obtain⟨pr,cr,rfl,bv,-⟩:=Lq bj;have I:=ae.va bl;have S:Ba w1 (w1.alloc (ma #[Ia .u8 128] 5)):=(Zb _ _).alloc (Za _) _;have al:=bq w1;obtain⟨m,hm⟩:=nm L.length;obtain⟨n,hn⟩:=nm N.length;obtain⟨W2,E⟩:=nm (w1.alloc (ma #[Ia .u8 128] 5));have f:Hid (Ba w W2/\Nf W2 pr M cr/\Nf W2 p N c/\M.length=m/\N.length=n/\m<=1048576/\n<=1048576):=⟨by rw[<-E];exact I.va S,by rw[<-E,<-ag.1];exact Sh bv.vg S,by rw[<-E];exact Sh HX.1 (I.va S),by rw[ag.2,hm],hn,by rw[<-hm];exact HX.2.2.2.1,by rw[<-hn];exact HX.2.1⟩;rw[E]at al;rw[hm,hn];clear bv bj bl I S bq hm hn au ci ay HP ae bi;go_upto_region 5 with fail
 clear E al;go_wp2;go_loopg [12] ((P9 M).length+1) (λgh i wr=>∃k,k<=(P9 M).length/\gh=(P9 M).length+1-k/\i=Ia ka (k:Int)/\Ba W2 wr/\Rp ((P9 M).drop k) ((P9 N).drop k)=X)
 case atStart=>exact⟨0,Xa _,rfl,rfl,Zb _ _,dg.o⟩
 case round=>
  obtain⟨k,hk,rfl,rfl,H,r⟩:=hrel;by_cases j:k=0\/(k<m/\k<n)
  .obtain⟨s,aw,Z⟩:=cC (M:=M) (k:=k) (j.imp id λh=>by rw[f.2.2.2.1];exact h.1);obtain⟨t,cf,ac⟩:=cC (M:=N) (k:=k) (j.imp id λh=>by rw[f.2.2.2.2.1];exact h.2);have B:Hid ((k=0\/(k<m/\k<n))/\Ba W2 wr/\(if s=t then Rp ((P9 M).drop (k+1)) ((P9 N).drop (k+1))else some (s,t))=X/\k<(P9 M).length/\s.size<=1048576/\t.size<=1048576):=by
    refine⟨j,H,by rw[<-UR aw cf];exact r,(Zw.1 aw).1,?_,?_⟩
    .rcases Z with⟨_,rfl⟩|⟨_,e⟩;.rw[me];simp
     .rw[<-ag.1,Yt]at e;obtain⟨c,hc,rfl⟩:=Option.map_eq_some_iff.1 e;rw[me];exact HX.2.2.2.2 c (Vw hc)
    .rcases ac with⟨_,rfl⟩|⟨_,e⟩;.rw[me];simp
     .exact HX.2.2.1 t (Vw e)
   have dc:Hid ((m=0/\s=Kg [128])\/(0<m/\∃g o,pr=some ⟨g,o,none⟩/\wr.cell? ⟨g,o+k,none⟩=some (La s)/\k<m)):=by rw[f.2.2.2.1]at Z;exact Z.imp id λh=>⟨h.1,by obtain⟨g,o,G,e2⟩:=lC (Sh f.2.1 H) h.2;exact⟨g,o,G,e2,by have :=(Zw.1 h.2).1;rw[f.2.2.2.1]at this;exact this⟩⟩
   have de:Hid ((n=0/\t=Kg [128])\/(0<n/\∃g o,p=some ⟨g,o,none⟩/\wr.cell? ⟨g,o+k,none⟩=some (La t)/\k<n)):=by rw[f.2.2.2.2.1]at ac;exact ac.imp id λh=>⟨h.1,by obtain⟨g,o,G,e2⟩:=lC (Sh f.2.2.1 H) h.2;exact⟨g,o,G,e2,by have :=(Zw.1 h.2).1;rw[f.2.2.2.2.1]at this;exact this⟩⟩
   clear j H r aw Z cf ac hk;go_upto_region 6 with fail
   go_cut [40] (λu wd=>u=Oa true/\wd=wr)
   case first=>
    rcases B.1 with rfl|⟨h1,h2⟩;.go_wp2;go_meet;exact⟨rfl,rfl⟩
    .have i1:(k:Int)<(m:Int):=by omega
     have i2:(k:Int)<(n:Int):=by omega
     by_cases h0:k=0
     .have i0:((k:Int)==0)=true:=by simp;omega
      go_wp2;go_meet;exact⟨rfl,rfl⟩
     .have i0:((k:Int)==0)=false:=by simp;omega
      go_wp2;go_meet;exact⟨rfl,rfl⟩
   case rest=>
    obtain⟨rfl,a⟩:=hcut;obtain rfl:=a.symm;go_upto_region 10 with fail
    go_cut [47] (λu wd=>u=Oa (decide (0<m))/\wd=wr)
    case first=>
     have G:decide ((0:Int)<(m:Int))=decide (0<m):=by simp
     go_wp2;go_meet;exact⟨by first|rfl|rw[G],rfl⟩
    case rest=>
     obtain⟨rfl,a⟩:=hcut;obtain rfl:=a.symm;apply_assumption;go_cut [13] (λu wd=>u=La s/\wd=wr)
     case first=>
      rcases dc.o with⟨rfl,rfl⟩|⟨h0,g,o,rfl,cs,hkm⟩;.go_wp2;go_meet;exact⟨rfl,rfl⟩
      .have i1:(k:Int)<(m:Int):=by omega
       have i2:decide (0<m)=true:=Z5 h0;rw[i2];go_wp2;go_meet;exact⟨rfl,rfl⟩
     case rest=>
      obtain⟨rfl,a⟩:=hcut;obtain rfl:=a.symm;go_upto_region 12 with fail
      go_cut [54] (λu wd=>u=Oa (decide (0<n))/\wd=wr)
      case first=>
       have G:decide ((0:Int)<(n:Int))=decide (0<n):=by simp
       go_wp2;go_meet;exact⟨by first|rfl|rw[G],rfl⟩
      case rest=>
       obtain⟨rfl,a⟩:=hcut;obtain rfl:=a.symm;apply_assumption;go_cut [14] (λu wd=>u=La t/\wd=wr)
       case first=>
        rcases de.o with⟨rfl,rfl⟩|⟨h0,g,o,rfl,cs,hkm⟩;.go_wp2;go_meet;exact⟨rfl,rfl⟩
        .have i1:(k:Int)<(n:Int):=by omega
         have i2:decide (0<n)=true:=Z5 h0;rw[i2];go_wp2;go_meet;exact⟨rfl,rfl⟩
       case rest=>
        obtain⟨rfl,a⟩:=hcut;obtain rfl:=a.symm;by_cases q:s=t
        .subst q;have HE:Hid (Rp ((P9 M).drop (k+1)) ((P9 N).drop (k+1))=X/\wrap64 ((k:Int)+1)=((k+1:Nat):Int)):=⟨by have :=B.2.2.1;rwa [Zo rfl]at this,by have h:=B.2.2.2.1;have h2:(P9 M).length<=1048577:=(by have :=f.o;unfold P9;split<;>simp <;>omega);unfold wrap64;omega⟩;go_wp2;go_roundg ((P9 M).length+1-(k+1))
         case measure=>have :=B.2.2.2.1;omega
         case rel=>exact⟨k+1,by have :=B.2.2.2.1;omega,rfl,by first|exact ld HE.2|exact ld rfl,B.2.1,HE.1⟩
        .have dk:=St q;obtain⟨dx,T⟩:=nm ((G8 s).toList);obtain⟨dy,U⟩:=nm ((G8 t).toList);have r:Uc X=Wa #[La s,La t,Oa (decide (dx=dy))]:=by rw[<-B.2.2.1,Zj q,<-T,<-U];rfl
         have O:Ky (Ke s)=dx:=by rw[Ky,Wm];exact T
         have P:Ky (Ke t)=dy:=by rw[Ky,Wm];exact U
         have cu:Hid (∀W,Calls oa 24 #[La s] W λe w'=>e=na (Sa (dx.map Kf).toArray)/\Ba W w'):=λW=>by rw[<-T];exact Dr s W (by have :=B.o;omega)
         have cw:Hid (∀W,Calls oa 24 #[La t] W λe w'=>e=na (Sa (dy.map Kf).toArray)/\Ba W w'):=λW=>by rw[<-U];exact Dr t W (by have :=B.o;omega)
         have aq:dx.length=32:=by rw[<-O];exact Bh _
         have ar:dy.length=32:=by rw[<-P];exact Bh _
         have ak:=Ft dx dy aq ar (by rw[<-O];exact Lk _) (by rw[<-P];exact Lk _);have df:=Hq r;have cj:=Hq ak;clear T U O P q r ak;go_wp2_with fail
         refine(cu wr).mono ?_;rintro e F ⟨rfl,bm⟩;have q:=Iy F dx aq;have ai:Ba F (F.alloc (ma (dx.map Kf).toArray 39)):=(Zb _ _).alloc (Za _) _;have V:=wg F (dx.map Kf) 39;go_upto_region 16 with fail
         obtain⟨xb,bc⟩:=nm F.heap.size;have ba:xb<(F.alloc (ma (dx.map Kf).toArray 39)).heap.size:=by rw[<-bc];simp
         generalize F.alloc (ma (dx.map Kf).toArray 39)=w4 at ai V ba⊢;rw[bc]at V⊢;have H4:Hid (Ba wr w4/\w4.rangeAt xb 0 (dx.map Kf)/\xb<w4.heap.size):=⟨bm.va ai,V,ba⟩;clear bm q ai V ba bc;go_wp2_with fail
         refine(cw w4).mono ?_;rintro e Q ⟨rfl,bn⟩;have q:=Iy Q dy ar;have aj:Ba Q (Q.alloc (ma (dy.map Kf).toArray 39)):=(Zb _ _).alloc (Za _) _;have Y:=wg Q (dy.map Kf) 39;go_upto_region 17 with fail
         obtain⟨yb,ch⟩:=nm Q.heap.size;generalize Q.alloc (ma (dy.map Kf).toArray 39)=w6 at aj Y⊢;rw[ch]at Y⊢;have J:=bn.va aj;have HR:Hid (Ba wr w6/\w6.rangeAt xb 0 (dx.map Kf)/\w6.rangeAt yb 0 (dy.map Kf)):=⟨H4.1.va J,zc H4.2.1 (J.block xb H4.2.2),Y⟩;have di:(oa.info? 39).map (·.size)=some (dx.map Kf).length:=by rw[show(oa.info? 39).map (·.size)=some 32 by kernel_rfl];simp[aq]
         have dj:(oa.info? 39).map (·.size)=some (dy.map Kf).length:=by rw[show(oa.info? 39).map (·.size)=some 32 by kernel_rfl];simp[ar]
         have az:=underlying39;have dh:=cj.o;clear bn q aj Y ch J H4;obtain⟨dd,am⟩:=nm (decide (dx=dy));have cq:Hid (decide (dx=dy)=dd):=am;rw[am]at dh;clear am;refine wp_region_quiet_lit (by kernel_rfl) (by kernel_rfl) ?_;iterate 2 (go_big_quiet_step (fail))
         refine BigFrame.wpQuiet_want rfl λKq D=>Wx 39 _ rfl xb 0 rfl (dx.map Kf) _ (λW hW=>?ld1) az rfl di (D _ ?_);case ld1=>obtain⟨n,rfl⟩:=hW;exact HR.2.1
         clear Kq D;refine BigFrame.wpQuiet_want rfl λKq D=>Wx 39 _ rfl yb 0 rfl (dy.map Kf) _ (λW hW=>?ld2) az rfl dj (D _ ?_);case ld2=>obtain⟨n,rfl⟩:=hW;exact HR.2.2
         clear Kq D;iterate 4 (quiet_step (fail))
         refine X4 ?_;rintro _ ⟨nq,rfl⟩;go_wp2;go_ret3;exact⟨by rw[df.o,cq.o];rfl,Below.drewN (f.1.va (B.2.1.va HR.1)) nq⟩
  .have HE:Hid (Uc X=Wa #[La ⟨#[]⟩,La ⟨#[]⟩,Oa false]):=by
    show Uc X=_;rw[<-r,cT];.rfl
    .have h1:k≠0:=λe=>j (.inl e);have ao:∀(A:List Da),A.length<=k->(P9 A).drop k=[]:=λA hA=>Xw (by
      unfold P9;split;.simp;omega
      .exact hA)
     by_cases h2:k<m;.exact .inr (ao N (by have :=f.o;omega))
     .exact .inl (ao M (by have :=f.o;omega))
   have i0:((k:Int)==0)=false:=by have h1:k≠0:=λe=>j (.inl e);simp;omega
   have HB:Hid (Ba w wr):=f.1.va H;by_cases h2:k<m
   .have i1:(k:Int)<(m:Int):=by omega
    have i2:¬(k:Int)<(n:Int):=by omega
    clear r j H hk h2;go_wp2;go_ret3;exact⟨by rw[HE.o];rfl,HB.o⟩
   .have i1:¬(k:Int)<(m:Int):=by omega
    clear r j H hk h2;go_wp2;go_ret3;exact⟨by rw[HE.o];rfl,HB.o⟩
end
end Go.Proofs.YtpfbdlnibdfcoaaGreatDoor
