import Derived.Test.YtpfbdlnibdfcoaaGreatDoorPvOrF
namespace Go.Proofs.YtpfbdlnibdfcoaaGreatDoor
open Go.RowKit Tryz
open Value renaming int->Ia,string->La,slice->Ma,bool->Oa,pointer->Qa,agg->Sa,tuple->Wa,iface->ca,nilIface->da
open IntKind renaming i64->ka
open Obj renaming cells->ma
open Ending renaming returned->na
open Tryz renaming prog->oa
set_option maxRecDepth 100000
set_option maxHeartbeats 0
section
theorem pI:∀(n:Nat) (t:Nd) (r:Da),t.can r.size->r.size<=64->∀u∈t.ways n r,u.ok
 |0,t,r,hc,h64,u,hu=>by
  rw[Nd.ways]at hu;unfold Nd.Bc at hu;split at hu;.cases hu
  .obtain rfl:u=t:=by simpa using hu
   exact(u.oe _ hc h64).1
 |n+1,t,r,hc,h64,u,hu=>by
  have hs:u∈t.Bc->u.ok:=λhu=>by
   unfold Nd.Bc at hu;split at hu;.cases hu
   .obtain rfl:u=t:=by simpa using hu
    exact(u.oe _ hc h64).1
  rw[Nd.ways]at hu;split at hu;.exact hs hu
  .rename_i hx
   have hx':(t.next r).1≠ .no:=λe=>hx (Nd.sf.2 e);obtain⟨_,k1,k2,k3,_⟩:=Ss hc hx';rcases Yf.1 hu with rfl|hu;.exact(u.oe _ hc h64).1
   .exact pI n _ _ (by rw[Cf];exact k3) (by rw[Cf];omega) u hu
theorem GH{t:Nd}{r:Da}(hc:t.can r.size)(h64:r.size<=64):∀c∈t.Qg r,∀y∈c,y<256:=by
 have b:=pI 64 t r hc h64;unfold Nd.Qg;intro c a y d;cases hts:t.ways 64 r with
 |nil=>rw[hts]at a;cases a
 |cons u us=>
  rw[hts]at b a;rw[LS]at a;rcases Yf.1 a with rfl|h;.exact u.Ce (b u (Yj ..)) y d
  .unfold Uf at h;obtain⟨v,e,rfl⟩:=Xd.1 (Xu.1 h).1;exact v.Ce (b v (Yy _ e)) y d
theorem OH:∀(n:Nat) (t:Nd) (r:Da),(t.ways n r).length<=n+1
 |0,t,r=>by rw[Nd.ways];unfold Nd.Bc;split<;>simp
 |n+1,t,r=>by
  rw[Nd.ways];split;.unfold Nd.Bc;split<;>simp
  .rw[Zu];have :=OH n (t.next r).1 (r.extract (t.next r).2 r.size);omega
theorem Fy(t:Nd)(r:Da):(t.Qg r).length<=65:=Z2 (lD _) (OH 64 t r)
variable{w:Fa}{L:List (List Nat)}
theorem Lq{C:Nat}{v:Value}(h:Db w C 1 v L.length (G9 L)):∃p c,v=Ma p L.length c/\Ic w p (L.map Kg) c/\(p.isSome=true->∃g,p=some ⟨g,0,none⟩):=by
 rcases h.2 with⟨e1,e2⟩|⟨g,cap,e1,_,e3,e4,_,_,hr⟩;.have :L=[]:=Ye e2;subst this;exact⟨none,0,e1,.inl ⟨rfl,rfl,rfl⟩,by simp⟩
 .refine⟨_,cap,e1,.inr ⟨g,0,rfl,by rw[Zl];exact e4,λ_=>e3,?_⟩,λ_=>⟨g,rfl⟩⟩;rw[Xx];exact hr
theorem Ic.below{w':Fa}{p:Option Addr}{l:List Da}{c:Nat}(h:Ic w p l c)(hb:Ba w w'):Ic w' p l c:=by
 rcases h with h|⟨g,o,e1,e2,e3,e4⟩;.exact .inl h
 .exact .inr ⟨g,o,e1,e2,λh=>Zm (e3 h) hb.size,λj u a=>by
   have b:0<l.length:=by have :=(Zw.1 a).1;simp at this;omega
   exact(hb.cell (p:=⟨g,o+j,none⟩) (e3 b)).trans (e4 j u a)⟩
theorem dQ(h:∀c∈L,∀y∈c,y<256):(L.map Kg).map Ke=L:=by
 rw[Xx];conv=>rhs;rw[<-List.map_id L]
 exact Vs λc a=>qg (h c a)
section
variable{w2:Fa}{C gp cr f:Nat}{L:List (List Nat)}{sc:Da}{en ep ed ea:Nat}{d9 d10 d16:Bool}{v9 v10:Value}{W W':Fa}
end
end
section
def Ul:Option (List Nat×List Nat)->Value
 |none=>Wa #[La ⟨#[]⟩,La ⟨#[]⟩,Oa false]
 |some (x,y)=>Wa #[La (Kg x),La (Kg y),Oa (decide (Ky x=Ky y))]
variable{w:Fa}
theorem TD(p:Option Addr)(l:List Da)(c:Nat)(hr:Ic w p l c):Calls oa 163 #[Ma p l.length c] w λe w'=>∃(g o:Nat) (l':List Da) (c':Nat),e=na (Ma (some ⟨g,o,none⟩) l'.length c')/\l'.map Ke=Pz (l.map Ke)/\l'.length<=l.length+1/\l'.length<=c'/\w'.rangeAt g o (l'.map Value.string)/\g<w'.heap.size/\(w.heap.size<=g\/(p=some ⟨g,o,none⟩/\g<w.heap.size))/\Ba w w':=by
 by_cases a:l=[]
 .subst a;obtain⟨E,f⟩:=nm (Kg (Kh []));have s:=Hq f;have q:=Hq (XB w);rw[f]at q;clear f hr;show Calls oa 163 #[Ma p 0 c] w _;go_enter func163,ntmps163;go_wp2_with fail
  refine q.mono ?_;rintro e v ⟨rfl,d⟩;have n:=Hq d;clear d;go_wp2;go_ret;refine⟨v.heap.size,0,[E],1,rfl,?_,by simp,by simp,?_,by simp,.inl n.size,Below.behind n ((Zb _ _).alloc (Za _) _)⟩;.rw[<-s.o];show[Ke (Kg (Kh []))]=Pz [];rw[qg (by decide),Pz,Zo rfl]
  .intro j u t;rw[Zf,Ze];simpa using t
 .have i:((l.length:Int)==0)=false:=by have :0<l.length:=List.length_pos_iff.2 a;simp;omega
  rcases hr with⟨_,h,_⟩|⟨g,o,rfl,e2,e3,e4⟩;.exact absurd h a
  have b:=Hq (A4 a e2 (e3 (List.length_pos_iff.2 a)) e4);clear a e2 e3 e4;obtain⟨m,k⟩:=nm l.length;have r:=Hq k;rw[k]at i⊢;clear k;go_enter func163,ntmps163;go_wp2;go_ret;exact⟨g,o,l,c,by rw[r.o];rfl,by rw[Pz,Zj (by simpa using b.1)],by rw[r.o];omega,b.2.1,b.2.2.2,b.2.2.1,.inr ⟨rfl,b.2.2.1⟩,Zb _ _⟩
variable{B:Nat}{S:Bb}{K:Array Nat}
theorem RL{b:Nat}{t:Nd}(hf:ua B S w)(hTb:qb w)(hM:16<=B)(ht:Ib S w b t)(hc:t.can 64)(hK:K.size=32)(hKb:K3 K):Calls oa 116 #[Qa (some ⟨b,0,none⟩),Sa (K.toList.map Kf).toArray] w λx w'=>∃Qd,x=na (Wa #[Qd,da])/\Fr B S S w w'/\Db w' w.heap.size 1 Qd (t.Qg (Kg (Kl K.toList))).length (G9 (t.Qg (Kg (Kl K.toList)))):=by
 obtain⟨p,k⟩:=nm (Kg (Kl K.toList));obtain⟨f,m,h⟩:=Co hK hKb;rw[k]at f h⊢;have j:qd (Ke p):=by rw[f];exact m
 have a:t.can p.size:=by rw[h];exact hc
 obtain⟨l,e,q,d,o⟩:=Wr p.size t p (Za _) a;obtain⟨_,n,_,_⟩:=Bu d a;obtain⟨_,c⟩:=t.oe p.size a (by omega);have i:Nx (l.map (·.1)++e.Bc)=t.Qg p:=by rw[d.ways 64 c (by omega)];rfl
 have :=dE hf hTb hM ht hK hKb k c j (by omega) d (λg=>Oi n g) (by omega) d.inner;rw[i]at this;exact this
variable{L M:List (List Nat)}
theorem kS{k:Nat}(h1:k<L.length)(h2:k<M.length):Ey (L.drop k) (M.drop k)=if L[k]=M[k]then Ey (L.drop (k+1)) (M.drop (k+1))else some (L[k],M[k]):=by rw[Yv h1,Yv h2,Ey]
theorem pM{k:Nat}(h:L.length<=k\/M.length<=k):Ey (L.drop k) (M.drop k)=none:=by
 rcases h with h|h;.rw[Xw h];cases M.drop k<;>rfl
 .rw[Xw h];cases L.drop k<;>rfl
theorem Ic.frame{S':Bb}{w':Fa}{p:Option Addr}{l:List Da}{c:Nat}(h:Ic w p l c)(hf:Fr B S S' w w')(hn:∀a,p=some a->S a.block=none):Ic w' p l c:=by
 rcases h with h|⟨g,o,rfl,e2,e3,e4⟩;.exact .inl h
 .refine .inr ⟨g,o,rfl,e2,λh=>Zm (e3 h) hf.size,λj u b=>?_⟩;have d:0<l.length:=by have :=(Zw.1 b).1;simp at this;omega
  rw[Zc (a:=⟨g,o+j,none⟩) (hf.other g (e3 d) (hn _ rfl))];exact e4 j u b
theorem WK{b:Nat}{t:Nd}(hf:ua B S w)(hTb:qb w)(hM:16<=B)(ht:Ib S w b t)(hc:t.can 64)(hK:K.size=32)(hKb:K3 K)(p:Option Addr)(l:List Da)(c:Nat)(hr:Ic w p l c)(hn:∀a,p=some a->S a.block=none)(hl:l.length<=9223372036854775807)(hz:∀x∈l,x.size<=1048576)(hL:t.Qg (Kg (Kl K.toList))=L):Calls oa 118 #[Qa (some ⟨b,0,none⟩),Sa (K.toList.map Kf).toArray,Ma p l.length c] w λx w'=>x=na (Ul (Ey (Pz L) (Pz (l.map Ke))))/\Fr B S S w w':=by
 obtain⟨Kc,O⟩:=nm ((K.toList.map Kf).toArray);obtain⟨W0,ag⟩:=nm (w.alloc (ma Kc 37));have dc:W0.rangeAt w.heap.size 0 (K.toList.map Kf):=λj u hu=>by rw[<-ag,Zf,Ze,<-O];simpa using hu
 have cf:Ba w W0:=by rw[<-ag];exact(Zb _ _).alloc (Za _) _
 have E:=Fr.xa hf cf;obtain⟨-,-,ci⟩:=Co hK hKb;have bn:∀c∈L,∀y∈c,y<256:=by rw[<-hL];exact GH (by rw[ci];exact hc) (by omega)
 have bq:L.length<=1000:=by rw[<-hL];exact Z2 (Fy _ _) (by omega)
 have HP:=Hq (RL E.wa (E.Fg hf hTb hM) hM (ht.frame E) hc hK hKb);rw[hL]at HP;have g:=Hq (A6 E hf hTb hM hr (A5 hn hl hz bn bq));have dr:=Mb hK
 have df:=underlying37;clear hf hTb hM ht hc hK hKb hL ci cf E hr hn hl hz bn bq;obtain⟨m,G⟩:=nm l.length;have HM:=Hq G;rw[G];clear G;rw[O]at HP⊢;go_enter func118,ntmps118;go_upto_region 1 with fail
 clear ag;rw[<-O]at HP;clear O;go_wp2_with (refine Zr rfl 37 _ rfl w.heap.size 0 rfl (K.toList.map Kf) _ dc df rfl dr ?_)
 refine HP.mono ?_;rintro e w1 ⟨dv,rfl,Q,bv⟩;obtain⟨pr,cr,rfl,cj,-⟩:=Lq bv;have H1:=Hq (A3 (g.1.trans Q) Q.wa (g.2.2.2.2.1.frame (g.1.trans Q) g.2.2.2.2.2.1));have N:=Hq (TD pr (L.map Kg) cr cj);rw[Zl]at N;obtain⟨mL,ao⟩:=nm L.length;have dj:=Hq ao;rw[ao]at N⊢;clear Q bv cj ao HP;go_wp2_with fail
 refine N.mono ?_;rintro e w2 ⟨g1,o1,H,c1,rfl,bj,ay,ba,bl,bf,-,ah⟩;have Z:=Hq (TD p l c (H1.2.2.below ah));rw[HM.o]at Z;have T:=Hq (A6 ah (by rw[bj,dQ g.2.2.2.2.2.2.2.2.1]:H.map Ke=Pz L) (by rw[dj.o];exact ay:H.length<=L.length+1) ba bl bf);clear N bj ay ba bl bf ah;obtain⟨m1,al⟩:=nm H.length;have I:=Hq al;rw[al];clear al;go_wp2_with fail
 refine Z.mono ?_;rintro e n ⟨g2,o2,o,c2,rfl,ac,az,bc,bm,bi,dk,v⟩;have de:∀x∈o,x.size<=1048576:=λx hx=>by
  have G:Ke x∈o.map Ke:=V7 hx;rw[ac,Pz]at G;split at G
  .have :Ke x=Kh []:=by simpa using G
   have hl:=Y5 List.length this;rw[ta]at hl;have :(Kh []).length=1:=by decide
   omega
  .obtain⟨y,V,he⟩:=Xd.1 G;rw[<-Mj he];exact g.2.2.2.2.2.2.2.1 y V
 have q:=Hq (A6 v ac (by rw[HM.o];exact az:o.length<=l.length+1) bc bm (A4 bi (zc T.2.2.2.2.1 (v.block _ T.2.2.2.2.2)) (Zm T.2.2.2.2.2 v.size) (H1.1.behind (Below.behind T.1 v))));clear Z ac az bc bm bi dk v;obtain⟨m2,am⟩:=nm o.length;have Y:=Hq am;rw[am];clear am;go_upto_region 5 with fail
 go_cut [28,29] (λa i wc=>a=Ia ka ((min m1 m2:Nat):Int)/\i=Ia ka 0/\wc=n)
 case first=>
  rcases Nat.le_total m1 m2 with h|h
  .have aq:=Vf h;have h':(m1:Int)<=(m2:Int):=by omega
   go_wp2;all_goals first| (exfalso;omega)| (go_meet;exact⟨by rw[aq]<;>(congr 1;omega),rfl,rfl⟩)
  .have aq:=Nat.min_eq_right h;have h':(m2:Int)<=(m1:Int):=by omega
   go_wp2;all_goals first| (exfalso;omega)| (go_meet;exact⟨by rw[aq]<;>(congr 1;omega),rfl,rfl⟩)
 case rest=>
  obtain⟨ha,hi,hw⟩:=hcut;subst ha hi;obtain rfl:=hw.symm;obtain⟨mm,ch⟩:=nm (min m1 m2);rw[ch];have J:Hid (mm<=m1/\mm<=m2/\(mm=m1\/mm=m2)/\mm<=1001):=⟨by omega,by omega,by omega,by have :=T.2.2.1;have :=g.2.2.2.2.2.2.2.2.2;have :=I.o;omega⟩;clear ch;go_wp2_with fail
  go_loopg [29] mm (λgh i wr=>∃k,k<=mm/\gh=mm-k/\i=Ia ka (k:Int)/\Ba n wr/\Ey (Pz L) (Pz (l.map Ke))=Ey ((H.map Ke).drop k) ((o.map Ke).drop k))
  case atStart=>exact⟨0,Xa _,rfl,rfl,Zb _ _,by rw[T.2.1,q.2.1];rfl⟩
  case round=>
   obtain⟨k,hk,rfl,rfl,U,P⟩:=hrel;by_cases dn:k<mm
   .have dm:(k:Int)<(mm:Int):=by omega
    have R:k<H.length:=by rw[I.o];have :=J.1;omega
    have F:k<o.length:=by rw[Y.o];have :=J.2.1;omega
    have k1:k<m1:=by rw[<-I.o];exact R
    have k2:k<m2:=by rw[<-Y.o];exact F
    have dt:(k:Int)<(m1:Int):=by omega
    have du:(k:Int)<(m2:Int):=by omega
    obtain⟨x,hx⟩:=nm H[k];obtain⟨y,V⟩:=nm o[k];have ai:∀W,Ba n W->W.cell? ⟨g1,o1+k,none⟩=some (La x):=λW f=>by rw[f.cell (p:=⟨g1,o1+k,none⟩) q.2.2.2.2.2.2.2.1];exact q.2.2.2.2.2.2.1 k _ (by rw[Yt,Zk R,hx];rfl)
    have aj:∀W,Ba n W->W.cell? ⟨g2,o2+k,none⟩=some (La y):=λW f=>by rw[f.cell (p:=⟨g2,o2+k,none⟩) q.2.2.2.2.2.1];exact q.2.2.2.2.1 k _ (by rw[Yt,Zk F,V];rfl)
    have cx:=ai wr U;have cy:=aj wr U;have ak:Ey (Pz L) (Pz (l.map Ke))=if Ke x=Ke y then Ey ((H.map Ke).drop (k+1)) ((o.map Ke).drop (k+1))else some (Ke x,Ke y):=by rw[P,kS (by simpa using R) (by simpa using F)];simp only[Xf,hx,V]
    have cu:y.size<=1048576:=by rw[<-V];exact de _ (Zy F)
    have r:=Hq (A4 (λW f=>⟨ai W f,aj W f⟩:(∀W,Ba n W->W.cell? ⟨g1,o1+k,none⟩=some (La x)/\W.cell? ⟨g2,o2+k,none⟩=some (La y))) cu hk U);have aw:=Hq ak;clear P ak ai aj hx V U hk cu R F;by_cases ar:x=y
    .subst ar;have cq:wrap64 ((k:Int)+1)=((k+1:Nat):Int):=by unfold wrap64;have :=J.2.2.2;omega
     have X:=Hq (A2 (by rw[aw.o,Zo rfl]:Ey (Pz L) (Pz (l.map Ke))=Ey ((H.map Ke).drop (k+1)) ((o.map Ke).drop (k+1))) cq);clear cq;go_upto_region 8 with fail
     go_region;go_wp2;go_roundg (mm-(k+1))
     case measure=>omega
     case rel=>exact⟨k+1,by omega,rfl,by rw[X.2],r.2.2.2.drew,X.1⟩
    .have di:Hid (Ey (Pz L) (Pz (l.map Ke))=some (Ke x,Ke y)):=by show Ey (Pz L) (Pz (l.map Ke))=some (Ke x,Ke y);rw[aw.o,Zj λe=>ar (Mj e)]
     have dq:=St ar;go_upto_region 8 with fail
     go_region;go_wp2_with fail
     clear dq;obtain⟨dx,z⟩:=nm (Ky (Ke x));obtain⟨dy,D⟩:=nm (Ky (Ke y));have ae:∀(s:Da) (d:List Nat),Ky (Ke s)=d->∀W,Ba wr W->Calls oa 69 #[La s] W λe w'=>e=na (Sa (d.map Kf).toArray)/\Ba W w':=λs d hd W f=>by have hF:=q.2.2.2.2.2.2.2.2.behind (Below.behind r.2.2.2 f);have :=Dq s W (hF.Fg g.2.1 g.2.2.1 g.2.2.2.1) (Z2 g.2.2.2.1 (Z2 g.2.1.le hF.size));rw[show(G8 s).toList=d by rw[<-hd,Ky,Wm]]at this;exact this
     have dg:=Hq (ae x dx z);have dh:=Hq (ae y dy D);have cw:=Hq (Ft dx dy (by rw[<-z];exact Bh _) (by rw[<-D];exact Bh _) (by rw[<-z];exact Lk _) (by rw[<-D];exact Lk _));have au:=Hq (A2 z D);clear ae z D;refine ml (C:=λW=>Ba wr W) (by kernel_rfl) (by kernel_rfl) (((Zb _ _).drew).drew) ?_;have hQ:=cw.o;repeat (go_big_quiet_step (first|exact λ_=>rfl| (intro f;rw[(r.1 _ (r.2.2.2.va f)).1];exact⟨rfl,rfl⟩)| (intro f;rw[(r.1 _ (r.2.2.2.va f)).2];exact⟨rfl,rfl⟩)|exact λf=>(Bz y _ r.2.1).Cb f|exact λf=>(dg _ f).Cb f|exact λf=>(dh _ f).Cb f))
     clear hQ;refine X4 λW hX=>?_;have HY:=Hq hX;clear hX;(try go_wp2);go_ret3;rw[di.o,Ul,Wm,Wm,au.1,au.2];exact⟨rfl,q.2.2.2.2.2.2.2.2.behind (Below.behind r.2.2.2 HY.o)⟩
   .obtain rfl:k=mm:=by omega
    have dm:¬(k:Int)<(k:Int):=by omega
    have X:Hid (Ey (Pz L) (Pz (l.map Ke))=none/\Ba n wr):=⟨by
     rw[P];apply pM;rw[Zl,Zl,I.o,Y.o];rcases J.2.2.1 with h|h;.exact .inl (by omega)
     .exact .inr (by omega),U⟩
    clear P U hk dn;go_wp2;go_ret3;rw[X.1];exact⟨rfl,q.2.2.2.2.2.2.2.2.behind X.2⟩
end
section
theorem bS(o:Option (List Nat×List Nat)):∃x y b,Ul o=Wa #[La x,La y,Oa b]:=by
 cases o with
 |none=>exact⟨_,_,_,rfl⟩
 |some z=>exact⟨_,_,_,rfl⟩
variable{B:Nat}{w:Fa}
theorem vR{S:Bb}{b:Nat}{t:Nd}{K:Array Nat}(hf:ua B S w)(hTb:qb w)(hM:16<=B)(ht:Ib S w b t)(hc:t.can 64)(hK:K.size=32)(hKb:K3 K)(p:Option Addr)(l:List Da)(c:Nat)(hr:Ic w p l c)(hn:∀a,p=some a->S a.block=none)(hl:l.length<=9223372036854775807)(hz:∀x∈l,x.size<=1048576){L:List (List Nat)}(hL:t.Qg (Kg (Kl K.toList))=L):Calls oa 65 #[Qa (some ⟨b,0,none⟩),Sa (K.toList.map Kf).toArray,Ma p l.length c] w λx w'=>x=na (Ul (Ey (Pz L) (Pz (l.map Ke))))/\Fr B S S w w':=by
 obtain⟨D,e⟩:=nm ((K.toList.map Kf).toArray);obtain⟨W0,f⟩:=nm (w.alloc (ma D 37));have k:W0.rangeAt w.heap.size 0 (K.toList.map Kf):=λj u F=>by rw[<-f,Zf,Ze,<-e];simpa using F
 have h:Ba w W0:=by rw[<-f];exact(Zb _ _).alloc (Za _) _
 have o:w.heap.size<W0.heap.size:=by rw[<-f];simp
 have d:=Fr.xa hf h.drew;have g:=Hq (WK d.wa (d.Fg hf hTb hM) hM (ht.frame d) hc hK hKb p l c (hr.below h.drew) hn hl hz hL);obtain⟨x,y,z,r⟩:=bS (Ey (Pz L) (Pz (l.map Ke)));rw[r]at g⊢;have C:=Hq (A2 d hf);have H:=Mb hK
 have G:=underlying37;have m:=Hq (A2 o (hf.fresh (Za _)));clear hf hTb hM ht hc hK hKb hL h o d hr hn hl hz r;obtain⟨n,hn⟩:=nm l.length;rw[hn]at g⊢;clear hn;rw[e]at g⊢;go_enter func65,ntmps65;go_upto_region 1 with fail
 clear f;rw[<-e]at g;clear e;go_region_held3 (λw'=>w'.rangeAt w.heap.size 0 (K.toList.map Kf)) (first|exact k|exact E) (first| (go_at_call 118;refine g.mono ?_;rintro q s ⟨rfl,i⟩;have E:s.rangeAt w.heap.size 0 (K.toList.map Kf):=zc k (i.other w.heap.size m.1 m.2);have v:Hid (Fr B S S w s):=C.1.trans i;clear i))
 all_goals (try go_wp2)
 all_goals go_ret3
 all_goals exact⟨rfl,v.o⟩
theorem Db.texts{v:Value}{n:Nat}{l:List Da}(h:Db w B 1 v n (l.map Value.string)):∃p c,v=Ma p l.length c/\n=l.length/\Ic w p l c/\∀a,p=some a->B<=a.block/\a.block<w.heap.size:=by
 have d:n=l.length:=by have :=h.1;simpa using this.symm
 subst d;rcases h.2 with⟨e1,e2⟩|⟨g,cap,e1,e2,e3,e4,_,_,hr⟩;.have :l=[]:=Ye e2;subst this;exact⟨none,0,e1,rfl,.inl ⟨rfl,rfl,rfl⟩,by simp⟩
 .exact⟨_,cap,e1,rfl,.inr ⟨g,0,rfl,e4,λ_=>e3,hr⟩,λa b=>by obtain rfl:=Zi b;exact⟨e2,e3⟩⟩
end
section
inductive Sw
 |over (o:Option Da)
 |on (x:It) (r:Da)
def Rf(l:List It)(r:Da):Sw:=if(l.getD ((Ke r)[0]!) (.text 0 0 [])).pd=true then .over none else .on (l.getD ((Ke r)[0]!) (.text 0 0 [])) (r.extract 1 r.size)
def P4(a b:It)(r:Da):Sw:=match K6 a.bytes with
 |none=>.over none
 |some (p,true)=>.over (if Kg p=r then some (Kg b.bytes)else none)
 |some (p,false)=>if K7 (Kg p) r then .on b (r.extract p.length r.size)else .over none
def P5(l:List It)(r:Da):Sw:=match l with
 | [a,b]=>P4 a b r
 |l=>Rf l r
theorem tC{l:List It}(h:l.length≠2)(r:Da):P5 l r=Rf l r:=by
 match l,h with
 | [],_=>rfl
 | [_],_=>rfl
 | [_,_],h=>exact absurd rfl h
 |_::_::_::_,_=>rfl
def Pp:Nat->It->Da->Sw
 |0,x,r=>.on x r
 |n+1,x,r=>
  match x with
  | .text a b s=>.on (.text a b s) r
  | .list _ _ l=>
   match P5 l r with
   | .over o=>.over o
   | .on y r'=>Pp n y r'
theorem xE(n a b:Nat)(s:List Nat)(r:Da):Pp n (.text a b s) r=.on (.text a b s) r:=by
 cases n with
 |zero=>rfl
 |succ n=>rfl
def Pt(s:Sw)(q:Nd×Da):Prop:=match s with
 | .over o=>Ep q=none/\P7 q.1 q.2=o
 | .on y r'=>∃a b h,y=.text a b h/\Ep q=some (h,r')
theorem fS:∀(n:Nat) (x:It) (za:Nat) (t:Nd),N9 n x za=.ok t->t≠ .no:=by
 intro n x za t h;cases n with
 |zero=>rw[N9]at h;cases h
 |succ n=>
  cases x with
  |text a b s=>rw[N9]at h;cases h
  |list a b l=>
   rw[N9]at h;change To (N9 n) a l za=.ok t at h;by_cases c:l.length=2
   .obtain⟨u,v,rfl⟩:=nr c;rw[oq]at h;unfold Gw at h;split at h;.cases h
    .split at h;.cases h
     .split at h
      .split at h;.cases h
       .cases h;exact λe=>by cases e
      .unfold Pm at h;split at h;.cases h
       .split at h;.cases h
        .cases h;exact λe=>by cases e
   .rw[vm c]at h;split at h
    .unfold Pv at h;split at h;.cases h
     .split at h;.cases h
      .cases h;exact λe=>by cases e
    .cases h
theorem kz{rd:It->Nat->Except Er Nd}{za:Nat}:∀(l:List It) (ns:List Nd),Kw rd za l=.ok ns->ns.length=l.length/\∀i (hi:i<l.length),(l[i].pd=true->ns.getD i .no=.no)/\(l[i].pd=false->Nw rd l[i] za=.ok (ns.getD i .no))
 | [],ns,h=>by rw[Kw]at h;cases h;exact⟨rfl,λi hi=>absurd hi (Nat.not_lt_zero _)⟩
 |x::xs,ns,h=>by
  rw[Kw]at h;split at h
  .rename_i hx
   cases hr:Kw rd za xs with
   |error e=>rw[hr]at h;cases h
   |ok ms=>
    rw[hr]at h;cases h;obtain⟨h1,h2⟩:=kz xs ms hr;refine⟨by simp[h1],λi hi=>?_⟩;cases i with
    |zero=>exact⟨λ_=>rfl,λe=>by simp only[Vl]at e;rw[hx]at e;cases e⟩
    |succ i=>exact h2 i (by simpa using hi)
  .rename_i hx
   cases hq:Nw rd x za with
   |error e=>rw[hq]at h;cases h
   |ok n=>
    rw[hq]at h;simp only at h;cases hr:Kw rd za xs with
    |error e=>rw[hr]at h;cases h
    |ok ms=>
     rw[hr]at h;cases h;obtain⟨h1,h2⟩:=kz xs ms hr;refine⟨by simp[h1],λi hi=>?_⟩;cases i with
     |zero=>exact⟨λe=>absurd e hx,λ_=>hq⟩
     |succ i=>exact h2 i (by simpa using hi)
theorem TE{n:Nat}(ih:∀(x:It) (za:Nat) (r:Da) (t:Nd) (m:Nat),N9 n x za=.ok t->za<=64->r.size=64-za->r.size<=m->qd (Ke r)->Pt (Pp n x r) (t.walk m r)){x:It}{za:Nat}{r:Da}{t:Nd}{m:Nat}(h:Nw (N9 n) x za=.ok t)(hd:za<=64)(hr:r.size=64-za)(hm:r.size<=m)(hn:qd (Ke r)):t≠ .no/\Pt (Pp n x r) (t.walk m r):=by
 cases x with
 |text a b s=>rw[Nw]at h;cases h;refine⟨(λe=>by cases e),?_⟩;rw[xE,ju rfl];exact⟨a,b,s,rfl,rfl⟩
 |list a b l=>rw[Nw]at h;exact⟨fS _ _ _ _ h,ih _ _ _ _ _ h hd hr hm hn⟩
theorem aT:∀(n:Nat) (x:It) (za:Nat) (r:Da) (t:Nd) (m:Nat),N9 n x za=.ok t->za<=64->r.size=64-za->r.size<=m->qd (Ke r)->Pt (Pp n x r) (t.walk m r):=by
 intro n;induction n with
 |zero=>intro x za r t m h;rw[N9]at h;cases h
 |succ n ih=>
  intro x za r t m h K N M k;cases x with
  |text a b s=>rw[N9]at h;cases h
  |list fr en l=>
   rw[N9]at h;change To (N9 n) fr l za=.ok t at h;rw[Pp];change Pt (match P5 l r with | .over o=>.over o| .on y r'=>Pp n y r') _;by_cases j:l.length=2
   .obtain⟨a,b,rfl⟩:=nr j;rw[oq]at h;change Pt (match P4 a b r with | .over o=>.over o| .on y r'=>Pp n y r') _;unfold Gw at h;split at h;.cases h
    .rename_i u1 u2 s
     cases hu:K6 s with
     |none=>rw[hu]at h;cases h
     |some q=>
      obtain⟨p,z⟩:=q;rw[hu]at h;simp only at h;have D:P4 (.text u1 u2 s) b r=(match K6 s with |none=>.over none|some (p,true)=>.over (if Kg p=r then some (Kg b.bytes)else none)|some (p,false)=>if K7 (Kg p) r then .on b (r.extract p.length r.size)else .over none):=rfl;rw[D,hu];cases z with
      |true=>
       rw[Zo rfl]at h;split at h;.cases h
       .cases h;rw[ju rfl];exact⟨rfl,rfl⟩
      |false=>
       rw[Zj (by simp)]at h;unfold Pm at h;split at h;.cases h
       .rename_i hc
        cases hq:Nw (N9 n) b (za+p.length)with
        |error e=>rw[hq]at h;cases h
        |ok t'=>
         rw[hq]at h;cases h;simp only[not_or]at hc;by_cases f:K7 (Kg p) r
         .have B:=me p;have J:=np f;simp only[Zo f];have d:(r.extract p.length r.size).size=r.size-p.length:=by rw[Cf]
          obtain⟨g,w⟩:=TE ih (m:=m-1) hq (by omega) (by rw[d];omega) (by rw[d];omega) (zp k _);have c:(Nd.next (.ext (Kg p) t') r)=(t',(Kg p).size):=by rw[Nd.next,Zo f]
          obtain⟨i,rfl⟩:∃i,m=i+1:=⟨m-1,by omega⟩;rw[EB (by rw[c];exact g),c,B];exact w
         .simp only[Zj f];rw[ju (by rw[Nd.next,Zj f])];exact⟨rfl,rfl⟩
   .rw[vm j]at h;rw[tC j];split at h
    .rename_i h17
     unfold Pv at h;split at h;.cases h
     .rename_i hc
      simp only[not_or]at hc;cases hk:Kw (N9 n) (za+1) (l.take 16)with
      |error e=>rw[hk]at h;cases h
      |ok ns=>
       rw[hk]at h;cases h;obtain⟨L,A⟩:=kz _ _ hk;have C:=ta r;obtain⟨v,u⟩:=nm ((Ke r)[0]!);have E:v<16:=by rw[<-u,Z9 (Ke r) 0 (by omega)];exact k _ (Zy _)
       have I:(l.take 16).length=16:=by rw[Zx];omega
       obtain⟨G,H⟩:=A v (by omega);have F:l.getD v (.text 0 0 [])=(l.take 16)[v]'(by omega):=by rw[Vu,Yb,Zk (by omega),Yk]
       unfold Rf;rw[u,F];have c:(Nd.next (.br ns) r)=(ns.getD v .no,1):=by rw[Nd.next,u]
       cases he:((l.take 16)[v]'(by omega)).pd with
       |true=>rw[Zo rfl];rw[ju (by rw[c];exact G he)];exact⟨rfl,rfl⟩
       |false=>
        rw[Zj (by simp)];have d:(r.extract 1 r.size).size=r.size-1:=by rw[Cf]
        obtain⟨g,w⟩:=TE ih (m:=m-1) (H he) (by omega) (by rw[d];omega) (by rw[d];omega) (zp k _);obtain⟨i,rfl⟩:∃i,m=i+1:=⟨m-1,by omega⟩;rw[EB (by rw[c];exact g),c];exact w
    .cases h
end
section
theorem aA(fr en:Nat)(l:Bool)(tx:Da)(p:Option Addr)(m c:Nat)(w:Fa):Calls oa 148 #[Sa #[Oa l,La tx,Ma p m c,Ia ka (fr:Int),Ia ka (en:Int)]] w λe w'=>e=na (Oa (!l&&decide (tx.size=0)))/\Ba w w':=by
 cases l with
 |true=>go_enter func148,ntmps148;go_wp2;go_ret;exact⟨rfl,(Zb _ _).alloc (Za _) _⟩
 |false=>
  by_cases h:tx.size=0;.have a:=kw tx h;rw[Z5 h];clear h;go_enter func148,ntmps148;go_wp2;go_ret;exact⟨rfl,(Zb _ _).alloc (Za _) _⟩
  .have a:=lj tx (by omega);rw[Zt h];clear h;go_enter func148,ntmps148;go_wp2;go_ret;exact⟨rfl,(Zb _ _).alloc (Za _) _⟩
theorem DI(fr en:Nat)(l:Bool)(tx:Da)(p:Option Addr)(m c:Nat)(w:Fa)(h1:fr<=en)(h2:en<=2048):Calls oa 205 #[Sa #[Oa l,La tx,Ma p m c,Ia ka (fr:Int),Ia ka (en:Int)]] w λe w'=>e=na (Oa (if l=true then decide (en-fr<32)else decide (tx.size=32)))/\Ba w w':=by
 cases l with
 |true=>
  have f:=iA en fr h2 (by omega) h1;obtain⟨d,a⟩:=nm (en-fr);rw[Zo rfl];rw[a]at f⊢;clear h1 h2 a;by_cases h:d<32
  .have b:(d:Int)<32:=by omega
   rw[Z5 h];clear h;go_enter func205,ntmps205;go_wp2;go_ret;exact⟨rfl,(Zb _ _).alloc (Za _) _⟩
  .have b:decide ((d:Int)<32)=false:=Zt (by omega);rw[Zt h];clear h;go_enter func205,ntmps205;go_wp2;go_ret;exact⟨rfl,(Zb _ _).alloc (Za _) _⟩
 |false=>
  rw[Zj (by simp)];clear h1 h2;by_cases h:tx.size=32
  .have b:((tx.size:Int)==32)=true:=by simp;omega
   rw[Z5 h];clear h;go_enter func205,ntmps205;go_wp2;go_ret;exact⟨rfl,(Zb _ _).alloc (Za _) _⟩
  .have b:((tx.size:Int)==32)=false:=by simp;omega
   rw[Zt h];clear h;go_enter func205,ntmps205;go_wp2;go_ret;exact⟨rfl,(Zb _ _).alloc (Za _) _⟩
theorem Qj:(oa.info? 91).map (·.size)=some 4:=by kernel_rfl
theorem oA{fn:Func}{q:Tmp}(h:fn.results=#[.cell q 91]){tmps:Array Value}{W:Fa}{b e1 e2 e3 e4:Nat}(hp:tmps.getD q undef=Qa (some ⟨b,0,none⟩))(hr:W.rangeAt b 0 [Ia ka (e1:Int),Ia ka (e2:Int),Ia ka (e3:Int),Ia ka (e4:Int)]):(results fn tmps).run oa W=.ok (Ki e1 e2 e3 e4) W:=si h tmps _ W b 0 hp (Yg _ _ _ 91 _ _ hr underlying91 rfl Qj)
theorem tw(w:Fa)(o:Obj)(cs:List Value)(t:TypeId):((w.alloc o).alloc (ma cs.toArray t)).rangeAt (w.heap.size+1) 0 cs:=by have h:=wg (w.alloc o) cs t;rwa [show(w.alloc o).heap.size=w.heap.size+1 by simp]at h
theorem PA(fr en:Nat)(l:Bool)(tx:Da)(p:Option Addr)(m c:Nat)(w:Fa):Calls oa 185 #[Sa #[Oa l,La tx,Ma p m c,Ia ka (fr:Int),Ia ka (en:Int)]] w λe w'=>e=na (Ki 8 0 0 fr)/\Ba w w':=by go_enter func185,ntmps185;go_wp2;exact Zv (v:=Ki 8 0 0 fr) (oA results185 rfl (tw w _ [Ia ka 8,Ia ka 0,Ia ka 0,Ia ka (fr:Int)] _)) rfl ⟨rfl,yj w _ _⟩
theorem LO{w w1:Fa}{a b:Array Value}(hb:Below ((w.alloc (ma a 152)).alloc (ma b 152)).heap.size ((w.alloc (ma a 152)).alloc (ma b 152)) w1):w1.heap[w.heap.size]? =some (ma a 152 (0,0))/\w1.heap[w.heap.size+1]? =some (ma b 152 (0,0))/\w.heap.size+2<=w1.heap.size/\Ba w w1:=by
 have c:=hb.size;simp at c;refine⟨?_,?_,by omega,Below.up (Below.up hb)⟩;.rw[hb.block _ (by simp;omega)];show((w.heap.push _).push _)[w.heap.size]? =_;rw[Array.getElem?_push_lt (by simp),Array.getElem_push_eq]
 .rw[hb.block _ (by simp)];show((w.heap.push _).push _)[w.heap.size+1]? =_;rw[show w.heap.size+1=(w.heap.push (Obj.cells a 152)).size by simp];exact Z6
def P6(za n:Nat)(l:Bool)(tx:Da):Bool:=decide (za+n=64)&&(!l&&(decide (1<=tx.size)&&decide (tx.size<=100)))
section
variable{w:Fa}(fr en:Nat)(tx0:Da)(g cap:Nat)(fr' en':Nat)(l':Bool)(tx':Da)(p':Option Addr)(m' c':Nat)(p:Da)(za:Nat)
theorem uO(hgs:g<w.heap.size)(hrow:w.rangeAt g 5 [Oa l',La tx',Ma p' m' c',Ia ka (fr':Int),Ia ka (en':Int)])(hdep:za<=10000)(hp:p.size<=10000):Calls oa 186 #[Sa #[Oa true,La tx0,Ma (some ⟨g,0,none⟩) 2 cap,Ia ka (fr:Int),Ia ka (en:Int)],La p,Ia ka (za:Int)] w λe w'=>e=na (Oa (P6 za p.size l' tx'))/\Ba w w':=by
 have o:=hrow 0 _ rfl;have q:=hrow 1 _ rfl;have r:=hrow 2 _ rfl;have s:=hrow 3 _ rfl;have t:=hrow 4 _ rfl;have m:¬g=w.heap.size:=by omega
 have k:¬g=w.heap.size+1:=by omega
 have f:=Wj za p.size (by omega);obtain⟨n,d⟩:=nm (za+p.size);have j:P6 za p.size l' tx'=(decide (n=64)&&(!l'&&(decide (1<=tx'.size)&&decide (tx'.size<=100)))):=by rw[<-d];rfl
 rw[j];rw[d]at f;clear hrow j d hdep hp;by_cases a:n=64
 .have l:((n:Int)==64)=true:=by simp;omega
  rw[Z5 a];clear a;cases l' with
  |true=>go_enter func186,ntmps186;go_wp2;go_ret;exact⟨rfl,yj w _ _⟩
  |false=>
   by_cases b:1<=tx'.size
   .have h:(1:Int)<=(tx'.size:Int):=by omega
    rw[Z5 b];clear b;by_cases c:tx'.size<=100
    .have i:(tx'.size:Int)<=100:=by omega
     rw[Z5 c];clear c;go_enter func186,ntmps186;go_wp2;go_ret;exact⟨rfl,yj w _ _⟩
    .have i:decide ((tx'.size:Int)<=100)=false:=Zt (by omega);rw[Zt c];clear c;go_enter func186,ntmps186;go_wp2;go_ret;exact⟨rfl,yj w _ _⟩
   .have h:decide ((1:Int)<=(tx'.size:Int))=false:=Zt (by omega);rw[Zt b];clear b;go_enter func186,ntmps186;go_wp2;go_ret;exact⟨rfl,yj w _ _⟩
 .have l:((n:Int)==64)=false:=by simp;omega
  rw[Zt a];clear a;go_enter func186,ntmps186;go_wp2;go_ret;exact⟨rfl,yj w _ _⟩
def Rg(za n:Nat)(t:Bool):Bool:=decide (1<=n)&&(decide (za+n<=63)&&t)
theorem PT(hgs:g<w.heap.size)(hrow:w.rangeAt g 5 [Oa l',La tx',Ma p' m' c',Ia ka (fr':Int),Ia ka (en':Int)])(hdep:za<=10000)(hp:p.size<=10000)(h1:fr'<=en')(h2:en'<=2048):Calls oa 187 #[Sa #[Oa true,La tx0,Ma (some ⟨g,0,none⟩) 2 cap,Ia ka (fr:Int),Ia ka (en:Int)],La p,Ia ka (za:Int)] w λe w'=>e=na (Oa (Rg za p.size (Sb l' fr' en' m' tx')))/\Ba w w':=by
 have F:=hrow 0 _ rfl;have G:=hrow 1 _ rfl;have H:=hrow 2 _ rfl;have I:=hrow 3 _ rfl;have J:=hrow 4 _ rfl;have D:¬g=w.heap.size:=by omega
 have B:¬g=w.heap.size+1:=by omega
 have o:=Wj za p.size (by omega);obtain⟨n,m⟩:=nm (za+p.size);have v:Rg za p.size (Sb l' fr' en' m' tx')=(decide (1<=p.size)&&(decide (n<=63)&&Sb l' fr' en' m' tx')):=by rw[<-m];rfl
 rw[v];rw[m]at o;have l:Hid (∀W,Calls oa 205 #[Sa #[Oa l',La tx',Ma p' m' c',Ia ka (fr':Int),Ia ka (en':Int)]] W λe w'=>e=na (Oa (if l'=true then decide (en'-fr'<32)else decide (tx'.size=32)))/\Ba W w'):=λW=>DI fr' en' l' tx' p' m' c' W h1 h2;have q:Hid (Sb l' fr' en' m' tx'=if l'=true then decide (en'-fr'<32)&&decide (m'=17)else decide (tx'.size=32)):=rfl;generalize hR:(if l'=true then decide (en'-fr'<32)else decide (tx'.size=32))=rr at l;have r:Hid (Sb l' fr' en' m' tx'=(rr&&(!l'||decide (m'=17)))):=by
  rw[q.o];cases l' with
  |true=>simp at hR⊢;rw[<-hR];exact rfl
  |false=>simp at hR⊢;rw[<-hR];exact rfl
 rw[r.o];obtain⟨E,d⟩:=nm ((decide (1<=p.size)&&(decide (n<=63)&&(rr&&(!l'||decide (m'=17))))));rw[d];have a:=Hq d;clear hrow v m hdep hp h1 h2 hR q r d;go_enter func187,ntmps187;go_wp2_with fail
 refine(l _).mono ?_;rintro e K ⟨rfl,k⟩;obtain⟨x,y,C,z⟩:=LO k;obtain⟨L,M,N,O,P⟩:=qe x;obtain⟨Q,R,S,T,U⟩:=qe y;have i:=Hq z;clear x y C z k l;by_cases h1:1<=p.size
 .have s:(1:Int)<=(p.size:Int):=by omega
  by_cases h:n<=63
  .have t:(n:Int)<=63:=by omega
   have c:=Hq h1;have b:=Hq h;clear h1 h;cases rr with
   |false=>go_wp2;go_ret;exact⟨by rw[<-a.o];simp,i.o⟩
   |true=>
    cases l' with
    |false=>go_wp2;go_ret;exact⟨by rw[<-a.o];simp[c.o,b.o],i.o⟩
    |true=>
     by_cases f:m'=17
     .have u:((m':Int)==17)=true:=by simp;omega
      have j:=Hq f;clear f;go_wp2;go_ret;exact⟨by rw[<-a.o];simp[c.o,b.o,j.o],i.o⟩
     .have u:((m':Int)==17)=false:=by simp;omega
      have j:=Hq f;clear f;go_wp2;go_ret;exact⟨by rw[<-a.o];simp[c.o,b.o,j.o],i.o⟩
  .have t:decide ((n:Int)<=63)=false:=Zt (by omega);have c:=Hq h1;have b:=Hq h;clear h1 h;go_wp2;go_ret;exact⟨by rw[<-a.o];simp[c.o,b.o],i.o⟩
 .have s:decide ((1:Int)<=(p.size:Int))=false:=Zt (by omega);have c:=Hq h1;clear h1;go_wp2;go_ret;exact⟨by rw[<-a.o];simp[c.o],i.o⟩
end
end
section
def Qi(w:Fa)(g:Nat)(es:List El):Prop:=g<w.heap.size/\∀i (hi:i<es.length),w.rangeAt g (i*5) (Ni es[i])/\∃p m c,es[i].sub=Ma p m c
theorem Qi.below{w w':Fa}{g:Nat}{es:List El}(h:Qi w g es)(hb:Ba w w'):Qi w' g es:=⟨Zm h.1 hb.size,λi hi=>⟨λj u hu=>(Zc (hb.block g h.1)).trans ((h.2 i hi).1 j u hu),(h.2 i hi).2⟩⟩
theorem Qi.at{w:Fa}{g:Nat}{es:List El}(h:Qi w g es){i:Nat}(hi:i<es.length):∃f e l tx p m c,es[i]=⟨f,e,l,tx,Ma p m c⟩/\w.cell? ⟨g,i*5,none⟩=some (Oa l)/\w.cell? ⟨g,i*5+1,none⟩=some (La tx)/\w.cell? ⟨g,i*5+2,none⟩=some (Ma p m c)/\w.cell? ⟨g,i*5+3,none⟩=some (Ia ka (f:Int))/\w.cell? ⟨g,i*5+4,none⟩=some (Ia ka (e:Int)):=by obtain⟨a,p,m,c,b⟩:=h.2 i hi;generalize es[i]=x at a b;obtain⟨f,e,l,tx,d⟩:=x;simp only at b;subst b;exact⟨f,e,l,tx,p,m,c,rfl,a 0 _ rfl,a 1 _ rfl,a 2 _ rfl,a 3 _ rfl,a 4 _ rfl⟩
theorem El.Bo{x:El}(h:x.pd=true):x.ref=false:=by
 unfold El.pd at h;unfold El.ref;cases hl:x.mc with
 |true=>rw[hl]at h;simp at h
 |false=>rw[hl]at h;simp at h;simp[h]
theorem VK{w:Fa}(fr en:Nat)(tx0:Da)(g cap za:Nat)(es:List El)(hl:es.length=17)(hr:Qi w g es)(hb:∀i (hi:i<es.length),es[i].fr<=es[i].ra/\es[i].ra<=2048):Calls oa 188 #[Sa #[Oa true,La tx0,Ma (some ⟨g,0,none⟩) 17 cap,Ia ka (fr:Int),Ia ka (en:Int)],Ia ka (za:Int)] w λe w'=>e=na (Oa (decide (za<=63)&&Nz es))/\Ba w w':=by
 obtain⟨wb,S⟩:=nm (w.alloc (ma #[Oa true,La tx0,Ma (some ⟨g,0,none⟩) 17 cap,Ia ka (fr:Int),Ia ka (en:Int)] 152));have P:Ba w wb:=by rw[<-S];exact(Zb _ _).alloc (Za _) _
 have HR:Hid (Qi wb g es/\es.length=17/\∀i (hi:i<es.length),es[i].fr<=es[i].ra/\es[i].ra<=2048):=⟨hr.below P,hl,hb⟩;have u:Hid (wb.heap[w.heap.size]? =some (ma #[Oa true,La tx0,Ma (some ⟨g,0,none⟩) 17 cap,Ia ka (fr:Int),Ia ka (en:Int)] 152 (0,0))/\w.heap.size<wb.heap.size):=by rw[<-S];exact⟨Z6,by simp⟩
 have ac:=Hq P;clear hl hr hb P;go_enter func188,ntmps188;go_wp2_with fail
 clear S;go_loopg [6,5] 16 (λgh i n wr=>∃k,k<=16/\gh=16-k/\i=Ia ka (k:Int)/\n=Ia ka (Gd es k:Int)/\Ba wb wr/\(es.take k).all (λx=>x.ref||x.pd)=true)
 case atStart=>exact⟨0,Xa _,rfl,rfl,by simp[Gd],Zb _ _,by simp⟩
 case round=>
  obtain⟨k,hk,rfl,rfl,rfl,C,U⟩:=hrel;obtain⟨E,Q,O⟩:=HR.o;have z:=E.below C;obtain⟨b0,b1,b2,b3,b4⟩:=qe ((C.block _ u.2).trans u.1);have am:w.heap.size<wr.heap.size:=Zm u.2 C.size;by_cases R:k<16
  .have j:k<es.length:=by omega
   have i1:(k:Int)<16:=by omega
   have ao:(k:Int)<17:=by omega
   obtain⟨f,e,l,a,p,m,c,D,V,X,Y,Z,r4⟩:=z.at j;have y:=z.1;have I:=O k j;rw[D]at I;have J:=EH j;rw[D]at J;have ag:=eC es k;have N:∀b,(El.ref ⟨f,e,l,a,Ma p m c⟩||El.pd ⟨f,e,l,a,Ma p m c⟩)=b->(es.take (k+1)).all (λx=>x.ref||x.pd)=b:=λb hb=>by rw[Jj,Zk j,List.all_append,U,D];simpa using hb
   have ah:wrap64 ((k:Int)+1)=((k+1:Nat):Int):=Wj k 1 (by omega);obtain⟨n,K⟩:=nm (Gd es k);rw[K]at J ag⊢;have ai:wrap64 ((n:Int)+1)=((n+1:Nat):Int):=Wj n 1 (by omega);have HW:Hid (wrap64 ((k:Int)+1)=((k+1:Nat):Int)/\wrap64 ((n:Int)+1)=((n+1:Nat):Int)):=⟨ah,ai⟩;have al:Hid (∀W,Calls oa 205 #[Sa #[Oa l,La a,Ma p m c,Ia ka (f:Int),Ia ka (e:Int)]] W λr w'=>r=na (Oa (El.ref ⟨f,e,l,a,Ma p m c⟩))/\Ba W w'):=λW=>DI f e l a p m c W I.1 I.2;have F:Hid (∀W,Calls oa 148 #[Sa #[Oa l,La a,Ma p m c,Ia ka (f:Int),Ia ka (e:Int)]] W λr w'=>r=na (Oa (El.pd ⟨f,e,l,a,Ma p m c⟩))/\Ba W w'):=λW=>aA f e l a p m c W;have HB:=Hq C;have B:=Hq N;have ae:=Hq J;have ak:Hid ((es.take (k+1)).all (λx=>x.ref||x.pd)=false->Nz es=false):=λh=>by unfold Nz;rw[show es.take 16=es.take (k+1)++(es.take 16).drop (k+1)from fG es k R,List.all_append,h];rfl
   clear E Q O z U hk R j D I J ag N ah ai C K;go_wp2_with fail
   refine(F _).mono ?_;rintro r w1 ⟨rfl,q⟩;have aj:Hid (Ba wb w1):=Below.behind HB q;have q0:=(Zc (q.block g y)).trans V;have q1:=(Zc (q.block g y)).trans X;have q2:=(Zc (q.block g y)).trans Y;have q3:=(Zc (q.block g y)).trans Z;have q4:=(Zc (q.block g y)).trans r4;have d2:=(Zc (q.block w.heap.size am)).trans b2;clear q V X Y Z r4 b0 b1 b2 b3 b4;go_wp2_with fail
   refine(al _).mono ?_;rintro r w2 ⟨rfl,v⟩;have o:Hid (Ba wb w2):=Below.behind aj v;clear v q0 q1 q2 q3 q4 d2;cases d:El.pd ⟨f,e,l,a,Ma p m c⟩with
   |true=>
    have s:=El.Bo d;have M:Hid (Gd es (k+1)=n):=by rw[ae.o,Zj (by rw[s];simp)];exact rfl
    have t:Hid ((es.take (k+1)).all (λx=>x.ref||x.pd)=true):=B true (by rw[d];simp);clear s d;go_wp2;go_roundg (16-(k+1))
    case measure=>omega
    case rel=>exact⟨k+1,by omega,rfl,rfl,by rw[M.o],o.o,t.o⟩
   |false=>
    cases s:El.ref ⟨f,e,l,a,Ma p m c⟩with
    |true=>
     have M:Hid (Gd es (k+1)=n+1):=by rw[ae.o,Zo s];exact rfl
     have t:Hid ((es.take (k+1)).all (λx=>x.ref||x.pd)=true):=B true (by rw[s];rfl);clear s d;go_wp2;go_roundg (16-(k+1))
     case measure=>omega
     case rel=>exact⟨k+1,by omega,rfl,rfl,by rw[M.o,HW.2],o.o,t.o⟩
    |false=>have t:Hid ((es.take (k+1)).all (λx=>x.ref||x.pd)=false):=B false (by rw[s,d];rfl);clear s d;go_wp2;go_ret;exact⟨by rw[ak.o t.o,Bool.and_false];rfl,ac.trans (o.mono (V1 u.2))⟩
  .obtain rfl:k=16:=by omega
   have i1:¬((16:Nat):Int)<16:=by omega
   have j:16<es.length:=by omega
   obtain⟨f,e,l,a,p,m,c,D,V,X,Y,Z,r4⟩:=z.at j;have F:Hid (∀W,Calls oa 148 #[Sa #[Oa l,La a,Ma p m c,Ia ka (f:Int),Ia ka (e:Int)]] W λr w'=>r=na (Oa (El.pd ⟨f,e,l,a,Ma p m c⟩))/\Ba W w'):=λW=>aA f e l a p m c W;have hd:es.drop 16=[es[16]]:=by rw[Yv j,Xw (by omega)]
   obtain⟨n,K⟩:=nm (Gd es 16);obtain⟨em,d⟩:=nm (El.pd ⟨f,e,l,a,Ma p m c⟩);have G:Hid ((decide (za<=63)&&Nz es)=(decide (za<=63)&&(em&&decide (2<=n)))):=by
    have :Nz es=(decide (2<=Gd es 16)&&El.pd ⟨f,e,l,a,Ma p m c⟩):=by unfold Nz;rw[U,hd,D];simp
    rw[this,K,d,Bool.and_comm (decide (2<=n)) em];exact rfl
   rw[d]at F;have HB:=Hq C;rw[K];clear E Q O z U hk R j D hd C K d;go_wp2_with fail
   refine(F _).mono ?_;rintro r w2 ⟨rfl,v⟩;have o:Hid (Ba w w2):=ac.trans ((Below.behind HB v).mono (V1 u.2));clear v V X Y Z r4 b0 b1 b2 b3 b4;by_cases H:za<=63
   .have j0:(za:Int)<=63:=by omega
    have HC:=Hq H;clear H;cases em with
    |false=>go_wp2;go_ret;exact⟨by rw[G.o];simp,o.o⟩
    |true=>
     by_cases T:2<=n
     .have j1:(2:Int)<=(n:Int):=by omega
      have L:=Hq T;clear T;go_wp2;go_ret;exact⟨by rw[G.o];simp[HC.o,L.o],o.o⟩
     .have j1:decide ((2:Int)<=(n:Int))=false:=Zt (by omega);have L:=Hq T;clear T;go_wp2;go_ret;exact⟨by rw[G.o];simp[L.o],o.o⟩
   .have j0:decide ((za:Int)<=63)=false:=Zt (by omega);have HC:=Hq H;clear H;go_wp2;go_ret;exact⟨by rw[G.o];simp[HC.o],o.o⟩
end
section
def Td:Except Er Nd->Value
 | .ok _=>Ki 0 0 0 0
 | .error er=>Ki 8 0 0 er.at_
def Hh(q:Except Er Nd)(w:Fa)(e:Ending)(w':Fa):Prop:=e=na (Td q)/\Ba w w'
theorem rn{w:Fa}{b:Nat}{x0 x1 x2 x3:Value}{t:TypeId}(h:w.heap[b]? =some (ma #[x0,x1,x2,x3] t (0,0)))(y0 y1 y2 y3:Value):((((w.setCell ⟨b,0,none⟩ y0).setCell ⟨b,1,none⟩ y1).setCell ⟨b,2,none⟩ y2).setCell ⟨b,3,none⟩ y3).heap[b]? =some (ma #[y0,y1,y2,y3] t (0,0)):=De (De (De (De (cs:=[x0,x1,x2,x3]) h 0 _) 1 _) 2 _) 3 _
theorem Wi{W:Fa}{b:Nat}{y0 y1 y2 y3:Value}{t:TypeId}(h:W.heap[b]? =some (ma #[y0,y1,y2,y3] t (0,0))):W.rangeAt b 0 [y0,y1,y2,y3]:=by
 obtain⟨a,c,d,e,-⟩:=Wg h;intro j u hu;rw[Zf];match j,hu with
 |0,hu=>cases hu;exact a
 |1,hu=>cases hu;exact c
 |2,hu=>cases hu;exact d
 |3,hu=>cases hu;exact e
 |j+4,hu=>simp at hu
structure Dk(w:Fa)(a:Array Value)(W:Fa):Prop where
 below:Ba w W
 box:W.heap[w.heap.size]? =some (ma a 152 (0,0))
 ft:W.heap[w.heap.size+1]? =some (ma #[Ia ka 0,Ia ka 0,Ia ka 0,Ia ka 0] 91 (0,0))
section
variable{w W W':Fa}{a:Array Value}
theorem Dk.start(w:Fa)(a:Array Value):Dk w a ((w.alloc (ma a 152)).alloc (ma #[Ia ka 0,Ia ka 0,Ia ka 0,Ia ka 0] 91)):=by
 refine⟨yj _ _ _,?_,?_⟩;.simp only[World.alloc];rw[Array.getElem?_push_lt (by simp)];simp
 .simp only[World.alloc];have :=Z6 (xs:=w.heap.push (ma a 152)) (x:=Obj.cells #[Ia ka 0,Ia ka 0,Ia ka 0,Ia ka 0] 91 (0,0));rw[Array.size_push]at this;exact this
theorem Dk.step(h:Dk w a W)(hb:Ba W W'):Dk w a W':=⟨h.below.va hb,(hb.block _ (Zg.1 h.box).1).trans h.box,(hb.block _ (Zg.1 h.ft).1).trans h.ft⟩
theorem Dk.lt(h:Dk w a W):w.heap.size<W.heap.size/\w.heap.size+1<W.heap.size:=⟨(Zg.1 h.box).1,(Zg.1 h.ft).1⟩
theorem Dk.ret(h:Dk w a W){tmps:Array Value}(e1 e2 e3 e4:Nat)(hp:tmps.getD 4 undef=Qa (some ⟨w.heap.size+1,0,none⟩)):bodyPost oa f147 (λe w'=>e=na (Ki e1 e2 e3 e4)/\Ba w w') .ret ⟨tmps,[]⟩ ((((W.setCell ⟨w.heap.size+1,0,none⟩ (Ia ka (e1:Int))).setCell ⟨w.heap.size+1,1,none⟩ (Ia ka (e2:Int))).setCell ⟨w.heap.size+1,2,none⟩ (Ia ka (e3:Int))).setCell ⟨w.heap.size+1,3,none⟩ (Ia ka (e4:Int))):=Zv (v:=Ki e1 e2 e3 e4) (oA results147 hp (Wi (rn h.ft _ _ _ _))) rfl ⟨rfl,by
 have hb:=h.below;refine⟨hb.os,hb.tape,hb.output,by simpa using hb.size,λk hk=>?_⟩;have hne:k≠w.heap.size+1:=by omega
 exact((((Zd _ _ _ _ hne).trans (Zd _ _ _ _ hne)).trans (Zd _ _ _ _ hne)).trans (Zd _ _ _ _ hne)).trans (hb.block k hk)⟩
end
section
variable{w:Fa}(fr en:Nat)(tx:Da)(za:Nat)
theorem fA(l:Bool)(p:Option Addr)(m c:Nat)(h:l=true->m≠2/\m≠17):Calls oa 147 #[Sa #[Oa l,La tx,Ma p m c,Ia ka (fr:Int),Ia ka (en:Int)],Ia ka (za:Int)] w λe w'=>e=na (Ki 8 0 0 fr)/\Ba w w':=by
 have d:Hid (∀W,Calls oa 185 #[Sa #[Oa l,La tx,Ma p m c,Ia ka (fr:Int),Ia ka (en:Int)]] W λe w'=>e=na (Ki 8 0 0 fr)/\Ba W w'):=λW=>PA fr en l tx p m c W;have f:=Hq (Dk.start w #[Oa l,La tx,Ma p m c,Ia ka (fr:Int),Ia ka (en:Int)]);cases l with
 |false=>
  clear h;go_enter func147,ntmps147;go_wp2_with fail
  refine(d _).mono ?_;rintro e u ⟨rfl,b⟩;have a:=Hq (f.step b);obtain⟨i,j,k,n,o,q,r,s⟩:=Wg a.ft;clear b;go_wp2;exact a.ret 8 0 0 fr rfl
 |true=>
  obtain⟨t,g⟩:=h rfl;have x:((m:Int) != 2)=true:=by simp;omega
  have v:((m:Int) != 17)=true:=by simp;omega
  clear h t g;go_enter func147,ntmps147;go_wp2_with fail
  refine(d _).mono ?_;rintro e u ⟨rfl,b⟩;have a:=Hq (f.step b);obtain⟨i,j,k,n,o,q,r,s⟩:=Wg a.ft;clear b;go_wp2;exact a.ret 8 0 0 fr rfl
end
end
end Go.Proofs.YtpfbdlnibdfcoaaGreatDoor
