import Derived.Test.YtpfbdlnibdfcoaaGreatDoorPvVfO
namespace Go.Proofs.YtpfbdlnibdfcoaaGreatDoor
open Go.RowKit Tryz
open Value renaming int->Ia,string->La,slice->Ma,bool->Oa,pointer->Qa,agg->Sa,tuple->Wa,iface->ca,nilIface->da
open IntKind renaming i64->ka
open Obj renaming cells->ma
open Ending renaming returned->na
open Tryz renaming prog->oa
set_option maxRecDepth 100000
set_option maxHeartbeats 0
section
def oj(S:Bb)(ts:List Nd)(cs:List Value):Prop:=cs.length=ts.length/\∀i (h1:i<cs.length) (h2:i<ts.length),od S cs[i] ts[i]
variable{S:Bb}{cs:List Value}{t:Nd}{v:Value}
theorem oj.snoc{ts:List Nd}(h:oj S ts cs)(hv:od S v t):oj S (ts++[t]) (cs++[v]):=by
 refine⟨by simp[h.1],λi a b=>?_⟩;rw[List.getElem_append,List.getElem_append];split
 .rename_i e
  rw[dif_pos (by rw[<-h.1];exact e)];exact h.2 i e _
 .rename_i e
  rw[dif_neg (by rw[<-h.1];exact e)];simpa using hv
structure U4(S:Bb)(w:Fa)(l:List (Nd×Da))(thr v:Value)(r:Da)(k:Nat)(Qd:Value)(cs:List Value)(wr:Fa):Prop where
 own:Db wr (w.heap.size+1) 1 Qd k cs
 mg:oj S ((l.take k).map (·.1)) cs
 below:Ba w wr
 box:wr.heap[w.heap.size]? =some (ma #[thr,v,La r] 226 (0,0))
theorem JP:(oa.info? 261).map (λi=>(i.zero,i.size,i.bytes))=some (some da,1,16):=by kernel_rfl
variable{w:Fa}{l:List (Nd×Da)}{thr:Value}{r:Da}
theorem tE{wr w2 w3:Fa}{k:Nat}{Qd v2:Value}{x:Value}(h:U4 S w l thr v r k Qd cs wr)(hb:Ba wr w2)(hO:Db w3 (w.heap.size+1) 1 v2 (k+1) (cs++[x]))(hg:w2.grownBy w3 Qd.ownBlock)(hv:od S x t):Db w3 (w.heap.size+1) 1 v2 (k+1) (cs++[x])/\oj S ((l.take k).map (·.1)++[t]) (cs++[x])/\Ba w w3/\w3.heap[w.heap.size]? =some (ma #[thr,v,La r] 226 (0,0)):=by
 have d:=(Zg.1 h.box).1;have a:=h.below.va hb;have f:=hb.size;have b:∀j,j<=w.heap.size->some j≠Qd.ownBlock:=λj c e=>by have :=(h.own.block j e.symm).1;omega
 refine⟨hO,h.mg.snoc hv,⟨hg.os.trans a.os,hg.tape.trans a.tape,hg.output.trans a.output,Z2 a.size hg.size,λj c=>(hg.block j (by omega) (b j (by omega))).trans (a.block j c)⟩,?_⟩;exact(hg.block _ (by omega) (b _ (Za _))).trans ((hb.block _ d).trans h.box)
def Nd.Bc(e:Nd):List Nd:=if e.rf=true then[]else[e]
theorem iO{C:Nat}{e:Nd}(hF:Followed S C w l e thr v)(hs:∀h,e≠ .stub h)(hl:l.length<=1000)(hin:∀x∈l,x.1≠ .no):Calls oa 162 #[Sa #[thr,v,La r]] w λx w'=>Ba w w'/\∃Qd cs,x=na Qd/\Db w' (w.heap.size+1) 1 Qd (l.map (·.1)++e.Bc).length cs/\oj S (l.map (·.1)++e.Bc) cs:=by
 obtain⟨⟨ct,s,B⟩,y⟩:=hF;obtain⟨i0,hi,ah,ai,aj⟩:=Xl JP;obtain⟨U,mt,d,rfl⟩:=s.shape;have ao:mt=l.length:=by
  rcases s.2 with⟨f,J⟩|⟨g,z,f,_⟩;.simp only[Z3]at f;omega
  .simp only[Z3]at f;exact f.2.1
 subst ao;obtain⟨W0,K⟩:=nm (w.alloc (ma #[Ma U l.length d,v,La r] 226));have ac:Ba w W0:=by rw[<-K];exact(Zb _ _).alloc (Za _) _
 have F:W0.heap[w.heap.size]? =some (ma #[Ma U l.length d,v,La r] 226 (0,0)):=by rw[<-K];exact Z6
 have A0:Aside (U4 S w l (Ma U l.length d) v r 0 (Ma none 0 0) [] W0):=⟨Db.nil _ _ _,⟨rfl,by simp⟩,ac,F⟩;obtain⟨x0,x1,x2⟩:=Dp F;have HX:=Hq (A6 s B y hs hl hin);clear s B y hs hl hin ac F;go_enter func162,ntmps162;go_wp2;clear K;go_loopg [11,3] l.length (λgh i Qd wr=>∃k cs,k<=l.length/\gh=l.length-k/\i=Ia ka (k:Int)/\U4 S w l (Ma U l.length d) v r k Qd cs wr)
 case atStart=>exact⟨0,[],Xa _,rfl,rfl,A0.o⟩
 case round=>
  obtain⟨k,cs,hk,rfl,rfl,a⟩:=hrel;clear A0 x0 x1 x2;have HN:=Hq a;obtain⟨T,R,I,rfl⟩:=a.own.shape;obtain⟨s,B,y,hs,hl,hin⟩:=HX.o;by_cases m:k<l.length
  .have i1:(k:Int)<(l.length:Int):=by omega
   obtain⟨X,V⟩:=B.at k m;have G:=hin _ (Zy m);obtain⟨g,z,eg,am,O,n⟩:∃g z,Value.slice U l.length d=Ma (some ⟨g,0,none⟩) l.length z/\C<=g/\g<w.heap.size/\w.rangeAt g 0 ct:=by
    rcases s.2 with⟨_,J⟩|⟨g,z,f,a1,a2,_,_,_,a3⟩;.omega
    .exact⟨g,z,f,a1,a2,a3⟩
   simp only[Z3]at eg;obtain⟨rfl,-,rfl⟩:=eg;obtain⟨⟨E,Z⟩,Q⟩:=nm (l[k]);rw[Q]at X V G;simp only at X V G;obtain⟨c,L,Ak⟩:=V.full G;have al:=B.length;have c0:wr.cell? ⟨g,k*2,none⟩=some (ca (K9 E) (Qa (some ⟨c,0,none⟩))):=(Zc (a.below.block g O)).trans (by have :=n (k*2) (ct.getD (k*2) undef) (by rw[Yb,Zk (by omega)];rfl);rw[Zf,L]at this;exact this);have c1:wr.cell? ⟨g,k*2+1,none⟩=some (La Z):=(Zc (a.below.block g O)).trans (by have :=n (k*2+1) (ct.getD (k*2+1) undef) (by rw[Yb,Zk (by omega)];rfl);rw[Zf,X]at this;exact this);have au:=Zm O a.below.size;have ar:¬g=wr.heap.size:=by omega
   have b:=Hq (A4 m hl (by rw[<-L];exact V:od S (ca (K9 E) (Qa (some ⟨c,0,none⟩))) E) (by rw[Zk m,Q]:l[k]? =some (E,Z)));have HO:Hid (∀W,Ba wr W->Db W (w.heap.size+1) 1 (Ma T R I) k cs):=λW hb=>a.own.below hb;have HB:=Hq ((Zg.1 a.box).1);have H:Hid (∀o t,((wr.alloc o).alloc (ma #[ca (K9 E) (Qa (some ⟨c,0,none⟩))] t)).rangeAt (wr.heap.size+1) 0 [ca (K9 E) (Qa (some ⟨c,0,none⟩))]):=λo t=>by have :=wg (wr.alloc o) [ca (K9 E) (Qa (some ⟨c,0,none⟩))] t;simpa using this
   have ak:Hid (wrap64 ((k:Int)+1)=((k+1:Nat):Int)):=Wj k 1 (by omega);clear a s B y hs hl hin X V G n am al Ak Q L m;go_wp2_with (at_builtin;refine ll _ rfl _ _ 258 rfl 261 i0 da 1 16 underlying258 hi ah ai aj rfl (by decide) (w.heap.size+1) (Ma T R I) k cs rfl (HO _ (yj _ _ _)) (wr.heap.size+1) 0 1 1 [ca (K9 E) (Qa (some ⟨c,0,none⟩))] rfl rfl (H _ _) (by simp[Value.oneCell']) (by have :=b.o;unfold maxLen;omega) (by have :=b.o;omega) (by have :=HB.o;simp;omega) ?_;intro v2 w2 j D N P;have p:=Hq (tE HN (yj _ _ _) j D b.2.2.1);obtain⟨p2,m2,k2,rfl⟩:=j.shape;clear j D N P)
   go_roundg (l.length-(k+1))
   case measure=>have :=b.o;omega
   case rel=>exact⟨k+1,_,by have :=b.o;omega,rfl,by rw[ak.o],p.1,by rw[Jj,b.2.2.2];simp only[Option.toList_some,Xk,Xm,J9];exact p.2.1,p.2.2.1,p.2.2.2⟩
  .obtain rfl:k=l.length:=by omega
   have i1:¬(l.length:Int)<(l.length:Int):=by omega
   obtain⟨x0,x1,x2⟩:=Dp a.box;have u:l.take l.length=l:=List.take_length;by_cases M:e=.no
   .subst M;obtain rfl:v=da:=y.nil rfl;have aq:=fI;have p:Hid (Ba w wr/\Db wr (w.heap.size+1) 1 (Ma T R I) (l.map (·.1)++Nd.no.Bc).length cs/\oj S (l.map (·.1)++Nd.no.Bc) cs):=by
     have f:l.map (·.1)++Nd.no.Bc=l.map (·.1):=by simp[Nd.Bc,Nd.rf]
     have ag:=a.mg;rw[u]at ag;rw[f,Zl];exact⟨a.below,a.own,ag⟩
    clear a s B y hs hl hin u hk m;go_wp2;go_ret;exact⟨p.1,_,rfl,_,by simpa using p.2.1,p.2.2⟩
   .obtain⟨c,rfl,Ak⟩:=y.full M;have ae:e.shown=true:=by
     cases e with
     |no=>exact absurd rfl M
     |stub h=>exact absurd rfl (hs h)
     |_=>rfl
    have aq:=iD e ae ⟨c,0,none⟩;have f:l.map (·.1)++e.Bc=l.map (·.1)++[e]:=by unfold Nd.Bc;rw[Zj (λh=>M (Nd.sf.1 h))]
    have b:=Hq (A4 hl y f u);have HO:Hid (∀W,Ba wr W->Db W (w.heap.size+1) 1 (Ma T R I) l.length cs):=λW hb=>a.own.below hb;have HB:=Hq ((Zg.1 a.box).1);have H:Hid (∀t,(wr.alloc (ma #[ca (K9 e) (Qa (some ⟨c,0,none⟩))] t)).rangeAt wr.heap.size 0 [ca (K9 e) (Qa (some ⟨c,0,none⟩))]):=λt=>wg wr [ca (K9 e) (Qa (some ⟨c,0,none⟩))] t;have Y:Hid (∀o,Ba wr (wr.alloc o)):=λo=>(Zb _ _).alloc (Za _) _;clear a s B y hs hl hin u hk m M Ak ae f;go_wp2_with (at_builtin;refine ll _ rfl _ _ 258 rfl 261 i0 da 1 16 underlying258 hi ah ai aj rfl (by decide) (w.heap.size+1) (Ma T R I) l.length cs rfl (HO _ (Y _)) wr.heap.size 0 1 1 [ca (K9 e) (Qa (some ⟨c,0,none⟩))] rfl rfl (H _) (by simp[Value.oneCell']) (by have :=b.o;unfold maxLen;omega) (by have :=b.o;omega) (by have :=HB.o;simp;omega) ?_;intro v2 w2 j D N P;have p:=Hq (tE HN (Y _) j D b.2.1);obtain⟨p2,m2,k2,rfl⟩:=j.shape;clear j D N P)
    go_ret;obtain⟨y1,y2,y3,y4⟩:=p.o;rw[b.2.2.2]at y2;have J:(l.map (·.1)++e.Bc).length=l.length+1:=by rw[b.2.2.1];simp
    refine⟨y3,_,rfl,cs++[ca (K9 e) (Qa (some ⟨c,0,none⟩))],?_,?_⟩
    .have e3:l.length+e.Bc.length=l.length+1:=by rw[Zq,Zl]at J;exact J
     first| (rw[J];exact y1)| (rw[e3];exact y1)
    .rw[b.2.2.1];exact y2
def Rc:Nd->FuncId
 | .leaf _ _=>269
 | .ext _ _=>310
 | .br _=>300
 |_=>0
theorem SN(t:Nd)(ht:t.shown=true)(a:Addr)(w:Fa):(Go.method 535 (K9 t) (Qa (some a)) "twigs/tree.code").run oa w=.ok (Rc t,Qa (some a)) w:=by
 cases t with
 |leaf _ _=>kernel_rfl
 |ext _ _=>kernel_rfl
 |br _=>kernel_rfl
 |_=>simp[Nd.shown]at ht
theorem qN(t:Nd)(ht:t.shown=true)(args:Array Value)(w:Fa):(callFunc (Rc t) args).run oa w=.ok (.enter (Rc t) args) w:=by
 cases t with
 |leaf _ _=>kernel_rfl
 |ext _ _=>kernel_rfl
 |br _=>kernel_rfl
 |_=>simp[Nd.shown]at ht
theorem vP(t:Nd)(ht:t.shown=true)(a:Addr)(w:Fa):(nilAhead 535 (K9 t) (Qa (some a)) "twigs/tree.code").run oa w=.ok (some false) w:=by
 cases t with
 |leaf _ _=>kernel_rfl
 |ext _ _=>kernel_rfl
 |br _=>kernel_rfl
 |_=>simp[Nd.shown]at ht
variable{B b:Nat}
theorem pJ(hf:ua B S w)(hT:qb w)(hM:16<=B)(hb:S b=some t)(ht:t.shown=true):Calls oa (Rc t) #[Qa (some ⟨b,0,none⟩)] w λe w'=>e=na (La (Kg t.code))/\Fr B S S w w':=by
 cases t with
 |leaf _ _=>exact cD hf hb
 |ext p t=>have :=hf.ok b _ hb;rw[Nd.ok]at this;exact NI hf hT hM hb (uw B S t this.2.2)
 |br ks=>exact mG hf hT hM hb (ZC B S ks)
 |_=>simp[Nd.shown]at ht
def Nx:List Nd->List (List Nat)
 | []=>[]
 |t::ts=>t.code::(ts.map Nd.code).filter (λc=>decide (32<=c.length))
theorem xI(ts:List Nd)(t:Nd):Nx (ts++[t])=if Nx ts=[]\/32<=t.code.length then Nx ts++[t.code]else Nx ts:=by
 cases ts with
 |nil=>simp[Nx]
 |cons s ts=>
  simp only[Nx,Vh,Xk,List.filter_append,Xm,J9,J8,List.filter_nil];by_cases h:32<=t.code.length;.simp[h]
  .simp[h]
theorem lD(ts:List Nd):(Nx ts).length<=ts.length:=by
 cases ts with
 |nil=>simp[Nx]
 |cons s ts=>have :=List.length_filter_le (λc:List Nat=>decide (32<=c.length)) (ts.map Nd.code);simp only[Nx,Zu];rw[Zl]at this;omega
def G9(L:List (List Nat)):List Value:=L.map λc=>La (Kg c)
theorem Db.frame{C size:Nat}{S':Bb}{w':Fa}{n:Nat}(h:Db w C size v n cs)(hf:Fr B S S' w w')(hn:∀k,v.ownBlock=some k->S k=none):Db w' C size v n cs:=h.Cb hf.size λk hk e=>hf.other k hk (hn k e)
structure lp(B:Nat)(S:Bb)(W1:Fa)(ts:List Nd)(k:Nat)(Qd:Value)(wr:Fa):Prop where
 fr:Fr B S S W1 wr
 own:Db wr W1.heap.size 1 Qd (Nx (ts.take k)).length (G9 (Nx (ts.take k)))
theorem lp.none{B:Nat}{S:Bb}{W1:Fa}{ts:List Nd}{k:Nat}{Qd:Value}{wr:Fa}(h:lp B S W1 ts k Qd wr)(hf:ua B S W1):∀g,Qd.ownBlock=some g->S g=none:=λg hg=>hf.fresh (h.own.block g hg).1
theorem lp.frame{B:Nat}{S:Bb}{W1:Fa}{ts:List Nd}{k:Nat}{Qd:Value}{wr w2:Fa}(h:lp B S W1 ts k Qd wr)(hf:ua B S W1)(hr:Fr B S S wr w2):lp B S W1 ts k Qd w2:=⟨h.fr.trans hr,h.own.frame hr (h.none hf)⟩
variable{K:Array Nat}
theorem dE{e:Nd}{p r':Da}(hf:ua B S w)(hTb:qb w)(hM:16<=B)(ht:Ib S w b t)(hK:K.size=32)(hKb:K3 K)(hp:Kg (Kl K.toList)=p)(hfit:t.fits p.size)(hn:∀x∈Ke p,x<16)(hps:p.size<=64)(hT:nc t p l e r')(hs:∀h,e≠ .stub h)(hl:l.length<=64)(hin:∀x∈l,x.1.inner=true):Calls oa 116 #[Qa (some ⟨b,0,none⟩),Sa (K.toList.map Kf).toArray] w λx w'=>∃Qd,x=na (Wa #[Qd,da])/\Fr B S S w w'/\Db w' w.heap.size 1 Qd (Nx (l.map (·.1)++e.Bc)).length (G9 (Nx (l.map (·.1)++e.Bc))):=by
 obtain⟨i0,hi,cu,cw,dc⟩:=Xl Qv;obtain⟨Kc,U⟩:=nm ((K.toList.map Kf).toArray);obtain⟨W0,V⟩:=nm (w.alloc (ma Kc 37));have ay:W0.rangeAt w.heap.size 0 (K.toList.map Kf):=λj u hu=>by rw[<-V,Zf,Ze,<-U];simpa using hu
 have ak:Ba w W0:=by rw[<-V];exact(Zb _ _).alloc (Za _) _
 have ao:=Fr.xa hf ak;have HW:=Hq (Dw ao.wa (ht.frame ao) hK hKb hp hfit hn (by omega) hT hs);have de:=Mb hK
 have m:=Hq (A6 hf hTb hM hs hl (A3 hin ak (by rw[<-V];simp :w.heap.size<W0.heap.size)));have bc:=underlying37;clear hf hTb hM ht hK hKb hp hfit hn hps hT hs hl hin ak ao;rw[U]at HW⊢;go_enter func116,ntmps116;go_upto_region 1 with fail
 clear V;rw[<-U]at HW;clear U;go_wp2_with (first| (refine Zr rfl 37 _ rfl w.heap.size 0 rfl (K.toList.map Kf) _ ay bc rfl de ?_))
 refine HW.mono ?_;rintro x T ⟨bn,dt,v,rfl,hF⟩;obtain⟨pt,mt,ct,rfl⟩:=hF.shape;have df:=wv hF.node pt mt ct r';have HF:=Hq hF;have dq:=hF.node.shape;have bi:=Hq (m.2.2.2.2.2.2.1.va bn);clear bn hF ay de bc;obtain⟨vv,bf⟩:=nm v;have bl:Hid (Followed S W0.heap.size T l e (Ma pt mt ct) vv):=by rw[<-bf];exact HF.o
 have dh:=Hq bf;clear bf;rcases dq with rfl|⟨Tv,av,rfl⟩;all_goals
  go_upto_region 5 with fail
  generalize hw2:T.alloc _=w2;have al:Ba T w2:=by rw[<-hw2];exact(Zb _ _).alloc (Za _) _
  have HN:=Hq (iO (r:=r') (bl.Cb al) m.2.2.2.1 (by have :=m.2.2.2.2.1;omega) (λx hx h=>by have :=m.2.2.2.2.2.1 x hx;rw[h]at this;cases this));have Z:=Hq (bi.va al);have cj:w2.rangeAt T.heap.size 0 [Ma pt mt ct,vv,La r']:=by rw[<-hw2,<-dh.o];exact wg T [_,_,_] _
  clear al hw2;go_wp2_with (first| (refine Zr rfl 226 _ rfl T.heap.size 0 rfl _ _ cj underlying226 rfl Fj ?_))
  refine HN.mono ?_;rintro x n ⟨bq,ns,cs,rfl,f,C⟩;generalize D:l.map (·.1)++e.Bc=ts at f C;obtain⟨pn,mn,cn,rfl⟩:=f.shape;have dm:mn=ts.length:=by
   rcases f.2 with⟨z,e2⟩|⟨g,J,z,_⟩;.simp only[Z3]at z;omega
   .simp only[Z3]at z;exact z.2.1
  subst dm;have s:=Z.va bq;have y:=m.1.below s;have A0:Aside (lp B S n ts 0 (Ma none 0 0) n):=⟨Fr.refl y,Db.nil _ _ _⟩;have HY:Hid (Ba w n/\ua B S n/\qb n/\Db n (w2.heap.size+1) 1 (Ma pn ts.length cn) ts.length cs/\oj S ts cs/\ts.length<=65/\(∀t∈ts,t.shown=true)/\l.map (·.1)++e.Bc=ts/\w.heap.size<=w2.heap.size):=by
   refine⟨s,y,m.2.1.below s (Z2 m.2.2.1 m.1.le),f,C,?_,λt ht=>?_,D,Z.size⟩
   .rw[<-D,Zq,Zl];have h1:e.Bc.length<=1:=by unfold Nd.Bc;split<;>simp
    have :=m.2.2.2.2.1;omega
   .rw[<-D]at ht;rcases Yc.1 ht with h|h;.obtain⟨q,hq,rfl⟩:=Xd.1 h;have :=m.2.2.2.2.2.1 q hq;cases hx:q.1<;>rw[hx]at this<;>simp[Nd.inner]at this<;>rfl
    .unfold Nd.Bc at h;split at h;.cases h
     .rename_i hno
      obtain rfl:t=e:=by simpa using h
      cases t with
      |no=>exact absurd rfl hno
      |stub g=>exact absurd rfl (m.2.2.2.1 g)
      |_=>rfl
  clear bq f C s y D HN HF bl Z bi cj df HW;go_wp2;go_loopg [24,8] ts.length (λgh i Qd wr=>∃k,k<=ts.length/\gh=ts.length-k/\i=Ia ka (k:Int)/\lp B S n ts k Qd wr)
  case atStart=>exact⟨0,Xa _,rfl,rfl,A0.o⟩
  case round=>
   obtain⟨k,hk,rfl,rfl,I⟩:=hrel;clear A0;obtain⟨s,y,aj,f,C,ai,az,D,cq⟩:=HY.o;obtain⟨pr,G,cr,rfl⟩:=I.own.shape;by_cases L:k<ts.length
   .have i1:(k:Int)<(ts.length:Int):=by omega
    obtain⟨g,J,eg,dk,Q⟩:∃g J,Value.slice pn ts.length cn=Ma (some ⟨g,0,none⟩) ts.length J/\g<n.heap.size/\n.rangeAt g 0 cs:=by
     rcases f.2 with⟨_,e2⟩|⟨g,J,z,a1,a2,_,_,_,a3⟩;.omega
     .exact⟨g,J,z,a2,a3⟩
    have ch:S g=none:=by have dr:=f.block g (by rw[eg];rfl);exact m.1.fresh (by omega)
    simp only[Z3]at eg;obtain⟨rfl,-,rfl⟩:=eg;have ar:k<cs.length:=by rw[C.1];exact L
    obtain⟨td,ba⟩:=nm (ts[k]);have hv:=C.2 k ar L;have d:=az _ (Zy L);rw[ba]at hv d;obtain⟨db,bv,Ak⟩:=hv.full (λh=>by rw[h]at d;cases d);have c0:wr.cell? ⟨g,k,none⟩=some (ca (K9 td) (Qa (some ⟨db,0,none⟩))):=(I.fr.cell (a:=⟨g,k,none⟩) dk ch).trans (by have :=Q k cs[k] (Zk ar);rw[Zf,bv]at this;exact this);have hm:=SN td d;have dj:=qN td d;have dn:=vP td d;have HC:=Hq (pJ I.fr.wa (I.fr.Fg y aj m.2.2.1) m.2.2.1 Ak d);have HP:=Hq I;have N:Hid (k<ts.length/\ts.length<=65/\ts.take (k+1)=ts.take k++[td]/\(Nx (ts.take k)).length<=65):=⟨L,ai,by rw[Jj,Zk L,ba];rfl,by have :=lD (ts.take k);rw[Zx]at this;omega⟩;have R:Hid (wrap64 ((k:Int)+1)=((k+1:Nat):Int)):=Wj k 1 (by omega);obtain⟨cd,am⟩:=nm td.code;rw[am]at HC;have bj:=Hq am;obtain⟨sc,W⟩:=nm (Kg cd);rw[W]at HC;have ag:Hid (Kg cd=sc/\sc.size=cd.length):=⟨W,by rw[<-W,me]⟩;have P:G=(Nx (ts.take k)).length:=by
     rcases I.own.2 with⟨z,e2⟩|⟨g,J,z,_⟩;.simp only[Z3]at z;omega
     .simp only[Z3]at z;exact z.2.1
    clear s aj f C ai az D cq I Q ar hv bv Ak ba L am W ch;go_upto_region 9 with fail
    refine HC.mono ?_;rintro x H ⟨rfl,cf⟩;have E:=Hq (HP.frame y cf);have dg:=Hq y;clear cf hm dj dn y c0 d;by_cases c:Nx (ts.take k)=[]\/32<=cd.length
    .have ae:Hid (Nx (ts.take (k+1))=Nx (ts.take k)++[cd]):=by show Nx (ts.take (k+1))=_;rw[N.2.2.1,xI,bj.o,Zo c]
     have HO:Hid (∀o,Db (H.alloc o) n.heap.size 1 (Ma pr G cr) (Nx (ts.take k)).length (G9 (Nx (ts.take k)))):=λo=>E.own.alloc o;have bm:Hid (∀t,(H.alloc (ma #[La sc] t)).rangeAt H.heap.size 0 [La sc]):=λt=>wg H [La sc] t;have ac:Hid (∀o v2 Y,Db Y n.heap.size 1 v2 ((Nx (ts.take k)).length+1) (G9 (Nx (ts.take k))++[La sc])->(H.alloc o).grownBy Y (Value.ownBlock (Ma pr G cr))->lp B S n ts (k+1) v2 Y):=λo v2 Y h1 h2=>by
      have hb:Ba H (H.alloc o):=(Zb _ _).alloc (Za _) _;refine⟨(E.fr.behind hb).grow h2 λj hj=>⟨(E.own.block j hj).1,E.none dg j hj⟩,?_⟩;rw[ae.o];have z:G9 (Nx (ts.take k)++[cd])=G9 (Nx (ts.take k))++[La sc]:=by unfold G9;rw[Xk,<-ag.1];rfl
      rw[z,Zq];exact h1
     have X:Hid (n.heap.size<=H.heap.size/\(Nx (ts.take k)).length<=65):=⟨E.fr.size,N.2.2.2⟩;by_cases au:G=0
     .have ci:((G:Int)==0)=true:=by simp;omega
      clear P c au;go_wp2_with (at_builtin;refine ll _ rfl _ _ 40 rfl 9 i0 (La ⟨#[]⟩) 1 16 underlying40 hi cu cw dc rfl (by decide) n.heap.size (Ma pr G cr) _ _ rfl (HO _) H.heap.size 0 1 1 [La sc] rfl rfl (bm _) (by simp[Value.oneCell']) (by have :=X.o;unfold maxLen;omega) (by have :=X.o;omega) (by have :=X.o;simp;omega) ?_;intro v2 Y F O aq aw;have ah:=Hq (ac _ _ _ F O);obtain⟨p2,m2,k2,rfl⟩:=F.shape;clear F O aq aw)
      go_roundg (ts.length-(k+1))
      case measure=>have :=N.o;omega
      case rel=>exact⟨k+1,by have :=N.o;omega,rfl,by rw[R.o],ah.o⟩
     .have ci:((G:Int)==0)=false:=by simp;omega
      have di:(32:Int)<=(sc.size:Int):=by
       have :=ag.2;rcases c with h|h;.rw[h]at P;exact absurd P au
       .omega
      clear P c au;go_wp2_with (at_builtin;refine ll _ rfl _ _ 40 rfl 9 i0 (La ⟨#[]⟩) 1 16 underlying40 hi cu cw dc rfl (by decide) n.heap.size (Ma pr G cr) _ _ rfl (HO _) H.heap.size 0 1 1 [La sc] rfl rfl (bm _) (by simp[Value.oneCell']) (by have :=X.o;unfold maxLen;omega) (by have :=X.o;omega) (by have :=X.o;simp;omega) ?_;intro v2 Y F O aq aw;have ah:=Hq (ac _ _ _ F O);obtain⟨p2,m2,k2,rfl⟩:=F.shape;clear F O aq aw)
      go_roundg (ts.length-(k+1))
      case measure=>have :=N.o;omega
      case rel=>exact⟨k+1,by have :=N.o;omega,rfl,by rw[R.o],ah.o⟩
    .have ae:Hid (Nx (ts.take (k+1))=Nx (ts.take k)):=by show Nx (ts.take (k+1))=_;rw[N.2.2.1,xI,bj.o,Zj c]
     have ci:((G:Int)==0)=false:=by have :G≠0:=λe=>c (.inl (Ye (by omega)));simp;omega
     have di:(sc.size:Int)<32:=by have :=ag.2;have :¬32<=cd.length:=λh=>c (.inr h);omega
     clear P c;go_wp2;go_roundg (ts.length-(k+1))
     case measure=>have :=N.o;omega
     case rel=>exact⟨k+1,by have :=N.o;omega,rfl,by rw[R.o],E.fr,by rw[ae.o];exact E.own⟩
   .obtain rfl:k=ts.length:=by omega
    have i1:¬(ts.length:Int)<(ts.length:Int):=by omega
    have HE:Hid (Fr B S S w wr/\Db wr w.heap.size 1 (Ma pr G cr) (Nx (l.map (·.1)++e.Bc)).length (G9 (Nx (l.map (·.1)++e.Bc)))):=by refine⟨(Fr.xa m.1 s).trans I.fr,?_⟩;have :=I.own;rw[List.take_length]at this;rw[D];exact this.mono s.size
    clear s y aj f C ai az D cq I;go_wp2;go_ret2;exact⟨_,rfl,HE.1,HE.2⟩
def Nd.ways:Nat->Nd->Da->List Nd
 |0,t,_=>t.Bc
 |n+1,t,r=>if(t.next r).1.rf=true then t.Bc else t::(t.next r).1.ways n (r.extract (t.next r).2 r.size)
theorem nc.ways{t:Nd}{r:Da}{l:List (Nd×Da)}{e:Nd}{r':Da}(h:nc t r l e r'):∀n,t.fits r.size->r.size<=n->l.map (·.1)++e.Bc=t.ways n r:=by
 induction h with
 |stop h=>
  intro n _ _;cases n with
  |zero=>rfl
  |succ n=>rw[Nd.ways,Zo (Nd.sf.2 h)];rfl
 |go hn _ ih=>
  intro n a c;obtain⟨d,f,b⟩:=Nd.we a hn;cases n with
  |zero=>omega
  |succ n=>rw[Nd.ways,Zj (by rw[jy hn];simp)];rw[Xm,Vh,ih n (by rw[Cf];exact b) (by rw[Cf];omega)]
theorem nc.inner{t:Nd}{r:Da}{l:List (Nd×Da)}{e:Nd}{r':Da}(h:nc t r l e r'):∀x∈l,x.1.inner=true:=by
 induction h with
 |stop h=>intro x a;cases a
 | @go t r _ _ _ hn _ ih=>
  intro x a;rcases Yf.1 a with rfl|a
  .cases ht:t.inner with
   |true=>rfl
   |false=>exact absurd (Nd.pj ht r) hn
  .exact ih x a
def Nd.Qg(t:Nd)(p:Da):List (List Nat):=Nx (t.ways 64 p)
theorem xM(hf:ua B S w)(hTb:qb w)(hM:16<=B)(ht:Ib S w b t)(hc:t.can 64)(hK:K.size=32)(hKb:K3 K){L:List (List Nat)}(hL:t.Qg (Kg (Kl K.toList))=L):Calls oa 62 #[Qa (some ⟨b,0,none⟩),Sa (K.toList.map Kf).toArray] w λx w'=>∃Qd,x=na (Wa #[Qd,Ia ka 0])/\Fr B S S w w'/\Db w' w.heap.size 1 Qd L.length (G9 L):=by
 obtain⟨p,E⟩:=nm (Kg (Kl K.toList));obtain⟨n,C,o⟩:=Co hK hKb;rw[E]at n o hL;have z:qd (Ke p):=by rw[n];exact C
 have h:t.can p.size:=by rw[o];exact hc
 obtain⟨l,e,W,k,O⟩:=Wr p.size t p (Za _) h;obtain⟨_,H,_,_⟩:=Bu k h;obtain⟨_,c⟩:=t.oe p.size h (by omega);have v:Nx (l.map (·.1)++e.Bc)=L:=by rw[k.ways 64 c (by omega)];exact hL
 obtain⟨J,d⟩:=nm ((K.toList.map Kf).toArray);obtain⟨W0,f⟩:=nm (w.alloc (ma J 37));have q:W0.rangeAt w.heap.size 0 (K.toList.map Kf):=λj u P=>by rw[<-f,Zf,Ze,<-d];simpa using P
 have y:Ba w W0:=by rw[<-f];exact(Zb _ _).alloc (Za _) _
 have D:w.heap.size<W0.heap.size:=by rw[<-f];simp
 have a:=Fr.xa hf y.drew;have r:=Hq (dE a.wa (a.Fg hf hTb hM) hM (ht.frame a) hK hKb E c z (by omega) k (λg=>Oi H g) (by omega) k.inner);rw[v]at r;have G:=Hq (A2 a hf);have R:=Mb hK
 have Q:=underlying37;have s:=Hq (A2 D (hf.fresh (Za _)));clear hf hTb hM ht hc hK hKb hL n C o z h k O H c v E y D a;rw[d]at r⊢;go_enter func62,ntmps62;go_upto_region 1 with fail
 clear f;rw[<-d]at r;clear d;go_region_held3 (λw'=>w'.rangeAt w.heap.size 0 (K.toList.map Kf)) (first|exact q|exact N) (first| (go_at_call 116;refine r.mono ?_;rintro x F ⟨Qd,rfl,m,i⟩;have N:F.rangeAt w.heap.size 0 (K.toList.map Kf):=zc q (m.other w.heap.size s.1 s.2);have I:Hid (Fr B S S w F/\Db F w.heap.size 1 Qd L.length (G9 L)):=⟨G.1.trans m,i.mono G.1.size⟩;obtain⟨V,U,T,rfl⟩:=i.shape;clear m i))
 all_goals go_wp2_with (go_at_call 75;refine(xu _).mono ?_;rintro x X ⟨rfl,rfl⟩)
 all_goals go_ret2
 all_goals exact⟨_,rfl,I.o⟩
end
section
def G6(out:List (List Nat))(c:List Nat):List (List Nat):=if out=[]\/32<=c.length then out++[c]else out
def Hc:Nat->List Ed->Da->List (List Nat)->List (List Nat)
 |0,_,_,out=>out
 |_+1,[],_,out=>out
 |f+1,x::l,p,out=>
  if l.length=0 then G6 out (K5 65 (x::l))
  else if 0<Gl x l then
   if K7 (x.path.extract 0 (Gl x l)) p then Hc f (K8 (x::l) (p.extract 0 (Gl x l))) (p.extract (Gl x l) p.size) (G6 out (K5 65 (x::l)))
   else G6 out (K5 65 (x::l))
  else Hc f (K8 (x::l) (p.extract 0 1)) (p.extract 1 p.size) (G6 out (K5 65 (x::l)))
theorem YP{out:List (List Nat)}{c:List Nat}(h:out≠[]):G6 out c≠[]:=by unfold G6;split<;>simp[h]
theorem fE:∀(ts:List Nd) (out:List (List Nat)),out≠[]->(ts.map Nd.code).foldl G6 out=out++(ts.map Nd.code).filter (λc=>decide (32<=c.length))
 | [],out,_=>by simp
 |t::ts,out,h=>by
  rw[Xm,X6,fE ts _ (YP h),G6,J8];by_cases h1:32<=t.code.length;.rw[Zo (.inr h1),Zo (Z5 h1),Xz];rfl
  .rw[Zj (λe=>e.elim h h1),Zj (by simpa using h1)]
theorem tK(ts:List Nd):(ts.map Nd.code).foldl G6 []=Nx ts:=by
 cases ts with
 |nil=>rfl
 |cons t ts=>rw[Xm,X6,fE ts _ (by simp[G6]),G6,Zo (.inl rfl)];rfl
theorem KI(k:Nat)(p:Da):Nd.no.ways k p=[]:=by cases k<;>rfl
variable{t:Nd}{p:Da}
theorem rB(k:Nat)(h:(t.next p).1=.no)(ht:t≠ .no):t.ways k p=[t]:=by
 have e:t.Bc=[t]:=by unfold Nd.Bc;rw[jy ht];rfl
 cases k with
 |zero=>exact e
 |succ k=>rw[Nd.ways,h,Zo (show Nd.no.rf=true from rfl),e]
theorem KH(k:Nat)(ht:t≠ .no):t.ways (k+1) p=t::(t.next p).1.ways k (p.extract (t.next p).2 p.size):=by
 by_cases h:(t.next p).1=.no;.rw[rB (k+1) h ht,h,KI]
 .rw[Nd.ways,jy h];rfl
theorem MS(h:0<p.size):p.extract 0 1=Kg [(Ke p)[0]!]:=by
 have c:=ta p;have b:=Qk p;refine Mj ?_;rw[Qp];cases e:Ke p with
 |nil=>rw[e]at c;simp at c;omega
 |cons a l=>rw[e]at b;exact(lr (b a (Yj ..))).symm
theorem YB:∀(f n k:Nat) (t:Nd) (l:List Ed) (p:Da) (out:List (List Nat)),n<f->n<=64->n<=k->t.can n->Sd n l->(∀s,s.length=n->t.get s=Am l s)->p.size=n->qd (Ke p)->Hc f l p out=((t.ways k p).map Nd.code).foldl G6 out
 |0,_,_,_,_,_,_,h,_,_,_,_,_,_,_=>by omega
 |f+1,n,k,t,[],p,out,hn,h64,hk,hc,hr,hg,hp,hb=>by rw[yn hc λs hs _=>by rw[hg s hs,Sl];rfl,KI];rfl
 |f+1,n,k,t,x::m,p,out,hn,h64,hk,hc,hr,hg,hp,hb=>by
  have hcode:=(Iz 65 n t (x::m) (by omega) h64 hc (by simp) hr hg).1;have hnb:∀j,qd (Ke (p.extract j p.size)):=λj z hz=>hb z (by rw[Mi]at hz;exact Yu hz);rw[Hc,<-hcode];cases EE hc hr hg with
  |leaf h1 h2 h3=>subst h1;rw[Zo (show([]:List Ed).length=0 from rfl),rB k rfl (by simp)];rfl
  | @ext q ks h1 h2 h3 h4 h5 h6 h7 h8=>
   rw[Zj h3,h4,Zo h1,h5];by_cases hq:K7 q p;.rw[Zo hq,Lx hq];obtain⟨k,rfl⟩:∃j,k=j+1:=⟨k-1,by omega⟩;have hnx:(Nd.ext q (.br ks)).next p=(.br ks,q.size):=Zo hq;rw[KH k (by simp),hnx];exact YB f _ k _ _ _ _ (by omega) (by omega) (by omega) h6 (hr.cut q) h8 (by rw[Cf,hp]) (hnb _)
   .rw[Zj hq,rB k (by rw[show(Nd.ext q (.br ks)).next p=(.no,0)from Zj hq]) (by simp)];rfl
  | @br ks h1 h2 h3 h4 h5=>
   rw[Zj h2,h3,Zj (by omega)];obtain⟨k,rfl⟩:∃j,k=j+1:=⟨k-1,by omega⟩;have hv:(Ke p)[0]! <16:=by
    have b:=ta p;revert b hb;cases Ke p with
    |nil=>intro _ b;simp at b;omega
    |cons a l=>intro hb _;exact hb a (Yj ..)
   obtain⟨h6,h7⟩:=h5 _ hv;rw[KH k (by simp),MS (by omega)];have hcut:=hr.cut (Kg [(Ke p)[0]!]);rw[yr]at h6 h7 hcut;exact YB f _ k _ _ _ _ (by omega) (by omega) (by omega) h6 hcut h7 (by rw[Cf,hp]) (hnb _)
theorem OB{l:List Ed}(hc:t.can 64)(hr:Sd 64 l)(hg:∀s,s.length=64->t.get s=Am l s)(hp:p.size=64)(hb:qd (Ke p)):Hc 65 l p []=t.Qg p:=by rw[YB 65 64 64 t l p [] (by omega) (by omega) (by omega) hc hr hg hp hb,tK];rfl
end
section
theorem nd.up{f:Nat}{x:Ed}(h:nd f x):nd (f+1) x:=⟨Nat.lt_succ_of_lt h.lt,h.le,h.qd,h.val,h.plain⟩
variable{l:List Ed}
theorem uC{p:Da}(h:∀y∈l,nd 65 y)(hp:0<p.size):∀y∈K8 l p,nd 65 y:=λy hy=>(Iv (f:=64) h hp y hy).up
variable{w:Fa}{v:Value}
theorem wO{f:Nat}{C:Nat}(h:Od w C v l)(hl:l.length<=2097152)(h0:0<l.length)(hok:∀y∈l,nd f y):Calls oa 109 #[v] w λe w'=>e=na (Oa (decide ((K5 f l).length<32)))/\Ba w w':=by
 obtain⟨x,m,rfl⟩:∃x m,l=x::m:=by cases l with |nil=>simp at h0|cons x m=>exact⟨x,m,rfl⟩
 have n:=Hq (Qr h (by simp at hl;omega) (λy s=>(hok y s).le) (hok x (Yj ..)).plain);have k:Hid (∀W,Ba w W->Calls oa 110 #[v] W λe w'=>e=na (La (Kg (K5 f (x::m))))/\Ba W w'):=λW r=>Wy f W C v (x::m) (h.below r) hl h0 hok;obtain⟨kn,a⟩:∃kn:Int,((Al x m:Nat):Int)=kn:=⟨_,rfl⟩;have u:(kn==4)=false:=by rw[<-a,Xe];exact SC x m
 rw[a]at n;obtain⟨D,B,z,rfl⟩:=h.shape;generalize K5 f (x::m)=c at k⊢;clear h hl h0 hok a;have i:=me c;have p:decide (((Kg c).size:Int)<32)=decide (c.length<32):=by rw[i];simp;omega
 obtain⟨b,o⟩:=nm (decide (c.length<32));rw[o]at p⊢;clear i o;go_enter func109,ntmps109;go_wp2_with fail
 refine n.mono ?_;rintro e t ⟨rfl,d⟩;have j:=Hq d;clear d;go_wp2_with fail
 refine(k t j.o).mono ?_;rintro e E ⟨rfl,g⟩;have q:=Hq (j.trans (g.mono j.size));clear g;go_wp2;go_ret;exact⟨by first|rfl|rw[p],q.o⟩
theorem RT{wr w1 w2:Fa}{B s:Nat}{n:Nat}{cs:List Value}(hb:Below B w wr)(hB:B<=wr.heap.size)(h1:Ba wr w1)(ho:Db w1 B s v n cs)(hg:w1.grownBy w2 v.ownBlock):Below B w w2:=by have h:=hb.trans (h1.mono hB);refine⟨hg.os.trans h.os,hg.tape.trans h.tape,hg.output.trans h.output,Z2 h.size hg.size,λk a=>(hg.block k (by have :=h1.size;omega) λe=>?_).trans (h.block k a)⟩;have :=(ho.block k e.symm).1;omega
structure zj(w:Fa)(l:List Ed)(out:List (List Nat))(u8 u9:Value)(wr:Fa):Prop where
 below:Ba w wr
 own:Db wr w.heap.size 1 u8 out.length (G9 out)
 jz:∃C,Od wr C u9 l
 apart:∀g,u8.ownBlock=some g->u9.ownBlock≠some g
section
variable{w wr w':Fa}{l:List Ed}{out:List (List Nat)}{u8 u9:Value}
theorem zj.step(h:zj w l out u8 u9 wr)(hb:Ba wr w'):zj w l out u8 u9 w':=by obtain⟨C,a⟩:=h.jz;exact⟨h.below.va hb,h.own.below hb,⟨C,a.below hb⟩,h.apart⟩
theorem zj.cut{p:Da}{v':Value}(h:zj w l out u8 u9 wr)(hb:Ba wr w')(he:Od w' wr.heap.size v' (K8 l p)):zj w (K8 l p) out u8 v' w':=by refine⟨h.below.va hb,h.own.below hb,⟨_,he⟩,λg a b=>?_⟩;have c:=(h.own.block g a).2;have d:=(he.block g b).1;omega
theorem zj.xN{o:Obj}{c:List Nat}{v2:Value}{w4:Fa}(h:zj w l out u8 u9 wr)(hO:Db w4 w.heap.size 1 v2 (out.length+1) (G9 out++[La (Kg c)]))(hg:(wr.alloc o).grownBy w4 u8.ownBlock)(hv:∀k,v2.ownBlock=some k->u8.ownBlock=some k\/(wr.alloc o).heap.size<=k):zj w l (out++[c]) v2 u9 w4:=by
 obtain⟨C,m⟩:=h.jz;have b:Ba wr (wr.alloc o):=(Zb _ _).alloc (Za _) _;have a:=m.below b;refine⟨RT h.below h.below.size b (h.own.below b) hg,?_,⟨C,a.Cb hg.size λk n e=>?_⟩,λg j d=>?_⟩
 .have f:G9 (out++[c])=G9 out++[La (Kg c)]:=by unfold G9;rw[Xk];rfl
  rw[f,Zq];exact hO
 .exact hg.block k n λi=>h.apart k i.symm e
 .rcases hv g j with h8|h8;.exact h.apart g h8 d
  .have :=(a.block g d).2;omega
end
theorem JC{C b:Nat}{K:Array Nat}(h:vd w C b v l)(hl:l.length<=2097152)(hok:∀y∈l,nd 65 y)(hr:Sd 64 l)(hK:K.size=32)(hKb:K3 K){L:List (List Nat)}(hL:Hc 65 l (Kg (Kl K.toList)) []=L):Calls oa 57 #[Qa (some ⟨b,0,none⟩),Sa (K.toList.map Kf).toArray] w λx w'=>∃Qd,x=na (Wa #[Qd,Ia ka 0])/\Ba w w'/\Db w' w.heap.size 1 Qd L.length (G9 L):=by
 obtain⟨i0,hi,fi,fj,fk⟩:=Xl Qv;obtain⟨pk,mk,ck,rfl⟩:=h.row.shape;obtain rfl:=Od.len h.row;obtain⟨p,hp⟩:=nm (Kg (Kl K.toList));have bl:p.size=64:=by rw[<-hp];exact(xo hK hKb).1
 have cu:K.toList.length=32:=by simpa using hK
 have bc:∀x∈K.toList,x<256:=my hKb;have dn:=Mb hK
 have bq:=underlying37;have HP:Hid (∀W,Calls oa 58 #[Sa (K.toList.map Kf).toArray] W λe w'=>e=na (La p)/\Ba W w'):=λW=>by rw[<-hp];exact Lu K.toList cu bc W
 have HM:Hid (∀W,Ba w W->Calls oa 102 #[Qa (some ⟨b,0,none⟩),La p] W λe w'=>e=na (Oa false)/\w'=W):=λW J=>vw (h.below J) hl λx hx=>(hok x hx).plain;rw[hp]at hL;obtain⟨Kc,aj⟩:=nm ((K.toList.map Kf).toArray);obtain⟨W0,bf⟩:=nm (w.alloc (ma Kc 37));have bn:W0.rangeAt w.heap.size 0 (K.toList.map Kf):=by rw[<-bf,<-aj];exact wg w _ _
 have dr:Hid (Ba w W0):=Hq (by rw[<-bf];exact(Zb _ _).alloc (Za _) _);have HT:Hid (vd w C b (Ma pk l.length ck) l/\l.length<=2097152/\(∀y∈l,nd 65 y)/\Sd 64 l/\Hc 65 l p []=L/\p.size=64):=⟨h,hl,hok,hr,hL,bl⟩;rw[aj]at⊢;clear h hl hok hr hK hKb cu bc hL hp bl;go_enter func57,ntmps57;go_upto_region 1 with fail
 clear bf;rw[<-aj];clear aj;go_wp2_with (first| (refine Zr rfl 37 _ rfl w.heap.size 0 rfl (K.toList.map Kf) _ bn bq rfl dn ?_))
 refine(HP W0).mono ?_;rintro x w1 ⟨rfl,dc⟩;have H1:=Hq (dr.va dc);clear dc bn dn bq;go_wp2_with fail
 refine(HM w1 H1.o).mono ?_;rintro x fq ⟨rfl,fg⟩;obtain rfl:=fg.symm;have c0:w1.cell? ⟨b,0,none⟩=some (Ma pk l.length ck):=(HT.1.below H1.o).cell;go_wp2;have dw:Hid (zj w l [] (Ma none 0 0) (Ma pk l.length ck) w1):=⟨H1.o,Db.nil _ _ _,⟨C,(HT.1.below H1.o).row⟩,λg hg=>(by cases hg)⟩;go_loopg [6,8,9] 65 (λgh u6 u8 u9 wr=>∃m q a,q.size<gh/\gh<=65/\a.length+gh<=65/\u6=La q/\zj w m a u8 u9 wr/\m.length<=2097152/\(∀y∈m,nd 65 y)/\Sd q.size m/\Hc gh m q a=L)
 case atStart=>exact⟨l,p,[],by have :=HT.o;omega,by omega,by simp,rfl,dw.o,HT.2.1,HT.2.2.1,by rw[HT.2.2.2.2.2];exact HT.2.2.2.1,HT.2.2.2.2.1⟩
 case round=>
  obtain⟨m,q,a,Q,bi,O,rfl,hS,D,s,d,c⟩:=hrel;obtain⟨C9,U⟩:=hS.jz;obtain⟨p8,m8,k8,rfl⟩:=hS.own.shape;obtain⟨Z,m9,S,rfl⟩:=U.shape;obtain rfl:=Od.len U;have eu:m8=a.length:=by
   rcases hS.own.2 with⟨e1,e2⟩|⟨g,eh,e1,_⟩;.simp only[Z3]at e1;omega
   .simp only[Z3]at e1;exact e1.2.1
  subst eu;cases m with
  |nil=>
   have HE:Hid (a=L/\zj w [] a (Ma p8 a.length k8) (Ma Z 0 S) wr):=by
    refine⟨?_,hS⟩;rw[<-c];cases gk with
    |zero=>rfl
    |succ f=>rfl
   clear hS U D s d c Q bi O;simp only[Yq];go_wp2;go_ret2;exact⟨_,rfl,HE.2.below,by rw[<-HE.1];exact HE.2.own⟩
  |cons x m=>
   obtain⟨f,rfl⟩:∃f,gk=f+1:=⟨gk-1,by omega⟩;have i1:(0:Int)<((x::m).length:Int):=by simp
   obtain⟨cd,B⟩:=nm (K5 65 (x::m));obtain⟨sb,am⟩:=nm (decide (cd.length<32));obtain⟨mr,ak⟩:=nm a.length;have ai:=Hq (wO U D (by simp) s);have aw:Hid (∀W,Ba wr W->Calls oa 110 #[Ma Z (x::m).length S] W λe w'=>e=na (La (Kg cd))/\Ba W w'):=λW J=>by rw[<-B];exact Wy 65 W C9 _ (x::m) (U.below J) D (by simp) s
   have HQ:Hid (zj w (x::m) a (Ma p8 a.length k8) (Ma Z (x::m).length S) wr/\(x::m).length<=2097152/\(∀y∈x::m,nd 65 y)/\Sd q.size (x::m)/\Hc (f+1) (x::m) q a=L/\K5 65 (x::m)=cd/\q.size<f+1/\a.length+(f+1)<=65):=⟨hS,D,s,d,c,B,Q,O⟩;have cf:Hid (a.length=mr/\decide (cd.length<32)=sb):=⟨ak,am⟩;obtain⟨pb,al⟩:=nm (decide (a=[]\/32<=cd.length));have ch:Hid (G6 a cd=if pb=true then a++[cd]else a):=by show G6 a cd=_;rw[<-al,G6];by_cases h:a=[]\/32<=cd.length<;>simp[h]
   have dt:Hid ((((mr:Int)==0)=true/\pb=true)\/(((mr:Int)==0)=false/\pb= !sb)):=by
    have h:(((mr:Int)==0)=true/\pb=true)\/(((mr:Int)==0)=false/\pb= !sb):=by
     by_cases e:a=[];.left;rw[<-ak,<-al,e];simp
     .right;have :a.length≠0:=λh=>e (Ye h);refine⟨by simp;omega,?_⟩;rw[<-al,<-am];by_cases h:cd.length<32
      .have E:¬32<=cd.length:=by omega
       simp[e,h,E]
      .have E:32<=cd.length:=by omega
       simp[h,E]
    exact h
   rw[B,am]at ai;rw[ak]at HQ⊢;clear hS U D s d c Q bi O B am ak al;generalize (x::m).length=mm at i1 ai aw HQ⊢;go_wp2_with fail
   refine ai.mono ?_;rintro e w3 ⟨rfl,de⟩;have H3:=Hq de;clear de ai;go_upto_region 9 with fail
   go_cut [35] (λu wd=>u=Oa pb/\wd=w3)
   case first=>rcases dt.o with⟨hm1,rfl⟩|⟨hm1,rfl⟩;all_goals go_wp2;go_meet;exact⟨rfl,rfl⟩
   case rest=>
    obtain⟨rfl,fh⟩:=hcut;obtain rfl:=fh.symm;apply_assumption;go_cut [8] (λu8 wd=>zj w (x::m) (G6 a cd) u8 (Ma Z mm S) wd)
    case first=>
     cases pb with
     |true=>
      have au:Hid (∀j o v2 T,zj w (x::m) a (Ma p8 mr k8) (Ma Z mm S) j->Db T w.heap.size 1 v2 (a.length+1) (G9 a++[La (Kg cd)])->(j.alloc o).grownBy T (Value.ownBlock (Ma p8 mr k8))->(∀k,v2.ownBlock=some k->Value.ownBlock (Ma p8 mr k8)=some k\/(j.alloc o).heap.size<=k)->zj w (x::m) (G6 a cd) v2 (Ma Z mm S) T):=λj o v2 T h4 H E h3=>by rw[ch.o];exact h4.xN H E h3
      generalize Kg cd=sc at aw au;go_wp2_with fail
      refine(aw w3 H3.o).mono ?_;rintro e j ⟨rfl,df⟩;have az:=Hq ((HQ.1.step H3.o).step df);have HO:Hid (∀o,Db (j.alloc o) w.heap.size 1 (Ma p8 mr k8) a.length (G9 a)):=λo=>az.own.alloc o;have dv:Hid (∀t,(j.alloc (ma #[La sc] t)).rangeAt j.heap.size 0 [La sc]):=λt=>wg j [La sc] t;have HL:Hid (w.heap.size<=j.heap.size/\a.length<=65):=⟨az.below.size,by have :=HQ.o;have :=cf.o;omega⟩;clear df;go_wp2_with (at_builtin;refine ll _ rfl _ _ 40 rfl 9 i0 (La ⟨#[]⟩) 1 16 underlying40 hi fi fj fk rfl (by decide) w.heap.size (Ma p8 mr k8) _ _ rfl (HO _) j.heap.size 0 1 1 [La sc] rfl rfl (dv _) (by simp[Value.oneCell']) (by have :=HL.o;unfold maxLen;omega) (by have :=HL.o;omega) (by have :=HL.o;simp;omega) ?_;intro v2 T cw di dh ew;have dz:=Hq (au _ _ _ _ az cw di dh);clear cw di dh ew)
      go_meet;exact dz.o
     |false=>go_wp2;go_meet;rw[ch.o];exact HQ.1.step H3.o
    case rest=>
     obtain⟨j,rfl⟩:∃x,x=wc:=⟨_,rfl⟩;have V:=hcut;obtain⟨C4,r⟩:=V.jz;obtain⟨-,D,s,d,c,B,Q,O⟩:=HQ.o;obtain⟨pu,mu,ku,rfl⟩:=V.own.shape;have N:∀y∈x::m,y.path.size<=64:=λy hy=>(s y hy).le;have ao:x.path.size=q.size:=d.size x (Yj ..);have ag:m.length<=2097152:=by have :=Od.len r;simp at this;omega
     have HK:Hid (Calls oa 111 #[Ma Z mm S] j λe w'=>e=na (Ia ka ((Al x m:Nat):Int))/\Ba j w'):=Qr r ag N (s x (Yj ..)).plain;have P:(G6 a cd).length+f<=65:=by
      have :=cf.1;unfold G6;split;.rw[Zq];simp;omega
      .omega
     have HS:=Hq V;rw[Hc,B]at c;by_cases H:m.length=0
     .have HE:Hid (G6 a cd=L):=by rw[Zo H]at c;exact c
      rw[show((Al x m:Nat):Int)=1 by unfold Al;rw[Zo H];rfl]at HK;clear V r D s d c B Q O N ao ag hcut H P;go_wp2_with fail
      refine HK.mono ?_;rintro e T ⟨rfl,F⟩;have ci:=Hq (HS.step F);clear F;go_wp2;go_ret2;exact⟨_,rfl,ci.below,by rw[<-HE.o];exact ci.own⟩
     rw[Zj H]at c;by_cases E:0<Gl x m
     .rw[Zo E]at c;rw[show((Al x m:Nat):Int)=2 by unfold Al;rw[Zj H,Zo E];rfl]at HK;have bj:=tr x m;have cq:Hid (∀W,Ba j W->Calls oa 112 #[Ma Z mm S] W λe w'=>e=na (Ia ka ((Gl x m:Nat):Int))/\Ba W w'):=λW J=>nA (r.below J) ag N;obtain⟨n,hn⟩:=nm (Gl x m);rw[hn]at cq bj E c;obtain⟨g,eh,dm,ei,dj,bm⟩:=Od.row r (i:=0) (by simp);rw[Jr,Vl]at bm;have c0:j.cell? ⟨g,0,none⟩=some (La x.path):=bm 0 _ rfl;simp only[Z3]at dm;obtain⟨rfl,dq,rfl⟩:=dm;obtain⟨px,dk⟩:=nm x.path;rw[dk]at c0 bj ao c;obtain⟨hd,ej⟩:=nm (px.extract 0 n);have ah:=Hq (λW=>Cx q hd W);have fo:(n:Int)<=(px.size:Int):=by omega
      have eo:(n:Int)<=(q.size:Int):=by omega
      have fp:(0:Int)<(mm:Int):=i1;obtain⟨hq,ae⟩:=nm (q.extract 0 n);obtain⟨tq,R⟩:=nm (q.extract n q.size);have M:hq.size=n:=by rw[<-ae];exact uo _ _ (by omega)
      rw[ej,ae,R]at c;have ar:Hid (∀W,Ba j W->Calls oa 106 #[Ma (some ⟨g,0,none⟩) mm S,La hq] W λe w'=>Ba W w'/\∃v',e=na v'/\Od w' W.heap.size v' (K8 (x::m) hq)):=λW J=>Fv (r.below J) (by have :=Od.len r;omega) N;have G:Hid (tq.size<f/\(∀y∈K8 (x::m) hq,nd 65 y)/\Sd tq.size (K8 (x::m) hq)/\(K8 (x::m) hq).length<=2097152):=⟨by rw[<-R,Cf];omega,uC s (by omega),by rw[<-R,Cf,<-M];exact d.cut hq,by have :=nu (x::m) hq;have :=Od.len r;omega⟩;have HF:Hid ((G6 a cd).length+f<=65/\f<=65):=⟨P,by omega⟩;have du:Hid (∀W,Ba j W->W.cell? ⟨g,0,none⟩=some (La px)):=λW J=>(Zc (J.block g dj)).trans c0;have Y:=c;clear V r D s d B Q O N ao ag hcut H E bj hn ei dj bm c0 dq dk M P c;go_wp2_with fail
      refine HK.mono ?_;rintro e T ⟨rfl,F⟩;have H5:=Hq F;clear F;go_wp2_with fail
      refine(cq T H5.o).mono ?_;rintro e w6 ⟨rfl,dg⟩;have H6:=Hq (H5.va dg);clear dg;have c6:=du w6 H6.o;by_cases X:K7 hd q
      .have aq:Hid (∀W,Calls oa 113 #[La q,La hd] W λe w'=>e=na (Oa true)/\w'=W):=λW=>by have :=ah W;rwa [Z5 X]at this
       have ay:Hid (Hc f (K8 (x::m) hq) tq (G6 a cd)=L):=by rw[Zo X]at Y;exact Y
       clear Y X ah;go_wp2_with fail
       refine(aq w6).mono ?_;rintro e w7 ⟨rfl,bv⟩;obtain rfl:=bv.symm;go_wp2_with fail
       refine(ar w6 H6.o).mono ?_;rintro e w8 ⟨ac,v8,rfl,I⟩;have ba:=Hq ((HS.step H6.o).cut ac I);obtain⟨q8,n8,fm,rfl⟩:=I.shape;clear ac I c6;go_wp2;go_roundg f
       case measure=>omega
       case rel=>exact⟨K8 (x::m) hq,tq,G6 a cd,G.1,HF.2,HF.1,rfl,ba.o,G.2.2.2,G.2.1,G.2.2.1,ay.o⟩
      .have aq:Hid (∀W,Calls oa 113 #[La q,La hd] W λe w'=>e=na (Oa false)/\w'=W):=λW=>by have :=ah W;rwa [Zt X]at this
       have ay:Hid (G6 a cd=L):=by rw[Zj X]at Y;exact Y
       have cj:=Hq (HS.step H6.o);clear Y X ah;go_wp2_with fail
       refine(aq w6).mono ?_;rintro e w7 ⟨rfl,bv⟩;obtain rfl:=bv.symm;go_wp2;go_ret2;exact⟨_,rfl,cj.below,by rw[<-ay.o];exact cj.own⟩
     .rw[Zj E]at c;rw[show((Al x m:Nat):Int)=3 by unfold Al;rw[Zj H,Zj E];rfl]at HK;have f9:0<q.size:=by
       refine Nat.pos_of_ne_zero λe=>?_;obtain⟨y,m',rfl⟩:∃y m',m=y::m':=by cases m with |nil=>simp at H|cons y m'=>exact⟨y,m',rfl⟩
       have hd:=d.dup;have e1:∀z∈x::y::m',pE z=[]:=λz hz=>rA (by rw[d.size z hz,e]);rw[Xm,Xm,e1 x (by simp),e1 y (by simp)]at hd;simp at hd
      have eo:(1:Int)<=(q.size:Int):=by omega
      obtain⟨hq,ae⟩:=nm (q.extract 0 1);obtain⟨tq,R⟩:=nm (q.extract 1 q.size);have M:hq.size=1:=by rw[<-ae];exact uo _ _ (by omega)
      rw[ae,R]at c;have ar:Hid (∀W,Ba j W->Calls oa 106 #[Ma Z mm S,La hq] W λe w'=>Ba W w'/\∃v',e=na v'/\Od w' W.heap.size v' (K8 (x::m) hq)):=λW J=>Fv (r.below J) (by have :=Od.len r;omega) N;have G:Hid (tq.size<f/\(∀y∈K8 (x::m) hq,nd 65 y)/\Sd tq.size (K8 (x::m) hq)/\(K8 (x::m) hq).length<=2097152/\Hc f (K8 (x::m) hq) tq (G6 a cd)=L/\(G6 a cd).length+f<=65/\f<=65):=⟨by rw[<-R,Cf];omega,uC s (by omega),by rw[<-R,Cf,<-M];exact d.cut hq,by have :=nu (x::m) hq;have :=Od.len r;omega,c,P,by omega⟩;clear V r D s d B Q O N ao ag hcut H E M P c f9;go_wp2_with fail
      refine HK.mono ?_;rintro e T ⟨rfl,F⟩;have H5:=Hq F;clear F;go_wp2_with fail
      refine(ar T H5.o).mono ?_;rintro e w8 ⟨ac,v8,rfl,I⟩;have ba:=Hq ((HS.step H5.o).cut ac I);obtain⟨q8,n8,fm,rfl⟩:=I.shape;clear ac I;go_wp2;go_roundg f
      case measure=>omega
      case rel=>exact⟨K8 (x::m) hq,tq,G6 a cd,G.1,G.2.2.2.2.2.2,G.2.2.2.2.2.1,rfl,ba.o,G.2.2.2.1,G.2.1,G.2.2.1,G.2.2.2.2.1⟩
end
section
def Uf(ts:List Nd):List (List Nat):=(ts.map Nd.code).filter (λc=>decide (32<=c.length))
theorem LS(t:Nd)(ts:List Nd):Nx (t::ts)=t.code::Uf ts:=rfl
end
section
def Ey:List (List Nat)->List (List Nat)->Option (List Nat×List Nat)
 |x::xs,y::ys=>if x=y then Ey xs ys else some (x,y)
 |_,_=>none
def Pz(L:List (List Nat)):List (List Nat):=if L=[]then[Kh []]else L
end
section

end
end Go.Proofs.YtpfbdlnibdfcoaaGreatDoor
