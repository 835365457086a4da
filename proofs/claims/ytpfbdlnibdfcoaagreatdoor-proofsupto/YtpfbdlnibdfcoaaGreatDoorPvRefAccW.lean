import Derived.Test.YtpfbdlnibdfcoaaGreatDoorPvStA
namespace Go.Proofs.YtpfbdlnibdfcoaaGreatDoor
open Go.RowKit Tryz
open Value renaming int->Ia,string->La,slice->Ma,bool->Oa,pointer->Qa,agg->Sa,tuple->Wa,iface->ca,nilIface->da
open IntKind renaming i64->ka
open Obj renaming cells->ma
open Ending renaming returned->na
open Tryz renaming prog->oa
set_option maxRecDepth 100000
set_option maxHeartbeats 0
section
def Te:Except Er (Option Da)->Except Er (Option Da)
 | .error e=>.error (.inProof 2 e)
 | .ok o=>.ok o
def Ae(root ad sl:List Nat)(L1 L2:List (List Nat)):Except Er (Option Da):=match Ao root (Kg (Kl (Ky ad))) L1 with
 | .error e=>.error (.inProof 1 e)
 | .ok none=>if L2=[]then .ok none else .error (.inProof 2 (.inNode 0 (.base 4)))
 | .ok (some c)=>
  match G0 (Ke c)with
  | .error e=>.error (.inProof 1 (.inNode L1.length e))
  | .ok a=>
   Te (Ao a.root (Kg (Kl (Ky sl))) L2)
def Hu(sent:Nat->Addr):Except Er (Option Da)->Value
 | .error er=>er.val sent
 | .ok _=>da
variable{q:Except Er (Option Da)}
theorem vi.eq{sent:Nat->Addr}{e:Ending}(h:vi sent q e):e=na (Wa #[La (Ng q),Oa (Nh q),Hu sent q]):=by rcases h with⟨er,rfl,rfl⟩|⟨o,rfl,rfl⟩<;>rfl
theorem EU{root ad sl:List Nat}{L1 L2:List (List Nat)}(h1:∀c∈L1,∀y∈c,y<256)(h2:∀c∈L2,∀y∈c,y<256){er:Er}(h:Ae root ad sl L1 L2=.error er):er.Wb:=by
 unfold Ae at h;cases hv:Ao root (Kg (Kl (Ky ad))) L1 with
 |error e=>rw[hv]at h;cases h;show e.Wb;exact zu h1 hv
 |ok o=>
  rw[hv]at h;cases o with
  |none=>
   simp only at h;split at h;.cases h
   .cases h;show(4:Nat)∈Gq;decide
  |some c=>
   simp only at h;cases ha:G0 (Ke c)with
   |error e=>rw[ha]at h;cases h;show e.Wb;exact(WB (sh c) ha).1
   |ok a=>
    rw[ha]at h;simp only at h;cases hw:Ao a.root (Kg (Kl (Ky sl))) L2 with
    |error e=>rw[hw]at h;cases h;show e.Wb;exact zu h2 hw
    |ok o=>rw[hw]at h;cases h
theorem sN{w:Fa}(sent:Nat->Addr)(hF:Qb w sent)(p:Option Addr)(m c:Nat):Calls oa 150 #[Ma p m c] w λe w'=>e=na (if m=0 then da else(Er.inProof 2 (.inNode 0 (.base 4))).val sent)/\Ba w w':=by
 have b:w.cell? ⟨3,0,none⟩=some (ca 395 (Qa (some (sent 4)))):=hF.var 4 (by decide);clear hF;by_cases a:m=0;.subst a;go_enter func150,ntmps150;go_wp2;go_ret;exact⟨rfl,Zb _ _⟩
 .rw[Zj a];have d:(0:Int)<(m:Int):=by omega
  clear a;go_enter func150,ntmps150;go_wp2;go_ret;exact⟨rfl,Zb _ _⟩
theorem ux(l:List Nat):(Ky l).toArray.size=32/\K3 (Ky l).toArray:=by
 refine⟨by simp[Bh],λj=>?_⟩;by_cases h:j<(Ky l).length;.rw[Z9 _ _ (by simpa using h)];exact Lk l _ (by simp)
 .rw[getElem!_neg _ _ (by simpa using h)];decide
theorem oH:(oa.info? 48).map (·.size)=some 20:=by kernel_rfl
theorem rR{w:Fa}(sent:Nat->Addr)(h ad sl:List Nat)(l1 l2:List Da)(p1 p2:Option Addr)(c1 c2:Nat)(hE:Env w.heap.size sent w)(hh:h.length=32)(hhb:∀x∈h,x<256)(had:ad.length=20)(hsl:sl.length=32)(hr1:Ic w p1 l1 c1)(hr2:Ic w p2 l2 c2)(hl1:l1.length<=9223372036854775807)(hl2:l2.length<=9223372036854775807)(hq:Ae h ad sl (l1.map Ke) (l2.map Ke)=q):Calls oa 97 #[Sa (h.map Kf).toArray,Sa (ad.map Kf).toArray,Sa (sl.map Kf).toArray,Ma p1 l1.length c1,Ma p2 l2.length c2] w λe w'=>e=na (Wa #[La (Ng q),Oa (Nh q),Hu sent q])/\Ba w w':=by
 obtain⟨A,hA⟩:=nm ((h.map Kf).toArray);obtain⟨Ac,ay⟩:=nm ((ad.map Kf).toArray);obtain⟨Sc,az⟩:=nm ((sl.map Kf).toArray);obtain⟨W0,M⟩:=nm (((w.alloc (ma A 39)).alloc (ma Ac 48)).alloc (ma Sc 37));have ag:W0.rangeAt w.heap.size 0 (h.map Kf):=λj u Z=>by rw[<-M,Z8 _ _ _ (by simp;omega),Z8 _ _ _ (by simp),Zf,Ze,<-hA];simpa using Z
 have ar:W0.rangeAt (w.heap.size+1) 0 (ad.map Kf):=λj u Z=>by rw[<-M,Z8 _ _ _ (by simp),show w.heap.size+1=(w.alloc (ma A 39)).heap.size by simp,Zf,Ze,<-ay];simpa using Z
 have au:W0.rangeAt (w.heap.size+1+1) 0 (sl.map Kf):=λj u Z=>by rw[<-M,show w.heap.size+1+1=((w.alloc (ma A 39)).alloc (ma Ac 48)).heap.size by simp,Zf,Ze,<-az];simpa using Z
 have V:Ba w W0:=by rw[<-M];exact(((Zb _ _).alloc (Za _) _).alloc (by simp) _).alloc (by simp;omega) _
 have cf:W0.heap.size=w.heap.size+3:=by rw[<-M];simp
 obtain⟨q1,k⟩:=nm (Ao h (Kg (Kl (Ky ad))) (l1.map Ke));have U:=(hE.below V).raise V.size;have HK:Hid (∀W,Ba W0 W->Calls oa 149 #[Ma (some ⟨w.heap.size+1,0,none⟩) 20 20] W λe w'=>e=na (Sa ((Ky ad).map Kf).toArray)/\Ba W w'):=λW r=>gE ad (w.heap.size+1) 0 20 20 had.symm (λ_=>by have :=r.size;omega) (zc ar (r.block _ (by omega))) (U.below r).Fg (Z2 (U.below r).low r.size);have P:∀{W:Fa} {p:Option Addr} {l:List Da} {c:Nat},Ic w p l c->Ba w W->Ic W p l c:=λ{W p l c} hr r=>by
  rcases hr with h|⟨g,o,e1,e2,e3,e4⟩;.exact .inl h
  .exact .inr ⟨g,o,e1,e2,λh=>Zm (e3 h) r.size,λj u Z=>by
    have hj:0<l.length:=by have :=(Zw.1 Z).1;simp at this;omega
    exact(r.cell (p:=⟨g,o+j,none⟩) (e3 hj)).trans (e4 j u Z)⟩
 have K:Hid (∀W,Ba W0 W->Calls oa 94 #[Sa (h.map Kf).toArray,Sa ((Ky ad).map Kf).toArray,Ma p1 l1.length c1] W λe w'=>e=na (Wa #[La (Ng q1),Oa (Nh q1),Hu sent q1])/\Ba W w'):=λW r=>by have :=DB sent h (Ky ad).toArray l1 p1 c1 ((U.below r).raise r.size) hh hhb (ux ad).1 (ux ad).2 (P hr1 (V.va r)) hl1;dsimp only at this;refine this.mono λe w' d=>⟨?_,d.1⟩;have :=d.2.eq;rw[k]at this;exact this
 have F:Hid (Ba w W0/\W0.heap.size=w.heap.size+3/\Env W0.heap.size sent W0/\W0.rangeAt (w.heap.size+1+1) 0 (sl.map Kf)):=⟨V,cf,U,au⟩;have HX:Hid (Ic w p2 l2 c2/\l2.length<=9223372036854775807/\sl.length=32/\(∀{W:Fa} {p:Option Addr} {l:List Da} {c:Nat},Ic w p l c->Ba w W->Ic W p l c)):=⟨hr2,hl2,hsl,P⟩;have S:Hid (Ae h ad sl (l1.map Ke) (l2.map Ke)=q/\Ao h (Kg (Kl (Ky ad))) (l1.map Ke)=q1):=⟨hq,k⟩;have hz:=oo hh;have ch:w.heap.size<W0.heap.size:=by omega
 have dc:=underlying39;have f:Ba W0 W0.drew:=(Zb _ _).drew;have bl:=Hq (HK _ f);have G:=Hq f;clear hE hh hhb had hsl hr1 hr2 hl1 hl2 hq k V cf U P ar au HK f;rw[hA,ay,az];clear hA ay az;obtain⟨s1,ah⟩:=nm (Ng q1);obtain⟨b1,ac⟩:=nm (Nh q1);obtain⟨v1,aj⟩:=nm (Hu sent q1);rw[ah,ac,aj]at K;have bn:Hid (Ng q1=s1/\Nh q1=b1/\Hu sent q1=v1):=⟨ah,ac,aj⟩;clear ah ac aj;obtain⟨m1,bi⟩:=nm l1.length;rw[bi]at K⊢;have cu:=Hq bi;clear bi;go_enter func97,ntmps97;go_upto_region 1 with fail
 clear M;go_region_held3 (λw'=>w'.rangeAt w.heap.size 0 (h.map Kf)) (first|exact ag|exact h1|exact h2) (first| (go_at_call 149;refine bl.mono ?_;rintro x w1 ⟨rfl,ao⟩;have h1:w1.rangeAt w.heap.size 0 (h.map Kf):=zc ag (ao.block _ ch);have H1:Hid (Ba W0 w1):=G.trans (ao.mono G.size);have ci:w.heap.size<w1.heap.size:=Zm ch ao.size;clear ao)| (go_at_call 94;refine(K w1 H1.o).mono ?_;rintro x Q ⟨rfl,ba⟩;have h2:Q.rangeAt w.heap.size 0 (h.map Kf):=zc h1 (ba.block _ ci);have H2:Hid (Ba W0 Q):=H1.trans (ba.mono H1.size);clear ba))
 all_goals clear h1 h2 ag ci K bl G
 cases k:q1 with
 |error er=>obtain⟨T,ev,i⟩:=er.shape sent;have H:=bn.o;rw[k]at H;obtain⟨rfl,rfl,y⟩:=H;have bj:v1=ca T ev:=y.symm.trans i;subst bj;have n:Hid (q=.error (.inProof 1 er)/\Er.val sent (.inProof 1 er)=ca 222 (Sa #[Ia ka 1,ca T ev])):=⟨by rw[<-S.1,Ae,S.2,k],by rw[Er.val,i];rfl⟩;clear y i;go_wp2;go_ret3;rw[n.1];exact⟨by show _=Ending.returned (Wa #[La ⟨#[]⟩,Oa false,Er.val sent (.inProof 1 er)]);rw[n.2];rfl,F.1.va H2.o⟩
 |ok o=>
  have H:=bn.o;rw[k]at H;obtain⟨d,hb,y⟩:=H;obtain rfl:v1=da:=y.symm;cases o with
  |none=>
   obtain rfl:s1=⟨#[]⟩:=d.symm;obtain rfl:b1=false:=hb.symm;have HN:=Hq (sN sent (F.2.2.1.below H2.o).Wf p2 l2.length c2);obtain⟨nv,N⟩:=nm ((if l2.length=0 then da else(Er.inProof 2 (.inNode 0 (.base 4))).val sent));rw[N]at HN;have n:Hid (Ng q=⟨#[]⟩/\Nh q=false/\Hu sent q=nv):=by
    have O:=S.1;rw[Ae,S.2,k]at O;simp only at O;by_cases hl:l2=[];.rw[Zo (by rw[hl];rfl)]at O;rw[Zo (by rw[hl];rfl)]at N;rw[<-O,<-N];exact⟨rfl,rfl,rfl⟩
    .rw[Zj (by simpa using hl)]at O;rw[Zj (by simpa using hl)]at N;rw[<-O,<-N];exact⟨rfl,rfl,rfl⟩
   obtain⟨m2,X⟩:=nm l2.length;rw[X]at HN⊢;clear d hb y N X;go_wp2_with fail
   refine HN.mono ?_;rintro e b ⟨rfl,z⟩;have H3:Hid (Ba w b):=Below.behind (F.1.va H2.o) z;clear z;go_wp2;go_ret3;rw[n.1,n.2.1,n.2.2];exact⟨rfl,H3.o⟩
  |some c=>
   obtain rfl:s1=c:=d.symm;obtain rfl:b1=true:=hb.symm;have HA:=Hq (PN s1 sent Q (F.2.2.1.below H2.o).Wf);clear d hb y;cases hac:G0 (Ke s1)with
   |error er=>
    obtain⟨T,ev,i⟩:=er.shape sent;have L:Hid (Calls oa 91 #[La s1] Q λe w'=>Ba Q w'/\e=na (Wa #[Sa (Ku Kk).toArray,ca T ev])):=HA.mono λe w' d=>⟨d.1,by obtain⟨t,v,y,he⟩:=d.2.1 er hac;rw[i]at y;cases y;exact he⟩;have n:Hid (q=.error (.inProof 1 (.inNode l1.length er))/\Er.val sent (.inProof 1 (.inNode l1.length er))=ca 222 (Sa #[Ia ka 1,ca 219 (Sa #[Ia ka (m1:Int),ca T ev])])):=⟨by rw[<-S.1,Ae,S.2,k];simp only;rw[hac];simp only;rw[Zl],by rw[Er.val,Er.val,i,cu.o];rfl⟩;obtain⟨AA,s⟩:=nm ((Ku Kk).toArray);have B:AA.size=66:=by rw[<-s,Ym];rfl
    have al:AA.all (·.oneCell')=true:=by rw[<-s];exact qk _
    rw[s]at L;have aw:(oa.info? 46).map (·.size)=some AA.size:=by rw[qh,B]
    clear HA i s;go_wp2_with fail
    refine L.mono ?_;rintro e b ⟨z,rfl⟩;have H3:Hid (Ba w b):=Below.behind (F.1.va H2.o) z;have I:∀C:Array Value,66=C.size->(b.alloc (ma C 46)).there b.heap.size 0 AA.size:=λC hC=>Le _ _ _ _ (by rw[B];exact hC);clear z;go_wp2_with (refine Zs rfl 46 _ _ rfl b.heap.size 0 AA rfl rfl (I _ rfl) aw al ?_;generalize hX:World.setCells _ b.heap.size 0 _=w4;have J:Hid (Ba w w4):=Below.behind H3 (ug hX);clear hX I)
    go_ret3;rw[n.1];exact⟨by show _=Ending.returned (Wa #[La ⟨#[]⟩,Oa false,Er.val sent (.inProof 1 (.inNode l1.length er))]);rw[n.2];rfl,J.o⟩
   |ok a=>
    have Y:=(DH (sh s1) hac).1;have L:Hid (Calls oa 91 #[La s1] Q λe w'=>Ba Q w'/\e=na (Wa #[Sa (Ku a).toArray,da])):=HA.mono λe w' d=>⟨d.1,d.2.2 a hac⟩;obtain⟨q2,D⟩:=nm (Ao a.root (Kg (Kl (Ky sl))) (l2.map Ke));have bm:Hid (q=Te q2):=by show q=Te q2;rw[<-S.1,Ae,S.2,k];simp only;rw[hac];simp only;rw[D]
    obtain⟨AA,s⟩:=nm ((Ku a).toArray);have B:AA.size=66:=by rw[<-s,Ym];exact Lo Y.2.2.1 Y.2.2.2.1
    have al:AA.all (·.oneCell')=true:=by rw[<-s];exact qk _
    rw[s]at L;have aw:(oa.info? 46).map (·.size)=some AA.size:=by rw[qh,B]
    have R:Hid (AA.toList=[Km a.rj,Km a.rv]++a.root.map Kf++a.code.map Kf/\a.root.length=32/\(∀x∈a.root,x<256)/\AA.size=66):=⟨by rw[<-s];simp[Ku],Y.2.2.1,Y.2.2.2.2.1,B⟩;clear HA s Y;go_wp2_with fail
    refine L.mono ?_;rintro e b ⟨z,rfl⟩;have H3:Hid (Ba w b/\Ba W0 b):=⟨Below.behind (F.1.va H2.o) z,Below.behind H2 z⟩;have I:∀C:Array Value,66=C.size->(b.alloc (ma C 46)).there b.heap.size 0 AA.size:=λC hC=>Le _ _ _ _ (by rw[B];exact hC);have hL:∀C:Array Value,66=C.size->AA.toList.length=C.size:=λC hC=>by rw[Yh,B];exact hC
    clear z B;go_wp2_with (refine Zs rfl 46 _ _ rfl b.heap.size 0 AA rfl rfl (I _ rfl) aw al ?_;generalize hX:World.setCells _ b.heap.size 0 _=w4;have J:Hid (Ba w w4/\Ba W0 w4):=⟨Below.behind H3.1 (ug hX),Below.behind H3.2 (ug hX)⟩;have r4:=(Lt hX (hL _ rfl)).1;have bf:=(Lt hX (hL _ rfl)).2;clear hX I hL)
    have E:w4.rangeAt b.heap.size 2 (a.root.map Kf):=by have :=r4;rw[R.1]at this;exact xr this
    have cj:b.heap.size<w4.heap.size:=bf;have cw:(oa.info? 39).map (·.size)=some (a.root.map Kf).length:=oo R.2.1;have f:Ba w4 w4.drew:=(Zb _ _).drew;have am:=(F.2.2.1.below J.2).raise J.2.size;have HK:Hid (Calls oa 149 #[Ma (some ⟨w.heap.size+1+1,0,none⟩) 32 32] w4.drew λe w'=>e=na (Sa ((Ky sl).map Kf).toArray)/\Below w4.drew.heap.size w4.drew w'):=gE sl (w.heap.size+1+1) 0 32 32 HX.2.2.1.symm (λ_=>by have :=J.2.size;have :=F.2.1;have :=f.size;omega) (zc (zc F.2.2.2 (J.2.block _ (by have :=F.2.1;omega))) (f.block _ (by have :=J.2.size;have :=F.2.1;omega))) (am.below f).Fg (Z2 (am.below f).low f.size);have K:Hid (∀W,Ba w4 W->Calls oa 94 #[Sa (a.root.map Kf).toArray,Sa ((Ky sl).map Kf).toArray,Ma p2 l2.length c2] W λe w'=>e=na (Wa #[La (Ng q2),Oa (Nh q2),Hu sent q2])/\Ba W w'):=λW r=>by have :=DB sent a.root (Ky sl).toArray l2 p2 c2 ((am.below r).raise r.size) R.2.1 R.2.2.1 (ux sl).1 (ux sl).2 (HX.2.2.2 HX.1 (Below.behind J.1 r)) HX.2.1;dsimp only at this;refine this.mono λe w' d=>⟨?_,d.1⟩;have :=d.2.eq;rw[D]at this;exact this
    have G:=Hq f;clear f am r4 bf D;obtain⟨s2,ai⟩:=nm (Ng q2);obtain⟨b2,ae⟩:=nm (Nh q2);obtain⟨v2,ak⟩:=nm (Hu sent q2);rw[ai,ae,ak]at K;have bq:Hid (Ng q2=s2/\Nh q2=b2/\Hu sent q2=v2):=⟨ai,ae,ak⟩;clear ai ae ak;obtain⟨m2,X⟩:=nm l2.length;rw[X]at K⊢;clear X L R aw al hac k;obtain⟨Rt,bv⟩:=nm (a.root.map Kf);rw[bv]at E cw K;clear bv;go_region_held3 (λw'=>w'.rangeAt b.heap.size 2 Rt) (first|exact E|exact h5|exact h6) (first| (go_at_call 149;refine HK.mono ?_;rintro x w5 ⟨rfl,aq⟩;have h5:w5.rangeAt b.heap.size 2 Rt:=zc E (aq.block _ cj);have H5:Hid (Ba w4 w5):=G.trans (aq.mono G.size);have cq:b.heap.size<w5.heap.size:=Zm cj aq.size;clear aq)| (go_at_call 94;refine(K w5 H5.o).mono ?_;rintro x w6 ⟨rfl,bc⟩;have h6:w6.rangeAt b.heap.size 2 Rt:=zc h5 (bc.block _ cq);have H6:Hid (Ba w4 w6):=H5.trans (bc.mono H5.size);clear bc))
    all_goals clear h5 h6 E cq K HK G
    cases D:q2 with
    |error er=>obtain⟨T,ev,i⟩:=er.shape sent;have H:=bq.o;rw[D]at H;obtain⟨rfl,rfl,y⟩:=H;have bj:v2=ca T ev:=y.symm.trans i;subst bj;have n:Hid (q=.error (.inProof 2 er)/\Er.val sent (.inProof 2 er)=ca 222 (Sa #[Ia ka 2,ca T ev])):=⟨by rw[bm.o,D];rfl,by rw[Er.val,i];rfl⟩;clear y i;go_wp2;go_ret3;rw[n.1];exact⟨by show _=Ending.returned (Wa #[La ⟨#[]⟩,Oa false,Er.val sent (.inProof 2 er)]);rw[n.2];rfl,Below.behind J.1 H6.o⟩
    |ok o=>
     have H:=bq.o;rw[D]at H;obtain⟨d,hb,y⟩:=H;obtain rfl:v2=da:=y.symm;have n:Hid (Ng q=s2/\Nh q=b2/\Hu sent q=da):=by rw[bm.o,D];exact⟨d,hb,rfl⟩
     clear d hb y;go_wp2;go_ret3;rw[n.1,n.2.1,n.2.2];exact⟨rfl,Below.behind J.1 H6.o⟩
end
section
theorem NN{w:Fa}(sent:Nat->Addr)(h ad sl:List Nat)(l1 l2:List Da)(p1 p2:Option Addr)(c1 c2:Nat)(hE:Env w.heap.size sent w)(hTy:Ht w)(hTl:14<w.heap.size)(hh:h.length=32)(hhb:∀x∈h,x<256)(had:ad.length=20)(hsl:sl.length=32)(hr1:Ic w p1 l1 c1)(hr2:Ic w p2 l2 c2)(hl1:l1.length<=9223372036854775807)(hl2:l2.length<=9223372036854775807){q:Except Er (Option Da)}(hq:Ae h ad sl (l1.map Ke) (l2.map Ke)=q):Calls oa 46 #[Sa (h.map Kf).toArray,Sa (ad.map Kf).toArray,Sa (sl.map Kf).toArray,Ma p1 l1.length c1,Ma p2 l2.length c2] w λe w'=>e=na (Wa #[La (Ng q),Oa (Nh q),Nq q])/\Ba w w':=by
 obtain⟨A,R⟩:=nm ((h.map Kf).toArray);obtain⟨P,r⟩:=nm ((ad.map Kf).toArray);obtain⟨Sc,s⟩:=nm ((sl.map Kf).toArray);obtain⟨W0,d⟩:=nm ((((w.alloc (ma A 39)).alloc (ma P 48)).alloc (ma Sc 37)).alloc (ma #[Ia ka 0,Ia ka 0,Ia ka 0,Ia ka 0] 91));have ac:W0.rangeAt w.heap.size 0 (h.map Kf):=λj u O=>by rw[<-d,Z8 _ _ _ (by simp <;>omega),Z8 _ _ _ (by simp <;>omega),Z8 _ _ _ (by simp),Zf,Ze,<-R];simpa using O
 have S:W0.rangeAt (w.heap.size+1) 0 (ad.map Kf):=λj u O=>by rw[<-d,Z8 _ _ _ (by simp <;>omega),Z8 _ _ _ (by simp),show w.heap.size+1=(w.alloc (ma A 39)).heap.size by simp,Zf,Ze,<-r];simpa using O
 have T:W0.rangeAt (w.heap.size+1+1) 0 (sl.map Kf):=λj u O=>by rw[<-d,Z8 _ _ _ (by simp),show w.heap.size+1+1=((w.alloc (ma A 39)).alloc (ma P 48)).heap.size by simp,Zf,Ze,<-s];simpa using O
 have b:Ba w W0:=by rw[<-d];exact((((Zb _ _).alloc (Za _) _).alloc (by simp) _).alloc (by simp <;>omega) _).alloc (by simp <;>omega) _
 have X:W0.heap.size=w.heap.size+4:=by rw[<-d];simp
 have N:W0.heap[w.heap.size+1+1+1]? =some (ma #[Ia ka 0,Ia ka 0,Ia ka 0,Ia ka 0] 91 (0,0)):=by rw[<-d];have :((((w.alloc (ma A 39)).alloc (ma P 48)).alloc (ma Sc 37)).alloc (ma #[Ia ka 0,Ia ka 0,Ia ka 0,Ia ka 0] 91)).heap[(((w.alloc (ma A 39)).alloc (ma P 48)).alloc (ma Sc 37)).heap.size]? =some (ma #[Ia ka 0,Ia ka 0,Ia ka 0,Ia ka 0] 91 (0,0)):=Z6;simpa using this
 have Q:=Hq (rR sent h ad sl l1 l2 p1 p2 c1 c2 ((hE.below b).raise b.size) hh hhb had hsl (hr1.below b) (hr2.below b) hl1 hl2 hq);have HT:Hid (∀W,Ba W0 W->∀a:Er,a.Wb->Calls oa 92 #[a.val sent] W λe w'=>e=na (Ki a.num a.proof a.node a.at_)/\Ba W w'):=λW hW a hs=>jG sent a hs W (hE.Wf.below (b.va hW)) (((b.va hW).cell (p:=⟨14,0,none⟩) hTl).trans hTy);have HS:Hid (∀a,q=.error a->a.Wb):=λa e=>EU (Iw l1) (Iw l2) (hq.trans e);have t:=Hq (A3 b X N);have hz:=oo hh;have ak:(oa.info? 48).map (·.size)=some (ad.map Kf).length:=by rw[oH];simp[had]
 have al:(oa.info? 37).map (·.size)=some (sl.map Kf).length:=by rw[qp];simp[hsl]
 obtain⟨m1,U⟩:=nm l1.length;obtain⟨m2,V⟩:=nm l2.length;rw[U,V]at Q⊢;have ah:=underlying39;have ai:=underlying48;have ag:=underlying37;clear hE hTy hTl hh hhb had hsl hr1 hr2 hl1 hl2 hq b X N U V;rw[R,r,s]at Q⊢;go_enter func46,ntmps46;go_upto_region 1 with fail
 clear d;rw[<-R,<-r,<-s]at Q;clear R r s;go_wp2_with (first| (refine Zr rfl 39 _ rfl w.heap.size 0 rfl (h.map Kf) _ ac ah rfl hz ?_)| (refine Zr rfl 48 _ rfl (w.heap.size+1) 0 rfl (ad.map Kf) _ S ai rfl ak ?_)| (refine Zr rfl 37 _ rfl (w.heap.size+1+1) 0 rfl (sl.map Kf) _ T ag rfl al ?_))
 refine Q.mono ?_;rintro e w1 ⟨rfl,f⟩;rcases q with a|o
 .obtain⟨et,ev,K⟩:=a.shape sent;have F:=HT w1 f a (HS a rfl);rw[K]at F;have aj:=Hq F;have c:=Hq (A2 (t.1.va f) ((f.block _ (by have :=t.2.1;omega)).trans t.2.2));have k:Hu sent (.error a)=ca et ev:=K;have Y:Ng (.error a)=⟨#[]⟩:=rfl;have Z:Nh (.error a)=false:=rfl;rw[k,Y,Z];clear k Y Z K F f;go_wp2_with fail
  refine aj.mono ?_;rintro e n ⟨rfl,g⟩;have m:=(g.block _ (Zg.1 c.2).1).trans c.2;have ae:=(Zg.1 m).1;obtain⟨c0,c1,c2,c3,f0,f1,f2,f3⟩:=Wg m;have y:=Hq (c.1.va g);obtain⟨C,I⟩:=nm a.num;obtain⟨D,J⟩:=nm a.proof;obtain⟨B,H⟩:=nm a.node;obtain⟨z,G⟩:=nm a.at_;have l:=Hq (A4 I.symm J.symm H.symm G.symm);rw[I,J,H,G];clear I J H G;clear g;go_wp2;have E:((((n.setCell ⟨w.heap.size+1+1+1,0,none⟩ (Ia ka (C:Int))).setCell ⟨w.heap.size+1+1+1,1,none⟩ (Ia ka (D:Int))).setCell ⟨w.heap.size+1+1+1,2,none⟩ (Ia ka (B:Int))).setCell ⟨w.heap.size+1+1+1,3,none⟩ (Ia ka (z:Int))).heap[w.heap.size+1+1+1]? =some (ma #[Ia ka (C:Int),Ia ka (D:Int),Ia ka (B:Int),Ia ka (z:Int)] 91 (0,0)):=De (De (De (De (cs:=[Ia ka 0,Ia ka 0,Ia ka 0,Ia ka 0]) m 0 _) 1 _) 2 _) 3 _;have i:Ba w ((((n.setCell ⟨w.heap.size+1+1+1,0,none⟩ (Ia ka (C:Int))).setCell ⟨w.heap.size+1+1+1,1,none⟩ (Ia ka (D:Int))).setCell ⟨w.heap.size+1+1+1,2,none⟩ (Ia ka (B:Int))).setCell ⟨w.heap.size+1+1+1,3,none⟩ (Ia ka (z:Int))):=(((y.setCell (p:=⟨w.heap.size+1+1+1,0,none⟩) (by simp <;>omega) _).setCell (p:=⟨w.heap.size+1+1+1,1,none⟩) (by simp <;>omega) _).setCell (p:=⟨w.heap.size+1+1+1,2,none⟩) (by simp <;>omega) _).setCell (p:=⟨w.heap.size+1+1+1,3,none⟩) (by simp <;>omega) _;generalize ((((n.setCell ⟨w.heap.size+1+1+1,0,none⟩ (Ia ka (C:Int))).setCell ⟨w.heap.size+1+1+1,1,none⟩ (Ia ka (D:Int))).setCell ⟨w.heap.size+1+1+1,2,none⟩ (Ia ka (B:Int))).setCell ⟨w.heap.size+1+1+1,3,none⟩ (Ia ka (z:Int)))=w3 at E i⊢;obtain⟨d0,d1,d2,d3,-⟩:=Wg E;refine Zv (v:=Wa #[La ⟨#[]⟩,Oa false,Ki C D B z]) (by simp[results,results46,go_sem,d0,d1,d2,d3]) rfl ⟨by rw[l.1,l.2.1,l.2.2.1,l.2.2.2];rfl,i⟩
 .have c:=Hq (A2 (t.1.va f) ((f.block _ (by have :=t.2.1;omega)).trans t.2.2));obtain⟨os,M⟩:=nm (Ng (.ok o));obtain⟨ob,L⟩:=nm (Nh (.ok o));have k:Hu sent (.ok o)=da:=rfl;have l:=Hq (A2 M L);rw[M,L,k];clear f M L k;go_wp2_with fail
  refine(wH _).mono ?_;rintro e n ⟨rfl,g⟩;have m:=(g.block _ (Zg.1 c.2).1).trans c.2;have ae:=(Zg.1 m).1;obtain⟨c0,c1,c2,c3,f0,f1,f2,f3⟩:=Wg m;have y:=Hq (c.1.va g);clear g;go_wp2;have E:((((n.setCell ⟨w.heap.size+1+1+1,0,none⟩ (Ia ka ((0:Nat):Int))).setCell ⟨w.heap.size+1+1+1,1,none⟩ (Ia ka ((0:Nat):Int))).setCell ⟨w.heap.size+1+1+1,2,none⟩ (Ia ka ((0:Nat):Int))).setCell ⟨w.heap.size+1+1+1,3,none⟩ (Ia ka ((0:Nat):Int))).heap[w.heap.size+1+1+1]? =some (ma #[Ia ka ((0:Nat):Int),Ia ka ((0:Nat):Int),Ia ka ((0:Nat):Int),Ia ka ((0:Nat):Int)] 91 (0,0)):=De (De (De (De (cs:=[Ia ka 0,Ia ka 0,Ia ka 0,Ia ka 0]) m 0 _) 1 _) 2 _) 3 _;have i:Ba w ((((n.setCell ⟨w.heap.size+1+1+1,0,none⟩ (Ia ka ((0:Nat):Int))).setCell ⟨w.heap.size+1+1+1,1,none⟩ (Ia ka ((0:Nat):Int))).setCell ⟨w.heap.size+1+1+1,2,none⟩ (Ia ka ((0:Nat):Int))).setCell ⟨w.heap.size+1+1+1,3,none⟩ (Ia ka ((0:Nat):Int))):=(((y.setCell (p:=⟨w.heap.size+1+1+1,0,none⟩) (by simp <;>omega) _).setCell (p:=⟨w.heap.size+1+1+1,1,none⟩) (by simp <;>omega) _).setCell (p:=⟨w.heap.size+1+1+1,2,none⟩) (by simp <;>omega) _).setCell (p:=⟨w.heap.size+1+1+1,3,none⟩) (by simp <;>omega) _;generalize ((((n.setCell ⟨w.heap.size+1+1+1,0,none⟩ (Ia ka ((0:Nat):Int))).setCell ⟨w.heap.size+1+1+1,1,none⟩ (Ia ka ((0:Nat):Int))).setCell ⟨w.heap.size+1+1+1,2,none⟩ (Ia ka ((0:Nat):Int))).setCell ⟨w.heap.size+1+1+1,3,none⟩ (Ia ka ((0:Nat):Int)))=w3 at E i⊢;obtain⟨d0,d1,d2,d3,-⟩:=Wg E;refine Zv (v:=Wa #[La os,Oa ob,Ki 0 0 0 0]) (by simp[results,results46,go_sem,d0,d1,d2,d3]) rfl ⟨by rw[l.1,l.2];rfl,i⟩
end
section
theorem tP{enc:El->List Value}{d:Nat}{w:Fa}{F:Nat->Prop}{e:El}{y:It}(h:Tree enc kP d w F e y):e.fr=y.fr/\e.mc=y.zf/\Ke e.text=y.vg:=by
 have f:En e/\kP.tx e y->e.fr=y.fr/\e.mc=y.zf/\Ke e.text=y.vg:=by rintro⟨⟨b,_⟩,a⟩;have a:=a;subst a;exact⟨rfl,b,rfl⟩
 cases d with
 |zero=>exact f h
 |succ d=>
  rcases h with h|⟨b,ps,_,_,a,c⟩;.exact f h
  .have c:=c;subst c;exact⟨rfl,b,by rw[a];rfl⟩
def tf(s:Da)(e:Ending):Prop:=(∀er,G0 (Ke s)=.error er->e=na (Wa #[Sa (Ku Kk).toArray,Ki er.num 0 0 er.at_]))/\∀a,G0 (Ke s)=.ok a->e=na (Wa #[Sa (Ku a).toArray,Ki 0 0 0 0])
variable{s:Da}
theorem tf.Ii{er:Er}(h:G0 (Ke s)=.error er):tf s (na (Wa #[Sa (Ku Kk).toArray,Ki er.num 0 0 er.at_])):=⟨(λer' he=>by rw[h]at he;cases he;rfl),(λa he=>by rw[h]at he;cases he)⟩
theorem tf.Md{a:Acc}(h:G0 (Ke s)=.ok a):tf s (na (Wa #[Sa (Ku a).toArray,Ki 0 0 0 0])):=⟨(λer' he=>by rw[h]at he;cases he),(λa he=>by rw[h]at he;cases he;rfl)⟩
theorem Ix{k:Nat}{e:El}{y:It}(h:e.mc=y.zf/\Ke e.text=y.vg):Ga k e=if k<2 then !(decide (Au y))else !(decide (Aj y)):=by
 unfold Ga Au Aj;have b:e.text.size=y.vg.length:=by rw[<-h.2,ta]
 by_cases a:k<2;.rw[Zo a,Zo a];congr 1;rw[h.1,h.2]
 .rw[Zj a,Zj a];congr 1;rw[h.1,b]
theorem bT(s:Da)(w:Fa):Calls oa 40 #[La s] w λe w'=>tf s e/\Ba w w':=by
 cases h:Gb (Ke s)with
 |error er=>
  have a:G0 (Ke s)=.error er:=by unfold G0;rw[h]
  by_cases hn:0<er.num
  .refine(GS s w 0 0 false ⟨#[]⟩ none 0 0 er.num er.at_ hn (λW=>(Lw s W).mono ?_)).mono ?_;.rintro r w' ⟨n,E,_⟩;exact⟨n,(E er h).2⟩
   .rintro r w' ⟨rfl,n⟩;exact⟨tf.Ii a,n⟩
  .have :=(WB (sh s) a).2.1;omega
 |ok x=>
  obtain⟨_,X,_,_⟩:=mC (sh s) h;by_cases j:x.items.length=4
  .obtain⟨y0,y1,y2,y3,hy⟩:∃y0 y1 y2 y3,x.items=[y0,y1,y2,y3]:=by
    match f:x.items with
    | [y0,y1,y2,y3]=>exact⟨y0,y1,y2,y3,rfl⟩
    | []=>rw[f]at j;simp at j
    | [_]=>rw[f]at j;simp at j
    | [_,_]=>rw[f]at j;simp at j
    | [_,_,_]=>rw[f]at j;simp at j
    |_::_::_::_::_::_=>rw[f]at j;simp at j
   have a:G0 (Ke s)=Gh y0 y1 y2 y3:=by unfold G0;rw[h];simp only;rw[hy]
   refine(zP s w (λv=>tf s (na v)) (λW=>(Lw s W).mono ?_)).mono ?_
   .rintro r w' ⟨n,_,S⟩;refine⟨n,?_⟩;obtain⟨b,tx,p,m,c,z,rfl⟩:=S x h;rcases z with z|⟨E,ps,hrow,htr,_,f⟩;.have f:=z.2;rw[f]at hy;cases hy
    .have f:=f;have G:ps.map (·.2)=[y0,y1,y2,y3]:=by rw[f]at hy;exact hy
     have H:ps.length=4:=by have :=Y5 List.length G;simpa using this
     simp only at E hrow;subst E;obtain⟨g,V,hs,_,_,_,_,F⟩:=re.cells (enc:=Ni) (size:=5) (λ_=>rfl) hrow (by omega);rw[hs]at hrow⊢;rw[H];have B:∀i (l:i<ps.length),ps[i].1.fr=ps[i].2.fr/\ps[i].1.mc=ps[i].2.zf/\Ke ps[i].1.text=ps[i].2.vg:=λi l=>tP (htr _ (Zy l));have C:∀i (l:i<ps.length),([y0,y1,y2,y3]:List It)[i]? =some ps[i].2:=λi l=>by rw[<-G,Yt,Zk l];rfl
     have Y0:ps[0].2=y0:=by have :=C 0 (by omega);simpa using this.symm
     have Y1:ps[1].2=y1:=by have :=C 1 (by omega);simpa using this.symm
     have Y2:ps[2].2=y2:=by have :=C 2 (by omega);simpa using this.symm
     have Y3:ps[3].2=y3:=by have :=C 3 (by omega);simpa using this.symm
     have K:=B 0 (by omega);have L:=B 1 (by omega);have M:=B 2 (by omega);have N:=B 3 (by omega);rw[Y0]at K;rw[Y1]at L;rw[Y2]at M;rw[Y3]at N;have D:=Ix (k:=0) K.2;have J:=Ix (k:=1) L.2;have R:=Ix (k:=2) M.2;have U:=Ix (k:=3) N.2;have u:∀{P:Prop} [Decidable P],(!(decide P))=false->P:=λh=>by simpa using h
     have O:∀{P:Prop} [Decidable P],(!(decide P))=true->¬P:=λh=>by simpa using h
     refine⟨_,_,_,g,V,ps.map (·.1),by rw[Zl];exact H,rfl,λi l=>?_,λe he=>?_,λk Z Q d=>?_,λq0 q1 q2 q3 T=>?_⟩;.rw[Xf];exact F i (by simpa using l)
     .obtain⟨q,hq,rfl⟩:=Xd.1 he;exact(htr q hq).sub
     .have ag:k<4:=by rw[Zl,H]at Z;exact Z
      have t:∀i (l:i<ps.length),i<k->Ga i ps[i].1=false:=λi l Y=>by have :=Q i (by simpa using l) Y;rwa [Xf]at this
      rw[Xf]at d⊢;have ac:k=0\/k=1\/k=2\/k=3:=by omega
      rcases ac with rfl|rfl|rfl|rfl
      .rw[D]at d;have e:G0 (Ke s)=.error (.place y0.fr (.base 13)):=by rw[a];unfold Gh;rw[Zo (O d)]
       rw[K.1];exact tf.Ii e
      .have o:=t 0 (by omega) (by omega);rw[D]at o;rw[J]at d;have e:G0 (Ke s)=.error (.place y1.fr (.base 13)):=by rw[a];unfold Gh;rw[Zj (λh=>h (u o)),Zo (O d)]
       rw[L.1];exact tf.Ii e
      .have o:=t 0 (by omega) (by omega);have y:=t 1 (by omega) (by omega);rw[D]at o;rw[J]at y;rw[R]at d;have e:G0 (Ke s)=.error (.place y2.fr (.base 13)):=by rw[a];unfold Gh;rw[Zj (λh=>h (u o)),Zj (λh=>h (u y)),Zo (O d)]
       rw[M.1];exact tf.Ii e
      .have o:=t 0 (by omega) (by omega);have y:=t 1 (by omega) (by omega);have I:=t 2 (by omega) (by omega);rw[D]at o;rw[J]at y;rw[R]at I;rw[U]at d;have e:G0 (Ke s)=.error (.place y3.fr (.base 13)):=by rw[a];unfold Gh;rw[Zj (λh=>h (u o)),Zj (λh=>h (u y)),Zj (λh=>h (u I)),Zo (O d)]
       rw[N.1];exact tf.Ii e
     .have t:∀i (l:i<ps.length),Ga i ps[i].1=false:=λi l=>by have :=T i (by simpa using l);rwa [Xf]at this
      have o:=t 0 (by omega);have y:=t 1 (by omega);have I:=t 2 (by omega);have p3:=t 3 (by omega);rw[D]at o;rw[J]at y;rw[R]at I;rw[U]at p3;simp only[Xf];rw[K.2.2,L.2.2,M.2.2,N.2.2];refine tf.Md ?_;rw[a];unfold Gh;rw[Zj (λh=>h (u o)),Zj (λh=>h (u y)),Zj (λh=>h (u I)),Zj (λh=>h (u p3))]
   .rintro r w' ⟨⟨v,hv,rfl⟩,n⟩;exact⟨hv,n⟩
  .have a:G0 (Ke s)=.error (.place x.fr (.base 13)):=by
    unfold G0;rw[h];simp only;split
    .rename_i y0 y1 y2 y3 hy
     rw[hy]at j;simp at j
    .rfl
   refine(aM s w (λW=>(Lw s W).mono ?_)).mono ?_
   .rintro r w' ⟨n,_,S⟩;refine⟨n,?_⟩;obtain⟨b,tx,p,m,c,z,rfl⟩:=S x h;refine⟨0,x.ra,b,tx,p,m,c,?_,rfl⟩;rcases z with z|⟨E,ps,hrow,_,_,f⟩;.exact .inl z.1.1
    .have f:=f;have hm:=Oe.len (re.kh hrow);refine .inr λae=>j ?_;rw[f];show(ps.map (·.2)).length=4;rw[Zl,<-hm,ae]
   .rintro r w' ⟨rfl,n⟩;have :=tf.Ii a;rw[X]at this;exact⟨this,n⟩
end
end Go.Proofs.YtpfbdlnibdfcoaaGreatDoor
