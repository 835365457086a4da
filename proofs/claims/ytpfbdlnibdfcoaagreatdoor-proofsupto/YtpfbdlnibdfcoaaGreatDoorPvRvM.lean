import Derived.Test.YtpfbdlnibdfcoaaGreatDoorPvRaA
namespace Go.Proofs.YtpfbdlnibdfcoaaGreatDoor
open Go.RowKit Tryz
open Value renaming int->Ia,string->La,slice->Ma,bool->Oa,pointer->Qa,agg->Sa,tuple->Wa,iface->ca,nilIface->da
open IntKind renaming i64->ka
open Obj renaming cells->ma
open Ending renaming returned->na
open Tryz renaming prog->oa
set_option maxRecDepth 100000
set_option maxHeartbeats 0
section
theorem nl:(oa.info? 152).map (·.size)=some 5:=by kernel_rfl
theorem mq(e:El)(h:∃p m c,e.sub=Ma p m c):(#[Oa e.mc,La e.text,e.sub,Ia ka (e.fr:Int),Ia ka (e.ra:Int)]:Array Value).all (·.oneCell')=true:=by obtain⟨p,m,c,h⟩:=h;simp[h,Value.oneCell']
structure Fe(w:Fa)(h:List Nat)(W:Fa):Prop where
 below:Ba w W
 want:W.rangeAt w.heap.size 0 (h.map Kf)
 r8:W.there (w.heap.size+1) 0 5
 r9:W.there (w.heap.size+1+1) 0 4
 lt:w.heap.size+1+1+1<W.heap.size
variable{w W:Fa}{h:List Nat}
theorem Fe.step{W':Fa}(k:Fe w h W)(hb:Ba W W'):Fe w h W':=by have a:=k.lt;exact⟨k.below.va hb,zc k.want (hb.block _ (by omega)),ve k.r8 (hb.block _ (by omega)),ve k.r9 (hb.block _ (by omega)),Zm a hb.size⟩
theorem Fe.only{W':Fa}{f:Nat}(k:Fe w h W)(hf:w.heap.size+1+1+1<=f)(ho:Fc f W W'):Fe w h W':=by have b:=k.lt;refine⟨⟨ho.os.trans k.below.os,ho.tape.trans k.below.tape,ho.output.trans k.below.output,Z2 k.below.size ho.size,λj a=>(ho.block j (Zm a k.below.size) (by omega)).trans (k.below.block j a)⟩,zc k.want (ho.block _ (by omega) (by omega)),ve k.r8 (ho.block _ (by omega) (by omega)),ve k.r9 (ho.block _ (by omega) (by omega)),Zm b ho.size⟩
theorem Fe.start(w:Fa)(hs:Array Value)(h:List Nat)(he:hs=(h.map Kf).toArray)(z:Array Value)(hz:z.size=5)(f f':Array Value)(hf:f.size=4):Fe w h ((((w.alloc (ma hs 39)).alloc (ma z 152)).alloc (ma f 91)).alloc (ma f' 91)):=by
 have n:Ba w (w.alloc (ma hs 39)):=(Zb _ _).alloc (Za _) _;have q:(w.alloc (ma hs 39)).rangeAt w.heap.size 0 (h.map Kf):=by rw[he];exact wg w (h.map Kf) _
 obtain⟨a,g⟩:=nm (w.alloc (ma hs 39));have r:a.heap.size=w.heap.size+1:=by rw[<-g];simp
 rw[g]at n q⊢;have o:Ba a (a.alloc (ma z 152)):=(Zb _ _).alloc (Za _) _;have l:=Le a z 152 5 hz.symm;obtain⟨b,i⟩:=nm (a.alloc (ma z 152));have s:b.heap.size=w.heap.size+1+1:=by rw[<-i];simp[r]
 rw[i]at o l⊢;have k:Ba b (b.alloc (ma f 91)):=(Zb _ _).alloc (Za _) _;have m:=Le b f 91 4 hf.symm;obtain⟨c,j⟩:=nm (b.alloc (ma f 91));have t:c.heap.size=w.heap.size+1+1+1:=by rw[<-j];simp[s]
 rw[j]at k m⊢;have d:Ba c (c.alloc (ma f' 91)):=(Zb _ _).alloc (Za _) _;have u:(c.alloc (ma f' 91)).heap.size=w.heap.size+4:=by simp[t]
 generalize c.alloc (ma f' 91)=w4 at d u;rw[r]at l;rw[s]at m;have e:Ba a w4:=o.trans ((k.trans (d.mono (by omega))).mono (by omega));have p:Ba b w4:=k.trans (d.mono (by omega));exact⟨n.trans (e.mono (by omega)),zc q (e.block _ (by omega)),ve l (p.block _ (by omega)),ve m (d.block _ (by omega)),by omega⟩
def Hx(e:El)(ee ea:Nat)(w:Fa)(r:Ending)(w':Fa):Prop:=r=na (Wa #[Aa e,Ki ee 0 0 ea])/\Ba w w'
theorem Fe.ret{w W0 W:Fa}{h:List Nat}(k:Fe w h W0){e:El}{ee ea:Nat}{tmps:Array Value}(hs:SE W0 (w.heap.size+1) (w.heap.size+1+1) (Ni e) (Kz ee ea) true true W)(hp:tmps.getD 8 undef=Qa (some ⟨w.heap.size+1,0,none⟩))(hq:tmps.getD 9 undef=Qa (some ⟨w.heap.size+1+1,0,none⟩)){R:Ending->Fa->Prop}(hR:∀r w',Hx e ee ea w r w'->R r w'):bodyPost oa f95 R .ret ⟨tmps,[]⟩ W:=Zv (v:=Wa #[Aa e,Ki ee 0 0 ea]) (qB results95 tmps _ _ _ _ hp hq (Yg _ _ _ 152 _ _ (hs.d0 rfl) underlying152 rfl nl) (Yg _ _ _ 91 _ _ (hs.d1 rfl) underlying91 rfl Di)) rfl (hR _ _ ⟨rfl,hs.below k.below (by omega) (by omega)⟩)
theorem Fe.GA{W0:Fa}(k:Fe w h W0){e:El}{ee ea:Nat}{tmps:Array Value}(hs:SE W0 (w.heap.size+1) (w.heap.size+1+1) (Ni e) (Kz ee ea) true true W)(hp:tmps.getD 8 undef=Qa (some ⟨w.heap.size+1,0,none⟩))(hq:tmps.getD 9 undef=Qa (some ⟨w.heap.size+1+1,0,none⟩)){R:Ending->Fa->Prop}(hR:∀r w',Hx e ee ea w r w'->SE W0 (w.heap.size+1) (w.heap.size+1+1) (Ni e) (Kz ee ea) true true w'->R r w'):bodyPost oa f95 R .ret ⟨tmps,[]⟩ W:=Zv (v:=Wa #[Aa e,Ki ee 0 0 ea]) (qB results95 tmps _ _ _ _ hp hq (Yg _ _ _ 152 _ _ (hs.d0 rfl) underlying152 rfl nl) (Yg _ _ _ 91 _ _ (hs.d1 rfl) underlying91 rfl Di)) rfl (hR _ _ ⟨rfl,hs.below k.below (by omega) (by omega)⟩ hs)
theorem Fe.se(k:Fe w h W)(e:El)(ee ea:Nat):SE W (w.heap.size+1) (w.heap.size+1+1) (Ni e) (Kz ee ea) false false W:=SE.start k.r8 k.r9
theorem Fe.laid{w2:Fa}(k:Fe w h w2){x0 x1 x2 x3:Value}(hf:w2.heap[w.heap.size+1+1+1]? =some (ma #[x0,x1,x2,x3] 91 (0,0)))(y0 y1 y2 y3:Value):Fe w h ((((w2.setCell ⟨w.heap.size+1+1+1,0,none⟩ y0).setCell ⟨w.heap.size+1+1+1,1,none⟩ y1).setCell ⟨w.heap.size+1+1+1,2,none⟩ y2).setCell ⟨w.heap.size+1+1+1,3,none⟩ y3)/\((((w2.setCell ⟨w.heap.size+1+1+1,0,none⟩ y0).setCell ⟨w.heap.size+1+1+1,1,none⟩ y1).setCell ⟨w.heap.size+1+1+1,2,none⟩ y2).setCell ⟨w.heap.size+1+1+1,3,none⟩ y3).heap[w.heap.size+1+1+1]? =some (ma #[y0,y1,y2,y3] 91 (0,0))/\Fc (w.heap.size+1+1+1) w2 ((((w2.setCell ⟨w.heap.size+1+1+1,0,none⟩ y0).setCell ⟨w.heap.size+1+1+1,1,none⟩ y1).setCell ⟨w.heap.size+1+1+1,2,none⟩ y2).setCell ⟨w.heap.size+1+1+1,3,none⟩ y3)/\((((w2.setCell ⟨w.heap.size+1+1+1,0,none⟩ y0).setCell ⟨w.heap.size+1+1+1,1,none⟩ y1).setCell ⟨w.heap.size+1+1+1,2,none⟩ y2).setCell ⟨w.heap.size+1+1+1,3,none⟩ y3).heap.size=w2.heap.size:=by have b:Fc (w.heap.size+1+1+1) w2 ((((w2.setCell ⟨w.heap.size+1+1+1,0,none⟩ y0).setCell ⟨w.heap.size+1+1+1,1,none⟩ y1).setCell ⟨w.heap.size+1+1+1,2,none⟩ y2).setCell ⟨w.heap.size+1+1+1,3,none⟩ y3):=⟨rfl,rfl,rfl,by simp,λk _ a=>(((Zd _ _ _ _ a).trans (Zd _ _ _ _ a)).trans (Zd _ _ _ _ a)).trans (Zd _ _ _ _ a)⟩;exact⟨k.only (Za _) b,rn hf _ _ _ _,b,by simp⟩
theorem Fe.lay{w2:Fa}(k:Fe w h w2){x0 x1 x2 x3:Value}(hf:w2.heap[w.heap.size+1+1+1]? =some (ma #[x0,x1,x2,x3] 91 (0,0)))(y0 y1 y2 y3:Value)(cs:List Value):Fe w h (World.alloc ((((w2.setCell ⟨w.heap.size+1+1+1,0,none⟩ y0).setCell ⟨w.heap.size+1+1+1,1,none⟩ y1).setCell ⟨w.heap.size+1+1+1,2,none⟩ y2).setCell ⟨w.heap.size+1+1+1,3,none⟩ y3) (ma cs.toArray 152))/\(World.alloc ((((w2.setCell ⟨w.heap.size+1+1+1,0,none⟩ y0).setCell ⟨w.heap.size+1+1+1,1,none⟩ y1).setCell ⟨w.heap.size+1+1+1,2,none⟩ y2).setCell ⟨w.heap.size+1+1+1,3,none⟩ y3) (ma cs.toArray 152)).heap[w.heap.size+1+1+1]? =some (ma #[y0,y1,y2,y3] 91 (0,0))/\(World.alloc ((((w2.setCell ⟨w.heap.size+1+1+1,0,none⟩ y0).setCell ⟨w.heap.size+1+1+1,1,none⟩ y1).setCell ⟨w.heap.size+1+1+1,2,none⟩ y2).setCell ⟨w.heap.size+1+1+1,3,none⟩ y3) (ma cs.toArray 152)).heap[w2.heap.size]? =some (ma cs.toArray 152 (0,0))/\∀j,j≠w.heap.size+1+1+1->j<w2.heap.size->(World.alloc ((((w2.setCell ⟨w.heap.size+1+1+1,0,none⟩ y0).setCell ⟨w.heap.size+1+1+1,1,none⟩ y1).setCell ⟨w.heap.size+1+1+1,2,none⟩ y2).setCell ⟨w.heap.size+1+1+1,3,none⟩ y3) (ma cs.toArray 152)).heap[j]? =w2.heap[j]? :=by obtain⟨c,b,d,e⟩:=k.laid hf y0 y1 y2 y3;generalize ((((w2.setCell ⟨w.heap.size+1+1+1,0,none⟩ y0).setCell ⟨w.heap.size+1+1+1,1,none⟩ y1).setCell ⟨w.heap.size+1+1+1,2,none⟩ y2).setCell ⟨w.heap.size+1+1+1,3,none⟩ y3)=X at c b d e;have a:Ba X (X.alloc (ma cs.toArray 152)):=(Zb _ _).alloc (Za _) _;refine⟨c.step a,(a.block _ (Zg.1 b).1).trans b,?_,λj f g=>(a.block j (by omega)).trans (d.block j g f)⟩;rw[<-e];exact Z6
end
section
theorem YO:∀(n:Nat) (x:It) (za:Nat) (er:Er),N9 n x za=.error er->er.num=8:=by
 intro n;induction n with
 |zero=>intro x za er h;rw[N9]at h;cases h;rfl
 |succ n ih=>
  intro x za er h;have f:∀y d e,Nw (N9 n) y d=.error e->e.num=8:=λy d e he=>by
   cases y with
   |text a b s=>cases he
   |list a b l=>exact ih _ _ _ he
  have g:∀(l:List It) d e,Kw (N9 n) d l=.error e->e.num=8:=by
   intro l;induction l with
   |nil=>intro d e he;cases he
   |cons y l ihl=>
    intro d e he;rw[Kw]at he;split at he
    .cases hk:Kw (N9 n) d l with
     |error e'=>rw[hk]at he;cases he;exact ihl _ _ hk
     |ok _=>rw[hk]at he;cases he
    .cases hr:Nw (N9 n) y d with
     |error e'=>rw[hr]at he;cases he;exact f _ _ _ hr
     |ok t=>
      rw[hr]at he;simp only at he;cases hk:Kw (N9 n) d l with
      |error e'=>rw[hk]at he;cases he;exact ihl _ _ hk
      |ok _=>rw[hk]at he;cases he
  cases x with
  |text a b s=>rw[N9]at h;cases h;rfl
  |list a b l=>
   rw[N9]at h;change To (N9 n) a l za=.error er at h;by_cases c:l.length=2
   .obtain⟨u,v,rfl⟩:=nr c;rw[oq]at h;unfold Gw at h;split at h;.cases h;rfl
    .split at h;.cases h;rfl
     .split at h
      .split at h;.cases h;rfl
       .cases h
      .unfold Pm at h;split at h;.cases h;rfl
       .split at h
        .rename_i e' he
         cases h;exact f _ _ _ he
        .cases h
   .rw[vm c]at h;split at h
    .unfold Pv at h;split at h;.cases h;rfl
     .split at h
      .rename_i e' he
       cases h;exact g _ _ _ he
      .cases h
    .cases h;rfl
def Ah(l:List Da)(k:Nat)(h:List Nat)(za:Nat)(w:Fa)(r:Ending)(w':Fa):Prop:=Ba w w'/\(l.length<=k->∃e:El,(∃p m c,e.sub=Ma p m c)/\r=na (Wa #[Aa e,Ki 2 0 0 0]))/\
  ∀s,l[k]? =some s->(∀er,Pc (Ke s) h za=.error er->0<er.num/\∃e:El,(∃p m c,e.sub=Ma p m c)/\r=na (Wa #[Aa e,Ki er.num 0 0 er.at_]))/\
   ∀t,Pc (Ke s) h za=.ok t->∃(x:It) (e:El),N9 6 x za=.ok t/\x.Md 2048/\(∃p m c,e.sub=Ma p m c)/\Tree Ni kP 6 w' (λj=>w.heap.size<=j) e x/\r=na (Wa #[Aa e,Ki 0 0 0 0])
theorem JI{W:Fa}{b:Nat}{y0 y1 y2 y3 y4:Value}{t:TypeId}(h:W.heap[b]? =some (ma [y0,y1,y2,y3,y4].toArray t (0,0))):W.rangeAt b 0 [y0,y1,y2,y3,y4]:=by
 obtain⟨a,c,d,e,f⟩:=qe h;intro j u hu;rw[Zf];match j,hu with
 |0,hu=>cases hu;exact a
 |1,hu=>cases hu;exact c
 |2,hu=>cases hu;exact d
 |3,hu=>cases hu;exact e
 |4,hu=>cases hu;exact f
 |j+5,hu=>simp at hu
theorem BC{W:Fa}{b:Nat}{x0 x1 x2 x3:Value}{t:TypeId}(h:W.heap[b]? =some (ma #[x0,x1,x2,x3] t (0,0)))(y:Value):(W.setCell ⟨b,0,none⟩ y).heap[b]? =some (ma #[y,x1,x2,x3] t (0,0))/\Fc b W (W.setCell ⟨b,0,none⟩ y):=⟨De (cs:=[x0,x1,x2,x3]) h 0 y,rfl,rfl,rfl,by simp,λk _ hne=>Zd _ _ _ _ hne⟩
def Nf(w:Fa)(p:Option Addr)(l:List Da)(c:Nat):Prop:=(p=p/\l=[]/\c=c)\/∃g o,p=some ⟨g,o,none⟩/\l.length<=c/\(0<l.length->g<w.heap.size)/\w.rangeAt g o (l.map Value.string)
theorem Ic.vg{w:Fa}{p:Option Addr}{l:List Da}{c:Nat}(h:Ic w p l c):Nf w p l c:=h.imp (λh=>⟨rfl,h.2.1,rfl⟩) id
theorem yS{w:Fa}(pp:Option Addr)(l:List Da)(cc k:Nat)(h:List Nat)(za:Nat)(hrow:Nf w pp l cc)(hh:h.length=32)(hhb:∀x∈h,x<256)(hd:za<=64):Calls oa 95 #[Ma pp l.length cc,Ia ka (k:Int),Sa (h.map Kf).toArray,Ia ka (za:Int)] w (Ah l k h za w):=by
 have HZ:=Hq (Fe.start w (h.map Kf).toArray h rfl #[Oa false,La ⟨#[]⟩,Ma none 0 0,Ia ka 0,Ia ka 0] rfl #[Ia ka 0,Ia ka 0,Ia ka 0,Ia ka 0] #[Ia ka 0,Ia ka 0,Ia ka 0,Ia ka 0] rfl);have ew:=underlying39;have eu:(oa.info? 39).map (·.size)=some (h.map Kf).length:=by
  have :(oa.info? 39).map (·.size)=some 32:=by kernel_rfl
  rw[this];simp[hh]
 go_enter func95,ntmps95;go_upto_region 2 with fail
 generalize hWz:World.alloc (World.alloc (World.alloc (World.alloc _ _) _) _) _=Wz;have aj:Fe w h Wz:=by rw[<-hWz];exact HZ.o
 have ai:Wz.heap[w.heap.size+1+1+1]? =some (ma #[Ia ka 0,Ia ka 0,Ia ka 0,Ia ka 0] 91 (0,0)):=by rw[<-hWz];have :=Z6 (xs:=(((w.alloc (ma (h.map Kf).toArray 39)).alloc (ma #[Oa false,La ⟨#[]⟩,Ma none 0 0,Ia ka 0,Ia ka 0] 152)).alloc (ma #[Ia ka 0,Ia ka 0,Ia ka 0,Ia ka 0] 91)).heap) (x:=Obj.cells #[Ia ka 0,Ia ka 0,Ia ka 0,Ia ka 0] 91 (0,0));rw[show((((w.alloc (ma (h.map Kf).toArray 39)).alloc (ma #[Oa false,La ⟨#[]⟩,Ma none 0 0,Ia ka 0,Ia ka 0] 152)).alloc (ma #[Ia ka 0,Ia ka 0,Ia ka 0,Ia ka 0] 91)).heap).size=w.heap.size+1+1+1 by simp]at this;exact this
 have ah:=Hq aj;have ag:=Hq ai;obtain⟨M,N,O,P,R,S,T,U⟩:=Wg ai;clear hWz HZ;by_cases aw:k<l.length
 .obtain⟨g,o,rfl,dn,dt⟩:∃g o,pp=some ⟨g,o,none⟩/\g<w.heap.size/\w.rangeAt g o (l.map Value.string):=by
   rcases hrow with⟨_,e,_⟩|⟨g,o,e1,_,e2,e3⟩;.rw[e]at aw;simp at aw
   .exact⟨g,o,e1,e2 (by omega),e3⟩
  obtain⟨s,hs⟩:∃s,l[k]? =some s:=⟨l[k],Zk aw⟩;have HC:Hid (∀W,Ba w W->W.cell? ⟨g,o+k,none⟩=some (La s)):=λW hW=>by have :=zc dt (hW.block g dn) k (La s) (by rw[Yt,hs];rfl);exact this
  have i1:decide ((l.length:Int)<=(k:Int))=false:=Zt (by omega);have i2:(k:Int)<(l.length:Int):=by omega
  have z0:=HC Wz aj.below;have bq:Hid (∀(E A:Nat) (e:El) r w',(∃p m c,e.sub=Ma p m c)->(∀t,Pc (Ke s) h za≠ .ok t)->(∀er,Pc (Ke s) h za=.error er->er.num=E/\er.at_=A/\0<E)->Hx e E A w r w'->Ah l k h za w r w'):=λE A e r w' dv eo ej X=>by refine⟨X.2,λhk=>by omega,λs' bj=>?_⟩;rw[hs]at bj;cases bj;exact⟨λer V=>by obtain⟨e1,e2,e3⟩:=ej er V;exact⟨by omega,e,dv,by rw[e1,e2];exact X.1⟩,λt Y=>absurd Y (eo t)⟩
  have HX:Hid (h.length=32/\(∀x∈h,x<256)/\za<=64/\l[k]? =some s/\k<l.length):=⟨hh,hhb,hd,hs,aw⟩;clear hrow dn dt hs aw hh hhb hd aj ai;by_cases ay:700<s.size
  .have j1:(700:Int)<(s.size:Int):=by omega
   have ak:Pc (Ke s) h za=.error (.base 1):=by unfold Pc;rw[Zo (by rw[ta];exact ay)]
   have I:Hid (∀r w',Hx Ns 1 0 w r w'->Ah l k h za w r w'):=λr w' X=>bq 1 0 Ns r w' ⟨_,_,_,rfl⟩ (λt Y=>by rw[ak]at Y;cases Y) (λer V=>by rw[ak]at V;cases V;exact⟨rfl,rfl,by omega⟩) X;clear ay ak;go_upto_region 9 with fail
   clear z0 M N O P R S T U;obtain⟨q1,q2⟩:=BC ag (Ia ka 1);have G:=Hq (ah.only (Za _) q2);have F:=Hq (Wi q1);clear q1 q2;generalize World.setCell _ ⟨w.heap.size+1+1+1,0,none⟩ (Ia ka 1)=W9 at G F⊢;obtain⟨d,a⟩:=nm W9.drew;have f:Hid (Fe w h d):=by rw[<-a];exact G.step (Zb _ _).drew
   have J:Hid (d.rangeAt (w.heap.size+1+1+1) 0 (Kz 1 0)):=by rw[<-a];exact F.o
   have i:SE d (w.heap.size+1) (w.heap.size+1+1) (Ni Ns) (Kz 1 0) false false W9.drew:=by rw[a];exact f.se Ns 1 0
   clear a G F;refine Vj (by kernel_rfl) ?_;change wpAny _ _ _ _ _ _ _ (World.drew _);refine SE.two i (by omega) rfl (by kernel_rfl) (by kernel_rfl) rfl rfl rfl rfl rfl rfl (by kernel_rfl) (by kernel_rfl) (by kernel_rfl) (by kernel_rfl) rfl rfl (by simp) (by simp) nl Di (mq Ns ⟨_,_,_,rfl⟩) (cl 1 0) (λb W K Q _ _ h=>by go_simp;exact h) (Om rfl (by kernel_rfl) rfl underlying91 rfl Di λW ⟨_,_,h⟩=>h.range J (by omega) (by omega)) λW hX=>?_;simp only[Act.put,Yn,Y9,Yw];clear i;(try go_wp2);exact f.ret hX rfl rfl I.o
  .have j1:decide ((700:Int)<(s.size:Int))=false:=Zt (by omega);have dw:Hid (∀W,Calls oa 24 #[La s] W λe w'=>e=na (Sa ((Ky (Ke s)).map Kf).toArray)/\Ba W w'):=λW=>by have h1:Calls oa 24 #[La (Kg (Ke s))] W λe w'=>e=na (Sa ((Ky (Ke s)).map Kf).toArray)/\Ba W w':=Dr (Kg (Ke s)) W (by rw[me,ta];omega);rw[Wm]at h1;exact h1
   have HQ:Hid (∀w:Fa,(Op.equalIn 10000 39 (Sa ((Ky (Ke s)).map Kf).toArray) (Sa (h.map Kf).toArray)).run oa w=.ok (decide (Ky (Ke s)=h)) w):=Ft _ _ (Bh _) HX.1 (Lk _) HX.2.1;have H7:Hid (¬700<(Ke s).length):=by rw[ta];exact ay
   clear ay;go_upto_region 6 with fail
   clear z0 M N O P R S T U;have aj:=ah.o;have ai:=ag.o;have ei:=HQ.o;refine ml (C:=λW=>Fe w h W/\W.heap[w.heap.size+1+1+1]? =some (ma #[Ia ka 0,Ia ka 0,Ia ka 0,Ia ka 0] 91 (0,0))) (by kernel_rfl) (by kernel_rfl) ⟨aj.step (Zb _ _).drew,ai⟩ ?_;iterate 3 (go_big_quiet_step (exact λ_ _=>rfl))
   go_big_quiet_step ((intro hS _;rw[HC.o _ hS.below];exact⟨rfl,rfl⟩))
   go_big_quiet_step (exact λhS hF=>(dw _).mono λe w9 hb=>⟨hb.1,hS.step hb.2,(hb.2.block _ hS.lt).trans hF⟩)
   refine yq rfl 39 _ rfl w.heap.size 0 rfl (h.map Kf) _ (λW hS=>hS.1.want) underlying39 rfl eu ?_;simp only[Act.put,Yn,Y9,Yw];go_big_quiet_step (exact λ_ _=>rfl)
   refine X4 λW hS=>?_;clear ei;have ac:=Hq hS;clear hS;obtain⟨M,N,O,P,R,S,T,U⟩:=Wg ac.2;clear aj ai;by_cases au:Ky (Ke s)=h
   .rw[Z5 au];have ch:Hid (Pc (Ke s) h za=match Gb (Ke s)with | .error e=>.error e| .ok x=>N9 6 x za):=by show Pc (Ke s) h za=_;unfold Pc;rw[Zj H7.o,Zj (λk=>k au)];rfl
    have z5:=HC W ac.1.below;clear au;go_wp2_with fail
    refine(Lw s _).mono ?_;rintro e w2 ⟨cf,bl,az⟩;have cq:=ac.1.step cf;have cj:=(cf.block _ ac.1.lt).trans ac.2;have aq:=Hq cq;have bm:=Hq cj;have dq:=cq.lt;have cw:¬w.heap.size+1+1+1=w2.heap.size:=by omega
    clear M N O P R S T U z5;obtain⟨M,N,O,P,R,S,T,U⟩:=Wg cj;clear cq cj;cases hx:Gb (Ke s)with
    |error er=>
     obtain⟨hp,rfl⟩:=bl er hx;have I:Hid (∀r w',Hx Ns er.num er.at_ w r w'->Ah l k h za w r w'):=λr w' X=>bq _ _ Ns r w' ⟨_,_,_,rfl⟩ (λt Y=>by rw[ch.o,hx]at Y;cases Y) (λeh V=>by rw[ch.o,hx]at V;cases V;exact⟨rfl,rfl,hp⟩) X;obtain⟨ee,cu⟩:=nm er.num;obtain⟨ea,bf⟩:=nm er.at_;rw[cu]at hp;rw[cu,bf]at I⊢;have f9:((ee:Int)==0)=false:=by simp;omega
     clear bl az hx cf hp cu bf;go_upto_region 11 with fail
     obtain⟨Z,L,H,-⟩:=aq.lay bm (Ia ka (ee:Int)) (Ia ka 0) (Ia ka 0) (Ia ka (ea:Int)) [Oa false,La ⟨#[]⟩,Ma none 0 0,Ia ka 0,Ia ka 0];obtain⟨xb,al⟩:=nm w2.heap.size;have ae:Hid (w.heap.size+1+1+1<xb):=by rw[<-al];exact aq.lt
     rw[al]at H⊢;generalize World.alloc _ (ma _ 152)=W9 at Z L H⊢;clear M N O P R S T U dq cw al aq bm ac ah ag;obtain⟨M,N,O,P,R,S,T,U⟩:=Wg L;have bc:=Hq Z;have bn:=Hq L;have ao:Hid (W9.rangeAt xb 0 (Ni Ns)):=JI H;clear Z L H;go_upto_region 13 with fail
     clear M N O P R S T U;obtain⟨d,a⟩:=nm W9.drew;have f:Hid (Fe w h d):=by rw[<-a];exact bc.step (Zb _ _).drew
     have J:Hid (d.rangeAt (w.heap.size+1+1+1) 0 (Kz ee ea)):=by rw[<-a];exact Wi bn.o
     have ba:Hid (d.rangeAt xb 0 (Ni Ns)):=by rw[<-a];exact ao.o
     have i:SE d (w.heap.size+1) (w.heap.size+1+1) (Ni Ns) (Kz ee ea) false false W9.drew:=by rw[a];exact f.se Ns ee ea
     clear a;refine Vj (by kernel_rfl) ?_;change wpAny _ _ _ _ _ _ _ (World.drew _);refine SE.two i (by omega) rfl (by kernel_rfl) (by kernel_rfl) rfl rfl rfl rfl rfl rfl (by kernel_rfl) (by kernel_rfl) (by kernel_rfl) (by kernel_rfl) rfl rfl (by simp) (by simp) nl Di (mq Ns ⟨_,_,_,rfl⟩) (cl ee ea) (Om rfl (by kernel_rfl) rfl underlying152 rfl nl λW ⟨_,_,h⟩=>h.range ba (by have :=ae.o;omega) (by have :=ae.o;omega)) (Om rfl (by kernel_rfl) rfl underlying91 rfl Di λW ⟨_,_,h⟩=>h.range J (by omega) (by omega)) λW hX=>?_;simp only[Act.put,Yn,Y9,Yw];clear i;(try go_wp2);exact f.ret hX rfl rfl I.o
    |ok x=>
     obtain⟨y,D,B,z,u,hT,rfl⟩:=az x hx;have hg:=zA (Qk s) hx;obtain⟨v,dm⟩:=nm x.ra;rw[dm]at hT⊢;have bv:Hid (Tree Ni kP 6 w2 (λj=>W.heap.size<=j) ⟨0,v,y,D,Ma B z u⟩ x/\x.Md 2048/\Gb (Ke s)=.ok x):=⟨hT,hg,hx⟩;clear bl az hx cf hT hg dm;go_upto_region 11 with fail
     obtain⟨Z,L,H,k4⟩:=aq.lay bm (Ia ka 0) (Ia ka 0) (Ia ka 0) (Ia ka 0) [Oa y,La D,Ma B z u,Ia ka 0,Ia ka (v:Int)];have dk:w.heap.size+1+1+1<W.heap.size:=ac.1.lt;have k6:Tree Ni kP 6 (World.alloc ((((w2.setCell ⟨w.heap.size+1+1+1,0,none⟩ (Ia ka 0)).setCell ⟨w.heap.size+1+1+1,1,none⟩ (Ia ka 0)).setCell ⟨w.heap.size+1+1+1,2,none⟩ (Ia ka 0)).setCell ⟨w.heap.size+1+1+1,3,none⟩ (Ia ka 0)) (ma [Oa y,La D,Ma B z u,Ia ka 0,Ia ka (v:Int)].toArray 152)) (λj=>w.heap.size+1+1+1<j) ⟨0,v,y,D,Ma B z u⟩ x:=bv.1.Cb (λj q=>Zm dk q) (by simp) λj hj hl=>k4 j (by have :W.heap.size<=j:=hj;omega) hl;obtain⟨xb,al⟩:=nm w2.heap.size;have ae:Hid (w.heap.size+1+1+1<xb):=by rw[<-al];exact aq.lt
     rw[al]at H⊢;generalize World.alloc _ (ma _ 152)=W9 at Z L H k6⊢;clear M N O P R S T U dq cw al k4 dk aq bm ah ag;obtain⟨M,N,O,P,R,S,T,U⟩:=Wg L;obtain⟨y0,y1,y2,y3,y4⟩:=qe H;have bc:=Hq Z;have bn:=Hq L;have ao:Hid (W9.rangeAt xb 0 (Ni ⟨0,v,y,D,Ma B z u⟩)/\xb<W9.heap.size):=⟨JI H,(Zg.1 H).1⟩;have de:=Hq k6;have dc:=Hq (fF 6 W9 _ _ x za k6 bv.2.1 HX.2.2.1);clear Z L H k6;go_wp2_with fail
     refine dc.mono ?_;rintro e w3 ⟨rfl,ar⟩;have df:=Hq (bc.step ar);have ci:=Hq ((ar.block _ bc.lt).trans bn.o);have dg:Hid (w3.rangeAt xb 0 (Ni ⟨0,v,y,D,Ma B z u⟩)):=zc ao.1 (ar.block _ ao.2);have dh:=Hq (de.below ar);have di:Hid (xb<w3.heap.size):=Zm ao.2 ar.size;clear M N O P R S T U y0 y1 y2 y3 y4 ar dc bc bn ao de;obtain⟨M,N,O,P,R,S,T,U⟩:=Wg ci.o;have am:Hid (Pc (Ke s) h za=N9 6 x za):=by have :=ch.o;rw[bv.2.2]at this;exact this
     cases hrd:N9 6 x za with
     |error er=>
      rw[hrd]at am;have bi:Td (.error er)=Ki 8 0 0 er.at_:=rfl;rw[bi];have dr:=YO 6 x za er hrd;have I:Hid (∀r w',Hx ⟨0,v,y,D,Ma B z u⟩ 8 er.at_ w r w'->Ah l k h za w r w'):=λr w' X=>bq _ _ ⟨0,v,y,D,Ma B z u⟩ r w' ⟨_,_,_,rfl⟩ (λt Y=>by rw[am.o]at Y;cases Y) (λeh V=>by rw[am.o]at V;cases V;exact⟨dr,rfl,by omega⟩) X;obtain⟨ea,bf⟩:=nm er.at_;rw[bf]at I⊢;clear hrd bi dr bf;go_upto_region 13 with fail
      obtain⟨Z,L,H,k4⟩:=df.laid ci (Ia ka ((8:Nat):Int)) (Ia ka 0) (Ia ka 0) (Ia ka ((ea:Nat):Int));have k5:((((w3.setCell ⟨w.heap.size+1+1+1,0,none⟩ (Ia ka ((8:Nat):Int))).setCell ⟨w.heap.size+1+1+1,1,none⟩ (Ia ka 0)).setCell ⟨w.heap.size+1+1+1,2,none⟩ (Ia ka 0)).setCell ⟨w.heap.size+1+1+1,3,none⟩ (Ia ka ((ea:Nat):Int))).rangeAt xb 0 (Ni ⟨0,v,y,D,Ma B z u⟩):=zc dg (H.block _ di (by have :=ae.o;omega));have k6:Tree Ni kP 6 ((((w3.setCell ⟨w.heap.size+1+1+1,0,none⟩ (Ia ka ((8:Nat):Int))).setCell ⟨w.heap.size+1+1+1,1,none⟩ (Ia ka 0)).setCell ⟨w.heap.size+1+1+1,2,none⟩ (Ia ka 0)).setCell ⟨w.heap.size+1+1+1,3,none⟩ (Ia ka ((ea:Nat):Int))) (λj=>w.heap.size+1+1+1<j) ⟨0,v,y,D,Ma B z u⟩ x:=dh.Cb (λ_ q=>q) H.size λj hj hl=>H.block j hl (by omega);generalize ((((w3.setCell ⟨w.heap.size+1+1+1,0,none⟩ (Ia ka ((8:Nat):Int))).setCell ⟨w.heap.size+1+1+1,1,none⟩ (Ia ka 0)).setCell ⟨w.heap.size+1+1+1,2,none⟩ (Ia ka 0)).setCell ⟨w.heap.size+1+1+1,3,none⟩ (Ia ka ((ea:Nat):Int)))=W8 at Z L H k4 k5 k6⊢;obtain⟨d,a⟩:=nm W8.drew;have f:Hid (Fe w h d):=by rw[<-a];exact Z.step (Zb _ _).drew
      have J:Hid (d.rangeAt (w.heap.size+1+1+1) 0 (Kz 8 ea)):=by rw[<-a];exact Wi L
      have ba:Hid (d.rangeAt xb 0 (Ni ⟨0,v,y,D,Ma B z u⟩)):=by rw[<-a];exact k5
      have dj:Hid (Tree Ni kP 6 d (λj=>w.heap.size+1+1+1<j) ⟨0,v,y,D,Ma B z u⟩ x):=by rw[<-a];exact k6.below (Zb _ _).drew
      have i:SE d (w.heap.size+1) (w.heap.size+1+1) (Ni ⟨0,v,y,D,Ma B z u⟩) (Kz 8 ea) false false W8.drew:=by rw[a];exact f.se ⟨0,v,y,D,Ma B z u⟩ 8 ea
      clear a Z L H k4 k5 k6 M N O P R S T U;refine Vj (by kernel_rfl) ?_;change wpAny _ _ _ _ _ _ _ (World.drew _);refine SE.two i (by omega) rfl (by kernel_rfl) (by kernel_rfl) rfl rfl rfl rfl rfl rfl (by kernel_rfl) (by kernel_rfl) (by kernel_rfl) (by kernel_rfl) rfl rfl (by simp) (by simp) nl Di (mq ⟨0,v,y,D,Ma B z u⟩ ⟨_,_,_,rfl⟩) (cl 8 ea) (Om rfl (by kernel_rfl) rfl underlying152 rfl nl λW ⟨_,_,h⟩=>h.range ba (by have :=ae.o;omega) (by have :=ae.o;omega)) (Om rfl (by kernel_rfl) rfl underlying91 rfl Di λW ⟨_,_,h⟩=>h.range J (by omega) (by omega)) λW hX=>?_;simp only[Act.put,Yn,Y9,Yw];clear i;(try go_wp2);exact f.ret hX rfl rfl I.o
     |ok t=>
      rw[hrd]at am;have bi:Td (.ok t)=Ki 0 0 0 0:=rfl;rw[bi];have dz:=Hq hrd;clear hrd bi;go_upto_region 13 with fail
      obtain⟨Z,L,H,k4⟩:=df.laid ci (Ia ka ((0:Nat):Int)) (Ia ka 0) (Ia ka 0) (Ia ka ((0:Nat):Int));have k5:((((w3.setCell ⟨w.heap.size+1+1+1,0,none⟩ (Ia ka ((0:Nat):Int))).setCell ⟨w.heap.size+1+1+1,1,none⟩ (Ia ka 0)).setCell ⟨w.heap.size+1+1+1,2,none⟩ (Ia ka 0)).setCell ⟨w.heap.size+1+1+1,3,none⟩ (Ia ka ((0:Nat):Int))).rangeAt xb 0 (Ni ⟨0,v,y,D,Ma B z u⟩):=zc dg (H.block _ di (by have :=ae.o;omega));have k6:Tree Ni kP 6 ((((w3.setCell ⟨w.heap.size+1+1+1,0,none⟩ (Ia ka ((0:Nat):Int))).setCell ⟨w.heap.size+1+1+1,1,none⟩ (Ia ka 0)).setCell ⟨w.heap.size+1+1+1,2,none⟩ (Ia ka 0)).setCell ⟨w.heap.size+1+1+1,3,none⟩ (Ia ka ((0:Nat):Int))) (λj=>w.heap.size+1+1+1<j) ⟨0,v,y,D,Ma B z u⟩ x:=dh.Cb (λ_ q=>q) H.size λj hj hl=>H.block j hl (by omega);generalize ((((w3.setCell ⟨w.heap.size+1+1+1,0,none⟩ (Ia ka ((0:Nat):Int))).setCell ⟨w.heap.size+1+1+1,1,none⟩ (Ia ka 0)).setCell ⟨w.heap.size+1+1+1,2,none⟩ (Ia ka 0)).setCell ⟨w.heap.size+1+1+1,3,none⟩ (Ia ka ((0:Nat):Int)))=W8 at Z L H k4 k5 k6⊢;obtain⟨d,a⟩:=nm W8.drew;have f:Hid (Fe w h d):=by rw[<-a];exact Z.step (Zb _ _).drew
      have J:Hid (d.rangeAt (w.heap.size+1+1+1) 0 (Kz 0 0)):=by rw[<-a];exact Wi L
      have ba:Hid (d.rangeAt xb 0 (Ni ⟨0,v,y,D,Ma B z u⟩)):=by rw[<-a];exact k5
      have dj:Hid (Tree Ni kP 6 d (λj=>w.heap.size+1+1+1<j) ⟨0,v,y,D,Ma B z u⟩ x):=by rw[<-a];exact k6.below (Zb _ _).drew
      have i:SE d (w.heap.size+1) (w.heap.size+1+1) (Ni ⟨0,v,y,D,Ma B z u⟩) (Kz 0 0) false false W8.drew:=by rw[a];exact f.se ⟨0,v,y,D,Ma B z u⟩ 0 0
      clear a Z L H k4 k5 k6 M N O P R S T U;have I:Hid (∀r w',Hx ⟨0,v,y,D,Ma B z u⟩ 0 0 w r w'->SE d (w.heap.size+1) (w.heap.size+1+1) (Ni ⟨0,v,y,D,Ma B z u⟩) (Kz 0 0) true true w'->Ah l k h za w r w'):=λr w' X du=>by refine⟨X.2,λhk=>absurd HX.2.2.2.2 (by omega),λs' bj=>?_⟩;rw[HX.2.2.2.1]at bj;cases bj;refine⟨(λer V=>by rw[am.o]at V;cases V),λt' Y=>?_⟩;rw[am.o]at Y;cases Y;exact⟨x,_,dz.o,bv.2.1,⟨_,_,_,rfl⟩,dj.Cb (λj q=>by have :w.heap.size+1+1+1<j:=q;omega) (Jq du.size.symm) (λj hj _=>du.block j (by have :w.heap.size+1+1+1<j:=hj;omega) (by have :w.heap.size+1+1+1<j:=hj;omega)),X.1⟩
      refine Vj (by kernel_rfl) ?_;change wpAny _ _ _ _ _ _ _ (World.drew _);refine SE.two i (by omega) rfl (by kernel_rfl) (by kernel_rfl) rfl rfl rfl rfl rfl rfl (by kernel_rfl) (by kernel_rfl) (by kernel_rfl) (by kernel_rfl) rfl rfl (by simp) (by simp) nl Di (mq ⟨0,v,y,D,Ma B z u⟩ ⟨_,_,_,rfl⟩) (cl 0 0) (Om rfl (by kernel_rfl) rfl underlying152 rfl nl λW ⟨_,_,h⟩=>h.range ba (by have :=ae.o;omega) (by have :=ae.o;omega)) (Om rfl (by kernel_rfl) rfl underlying91 rfl Di λW ⟨_,_,h⟩=>h.range J (by omega) (by omega)) λW hX=>?_;simp only[Act.put,Yn,Y9,Yw];clear i;(try go_wp2);exact f.GA hX rfl rfl I.o
   .rw[Zt au];have ak:Pc (Ke s) h za=.error (.base 7):=by unfold Pc;rw[Zj H7.o,Zo au]
    have I:Hid (∀r w',Hx Ns 7 0 w r w'->Ah l k h za w r w'):=λr w' X=>bq 7 0 Ns r w' ⟨_,_,_,rfl⟩ (λt Y=>by rw[ak]at Y;cases Y) (λer V=>by rw[ak]at V;cases V;exact⟨rfl,rfl,by omega⟩) X;clear au ak;go_upto_region 9 with fail
    clear M N O P R S T U;have ah:=Hq ac.1;have ag:=Hq ac.2;obtain⟨q1,q2⟩:=BC ag (Ia ka 7);have G:=Hq (ah.only (Za _) q2);have F:=Hq (Wi q1);clear q1 q2;generalize World.setCell _ ⟨w.heap.size+1+1+1,0,none⟩ (Ia ka 7)=W9 at G F⊢;obtain⟨d,a⟩:=nm W9.drew;have f:Hid (Fe w h d):=by rw[<-a];exact G.step (Zb _ _).drew
    have J:Hid (d.rangeAt (w.heap.size+1+1+1) 0 (Kz 7 0)):=by rw[<-a];exact F.o
    have i:SE d (w.heap.size+1) (w.heap.size+1+1) (Ni Ns) (Kz 7 0) false false W9.drew:=by rw[a];exact f.se Ns 7 0
    clear a G F;refine Vj (by kernel_rfl) ?_;change wpAny _ _ _ _ _ _ _ (World.drew _);refine SE.two i (by omega) rfl (by kernel_rfl) (by kernel_rfl) rfl rfl rfl rfl rfl rfl (by kernel_rfl) (by kernel_rfl) (by kernel_rfl) (by kernel_rfl) rfl rfl (by simp) (by simp) nl Di (mq Ns ⟨_,_,_,rfl⟩) (cl 7 0) (λb W K Q _ _ h=>by go_simp;exact h) (Om rfl (by kernel_rfl) rfl underlying91 rfl Di λW ⟨_,_,h⟩=>h.range J (by omega) (by omega)) λW hX=>?_;simp only[Act.put,Yn,Y9,Yw];clear i;(try go_wp2);exact f.ret hX rfl rfl I.o
 .have i1:(l.length:Int)<=(k:Int):=by omega
  have I:Hid (∀r w',Hx ⟨0,0,false,⟨#[]⟩,Ma none 0 0⟩ 2 0 w r w'->Ah l k h za w r w'):=λr w' X=>⟨X.2,λ_=>⟨_,⟨_,_,_,rfl⟩,X.1⟩,λs hs=>by rw[Vb (by omega)]at hs;cases hs⟩;clear aw aj ai hrow;go_upto_region 9 with fail
  obtain⟨q1,q2⟩:=BC ag (Ia ka 2);have G:=Hq (ah.only (Za _) q2);have F:=Hq (Wi q1);clear q1 q2 M N O P R S T U;generalize Wz.setCell ⟨w.heap.size+1+1+1,0,none⟩ (Ia ka 2)=W9 at G F⊢;obtain⟨d,a⟩:=nm W9.drew;have f:Hid (Fe w h d):=by rw[<-a];exact G.step (Zb _ _).drew
  have J:Hid (d.rangeAt (w.heap.size+1+1+1) 0 (Kz 2 0)):=by rw[<-a];exact F.o
  have i:SE d (w.heap.size+1) (w.heap.size+1+1) (Ni Ns) (Kz 2 0) false false W9.drew:=by rw[a];exact f.se Ns 2 0
  clear a G F;refine Vj (by kernel_rfl) ?_;change wpAny _ _ _ _ _ _ _ (World.drew _);refine SE.two i (by omega) rfl (by kernel_rfl) (by kernel_rfl) rfl rfl rfl rfl rfl rfl (by kernel_rfl) (by kernel_rfl) (by kernel_rfl) (by kernel_rfl) rfl rfl (by simp) (by simp) nl Di (mq Ns ⟨_,_,_,rfl⟩) (cl 2 0) (λb W K Q _ _ h=>by go_simp;exact h) (Om rfl (by kernel_rfl) rfl underlying91 rfl Di λW ⟨_,_,h⟩=>h.range J (by omega) (by omega)) λW hX=>?_;simp only[Act.put,Yn,Y9,Yw];clear i;(try go_wp2);exact f.ret hX rfl rfl I.o
end
section
theorem jP:∀(n:Nat) (x:It) (za:Nat) (er:Er),N9 n x za=.error er->∃a,er=Ay a\/er=.place a (.noNode (.base 3)):=by
 intro n;induction n with
 |zero=>intro x za er h;rw[N9]at h;cases h;exact⟨_,.inl rfl⟩
 |succ n ih=>
  intro x za er h;have f:∀y d e,Nw (N9 n) y d=.error e->∃a,e=Ay a\/e=.place a (.noNode (.base 3)):=λy d e he=>by
   cases y with
   |text a b s=>cases he
   |list a b l=>exact ih _ _ _ he
  have g:∀(l:List It) d e,Kw (N9 n) d l=.error e->∃a,e=Ay a\/e=.place a (.noNode (.base 3)):=by
   intro l;induction l with
   |nil=>intro d e he;cases he
   |cons y l ihl=>
    intro d e he;rw[Kw]at he;split at he
    .cases hk:Kw (N9 n) d l with
     |error e'=>rw[hk]at he;cases he;exact ihl _ _ hk
     |ok _=>rw[hk]at he;cases he
    .cases hr:Nw (N9 n) y d with
     |error e'=>rw[hr]at he;cases he;exact f _ _ _ hr
     |ok t=>
      rw[hr]at he;simp only at he;cases hk:Kw (N9 n) d l with
      |error e'=>rw[hk]at he;cases he;exact ihl _ _ hk
      |ok _=>rw[hk]at he;cases he
  cases x with
  |text a b s=>rw[N9]at h;cases h;exact⟨_,.inl rfl⟩
  |list a b l=>
   rw[N9]at h;change To (N9 n) a l za=.error er at h;by_cases c:l.length=2
   .obtain⟨u,v,rfl⟩:=nr c;rw[oq]at h;unfold Gw at h;split at h;.cases h;exact⟨_,.inl rfl⟩
    .split at h;.cases h;exact⟨_,.inr rfl⟩
     .split at h
      .split at h;.cases h;exact⟨_,.inl rfl⟩
       .cases h
      .unfold Pm at h;split at h;.cases h;exact⟨_,.inl rfl⟩
       .split at h
        .rename_i e' he
         cases h;exact f _ _ _ he
        .cases h
   .rw[vm c]at h;split at h
    .unfold Pv at h;split at h;.cases h;exact⟨_,.inl rfl⟩
     .split at h
      .rename_i e' he
       cases h;exact g _ _ _ he
      .cases h
    .cases h;exact⟨_,.inl rfl⟩
theorem MP{c h:List Nat}{za:Nat}{er:Er}(hc:∀y∈c,y<256)(hs:Pc c h za=.error er):er.proof=0:=by
 unfold Pc at hs;split at hs;.cases hs;rfl
 .split at hs;.cases hs;rfl
  .cases hx:Gb c with
   |error e=>rw[hx]at hs;cases hs;exact(lB hc hx).2.2.2.2
   |ok x=>
    rw[hx]at hs;obtain⟨a,rfl|rfl⟩:=jP 6 x za er hs;.rfl
    .rfl
theorem FK{w:Fa}{b:Nat}{z0 z1 z2 z3 z4 z5 z6 z7 z8 y0 y1 y2 y3 y4:Value}{t:TypeId}(h:w.heap[b]? =some (ma #[z0,z1,z2,z3,z4,z5,z6,z7,z8] t (0,0))):(w.setCells b 0 [y0,y1,y2,y3,y4]).heap[b]? =some (ma #[y0,y1,y2,y3,y4,z5,z6,z7,z8] t (0,0)):=by simp only[World.setCells];exact De (De (De (De (De (cs:=[z0,z1,z2,z3,z4,z5,z6,z7,z8]) h 0 _) 1 _) 2 _) 3 _) 4 _
theorem FN{W:Fa}{b:Nat}{y0 y1 y2 y3 y4 y5 y6 y7 y8:Value}{t:TypeId}(h:W.heap[b]? =some (ma #[y0,y1,y2,y3,y4,y5,y6,y7,y8] t (0,0))):W.rangeAt b 0 [y0,y1,y2,y3,y4,y5,y6,y7,y8]:=by
 obtain⟨a,c,d,e,f,g,i,k,l,-⟩:=rq h;intro j u hu;rw[Zf];match j,hu with
 |0,hu=>cases hu;exact a
 |1,hu=>cases hu;exact c
 |2,hu=>cases hu;exact d
 |3,hu=>cases hu;exact e
 |4,hu=>cases hu;exact f
 |5,hu=>cases hu;exact g
 |6,hu=>cases hu;exact i
 |7,hu=>cases hu;exact k
 |8,hu=>cases hu;exact l
 |j+9,hu=>simp at hu
structure Oj(w:Fa)(rb sb wb:Nat)(e:El)(r:Da)(ov fd:Bool)(v:Da)(hk:List Nat)(W:Fa):Prop where
 below:Ba w W
 lo:w.heap.size<=rb/\w.heap.size<=sb/\w.heap.size<=wb
 ne:rb≠sb/\rb≠wb/\sb≠wb
 Qd:W.heap[rb]? =some (ma #[Ia ka 0,Ia ka 0,Ia ka 0,Ia ka 0] 91 (0,0))
 Mk:W.heap[sb]? =some (ma (N3 e r ov fd v).toArray 169 (0,0))
 want:W.rangeAt wb 0 (hk.map Kf)
 kg:W.there wb 0 32
 Fs:wb<W.heap.size
section
variable{w W W':Fa}{rb sb wb:Nat}{e:El}{r:Da}{ov fd:Bool}{v:Da}{hk:List Nat}
theorem Oj.step(h:Oj w rb sb wb e r ov fd v hk W)(hb:Ba W W'):Oj w rb sb wb e r ov fd v hk W':=⟨h.below.va hb,h.lo,h.ne,(hb.block _ (Zg.1 h.Qd).1).trans h.Qd,(hb.block _ (Zg.1 h.Mk).1).trans h.Mk,zc h.want (hb.block _ h.Fs),ve h.kg (hb.block _ h.Fs),Zm h.Fs hb.size⟩
theorem Oj.zq(h:Oj w rb sb wb e r ov fd v hk W)(e':El)(r':Da)(ov' fd':Bool)(v':Da):Oj w rb sb wb e' r' ov' fd' v' hk (W.setCells sb 0 (N3 e' r' ov' fd' v')):=by obtain⟨b,c,d,f⟩:=Og sb (N3 e' r' ov' fd' v') 0 W;have a:∀k,k≠sb->(W.setCells sb 0 (N3 e' r' ov' fd' v')).heap[k]? =W.heap[k]? :=λk hk=>Qf _ _ _ _ _ hk;exact⟨Cg h.below h.lo.2.1 _ _,h.lo,h.ne,(a _ h.ne.1).trans h.Qd,ID h.Mk,zc h.want (a _ h.ne.2.2.symm),ve h.kg (a _ h.ne.2.2.symm),by rw[b];exact h.Fs⟩
theorem Oj.Ir(h:Oj w rb sb wb e r ov fd v hk W){hk':List Nat}(hl:hk'.length=32):Oj w rb sb wb e r ov fd v hk' (W.setCells wb 0 (hk'.map Kf)):=by obtain⟨b,c,d,f⟩:=Og wb (hk'.map Kf) 0 W;have a:∀k,k≠wb->(W.setCells wb 0 (hk'.map Kf)).heap[k]? =W.heap[k]? :=λk hk=>Qf _ _ _ _ _ hk;exact⟨Cg h.below h.lo.2.2 _ _,h.lo,h.ne,(a _ h.ne.2.1).trans h.Qd,(a _ h.ne.2.2).trans h.Mk,Zn _ _ _ _ (by rw[Zl,hl];exact h.kg),Xb h.kg _ _ _,by rw[b];exact h.Fs⟩
theorem Oj.Oq(h:Oj w rb sb wb e r ov fd v hk W)(e':El):Oj w rb sb wb e' r ov fd v hk (W.setCells sb 0 (Ni e')):=by obtain⟨b,c,d,f⟩:=Og sb (Ni e') 0 W;have a:∀k,k≠sb->(W.setCells sb 0 (Ni e')).heap[k]? =W.heap[k]? :=λk hk=>Qf _ _ _ _ _ hk;exact⟨Cg h.below h.lo.2.1 _ _,h.lo,h.ne,(a _ h.ne.1).trans h.Qd,FK h.Mk,zc h.want (a _ h.ne.2.2.symm),ve h.kg (a _ h.ne.2.2.symm),by rw[b];exact h.Fs⟩
end
def U8(F:Nat->Prop)(x0:It)(r0:Da)(W:Fa)(e:El)(r:Da)(ov fd:Bool)(v:Da)(m:Nat):Prop:=(∃p m c,e.sub=Ma p m c)/\((ov=true/\m=0/\∃o,Pp 6 x0 r0=.over o/\fd=o.isSome/\v=o.getD ⟨#[]⟩)\/
  (ov=false/\fd=false/\v=⟨#[]⟩/\∃y n za,m=n+1/\Tree Ni kP n W F e y/\Pp 6 x0 r0=Pp n y r/\qd (Ke r)/\y.Md 2048/\za<=64/\r.size=64-za/\((∃a b s,y=.text a b s)\/(y.So=true/\∃t,N9 n y za=.ok t))))
end
end Go.Proofs.YtpfbdlnibdfcoaaGreatDoor
