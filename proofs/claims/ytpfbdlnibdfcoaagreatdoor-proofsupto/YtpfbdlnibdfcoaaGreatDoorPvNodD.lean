import Derived.Test.YtpfbdlnibdfcoaaGreatDoorPvNodC
import Derived.Test.YtpfbdlnibdfcoaaGreatDoorPvText
namespace Go.Proofs.YtpfbdlnibdfcoaaGreatDoor
open Go.RowKit Tryz
open Value renaming int->Ia,string->La,slice->Ma,bool->Oa,pointer->Qa,agg->Sa,tuple->Wa,iface->ca,nilIface->da
open IntKind renaming i64->ka
open Obj renaming cells->ma
open Ending renaming returned->na
open Tryz renaming prog->oa
set_option maxRecDepth 100000
set_option maxHeartbeats 0
def Gt(q:Da):Nd->Nd
 | .leaf p v=>.leaf (q++p) v
 | .ext p t=>.ext (q++p) t
 | .br ks=>Gj q (.br ks)
 |t=>t
def Ph:Nd->FuncId
 | .no=>0
 | .leaf _ _=>268
 | .ext _ _=>309
 | .br _=>299
 | .stub _=>265
theorem MF(t:Nd)(ht:t≠ .no)(a:Addr)(w:Fa):(Go.method 535 (K9 t) (Qa (some a)) "twigs/tree.behind").run oa w=.ok (Ph t,Qa (some a)) w:=by
 cases t with
 |no=>exact absurd rfl ht
 |leaf _ _=>kernel_rfl
 |ext _ _=>kernel_rfl
 |br _=>kernel_rfl
 |stub _=>kernel_rfl
theorem aI(t:Nd)(ht:t≠ .no)(args:Array Value)(w:Fa):(callFunc (Ph t) args).run oa w=.ok (.enter (Ph t) args) w:=by
 cases t with
 |no=>exact absurd rfl ht
 |leaf _ _=>kernel_rfl
 |ext _ _=>kernel_rfl
 |br _=>kernel_rfl
 |stub _=>kernel_rfl
def Pk(B:Nat)(S:Bb)(w:Fa)(t:Nd)(e:Ending)(w':Fa):Prop:=∃v S',e=na (Wa #[v,da])/\od S' v t/\Fr B S S' w w'
theorem size_append(a b:Da):(a++b).size=a.size+b.size:=by rw[<-ta,Iq,Zq,ta,ta]
variable{B b:Nat}{S:Bb}{w:Fa}{p q:Da}
theorem DQ{v:Da}(hf:ua B S w)(hb:S b=some (.leaf p v))(hq:Oc (q++p)):Calls oa 268 #[Qa (some ⟨b,0,none⟩),La q] w (Pk B S w (.leaf (q++p) v)):=by
 obtain⟨f,g⟩:=Fw hf hb;have a:=hf.ok b _ hb;rw[Nd.ok]at a;have c:=hf.lt hb;have e:=λW=>run_string_add_sum (P:=oa) W q p (by have :=hq.1;rw[size_append]at this;omega);obtain⟨x,h⟩:=nm (q++p);rw[h]at hq e⊢;have d:ua B S w.drew:=hf.Cb (Za _) λ_ _ _=>rfl;have j:Hid (Fr B S (S.put w.heap.size (.leaf x v)) w (w.drew.alloc (ma #[La ⟨#[]⟩,La x,La v] 304))):=(Fr.xa hf (Kb (Zb _ _))).trans (Fr.leaf d hq a.2);clear hf hb a hq h d;go_enter func268,ntmps268;go_upto_region 1 with fail
 go_region_held3 (λi=>i.cell? ⟨b,1,none⟩=some (La p)/\i.cell? ⟨b,2,none⟩=some (La v)) (first|exact⟨f,g⟩|exact⟨(Z8 _ _ _ c).trans f,(Z8 _ _ _ c).trans g⟩) (fail)
 all_goals go_wp2
 all_goals go_ret2
 all_goals exact⟨_,_,rfl,.inr ⟨by simp,w.heap.size,rfl,Bb.Ob _ _ _⟩,j.o⟩
variable{t:Nd}
theorem uR(hf:ua B S w)(hb:S b=some (.ext p t))(hq:Oc (q++p)):Calls oa 309 #[Qa (some ⟨b,0,none⟩),La q] w (Pk B S w (.ext (q++p) t)):=by
 obtain⟨n,i,j,c⟩:=RG hf hb;have a:=hf.ok b _ hb;rw[Nd.ok]at a;obtain⟨d,rfl,-⟩:=c.full a.2.2;have e:=hf.lt hb;have g:=λW=>run_string_add_sum (P:=oa) W q p (by have :=hq.1;rw[size_append]at this;omega);obtain⟨x,k⟩:=nm (q++p);rw[k]at hq g⊢;have f:ua B S w.drew:=hf.Cb (Za _) λ_ _ _=>rfl;have m:Hid (Fr B S (S.put w.heap.size (.ext x t)) w (w.drew.alloc (ma #[La ⟨#[]⟩,La x,ca (K9 t) (Qa (some ⟨d,0,none⟩))] 393))):=(Fr.xa hf (Kb (Zb _ _))).trans (Fr.alloc f (t:=.ext x t) (h:=⟨#[]⟩) (r:=[La x,ca (K9 t) (Qa (some ⟨d,0,none⟩))]) (Bd.empty (by simp)) ⟨_,rfl,c⟩ (by rw[Nd.ok];exact⟨hq,a.2⟩));clear hf hb a hq k c f;go_enter func309,ntmps309;go_upto_region 1 with fail
 go_region_held3 (λl=>l.cell? ⟨b,1,none⟩=some (La p)/\l.cell? ⟨b,2,none⟩=some (ca (K9 t) (Qa (some ⟨d,0,none⟩)))) (first|exact⟨i,j⟩|exact⟨(Z8 _ _ _ e).trans i,(Z8 _ _ _ e).trans j⟩) (fail)
 all_goals go_wp2
 all_goals go_ret2
 all_goals exact⟨_,_,rfl,.inr ⟨by simp,w.heap.size,rfl,Bb.Ob _ _ _⟩,m.o⟩
variable{ks:List Nd}
theorem XM(hf:ua B S w)(hb:S b=some (.br ks))(hq:Oc q):Calls oa 299 #[Qa (some ⟨b,0,none⟩),La q] w (Pk B S w (Gj q (.br ks))):=by
 have f:=Hq (Dx (p:=q) (v:=ca 388 (Qa (some ⟨b,0,none⟩))) hf (.inr ⟨by simp,b,rfl,hb⟩) (by simp) hq (hf.ok b _ hb));clear hf hb hq;go_enter func299,ntmps299;go_wp2_with fail
 refine f.mono ?_;rintro e i ⟨h,g,rfl,c,a⟩;have d:=Hq (A2 c a);clear c a;go_wp2;go_ret2;exact⟨_,_,rfl,d.o⟩
def Nd.room(q:Da):Nd->Prop
 | .leaf p _=>Oc (q++p)
 | .ext p _=>Oc (q++p)
 | .br _=>Oc q
 |_=>False
theorem JG(hf:ua B S w)(hb:S b=some t)(hq:t.room q):Calls oa (Ph t) #[Qa (some ⟨b,0,none⟩),La q] w (Pk B S w (Gt q t)):=by
 cases t with
 |no=>exact hq.elim
 |leaf p v=>exact DQ hf hb hq
 |ext p t=>exact uR hf hb hq
 |br ks=>exact XM hf hb hq
 |stub h=>exact hq.elim
def Nd.rf:Nd->Bool
 | .no=>true
 |_=>false
theorem Nd.sf:t.rf=true↔t=.no:=by cases t<;>simp[Nd.rf]
def Gu(ks:List Nd):Nat->Nat
 |0=>0
 |k+1=>Gu ks k+(if(ks.getD k .no).rf then 0 else 1)
def N6(ks:List Nd):Nat->Nat
 |0=>0
 |k+1=>if(ks.getD k .no).rf then N6 ks k else k
theorem DF(ks:List Nd):∀k,Gu ks k<=k
 |0=>Za _
 |k+1=>by have :=DF ks k;rw[Gu];split<;>omega
theorem MA(ks:List Nd):∀k,N6 ks k<=k
 |0=>Za _
 |k+1=>by have :=MA ks k;rw[N6];split<;>omega
theorem qn(ks:List Nd):∀k,0<k->N6 ks k<k
 |0,h=>absurd h (Nat.lt_irrefl _)
 |k+1,_=>by have :=MA ks k;rw[N6];split<;>omega
theorem IC(ks:List Nd):∀k,0<Gu ks k->(ks.getD (N6 ks k) .no).rf=false
 |0,h=>by simp[Gu]at h
 |k+1,h=>by
  rw[Gu]at h;rw[N6];by_cases hk:(ks.getD k .no).rf=true;.rw[Zo hk]at h⊢;exact IC ks k (by omega)
  .rw[Zj hk];simpa using hk
theorem uD{c:Nat}(h:c<256):IntKind.u8.wrap (c:Int)=(c:Int):=by simp only[IntKind.wrap,IntKind.bits,IntKind.signed];simp;omega
theorem rD{r:List Value}(rg:w.rangeAt b 1 r)(hk:Kids S r ks):Calls oa 306 #[Qa (some ⟨b,0,none⟩)] w λe w'=>e=na (Wa #[Ia .u8 (N6 ks 16:Nat),Oa (decide (Gu ks 16=1))])/\w'=w:=by
 have H:(oa.info? 384).map (·.size)=some r.length:=by rw[hk.1];kernel_rfl
 have l:=Hq hk;obtain⟨C,z⟩:=nm (Gu ks 16);obtain⟨M,f⟩:=nm (N6 ks 16);obtain⟨bd,g⟩:=nm (decide (C=1));have j:=Hq (A4 z f (by rw[<-f];exact qn ks 16 (by omega):M<16) g);rw[z,f,g];clear hk z f g;go_enter func306,ntmps306;go_wp2_with (refine Zr rfl 384 _ rfl b 1 rfl r _ rg underlying384 rfl H ?_)
 go_loopg [4,5,12] 16 (λgh c m i wr=>∃k,k<=16/\gh=16-k/\i=Ia ka (k:Int)/\c=Ia ka (Gu ks k:Nat)/\m=Ia ka (N6 ks k:Nat)/\wr=w)
 case atStart=>exact⟨0,Xa _,rfl,rfl,rfl,rfl,rfl⟩
 case round=>
  obtain⟨k,hk,rfl,rfl,rfl,rfl,rfl⟩:=hrel;by_cases F:k<16
  .have K:(k:Int)<16:=by omega
   have x:k<r.length:=by have :=l.1;omega
   have v:k<ks.length:=by have :=l.2.1;omega
   have I:=l.2.2 k x v;have J:=λw=>kD r k x l.1 w;obtain⟨u,t⟩:=nm r[k];rw[t]at I;simp only[t]at J;have q:ks.getD k .no=ks[k]:=by rw[Yb,Zk v];rfl
   have D:=DF ks k;have G:=MA ks k;obtain⟨c,p⟩:=nm (Gu ks k);obtain⟨m,s⟩:=nm (N6 ks k);have n:Gu ks (k+1)=c+(if ks[k].rf then 0 else 1):=by rw[Gu,q,p]
   have o:N6 ks (k+1)=if ks[k].rf then m else k:=by rw[N6,q,s]
   rw[p]at D⊢;rw[s]at G⊢;rcases I with⟨hn,rfl⟩|⟨hne,d,rfl,E⟩
   .have a:Hid (Gu ks (k+1)=c/\N6 ks (k+1)=m):=by rw[n,o,hn];exact⟨rfl,rfl⟩
    clear n o p s q t hn;go_wp2;go_roundg (16-(k+1))
    case measure=>omega
    case rel=>exact⟨k+1,by omega,rfl,by simp,by rw[a.1],by rw[a.2],rfl⟩
   .have y:ks[k].rf=false:=by
     cases h:ks[k].rf with
     |false=>rfl
     |true=>exact absurd (Nd.sf.1 h) hne
    have a:Hid (Gu ks (k+1)=c+1/\N6 ks (k+1)=k/\c<=16):=by rw[n,o,y];exact⟨rfl,rfl,by omega⟩
    clear n o p s q t y E hne;go_wp2;go_roundg (16-(k+1))
    case measure=>omega
    case rel=>exact⟨k+1,by omega,rfl,by simp,by rw[a.1];simp,by rw[a.2.1],rfl⟩
  .obtain rfl:k=16:=by omega
   rw[j.1,j.2.1];have f:=j.2.2.1;have L:IntKind.u8.wrap (M:Int)=(M:Int):=uD (by omega);have E:((C:Int)==1)=bd:=by
    rw[<-j.2.2.2];by_cases B:C=1;.simp[B]
    .rw[Zt B];simp;omega
   clear F;go_wp2;go_ret2;exact⟨rfl,rfl⟩
def Pi(ks:List Nd):Nd:=if Gu ks 16=1 then Gt (Kg [N6 ks 16]) (ks.getD (N6 ks 16) .no)else .br ks
def Nd.lead:Nd->Da->Nd->Nd
 | .br ks,q,t=>Pi (ks.set ((Ke q)[0]!) t)
 | .ext _ _,q,t=>Gt q t
 |_,_,t=>t
def Nd.leads:Nd->Da->Nd->Prop
 | .br ks,q,t=>0<q.size/\(Ke q)[0]! <16/\t.ok/\(Gu (ks.set ((Ke q)[0]!) t) 16=1->((ks.set ((Ke q)[0]!) t).getD (N6 (ks.set ((Ke q)[0]!) t) 16) .no).room (Kg [N6 (ks.set ((Ke q)[0]!) t) 16]))
 | .ext _ _,q,t=>t≠ .no/\t.room q
 |_,_,_=>False
def E6:Nd->FuncId
 | .ext _ _=>312
 | .br _=>302
 |_=>0
theorem cS(t:Nd)(ht:t.inner=true)(a:Addr)(w:Fa):(Go.method 535 (K9 t) (Qa (some a)) "twigs/tree.leading").run oa w=.ok (E6 t,Qa (some a)) w:=by
 cases t with
 |ext _ _=>kernel_rfl
 |br _=>kernel_rfl
 |_=>simp[Nd.inner]at ht
theorem IR(t:Nd)(ht:t.inner=true)(args:Array Value)(w:Fa):(callFunc (E6 t) args).run oa w=.ok (.enter (E6 t) args) w:=by
 cases t with
 |ext _ _=>kernel_rfl
 |br _=>kernel_rfl
 |_=>simp[Nd.inner]at ht
variable{v:Value}
theorem CN(hf:ua B S w)(hv:od S v t)(hne:t≠ .no)(hq:t.room q):Calls oa 312 #[Qa (some ⟨b,0,none⟩),La q,v] w (Pk B S w (Gt q t)):=by
 obtain⟨d,rfl,f⟩:=hv.full hne;have h:=Hq (JG hf f hq);have j:=MF t hne;have g:=aI t hne;clear hf hv f hq;go_enter func312,ntmps312;go_wp2_with fail
 refine h.mono ?_;rintro e m ⟨l,k,rfl,c,a⟩;have i:=Hq (A2 c a);clear c a j g;go_wp2;go_ret2;exact⟨_,_,rfl,i.o⟩
theorem VL(hf:ua B S w)(hb:S b=some (.br ks))(hv:od S v t)(hl:(Nd.br ks).leads q t):Calls oa 302 #[Qa (some ⟨b,0,none⟩),La q,v] w (Pk B S w ((Nd.br ks).lead q t)):=by
 obtain⟨V,z,W,f⟩:=hl;rw[Nd.lead];obtain⟨n,hn⟩:=nm ((Ke q)[0]!);rw[hn]at z f⊢;have hc:(q[0]'V).toNat=n:=by rw[<-hn];exact yg q 0 V
 have i0:(0:Int)<(q.size:Int):=by omega
 have G:=hf.ok b _ hb;rw[Nd.ok]at G;obtain⟨rr,hk,rg⟩:=Qx hf hb;have E:=kA G.2 G.1 n W;have Q:=Hq (oC hf rg hk z hv E);obtain⟨a,U⟩:=nm (ks.set n t);rw[U]at f Q E⊢;have HO:=Hq E;clear hf hb hv hn G hk rg U E W z;by_cases y:Gu a 16=1
 .have u:=f y;have g:=IC a 16 (by omega);rw[Pi,Zo y];have hM:=qn a 16 (by omega);have s:=λ(Z:Bb) (w':Fa) (b':Nat) (N:List Value) (h:w'.rangeAt b' 1 N) (k:Kids Z N a)=>rD h k;rw[Z5 y]at s;obtain⟨m,hm⟩:=nm (N6 a 16);rw[hm]at u g hM s⊢;obtain⟨x,hx⟩:=nm (a.getD m .no);rw[hx]at u g⊢;obtain⟨R,K⟩:=nm (Kg [m]);rw[K]at u⊢;have ae:=Hq K;have M:x≠ .no:=λe=>by rw[e]at g;simp[Nd.rf]at g
  have ai:=MF x M;have ah:=aI x M;have HX:=Hq (A2 u hx);have P:=Hq s;have i1:(m:Int)<16:=by omega
  clear f y hm u g s hx K;go_enter func302,ntmps302;go_upto_region 4 with(first| (go_at_call 280;refine Q.mono ?_;rintro e O ⟨c,rfl,F,i⟩;obtain⟨H,l,p⟩:=Qx i.wa (Bb.Ob S c (.br a));have D:=Hq i;have C:=Hq (P _ O c H p l);have r:Hid (Kids (S.put c (.br a)) H a/\O.rangeAt c 1 H/\c<O.heap.size):=⟨l,p,i.wa.lt (Bb.Ob S c (.br a))⟩;clear F i l p)| (go_at_call 306;refine C.mono ?_;rintro e j ⟨rfl,rfl⟩))
  have J:m<H.length:=by have :=r.1.1;omega
  have I:m<a.length:=by have :=r.1.2.1;omega
  have L:=r.1.2.2 m J I;have Y:a[m]=x:=by rw[<-HX.2,Yb,Zk I];rfl
  rw[Y]at L;obtain⟨d,hd,Ak⟩:=L.full M;have c1:j.cell? ⟨c,1+m,none⟩=some (ca (K9 x) (Qa (some ⟨d,0,none⟩))):=by rw[<-hd];exact r.2.1 m _ (by simp[J])
  have F:=r.2.2;have ag:(convert 116 9 (Ma (some ⟨j.heap.size,0,none⟩) 1 1)).run oa (j.alloc (ma #[Ia .u8 (m:Int)] 5)).drew=.ok (La R) (j.alloc (ma #[Ia .u8 (m:Int)] 5)).drew:=by rw[<-ae.o];exact nj _ 116 9 5 underlying116 underlying5 underlying9 (Own.Ff j 5 [m] (by unfold maxLen;simp))
  have HB:Hid (∀o,Calls oa (Ph x) #[Qa (some ⟨d,0,none⟩),La R] (j.drew.alloc o) (Pk B (S.put c (.br a)) (j.drew.alloc o) (Gt R x))):=λo=>JG ((D.wa.Cb (w':=j.drew) (Za _) λ_ _ _=>rfl).below ((Zb _ _).alloc (Za _) o)) Ak HX.1;have ac:Hid (∀o,Fr B S (S.put c (.br a)) w (j.drew.alloc o)):=λo=>D.behind ((Kb (Zb _ _)).alloc (Za _) o);clear J I L Y hd Ak P C Q;go_region_with (refine(HB _).mono ?_;rintro e w3 ⟨v3,S3,rfl,X,T⟩;have HE:Hid (od S3 v3 (Gt R x)/\Fr B S S3 w w3):=⟨X,(ac _).trans T⟩;clear X T)
  all_goals go_wp2
  all_goals go_ret2
  all_goals refine⟨v3,S3,rfl,?_⟩
  all_goals exact HE.o
 .rw[Pi,Zj y];have s:=λ(Z:Bb) (w':Fa) (b':Nat) (N:List Value) (h:w'.rangeAt b' 1 N) (k:Kids Z N a)=>rD h k;rw[Zt y]at s;have P:=Hq s;clear f y s;go_enter func302,ntmps302;go_wp2_with (first| (go_at_call 280;refine Q.mono ?_;rintro e O ⟨c,rfl,F,i⟩;obtain⟨H,l,p⟩:=Qx i.wa (Bb.Ob S c (.br a));have D:=Hq i;have C:=Hq (P _ O c H p l);clear F i l p)| (go_at_call 306;refine C.mono ?_;rintro e j ⟨rfl,rfl⟩))
  go_ret2;exact⟨_,_,rfl,.inr ⟨by simp,c,rfl,Bb.Ob _ _ _⟩,D.o⟩
theorem BQ{u:Nd}(hf:ua B S w)(hb:S b=some t)(hv:od S v u)(hl:t.leads q u):Calls oa (E6 t) #[Qa (some ⟨b,0,none⟩),La q,v] w (Pk B S w (t.lead q u)):=by
 cases t with
 |ext p t=>exact CN hf hv hl.1 hl.2
 |br ks=>exact VL hf hb hv hl
 |_=>exact hl.elim
def pg(s:Nat)(X Y:Fa):Prop:=Y.heap[s]? =X.heap[s]? /\Y.heap[s+1]? =X.heap[s+1]?
variable{n:Nat}
theorem jQ{P:Program}{g:Operand}{ps:Array Tmp}{assign body:Code}{Q:Exit->Act->Fa->Prop}{a:Act}{gf:Nat}{lb:Array Value}(hg:a.eval g=.func (.func gf) #[] lb)(eg:∀args w,(callFunc gf args).run P w=.ok (.enter gf args) w)(N:Nat)(encs:Nat->Array Value)(hps:∀k,(encs k).size=ps.size)(I:Nat->Fa->Prop)(h0:∀o1 o2:Obj,I 0 ((w.alloc o1).alloc o2))(hp:∀k W o,I k W->I k (W.putObj (w.heap.size+1) o))(hseq:∀(l:Nat) (J:Nat->Fa->Prop),(∀k W,J k W->I k W)->(∀k W,k<N->J k W->YieldAt Fence.wide (n-1-1) P l (encs k) W λe W'=>e=na (Oa true)/\J (k+1) W')->∀W,J 0 W->CallsIn Fence.wide (n-1) P gf (#[.func (.yield l) #[] #[]]++lb) W λe W'=>(∃v,e=na v)/\J N W')(hround:∀k W,k<N->I k W->w.heap.size+1<W.heap.size->assign.wpIn (Fence.wide.inRound (w.heap.size+1)) (n-1-1) P (Exit.then (λa1 W1=>pg w.heap.size W W1/\I k W1/\∀o,body.wpIn (Fence.wide.inRound (w.heap.size+1)) (n-1-1) P (λe _ W3=>e=.normal/\pg w.heap.size (W1.putObj (w.heap.size+1) o) W3/\I (k+1) W3) a1 (W1.putObj (w.heap.size+1) o)) (λ_ _ _=>False)) {tmps:=(ps.zip (encs k)).foldl (λt (p,v)=>t.setIfInBounds p v) a.tmps,defers:=[]} W)
  (hdone:∀W,I N W->W.heap[w.heap.size]? =some (.deferred (some []))->Q .normal {a with defers:={target:=.collected w.heap.size,args:=#[]}::a.defers} W):
  (Code.rangeFunc g ps assign body).wpIn Fence.wide n P Q a w:=by
 refine wpIn_rangeFunc λfn H=>?_
 have d:=run_enterLoop_outer (P:=P) (w:=w) fn a.tmps ps assign body
 obtain⟨rc,c⟩:∃rc:Loop,{state:=.ready,pending:=none,fn,tmps:=a.tmps,params:=ps,assign,body,defers:=w.heap.size}=rc:=⟨_,rfl⟩
 have z:rc.state=.ready:=by rw[<-c]
 have b:rc.fn=fn/\rc.tmps=a.tmps/\rc.params=ps/\rc.assign=assign/\rc.body=body:=by rw[<-c];exact⟨rfl,rfl,rfl,rfl,rfl⟩
 have M:rc.pending=none:=by rw[<-c]
 have i:({{rc with state:=.busy} with state:=.ready,pending:=none}:Loop)=rc:=by rw[<-c]
 rw[c]at d
 have m:=h0 (.deferred (some [])) (.loop rc)
 have s:((w.alloc (.deferred (some []))).alloc (.loop rc)).heap[w.heap.size+1]? =some (.loop rc):=by have :=Vz (w.alloc (.deferred (some []))) (.loop rc);rwa [Yz]at this
 have r:((w.alloc (.deferred (some []))).alloc (.loop rc)).heap[w.heap.size]? =some (.deferred (some [])):=(Z0 _ _ _ (by simp)).trans (Vz w _)
 clear c
 generalize hW1:(w.alloc (.deferred (some []))).alloc (.loop rc)=W1 at d m s r
 clear hW1
 refine⟨w.heap.size+1,[{target:=.collected w.heap.size,args:=#[]}],W1,{target:=.fn (.func gf) lb,args:=#[.func (.yield (w.heap.size+1)) #[] #[]]},W1,gf,#[.func (.yield (w.heap.size+1)) #[] #[]]++lb,W1,d,?_,λ_ _=>trivial,?_,λh=>by simp[Fence.wide]at h,?_⟩
 .simp only[resolve,hg]
  simp[go_sem]
 .simp[invoke,eg]
 .refine(hseq (w.heap.size+1) (λk W=>I k W/\W.heap[w.heap.size+1]? =some (.loop rc)/\W.heap[w.heap.size]? =some (.deferred (some []))) (λ_ _ h=>h.1) ?_ _ ⟨m,s,r⟩).mono ?_
  .rintro k W R ⟨B,f,A⟩
   have L:w.heap.size+1<W.heap.size:=(Zg.1 f).1
   have O:=run_yield (P:=P) (args:=encs k) f (by rw[b.2.2.1];exact hps k)
   rw[b.1,b.2.1,b.2.2.1,b.2.2.2.1,b.2.2.2.2]at O
   refine⟨fn,_,assign,body,O,roundIn_of_wpIn H (wpIn_mono (hround k W R B L) ?_)⟩
   rintro e a1 W1 G
   cases e with
   |normal=>
    obtain⟨D,S,j⟩:=G
    have u:=D.2.trans f
    have E:=D.1.trans A
    refine⟨_,run_beginRound u z,wpIn_mono (j _) ?_⟩
    rintro e T W3 ⟨rfl,q,K⟩
    have C:w.heap.size+1<W1.heap.size:=(Zg.1 u).1
    have y:W3.heap[w.heap.size+1]? =some (.loop {rc with state:=.busy}):=q.2.trans (World.putObj_heap_same C)
    have F:W3.heap[w.heap.size]? =some (.deferred (some [])):=q.1.trans ((Xs (by omega)).trans E)
    refine⟨_,_,run_endRound none y,rfl,hp _ _ _ K,?_,(Xs (by omega)).trans F⟩
    rw[World.putObj_heap_same (Zg.1 y).1]
    exact Y5 (λx=>some (Obj.loop x)) i
   |_=>exact G.elim
  .rintro e W ⟨⟨v,rfl⟩,B,f,A⟩
   refine⟨none,_,by rw[<-M];exact run_endLoop f (by rw[z];simp),?_⟩
   exact hdone _ (hp _ _ _ B) ((Xs (by omega)).trans A)
open Go.RowKit Go.Shelf
attribute [local go_sem] Oper.semAt_some
def E7(N:Nat)(cs:List Value)(k:Nat):Array Value:=#[Ia ka ((N-1-k:Nat):Int),Sa #[cs.getD ((N-1-k)*2) undef,cs.getD ((N-1-k)*2+1) undef]]
theorem bR(l bs N:Nat)(thr:Value)(cs:List Value)(J:Nat->Fa->Prop)(hN:N<=1000)(hJ:∀k W,J k W->W.cell? ⟨bs,0,none⟩=some thr/\((thr=Ma none 0 0/\N=0)\/∃g cap,thr=Ma (some ⟨g,0,none⟩) N cap/\∀j,j<N->W.cell? ⟨g,j*2,none⟩=some (cs.getD (j*2) undef)/\W.cell? ⟨g,j*2+1,none⟩=some (cs.getD (j*2+1) undef)))(hY:∀k W,k<N->J k W->YieldAt Fence.wide (n-1) oa l (E7 N cs k) W λe W'=>e=na (Oa true)/\J (k+1) W')(W:Fa)(h0:J 0 W):CallsIn Fence.wide n oa 233 #[.func (.yield l) #[] #[],Qa (some ⟨bs,0,none⟩)] W λe W'=>(∃v,e=na v)/\J N W':=by
 obtain⟨C,G⟩:=hJ 0 W h0;obtain⟨p,cap,a⟩:∃p cap,thr=Ma p N cap:=by
  rcases G with⟨rfl,rfl⟩|⟨g,cap,rfl,_⟩;.exact⟨none,0,rfl⟩
  .exact⟨_,cap,rfl⟩
 rw[a]at C;have I:=Hq hJ;have K:=Hq hY;have H:=Hq h0;have y:=Hq hN;have U:IntKind.i64.wrap ((N:Int)-1)=(N:Int)-1:=Ci _ (by omega) (by omega);clear hJ hY h0 G hN;refine callsIn_of_wp func233 rfl trivial ?_ rfl;simp only[ntmps233,Ym,Zu,Yq,Nat.reduceAdd,Nat.reduceSub,Array.replicate_succ,Array.replicate_zero,List.push_toArray,List.append_toArray,Xi,Vh];gi_wp2;gi_loopw [3] (λi wr=>∃k,k<=N/\i=Ia ka ((N:Int)-1-(k:Int))/\J k wr) (λi _=>match i with | Ia _ x=>(x+1).toNat|_=>0);case atStart=>exact⟨0,Xa _,by simp,H.o⟩
 case round=>
  obtain⟨k,R,rfl,b⟩:=hrel;by_cases t:k<N
  .obtain⟨j,E⟩:=nm (N-1-k);have F:j<N:=by omega
   have q:(N:Int)-1-(k:Int)=(j:Int):=by omega
   obtain⟨D,u⟩:=I k wr b;rw[a]at D;obtain⟨g,cap',d,c⟩:∃g cap',thr=Ma (some ⟨g,0,none⟩) N cap'/\∀j,j<N->wr.cell? ⟨g,j*2,none⟩=some (cs.getD (j*2) undef)/\wr.cell? ⟨g,j*2+1,none⟩=some (cs.getD (j*2+1) undef):=by
    rcases u with⟨_,h⟩|h;.omega
    .exact h
   rw[a]at d;obtain⟨rfl,rfl⟩:p=some ⟨g,0,none⟩/\cap=cap':=by simp only[Z3]at d;exact⟨d.1,d.2.2⟩
   obtain⟨M,O⟩:=c j F;obtain⟨fn,P,z,L,r,B⟩:=K k wr t b;unfold E7 at r;rw[E]at r;obtain⟨u0,f⟩:=nm (cs.getD (j*2) undef);obtain⟨u1,m⟩:=nm (cs.getD (j*2+1) undef);rw[f,m]at r;rw[f]at M;rw[m]at O;rw[q];have T:(j:Int)<(N:Int):=by omega
   have S:(0:Int)<=(j:Int):=by omega
   have V:IntKind.i64.wrap ((j:Int)-1)=(j:Int)-1:=Ci _ (by have :=y.o;omega) (by have :=y.o;omega);have o:=Hq (A2 (by omega :(N:Int)-1-((k+1:Nat):Int)=(j:Int)-1) t);clear C c u d a f m b q E;gi_wp2;refine⟨λh=>by simp[Fence.wide]at h,B.mono ?_⟩;rintro e Q ⟨rfl,s⟩;have w:=Hq s;clear s B r;gi_wp2;refine⟨⟨k+1,o.2,by rw[o.1],w.o⟩,?_⟩;show((j:Int)-1+1).toNat<((j:Int)+1).toNat;omega
  .obtain rfl:k=N:=by omega
   have q:(k:Int)-1-(k:Int)= -1:=by omega
   rw[q];have o:=Hq b;clear b;gi_wp2;go_end0;exact⟨⟨_,rfl⟩,o.o⟩
theorem GM(p:Option Addr)(m c:Nat)(w:Fa):Calls oa 215 #[Ma p m c] w λe w'=>e=na (.func (.func 233) #[] #[Qa (some ⟨w.heap.size,0,none⟩)])/\w'=w.alloc (ma #[Ma p m c] 224):=by go_enter func215,ntmps215;go_wp2;go_ret;exact⟨rfl,rfl⟩
attribute [local go_sem] Oper.semAt_some
def He:List (Nd×Da)->Nd->Nd
 | [],t=>t
 |x::l,t=>x.1.lead x.2 (He l t)
def Av:List (Nd×Da)->Nd->Prop
 | [],_=>True
 |x::l,t=>x.1.leads x.2 (He l t)/\Av l t
theorem wN(l:List (Nd×Da))(t:Nd){j:Nat}(h:j<l.length):He (l.drop j) t=l[j].1.lead l[j].2 (He (l.drop (j+1)) t):=by rw[Yv h,He]
theorem VD{t:Nd}:∀{l:List (Nd×Da)},Av l t->∀j (h:j<l.length),l[j].1.leads l[j].2 (He (l.drop (j+1)) t)
 | [],_,j,h=>by simp at h
 |x::l,hx,0,_=>hx.1
 |x::l,hx,j+1,h=>VD hx.2 j (by simpa using h)
theorem xe.at{S:Bb}:∀{l:List (Nd×Da)} {cs:List Value},xe S l cs->∀j (h:j<l.length),cs.getD (j*2+1) undef=La l[j].2/\od S (cs.getD (j*2) undef) l[j].1
 | [],_,_,j,h=>by simp at h
 |x::l,cs,ht,0,_=>by obtain⟨v,cs',rfl,h1,_⟩:=ht;exact⟨rfl,h1⟩
 |x::l,cs,ht,j+1,h=>by obtain⟨v,cs',rfl,_,h2⟩:=ht;have :=h2.at j (by simpa using h);rw[show(j+1)*2=j*2+1+1 by omega];exact this
theorem Fr.setCell{B:Nat}{S S':Bb}{w w1:Fa}(h:Fr B S S' w w1)(a:Addr)(v:Value)(hb:w.heap.size<=a.block)(hn:S' a.block=none):Fr B S S' w (w1.setCell a v):=h.grow (o:=some a.block) ⟨rfl,rfl,rfl,by simp,λk _ hne=>Zd _ _ _ _ λe=>hne (by rw[e])⟩ λk hk=>by cases hk;exact⟨hb,hn⟩
theorem Fr.putObj{B:Nat}{S S':Bb}{w w1:Fa}(h:Fr B S S' w w1)(j:Nat)(o:Obj)(hb:w.heap.size<=j)(hn:S' j=none):Fr B S S' w (w1.putObj j o):=h.grow (grownBy_putObj' w1 j o) λk hk=>by cases hk;exact⟨hb,hn⟩
def zg(B:Nat)(S:Bb)(w:Fa)(l:List (Nd×Da))(t:Nd)(thr:Value)(k:Nat)(W:Fa):Prop:=∃S' u,Fr B S S' w W/\od S' u (He (l.drop (l.length-k)) t)/\(∀j,w.heap.size<=j->j<w.heap.size+7->S' j=none)/\w.heap.size+6<W.heap.size/\
  W.heap[w.heap.size+1]? =some (ma #[u] 96 (0,0))/\W.heap[w.heap.size+2]? =some (ma #[da] 96 (0,0))/\W.heap[w.heap.size+3]? =some (ma #[da] 142 (0,0))/\W.heap[w.heap.size+4]? =some (ma #[thr] 224 (0,0))
variable{l:List (Nd×Da)}{thr:Value}{W:Fa}
theorem zg.put{k:Nat}(h:zg B S w l t thr k W)(j:Nat)(hj:j=w.heap.size+6)(o:Obj):zg B S w l t thr k (W.putObj j o):=by obtain⟨b,u,c,d,a,e,f,g,i,m⟩:=h;subst hj;exact⟨b,u,c.putObj _ o (by omega) (a _ (by omega) (by omega)),d,a,by simpa using e,(Xs (by omega)).trans f,(Xs (by omega)).trans g,(Xs (by omega)).trans i,(Xs (by omega)).trans m⟩
theorem zg.alloc{B:Nat}{S:Bb}{w:Fa}{l:List (Nd×Da)}{t:Nd}{thr:Value}{k:Nat}{W:Fa}(h:zg B S w l t thr k W)(o:Obj):zg B S w l t thr k (W.alloc o):=by obtain⟨a,u,b,c,d,j,e,f,g,i⟩:=h;exact⟨a,u,b.behind ((Zb _ _).alloc (Za _) _),c,d,by simp;omega,(Z0 _ _ _ (by omega)).trans e,(Z0 _ _ _ (by omega)).trans f,(Z0 _ _ _ (by omega)).trans g,(Z0 _ _ _ (by omega)).trans i⟩
variable{u:Value}
theorem zg.start{wL:Fa}(hf:ua B S w)(hu:od S u t)(hb:Ba w wL)(hs:wL.heap.size=w.heap.size+5)(h1:wL.heap[w.heap.size+1]? =some (ma #[u] 96 (0,0)))(h2:wL.heap[w.heap.size+2]? =some (ma #[da] 96 (0,0)))(h3:wL.heap[w.heap.size+3]? =some (ma #[da] 142 (0,0)))(h4:wL.heap[w.heap.size+4]? =some (ma #[thr] 224 (0,0)))(o1 o2:Obj):zg B S w l t thr 0 ((wL.alloc o1).alloc o2):=by have a:∀k,k<w.heap.size+5->((wL.alloc o1).alloc o2).heap[k]? =wL.heap[k]? :=λk h=>(Z0 _ _ _ (by simp;omega)).trans (Z0 _ _ _ (by omega));refine⟨S,u,Fr.xa hf ((hb.alloc hb.size _).alloc (Z2 hb.size (by simp)) _),?_,λj h _=>hf.fresh h,by simp;omega,(a _ (by omega)).trans h1,(a _ (by omega)).trans h2,(a _ (by omega)).trans h3,(a _ (by omega)).trans h4⟩;rw[Ka,Ji (Za _)];exact hu
attribute [local go_sem] Oper.semAt_some
theorem OJ{l:Nat}{f:FuncId}{args:Array Value}{R:Ending->Fa->Prop}(h:Calls oa f args w R):CallsIn (Fence.wide.inRound l) n oa f args w R:=CallsIn.inRound l (callsIn_wide.2 h)
theorem xm{t:TypeId}(h:w.heap[b]? =some (ma #[v] t (0,0))):w.cell? ⟨b,0,none⟩=some v/\w.frozen? ⟨b,0,none⟩=false:=by exact⟨by simp[World.cell?,h],by simp[World.frozen?,h]⟩
theorem PL{u:Nd}(h:t.leads q u):t.inner=true:=by
 cases t with
 |ext _ _=>rfl
 |br _=>rfl
 |_=>exact h.elim
theorem IS(h:t.inner=true):t≠ .no:=λe=>by rw[e]at h;simp[Nd.inner]at h
variable{cs:List Value}
theorem sO{C:Nat}{N:Nat}(h:Db w C 2 thr N cs)(hk:∀g,thr.ownBlock=some g->W.heap[g]? =w.heap[g]?):(thr=Ma none 0 0/\N=0)\/∃g cap,thr=Ma (some ⟨g,0,none⟩) N cap/\∀j,j<N->W.cell? ⟨g,j*2,none⟩=some (cs.getD (j*2) undef)/\W.cell? ⟨g,j*2+1,none⟩=some (cs.getD (j*2+1) undef):=by
 rcases h.2 with h0|⟨g,cap,rfl,h1,h2,h3,h4,h5,h6⟩;.exact .inl h0
 .refine .inr ⟨g,cap,rfl,λj d=>?_⟩;have e:=h.1;have c:=hk g rfl;have a:∀i,i<cs.length->W.cell? ⟨g,i,none⟩=some (cs.getD i undef):=λi b=>by have :=h6 i cs[i] (by simp[b]);rw[Zf]at this;rw[Zc c,this,Yb,Zk b];rfl
  exact⟨a _ (by omega),a _ (by omega)⟩
theorem zg.next{S' S2:Bb}{W1 W2:Fa}{v2:Value}{k:Nat}(h1:Fr B S S' w W1)(h3:∀j,w.heap.size<=j->j<w.heap.size+7->S' j=none)(h4:w.heap.size+6<W1.heap.size)(h5:W1.heap[w.heap.size+1]? =some (ma #[u] 96 (0,0)))(h6:W1.heap[w.heap.size+2]? =some (ma #[da] 96 (0,0)))(h7:W1.heap[w.heap.size+3]? =some (ma #[da] 142 (0,0)))(h8:W1.heap[w.heap.size+4]? =some (ma #[thr] 224 (0,0)))(hf:Fr B S' S2 W1 W2)(hv:od S2 v2 (He (l.drop (l.length-(k+1))) t)):pg (w.heap.size+5) W1 (W2.setCell ⟨w.heap.size+1,0,none⟩ v2)/\zg B S w l t thr (k+1) (W2.setCell ⟨w.heap.size+1,0,none⟩ v2):=by have d:∀j,w.heap.size<=j->j<w.heap.size+7->j≠w.heap.size+1->(W2.setCell ⟨w.heap.size+1,0,none⟩ v2).heap[j]? =W1.heap[j]? :=λj a b c=>(Zd _ _ _ _ c).trans (hf.other j (by omega) (h3 j a b));have e:∀j,w.heap.size<=j->j<w.heap.size+7->S2 j=none:=λj a b=>hf.new j (by omega) (h3 j a b);have g:=hf.size;have f:=(hf.other _ (by omega) (h3 _ (by omega) (by omega))).trans h5;exact⟨⟨d _ (by omega) (by omega) (by omega),d _ (by omega) (by omega) (by omega)⟩,S2,v2,(h1.trans hf).setCell _ _ (by simp) (e _ (by simp) (by simp)),hv,e,by simp;omega,De f 0 v2,(d _ (by omega) (by omega) (by omega)).trans h6,(d _ (by omega) (by omega) (by omega)).trans h7,(d _ (by omega) (by omega) (by omega)).trans h8⟩
theorem YJ(h:w.cell? ⟨b,0,none⟩=some v):(loadVar 96 ⟨b,0,none⟩).run oa w=.ok v w:=by simp[go_sem,h]
theorem DL(h:w.cell? ⟨b,0,none⟩=some v):(loadVar 142 ⟨b,0,none⟩).run oa w=.ok v w:=by simp[go_sem,h]
theorem wS{fn:Func}{p q:Tmp}{t1 t2:TypeId}(h:fn.results=#[.cell p t1,.cell q t2])(tmps:Array Value)(P:Program)(w:Fa)(b c:Nat)(hp:tmps.getD p undef=Qa (some ⟨b,0,none⟩))(hq:tmps.getD q undef=Qa (some ⟨c,0,none⟩))(hv:(loadVar t1 ⟨b,0,none⟩).run P w=.ok v w)(hu:(loadVar t2 ⟨c,0,none⟩).run P w=.ok u w):(results fn tmps).run P w=.ok (Wa #[v,u]) w:=by simp only[results,h,Array.mapM_eq_mapM_toList,List.mapM_cons,List.mapM_nil,Je,Result.andThen,hp,hq];simp[Result.andThen,asAddr,hv,hu]
theorem QU{S':Bb}{D:Nat}{tmps:Array Value}(h:Fr B S S' w W/\od S' u t/\(∀j,w.heap.size<=j->j<w.heap.size+7->S' j=none)/\w.heap.size+6<W.heap.size/\W.heap[w.heap.size+5]? =some (.deferred (some []))/\W.heap[w.heap.size+2]? =some (ma #[da] 96 (0,0))/\W.heap[w.heap.size+3]? =some (ma #[da] 142 (0,0)))(hD:D=w.heap.size+5)(h4:tmps.getD 4 undef=Qa (some ⟨w.heap.size+1+1,0,none⟩))(h5:tmps.getD 5 undef=Qa (some ⟨w.heap.size+1+1+1,0,none⟩)):bodyPostM Fence.wide 3 oa f193 (Pk B S w t) .ret {tmps:=tmps,defers:=[{target:=.collected D,args:=#[]}]} ((W.setCell ⟨w.heap.size+1+1,0,none⟩ u).setCell ⟨w.heap.size+1+1+1,0,none⟩ da):=by obtain⟨g,i,a,n,k,l,m⟩:=h;subst hD;have b:((W.setCell ⟨w.heap.size+1+1,0,none⟩ u).setCell ⟨w.heap.size+1+1+1,0,none⟩ da).heap[w.heap.size+2]? =some (ma #[u] 96 (0,0)):=(Zd _ _ _ _ (by simp)).trans (De (cs:=[da]) l 0 u);have c:((W.setCell ⟨w.heap.size+1+1,0,none⟩ u).setCell ⟨w.heap.size+1+1+1,0,none⟩ da).heap[w.heap.size+3]? =some (ma #[da] 142 (0,0)):=De (cs:=[da]) ((Zd _ _ _ _ (by simp)).trans m) 0 da;have d:((W.setCell ⟨w.heap.size+1+1,0,none⟩ u).setCell ⟨w.heap.size+1+1+1,0,none⟩ da).heap[w.heap.size+5]? =some (.deferred (some [])):=(Zd _ _ _ _ (by simp)).trans ((Zd _ _ _ _ (by simp)).trans k);have e:Fr B S S' w ((W.setCell ⟨w.heap.size+1+1,0,none⟩ u).setCell ⟨w.heap.size+1+1+1,0,none⟩ da):=(g.setCell _ _ (by simp;omega) (a _ (by simp;omega) (by simp))).setCell _ _ (by simp;omega) (a _ (by simp;omega) (by simp));generalize (W.setCell ⟨w.heap.size+1+1,0,none⟩ u).setCell ⟨w.heap.size+1+1+1,0,none⟩ da=W2 at b c d e⊢;refine⟨by simp,.inl ⟨_,_,rfl,run_takeDeferred d,?_⟩⟩;refine⟨_,wS results193 tmps _ _ (w.heap.size+2) (w.heap.size+3) h4 h5 (YJ (xm ((Xs (by omega)).trans b)).1) (DL (xm ((Xs (by omega)).trans c)).1),?_⟩;exact⟨u,S',rfl,i,e.putObj _ _ (by omega) (a _ (by omega) (by omega))⟩
theorem Ch{wL:Fa}{o0 o1 o2 o3 o4:Obj}(h:((((w.alloc o0).alloc o1).alloc o2).alloc o3).alloc o4=wL):wL.heap.size=w.heap.size+5/\Ba w wL/\wL.heap[w.heap.size+1]? =some o1/\wL.heap[w.heap.size+2]? =some o2/\wL.heap[w.heap.size+3]? =some o3/\wL.heap[w.heap.size+4]? =some o4:=by
 subst h;refine⟨by simp,(((((Zb _ _).alloc (Za _) _).alloc (by simp) _).alloc (by simp;omega) _).alloc (by simp;omega) _).alloc (by simp;omega) _,?_,?_,?_,?_⟩;.refine(Z0 _ _ _ (by simp)).trans ((Z0 _ _ _ (by simp)).trans ((Z0 _ _ _ (by simp)).trans ?_));have :=Vz (w.alloc o0) o1;rwa [Yz]at this
 .refine(Z0 _ _ _ (by simp)).trans ((Z0 _ _ _ (by simp)).trans ?_);have :=Vz ((w.alloc o0).alloc o1) o2;rwa [Yz,Yz]at this
 .refine(Z0 _ _ _ (by simp)).trans ?_;have :=Vz (((w.alloc o0).alloc o1).alloc o2) o3;rwa [Yz,Yz,Yz]at this
 .have :=Vz ((((w.alloc o0).alloc o1).alloc o2).alloc o3) o4;rwa [Yz,Yz,Yz,Yz]at this
theorem TL{C:Nat}{r:Da}(hf:ua B S w)(hO:Db w C 2 thr l.length cs)(hT:xe S l cs)(hnone:∀g,thr.ownBlock=some g->S g=none)(hv:v=da\/∃T a,v=ca T (Qa (some a)))(hu:od S u t)(hl:l.length<=1000)(hok:Av l t):Calls oa 193 #[Sa #[thr,v,La r],u] w (Pk B S w (He l t)):=by
 obtain⟨pv,mv,cv,rfl⟩:=hO.shape;have ai:=hu.shape;have HF:=Hq hf;have HO:=Hq hO;have HT:=Hq hT;have HU:=Hq hu;have HN:=Hq hnone;have HK:=Hq hok;have HL:=Hq hl;clear hf hO hT hnone hu hok hl;rcases hv with rfl|⟨T,a,rfl⟩;all_goals rcases ai with rfl|⟨T',a',rfl⟩
 all_goals
  refine(callsIn_wide (n:=3)).1 ?_;refine callsIn_of_wp_marks func193 rfl trivial ?_ rfl;simp only[ntmps193,Ym,Zu,Yq,Nat.reduceAdd,Nat.reduceSub,Array.replicate_succ,Array.replicate_zero,List.push_toArray,List.append_toArray,Xi,Vh];gi_wp2_with (refine⟨trivial,?_⟩;gi_at_call 215;refine(callsIn_wide.2 (GM _ _ _ _)).mono ?_;rintro x w1 ⟨rfl,rfl⟩);generalize hwL:World.alloc (World.alloc (World.alloc (World.alloc (World.alloc w _) _) _) _) _=wL;obtain⟨O,X,q1,q2,q3,q4⟩:=Ch hwL;have K:=λo1 o2=>zg.start (l:=l) HF HU X O q1 q2 q3 q4 o1 o2;clear hwL X q1 q2 q3 q4;refine jQ (gf:=233) (lb:=#[Qa (some ⟨w.heap.size+4,0,none⟩)]) rfl (enters_of func233 (by kernel_rfl) rfl) l.length (E7 l.length cs) (λ_=>rfl) (zg B S w l t (Ma pv mv cv)) K (λk W o h=>h.put _ (by omega) o) ?seq ?round ?done;case seq=>intro l1 J hJ hY W0 ae;refine bR l1 (w.heap.size+4) l.length (Ma pv mv cv) cs J HL (λk W hk=>?_) hY W0 ae;obtain⟨S',u,f,c,p,D,i,q,s,E⟩:=hJ k W hk;exact⟨(xm E).1,sO HO (λg hg=>f.other g (HO.block g hg).2 (HN g hg))⟩
  case round=>
   intro k W hk hI ah;obtain⟨j,hj⟩:=nm (l.length-1-k);have N:j<l.length:=by omega
   obtain⟨V,L⟩:=HT.at j N;unfold E7;rw[hj];rw[V];have b:=VD HK j N;have F:=wN l t N;have e1:l.length-k=j+1:=by omega
   have e2:l.length-(k+1)=j:=by omega
   obtain⟨x,hx⟩:=nm l[j];rw[hx]at L b F⊢;have M:=PL b;obtain⟨d,hd,Ak⟩:=L.full (IS M);rw[hd];have hm:=cS x.1 M;have ag:=IR x.1 M;have HI:=Hq hI;have H:=Hq (A5 b F e1 e2 Ak);have HS:=Hq O;clear hI b F e1 e2 Ak hd L V hx hj O K;gi_wp2;refine⟨⟨Z0 _ _ _ (by omega),Z0 _ _ _ ah⟩,HI.alloc _,λo=>?_⟩;obtain⟨S',uk,f,c,p,D,i,q,s,E⟩:=(HI.alloc (ma #[ca (K9 x.1) (Qa (some ⟨d,0,none⟩)),La x.2] 325)).put (wL.heap.size+1) (by have :=HS.o;omega) o;have R:((W.alloc (ma #[ca (K9 x.1) (Qa (some ⟨d,0,none⟩)),La x.2] 325)).putObj (wL.heap.size+1) o).heap[W.heap.size]? =some (ma #[ca (K9 x.1) (Qa (some ⟨d,0,none⟩)),La x.2] 325 (0,0)):=(Xs (by omega)).trans (Vz W _);generalize hW1:(W.alloc (ma #[ca (K9 x.1) (Qa (some ⟨d,0,none⟩)),La x.2] 325)).putObj (wL.heap.size+1) o=W1 at f c p D i q s E R⊢;rw[H.2.2.1]at c;have c0:W1.cell? ⟨W.heap.size,0,none⟩=some (ca (K9 x.1) (Qa (some ⟨d,0,none⟩))):=by simp[World.cell?,R]
   have c1:W1.cell? ⟨W.heap.size,1,none⟩=some (La x.2):=by simp[World.cell?,R]
   obtain⟨c2,-⟩:=xm i;have P:=c.shape;have U:=Hq (BQ (w:=W1) f.wa (f.sub d _ H.2.2.2.2) c H.1);have Q:Hid (∀m I G,Fr B S' I W1 m->od I G (x.1.lead x.2 (He (l.drop (j+1)) t))->(m.cell? ⟨w.heap.size+1,0,none⟩=some uk/\m.frozen? ⟨w.heap.size+1,0,none⟩=false)/\pg wL.heap.size W1 (m.setCell ⟨w.heap.size+1,0,none⟩ G)/\zg B S w l t (Ma pv mv cv) (k+1) (m.setCell ⟨w.heap.size+1,0,none⟩ G)):=λm I G y z=>by rw[HS.o];refine⟨xm ((y.other _ (by omega) (p _ (by omega) (by omega))).trans i),zg.next f p D i q s E y ?_⟩;rw[H.2.2.2.1,H.2.1];exact z
   clear f c p D i q s E R hW1;rcases P with rfl|⟨T2,a2,rfl⟩;all_goals gi_wp2;refine⟨trivial,(OJ U.o).mono ?_⟩;rintro e m ⟨G,I,rfl,z,y⟩;obtain⟨⟨z0,z1⟩,Y,Z⟩:=Q m I G y z;have HZ:=Hq (A2 Y Z);have ac:=z.shape;clear Y Z z y Q U hm ag c0 c1 c2;rcases ac with rfl|⟨T3,a3,rfl⟩;all_goals gi_wp2;exact HZ.o
  case done=>rintro W ⟨S',u,f,c,p,D,i,q,s,E⟩ hD;rw[J4,Yx]at c;obtain⟨c1,f1⟩:=xm i;obtain⟨c2,f2⟩:=xm q;obtain⟨c3,f3⟩:=xm s;have Q:=Hq (A6 f c p D (by rw[<-O];exact hD:W.heap[w.heap.size+5]? =some (.deferred (some []))) (A2 q s));have P:=c.shape;clear f c p D i q s E hD K;rcases P with rfl|⟨T2,a2,rfl⟩;all_goals gi_wp2;exact QU Q O rfl rfl
end Go.Proofs.YtpfbdlnibdfcoaaGreatDoor
