import Derived.Test.YtpfbdlnibdfcoaaGreatDoorPvVeC
namespace Go.Proofs.YtpfbdlnibdfcoaaGreatDoor
open Go.RowKit Tryz
open Value renaming int->Ia,string->La,slice->Ma,bool->Oa,pointer->Qa,agg->Sa,tuple->Wa,iface->ca,nilIface->da
open IntKind renaming i64->ka
open Obj renaming cells->ma
open Ending renaming returned->na
open Tryz renaming prog->oa
set_option maxRecDepth 100000
set_option maxHeartbeats 0
section
variable{h:List Nat}
theorem oo(hh:h.length=32):(oa.info? 39).map (·.size)=some (h.map Kf).length:=by rw[Zl,hh];kernel_rfl
variable{w:Fa}
theorem vj{g:Nat}{cs:Array Value}{t:TypeId}{n:Nat}(h:w.heap[g]? =some (ma cs t (0,0)))(hn:cs.size=n):w.there g 0 n:=by
 intro j a;refine⟨?_,?_⟩;.simp only[World.cell?,h,Zf];rw[Xh (by omega)];rfl
 .simp[World.frozen?,h]
theorem MO{B:Nat}{b:Nat}{P:Da}(hs:Be h B w b)(hh:h.length=32)(hhb:∀x∈h,x<256)(hn:qd (Ke P))(hP:P.size=64)(hB:B<=w.heap.size):Calls oa 141 #[ca 228 (Qa (some ⟨b,0,none⟩)),La P] w λx w'=>Ba w w'/\∃thr,x=na (Sa #[thr,ca 228 (Qa (some ⟨b,0,none⟩)),La P])/\Be h B w' b/\Db w' B 2 thr 0 []/\thr.ownBlock≠some b/\∀k,thr.ownBlock=some k->w.heap.size<=k:=by
 have n:ua B (Bb.put (λ_=>none) b (.stub h)) w:=by
  refine⟨λk t a=>?_,λk t a=>?_,λk t a=>?_,hB⟩;all_goals
   by_cases e:k=b;.subst e;rw[Bb.Ob]at a;obtain rfl:=Zi a;first|exact⟨_,[],.inl rfl,rfl,hs.2⟩| (rw[Nd.ok];exact⟨hh,hhb⟩)|exact hs.1
   .rw[Bb.mb _ _ _ e]at a;cases a
 have o:od (Bb.put (λ_=>none) b (.stub h)) (ca 228 (Qa (some ⟨b,0,none⟩))) (.stub h):=.inr ⟨by simp,b,rfl,Bb.Ob _ _ _⟩;refine(qI n o (by rw[Nd.fits];trivial) hn (by omega) (.stop rfl)).mono ?_;rintro e w' ⟨g,thr,q,rfl,⟨j,d,m⟩,i⟩;obtain⟨f,rfl,c⟩:=i.full (by simp);have l:f=b:=by
  by_cases e:f=b;.exact e
  .rw[Bb.mb _ _ _ e]at c;cases c
 subst l;have No:j=[]:=m;subst No;have p:=hs.lt;refine⟨g,thr,rfl,hs.below g,d.mono hB,λe=>by have :=(d.block _ e).1;omega,λk a=>(d.block k a).1⟩
theorem DB(sent:Nat->Addr)(h:List Nat)(K:Array Nat)(l:List Da)(p:Option Addr)(c:Nat)(hE:Env w.heap.size sent w)(hh:h.length=32)(hhb:∀x∈h,x<256)(hK:K.size=32)(hKb:K3 K)(hr:Ic w p l c)(hl:l.length<=9223372036854775807):Calls oa 94 #[Sa (h.map Kf).toArray,Sa (K.toList.map Kf).toArray,Ma p l.length c] w λe w'=>Ba w w'/\vi sent (Ao h (Kg (Kl K.toList)) (l.map Ke)) e:=by
 obtain⟨A,hA⟩:=nm ((h.map Kf).toArray);obtain⟨Kc,dc⟩:=nm ((K.toList.map Kf).toArray);obtain⟨W0,Z⟩:=nm ((w.alloc (ma A 39)).alloc (ma Kc 37));have ai:W0.rangeAt w.heap.size 0 (h.map Kf):=λj u hu=>by rw[<-Z,Z8 _ _ _ (by simp),Zf,Ze,<-hA];simpa using hu
 have bn:W0.rangeAt (w.heap.size+1) 0 (K.toList.map Kf):=λj u hu=>by rw[<-Z,show w.heap.size+1=(w.alloc (ma A 39)).heap.size by simp,Zf,Ze,<-dc];simpa using hu
 have az:Ba w W0:=by rw[<-Z];exact((Zb _ _).alloc (Za _) _).alloc (by simp) _
 have bq:W0.heap.size=w.heap.size+2:=by rw[<-Z];simp
 obtain⟨P,hP⟩:=nm (Kg (Kl K.toList));obtain⟨dq,fo,bc⟩:=Co hK hKb;rw[hP]at dq bc⊢;obtain⟨E,Y⟩:=nm (Ky (Kh []));obtain⟨R,hR⟩:=nm (Ao h P (l.map Ke));have ay:R=if l=[]/\h=E then .ok none else Af (l.map Ke) h P 0:=by rw[<-hR,Ao,Y];simp
 rw[hR];have s:Hid (Env w.heap.size sent w/\h.length=32/\(∀x∈h,x<256)/\K.size=32/\K3 K/\Ic w p l c/\l.length<=9223372036854775807/\Ba w W0/\W0.heap.size=w.heap.size+2/\P.size=64/\qd (Ke P)/\Kg (Kl K.toList)=P/\Ky (Kh [])=E):=⟨hE,hh,hhb,hK,hKb,hr,hl,az,bq,bc,by rw[dq];exact fo,hP,Y⟩;have HR:=Hq ay;have hz:=oo hh;have dt:=underlying39;clear hE hh hhb hK hKb hr hl az bq hP dq fo bc hR ay Y;rw[hA,dc];clear hA dc;go_enter func94,ntmps94;go_upto_region 1 with fail
 clear Z;go_cut [22] (λv wc=>∃b,v=Oa b/\(b=true↔(l=[]/\h=E))/\Ba W0 wc)
 case first=>
  by_cases am:l=[]
  .have hm:((l.length:Int)==0)=true:=by rw[am];rfl
   obtain⟨hE,hh,hhb,hK,hKb,hr,hl,az,bq,bc,gw,hP,Y⟩:=s.o;have fh:E.length=32:=by rw[<-Y];exact Bh _
   have fg:∀x∈E,x<256:=by rw[<-Y];exact Lk _
   have fv:=λW=>Ft h E hh fh hhb fg W;have ew:Ba W0 W0.drew:=(Zb _ _).drew;obtain⟨ec,dg⟩:=nm (Kg (Kh []));have fy:Hid (∀W,Calls oa 140 #[] W λe w'=>e=na (La ec)/\Ba W w'):=λW=>by have :=XB W;rw[dg]at this;exact this
   have ge:Hid (∀W,Ba W0 W->Calls oa 69 #[La ec] W λe w'=>e=na (Sa (E.map Kf).toArray)/\Ba W w'):=λW L=>by have h1:=Below.behind az L;have :=Dq ec W (hE.Fg.up hE.low h1) (Z2 hE.low h1.size);rw[show(G8 ec).toList=E by rw[<-Y,Ky,dg]]at this;exact this
   have cq:Hid (w.heap.size<W0.heap.size/\Ba W0 W0.drew):=⟨by omega,ew⟩;obtain⟨bb,df⟩:=nm (decide (h=E));rw[df]at fv;have dw:Hid (l=[]/\decide (h=E)=bb):=⟨am,df⟩;clear hE hh hhb hK hKb hr hl az bq bc gw hP Y fh fg am dg ew df;go_region_held3 (λw'=>w'.rangeAt w.heap.size 0 (h.map Kf)) (first|exact ai|exact k1|exact k2) (first| (go_at_call 140;refine(fy _).mono ?_;rintro x w1 ⟨rfl,de⟩;have k1:w1.rangeAt w.heap.size 0 (h.map Kf):=zc ai (de.block w.heap.size cq.1);have ch:Hid (Ba W0 w1):=cq.2.trans de;clear de)| (go_at_call 69;refine(ge _ ch.o).mono ?_;rintro x w2 ⟨rfl,m⟩;have dz:Hid (Ba W0 w2):=ch.trans (m.mono ch.size);have k2:w2.rangeAt w.heap.size 0 (h.map Kf):=zc ai (dz.block w.heap.size cq.1);clear m))
   all_goals (try go_wp2)
   all_goals go_meet
   all_goals exact⟨bb,rfl,by rw[<-dw.2];simp[dw.1],dz.o⟩
  .have hm:((l.length:Int)==0)=false:=by have :l.length≠0:=λe=>am (Ye e);simp;omega
   have HL:=Hq am;clear am;go_region;all_goals (try go_wp2)
   all_goals go_meet
   all_goals exact⟨false,rfl,by simp[HL.o],(Zb _ _).drew⟩
 case rest=>
  obtain⟨b,rfl,J,bl⟩:=hcut;cases b with
  |true=>have D:Hid (R=.ok none/\Ba w wc):=⟨by rw[HR.o,Zo (J.1 rfl)],s.2.2.2.2.2.2.2.1.va bl⟩;clear J bl;go_wp2;go_ret3;rw[D.1];exact⟨D.2,.inr ⟨none,rfl,rfl⟩⟩
  |false=>
   have ay:R=Af (l.map Ke) h P 0:=by rw[HR.o,Zj (λe=>by have :=J.2 e;cases this)]
   have ej:=Hq ay;have au:=Hq bl;clear J ay bl;go_upto_region 3 with fail
   go_cut [9] (λv wd=>∃g,v=Qa (some ⟨g,0,none⟩)/\Rb w.heap.size wd g (.stub h) P/\Ba w wd)
   case first=>
    refine Vj (by kernel_rfl) ?_;change wpAny _ _ _ _ _ _ _ (World.drew _);have dr:w.heap.size+2<=wc.heap.size:=by have :=s.2.2.2.2.2.2.2.2.1;have :=au.size;omega
    have eo:Hid (∀W,Ba wc W->W.rangeAt w.heap.size 0 (h.map Kf)/\W.rangeAt (w.heap.size+1) 0 (K.toList.map Kf)):=λW L=>⟨λj u hu=>(Zc (L.block w.heap.size (by omega))).trans ((Zc (au.block w.heap.size (by have :=s.2.2.2.2.2.2.2.2.1;omega))).trans (ai j u hu)),λj u hu=>(Zc (L.block (w.heap.size+1) (by omega))).trans ((Zc (au.block (w.heap.size+1) (by have :=s.2.2.2.2.2.2.2.2.1;omega))).trans (bn j u hu))⟩;refine jr _ (xj wc.heap.size wc (Sa (h.map Kf).toArray) (Sa (K.toList.map Kf).toArray) h P) (by kernel_rfl) (by kernel_rfl) ?_ _ (λ_=>undef) ?_ ?_
    .intro i o X I ac b W n B d f;have hi:i<8:=(Zg.1 X).1;have U:=f.below.size;match i,hi with
     |0,_=>obtain rfl:=Zi X;have t3:b.tmps[3]? =some (Qa (some ⟨w.heap.size,0,none⟩)):=(n.rest 3 (λi _=>Qh (by kernel_rfl) i)).trans rfl;refine Jv 39 (.tmp 3) rfl w.heap.size 0 (by simp only[Act.eval,Ya,t3,Yk]) (h.map Kf) _ (eo W f.below).1 dt rfl hz ?_;exact⟨_,rfl,f.step 0 _ (by decide) B (Zb _ _) U (λ_=>rfl) (by simp) (by simp) (by simp) (by simp) (by simp)⟩
     |1,_=>
      obtain rfl:=Zi X;have i7:b.tmps[23]? =some (Sa (h.map Kf).toArray):=(n.done 0 23 (d ⟨0,.data⟩ (by simp) rfl) rfl (by simp)).trans (Y5 some (f.o0 (d ⟨0,.data⟩ (by simp) rfl)));have C:=TG h s.2.1 s.2.2.1 W;have dh:=f.o6;obtain⟨G,hG⟩:∃G:Value->Fa->Prop,∀x w',G x w'↔xj wc.heap.size wc (Sa (h.map Kf).toArray) (Sa (K.toList.map Kf).toArray) h P (Et (λk=>I.getD k false) 1) (Ec ac 1 x) w':=⟨λx w'=>xj wc.heap.size wc (Sa (h.map Kf).toArray) (Sa (K.toList.map Kf).toArray) h P (Et (λk=>I.getD k false) 1) (Ec ac 1 x) w',λ_ _=>Iff.rfl⟩;refine Vd (K:=λQ w'=>∃v,Q=b.put (some 24) v/\G v w') (by rintro Q w' ⟨v,rfl,hv⟩;exact⟨v,rfl,(hG v w').1 hv⟩) ?_;have HG:=Hq hG;have HI:=Hq f;have HN:=Hq B;have HC:=Hq C;clear hG X d n f C B;go_simp;go_at_call 142
      refine HC.mono ?_;rintro e w9 ⟨bb,rfl,gv,ba,dv⟩;refine⟨_,rfl,(HG _ _).2 (HI.step 1 _ (by decide) HN ba U (by simp) (λ_=>⟨bb,rfl,⟨Z2 U gv,dv⟩,λq=>?_⟩) (by simp) (by simp) (by simp) (by simp))⟩;obtain⟨g,O,_,e3,_⟩:=dh q;rw[O];exact Ds (by omega)
     |2,_=>obtain rfl:=Zi X;obtain⟨bb,O,e2,e3⟩:=f.o1 (d ⟨1,.data⟩ (by simp) rfl);have i8:b.tmps[24]? =some (Qa (some ⟨bb,0,none⟩)):=(n.done 1 24 (d ⟨1,.data⟩ (by simp) rfl) rfl (by simp)).trans (Y5 some O);have D:=Hq (f.step 2 (ca 228 (Qa (some ⟨bb,0,none⟩))) (by decide) B (Zb _ _) U (by simp) (by simp) (λ_=>⟨bb,rfl,e2,e3⟩) (by simp) (by simp) (by simp));refine Vd (K:=λQ w'=>Q=b.put (some 25) (ca 228 (Qa (some ⟨bb,0,none⟩)))/\w'=W) (by rintro Q w' ⟨rfl,rfl⟩;exact⟨_,rfl,D.o⟩) ?_;clear X d n f O e2 e3 B D;go_simp
     |3,_=>obtain rfl:=Zi X;have t4:b.tmps[4]? =some (Qa (some ⟨w.heap.size+1,0,none⟩)):=(n.rest 4 (λi _=>Qh (by kernel_rfl) i)).trans rfl;refine Jv 37 (.tmp 4) rfl (w.heap.size+1) 0 (by simp only[Act.eval,Ya,t4,Yk]) (K.toList.map Kf) _ (eo W f.below).2 underlying37 rfl (by rw[qp];simp[s.2.2.2.1]) ?_;exact⟨_,rfl,f.step 3 _ (by decide) B (Zb _ _) U (by simp) (by simp) (by simp) (λ_=>rfl) (by simp) (by simp)⟩
     |4,_=>
      obtain rfl:=Zi X;have ia:b.tmps[26]? =some (Sa (K.toList.map Kf).toArray):=(n.done 3 26 (d ⟨3,.data⟩ (by simp) rfl) rfl (by simp)).trans (Y5 some (f.o3 (d ⟨3,.data⟩ (by simp) rfl)));have C:=PD K W s.2.2.2.1 s.2.2.2.2.1;rw[s.2.2.2.2.2.2.2.2.2.2.2.1]at C;obtain⟨G,hG⟩:∃G:Value->Fa->Prop,∀x w',G x w'↔xj wc.heap.size wc (Sa (h.map Kf).toArray) (Sa (K.toList.map Kf).toArray) h P (Et (λk=>I.getD k false) 4) (Ec ac 4 x) w':=⟨λx w'=>xj wc.heap.size wc (Sa (h.map Kf).toArray) (Sa (K.toList.map Kf).toArray) h P (Et (λk=>I.getD k false) 4) (Ec ac 4 x) w',λ_ _=>Iff.rfl⟩;refine Vd (K:=λQ w'=>∃v,Q=b.put (some 27) v/\G v w') (by rintro Q w' ⟨v,rfl,hv⟩;exact⟨v,rfl,(hG v w').1 hv⟩) ?_;have HG:=Hq hG;have HI:=Hq f;have HN:=Hq B;have HC:=Hq C;clear hG X d n f C B;go_simp;go_at_call 143
      refine HC.mono ?_;rintro e w9 ⟨rfl,ba⟩;exact⟨_,rfl,(HG _ _).2 (HI.step 4 _ (by decide) HN ba U (by simp) (by simp) (by simp) (by simp) (λ_=>rfl) (by simp))⟩
     |5,_=>
      obtain rfl:=Zi X;obtain⟨bb,O,e2,e3⟩:=f.o2 (d ⟨2,.data⟩ (by simp) rfl);have i9:b.tmps[25]? =some (ca 228 (Qa (some ⟨bb,0,none⟩))):=(n.done 2 25 (d ⟨2,.data⟩ (by simp) rfl) rfl (by simp)).trans (Y5 some O);have ib:b.tmps[27]? =some (La P):=(n.done 4 27 (d ⟨4,.data⟩ (by simp) rfl) rfl (by simp)).trans (Y5 some (f.o4 (d ⟨4,.data⟩ (by simp) rfl)));have C:=MO e2 s.2.1 s.2.2.1 s.2.2.2.2.2.2.2.2.2.2.1 s.2.2.2.2.2.2.2.2.2.1 U;have dh:=f.o6;obtain⟨G,hG⟩:∃G:Value->Fa->Prop,∀x w',G x w'↔xj wc.heap.size wc (Sa (h.map Kf).toArray) (Sa (K.toList.map Kf).toArray) h P (Et (λk=>I.getD k false) 5) (Ec ac 5 x) w':=⟨λx w'=>xj wc.heap.size wc (Sa (h.map Kf).toArray) (Sa (K.toList.map Kf).toArray) h P (Et (λk=>I.getD k false) 5) (Ec ac 5 x) w',λ_ _=>Iff.rfl⟩;refine Vd (K:=λQ w'=>∃v,Q=b.put (some 28) v/\G v w') (by rintro Q w' ⟨v,rfl,hv⟩;exact⟨v,rfl,(hG v w').1 hv⟩) ?_;have HG:=Hq hG;have HI:=Hq f;have HN:=Hq B;have HC:=Hq C;have fx:=Hq e3;clear hG X d n f C B O e2 e3;go_simp;go_at_call 141
      refine HC.mono ?_;rintro e w9 ⟨ba,ao,rfl,k1,k2,k3,k4⟩;refine⟨_,rfl,(HG _ _).2 (HI.step 5 _ (by decide) HN ba U (by simp) (by simp) (by simp) (by simp) (by simp) (λ_=>⟨bb,ao,rfl,k1,k2,k3,fx.o,λq k hk=>?_⟩))⟩;obtain⟨g,O,_,e3,_⟩:=dh q;rw[O];exact Ds (by have :=k4 k hk;omega)
     |6,_=>obtain rfl:=Zi X;have D:=Hq (f.made B U);refine Vd (K:=λQ w'=>Q=b.put (some 9) (Qa (some ⟨W.heap.size,0,none⟩))/\w'=W.alloc (ma #[Ma none 0 0,da,La ⟨#[]⟩] 226)) (by rintro Q w' ⟨rfl,rfl⟩;exact⟨_,rfl,D.o⟩) ?_;clear X d n f B D;go_simp
     |7,_=>obtain rfl:=Zi X;have d5:=d ⟨5,.data⟩ (by simp) rfl;have d6:=d ⟨6,.data⟩ (by simp) rfl;obtain⟨bb,ao,O,e2,e3,e4,e5⟩:=f.o5 d5;obtain⟨g,q1,q2,q3,q4,_⟩:=f.o6 d6;have t9:b.tmps[9]? =some (Qa (some ⟨g,0,none⟩)):=(n.done 6 9 d6 rfl (by simp)).trans (Y5 some q1);have gy:b.tmps[28]? =some (Sa #[ao,ca 228 (Qa (some ⟨bb,0,none⟩)),La P]):=(n.done 5 28 d5 rfl (by simp)).trans (Y5 some O);obtain⟨pv,mv,cv,rfl⟩:=e3.shape;refine J5 226 (.tmp 9) (.tmp 28) rfl g 0 #[Ma pv mv cv,ca 228 (Qa (some ⟨bb,0,none⟩)),La P] (by simp only[Act.eval,Ya,t9,Yk]) (by simp only[Act.eval,Ya,gy,Yk]) (vj (q4 B) rfl) Fj (wv (S:=Bb.put (λ_=>none) bb (.stub h)) (t:=.stub h) (.inr ⟨by simp,bb,rfl,Bb.Ob _ _ _⟩) pv mv cv P) ?_;exact⟨_,rfl,f.wrote d5 d6 _ q1 O rfl rfl rfl rfl⟩
    .exact⟨(Zb _ _).drew,by simp,by simp,by simp,by simp,by simp,by simp,by simp,by simp⟩
    .intro ac W f;obtain⟨g,q1,q2,q3,_,q5⟩:=f.o6 rfl;obtain⟨bb,ao,O,e2,e3,e4,e5,e6⟩:=f.o5 rfl;obtain⟨x,y,z,r1,r2⟩:=q5 rfl;have HW:Hid (∃g,ac 6=Qa (some ⟨g,0,none⟩)/\Rb w.heap.size W g (.stub h) P/\Ba w W):=by
      rw[O]at r1;simp only[Value.agg.injEq]at r1;obtain⟨rfl,rfl,rfl⟩:x=ao/\y=ca 228 (Qa (some ⟨bb,0,none⟩))/\z=La P:=by simpa using r1.symm
      have ae:Ba w W:=(s.2.2.2.2.2.2.2.1.va au.o).va f.below;have dr:w.heap.size<=wc.heap.size:=by omega
      refine⟨g,q1,⟨Bb.put (λ_=>none) bb (.stub h),[],_,_,[],?_,⟨r2,by omega,.inr ⟨by simp,bb,rfl,Bb.Ob _ _ _⟩,e3.mono dr,λe=>e6 rfl g e q1,rfl⟩,?_,λk hk=>?_,by have :=s.2.2.2.2.2.2.2.2.2.1;simp;omega,by rw[Nd.fits];trivial,s.2.2.2.2.2.2.2.2.2.2.1⟩,ae⟩
      .refine⟨λk t hk=>?_,λk t hk=>?_,λk t hk=>?_,ae.size⟩;all_goals
        by_cases e:k=bb;.subst e;rw[Bb.Ob]at hk;obtain rfl:=Zi hk;first|exact⟨_,[],.inl rfl,rfl,e2.2⟩| (rw[Nd.ok];exact⟨s.2.1,s.2.2.1⟩)|exact Z2 dr e2.1
        .rw[Bb.mb _ _ _ e]at hk;cases hk
      .rw[Bb.mb _ _ _ (λe=>e5 rfl (by rw[q1,e]))]
      .rw[Bb.mb _ _ _ (λe=>e4 (by rw[hk,e]))]
     clear f q1 q2 q3 q5 O e2 e3 e4 e5 e6 r1 r2;simp only[Gx,Act.put];(try go_wp2);go_meet;exact HW.o
   case rest=>
    obtain⟨g,rfl,Z,f9⟩:=hcut;have bf:R=R7 ((l.drop 0).map Ke) (.stub h) P 0:=by rw[ej.o];rfl
    have A0:Aside (Rb w.heap.size wc g (.stub h) P/\Ba w wc/\R=R7 ((l.drop 0).map Ke) (.stub h) P 0):=⟨Z,f9,bf⟩;clear Z f9 bf ai bn hz dt au HR ej;go_wp2_with fail
    go_loopg [10] l.length (λgh i wr=>∃k t r,k<=l.length/\gh=l.length-k/\i=Ia ka (k:Int)/\Rb w.heap.size wr g t r/\Ba w wr/\R=R7 ((l.drop k).map Ke) t r k)
    case atStart=>exact⟨0,_,_,Xa _,rfl,rfl,A0.o⟩
    case round=>
     obtain⟨k,t,r,hk,rfl,rfl,gj,al,M⟩:=hrel;clear A0;obtain⟨S,lw,ao,v,cs,hf,L,ae,cf,bm,aq,hn⟩:=gj;obtain⟨pv,mv,cv,rfl⟩:=L.own.shape;have ah:=cF L.ub;have cw:=s.1.below al;by_cases bv:∃g',t=.stub g'
     .obtain⟨h',rfl⟩:=bv;obtain⟨dd,rfl,gn⟩:=L.node.full (by simp);have N:=Hq (λW=>nL (w:=W) h' r pv mv cv dd);have ak:Hid (∀W,Ba wr W->Rb w.heap.size W g (.stub h') r/\Ba w W):=λW J=>by obtain⟨q1,q2,q3⟩:=L.grow (Fr.xa hf J) ae cf;exact⟨⟨S,lw,_,_,cs,hf.below J,q1,q2,q3,bm,aq,hn⟩,al.va J⟩
      have cj:Hid (R=Af ((l.drop k).map Ke) h' r k):=M;obtain⟨T,hT⟩:=nm (K9 (.stub h'));rw[hT]at ah N;have di:=s.2.2.2.2.2.2.1;have fq:k<l.length->wrap64 ((k:Int)+1)=((k+1:Nat):Int):=λ_=>by unfold wrap64;omega
      have fu:=Hq fq;clear hf L ae cf bm aq hn cw M gn hT fq;by_cases V:k<l.length
      .have fj:(k:Int)<=(l.length:Int):=by omega
       have bj:Hid (∃gp o,p=some ⟨gp,o,none⟩/\(l.length:Int)<=(c:Int)/\∀W,Ba wr W->Calls oa 145 #[Qa (some ⟨g,0,none⟩),Ma (some ⟨gp,o+k,none⟩) (l.length-k) (c-k)] W (Tm sent w.heap.size g W (Pc (Ke l[k]) h' (64-r.size)) r)):=by
        rcases s.2.2.2.2.2.1 with⟨_,e,_⟩|⟨gp,o,rfl,hc,hg,hro⟩;.rw[e]at V;cases V
        .refine⟨gp,o,rfl,by omega,λW J=>?_⟩;obtain⟨q1,q2⟩:=ak W J;exact WJ (s.1.below q2) q1 (hg (by omega)) ((q2.cell (p:=⟨gp,o+k,none⟩) (hg (by omega))).trans (hro k _ (by rw[Yt,Zk V];rfl))) (by omega)
       obtain⟨gp,o,rfl,gq,fm⟩:=bj.o;have aj:=Hq fm;have ci:Hid (k<l.length/\l.length<=9223372036854775807/\(l.drop k).map Ke=Ke l[k]::(l.drop (k+1)).map Ke):=⟨V,di,by rw[Yv V];rfl⟩;obtain⟨q,hq⟩:=nm (Pc (Ke l[k]) h' (64-r.size));rw[hq]at aj;have HQ:=Hq hq;clear fm bj di hq;go_wp2_with (first| (refine Zr rfl 226 _ rfl g 0 rfl _ _ ah underlying226 rfl Fj ?_)| (go_at_call 144;refine(N _).mono ?_;rintro x w2 ⟨rfl,m⟩;have F:=Hq m;clear m))
       refine(aj _ F.o).mono ?_;rintro x w3 ⟨H,(⟨er,rfl,rfl⟩|⟨t',rfl,rfl,fi⟩)⟩;.obtain⟨et,ev,ag⟩:=er.shape sent;have D:Hid (R=.error (.inNode k er)/\er.val sent=ca et ev/\Ba w w3):=⟨by rw[cj.o,ci.2.2];exact RQ _ _ _ _ _ HQ.o,ag,(ak _ F.o).2.trans H⟩;rw[ag];clear H ag;go_wp2;go_ret3;rw[D.1];exact⟨D.2.2,.inl ⟨_,rfl,by rw[Er.val,D.2.1];rfl⟩⟩
       .have D:Hid (R=R7 ((l.drop (k+1)).map Ke) (t'.walk 64 r).1 (t'.walk 64 r).2 (k+1)/\Rb w.heap.size w3 g (t'.walk 64 r).1 (t'.walk 64 r).2/\Ba w w3):=⟨by rw[cj.o,ci.2.2];exact rL _ _ _ _ _ HQ.o,fi,(ak _ F.o).2.trans H⟩;clear H fi;go_wp2;go_roundg (l.length-(k+1))
        case measure=>omega
        case rel=>exact⟨k+1,_,_,by omega,rfl,by first|rfl|rw[fu.o ci.1],D.2.1,D.2.2,D.1⟩
      .obtain rfl:k=l.length:=by omega
       have eu:Hid (R=.error (.inNode l.length (.base 2))):=by show R=_;rw[cj.o,List.drop_length,J9,Af]
       have aj:Hid (∀W (p':Option Addr) (c':Nat),Ba wr W->Calls oa 145 #[Qa (some ⟨g,0,none⟩),Ma p' 0 c'] W λe w'=>e=na ((Er.base 2).val sent)/\Ba W w'):=λW p' c' J=>NU g p' c' (s.1.below (ak W J).2);obtain⟨et,ev,ag⟩:=(Er.base 2).shape sent;rw[ag]at aj;have eh:Hid ((Er.base 2).val sent=ca et ev):=ag;clear di V ag;rcases s.2.2.2.2.2.1 with⟨rfl,rfl,rfl⟩|⟨gp,o,rfl,hc,hg,hro⟩
       .go_wp2_with (first| (refine Zr rfl 226 _ rfl g 0 rfl _ _ ah underlying226 rfl Fj ?_)| (go_at_call 144;refine(N _).mono ?_;rintro x w2 ⟨rfl,m⟩;have F:=Hq m;clear m)| (go_at_call 145;refine(aj _ _ _ F.o).mono ?_;rintro x w3 ⟨rfl,H⟩;have aw:=Hq H;clear H))
        go_ret3;rw[eu.o];exact⟨((ak _ F.o).2).va aw.o,.inl ⟨_,rfl,by rw[Er.val,eh.o];rfl⟩⟩
       .have gq:(l.length:Int)<=(c:Int):=by omega
        clear hc hg hro;all_goals go_wp2_with (first| (refine Zr rfl 226 _ rfl g 0 rfl _ _ ah underlying226 rfl Fj ?_)| (go_at_call 144;refine(N _).mono ?_;rintro x w2 ⟨rfl,m⟩;have F:=Hq m;clear m)| (go_at_call 145;refine(aj _ _ _ F.o).mono ?_;rintro x w3 ⟨rfl,H⟩;have aw:=Hq H;clear H))
        all_goals go_ret3
        all_goals rw[eu.o]
        all_goals exact⟨((ak _ F.o).2).va aw.o,.inl ⟨_,rfl,by rw[Er.val,eh.o];rfl⟩⟩
     .have ar:∀g',t≠ .stub g':=λg' e=>bv ⟨g',e⟩;rw[NS ar]at M;have N:=Hq (λW=>PB (w:=W) (r:=r) pv mv cv L.node ar);have fp:=L.node.shape;have bi:=L.lt;have gi:Hid (∀W,Ba wr W->W.rangeAt g 0 [Ma pv mv cv,v,La r]):=λW J=>zc ah (J.block g bi);by_cases V:k<l.length
      .have fk:(l.drop k).map Ke≠[]:=λe=>by have :=Y5 List.length e;simp at this;omega
       rw[Zj fk]at M;have fj:(k:Int)<(l.length:Int):=by omega
       have g4:=λW (J:Ba w W)=>(s.1.below J).Wf.var 4 (by decide);rw[show Ri 4=3 from rfl]at g4;have gc:=Hq g4;have D:Hid (R=.error (.inNode k (.base 4))/\Ba w wr):=⟨M,al⟩;clear hf L ae cf bm aq hn cw M bv ar fk V g4 al bi;rcases fp with rfl|⟨T,a,rfl⟩;all_goals go_wp2_with (first| (refine Zr rfl 226 _ rfl g 0 rfl _ _ ah underlying226 rfl Fj ?_)| (go_at_call 144;refine(N _).mono ?_;rintro x w2 ⟨rfl,m⟩;have F:=Hq m;have g4:=gc _ (D.2.va m);clear m))
       all_goals go_region
       all_goals (try go_wp2)
       all_goals go_ret3
       all_goals rw[D.1]
       all_goals exact⟨Below.drewN (D.2.va F.o) 1,.inl ⟨_,rfl,rfl⟩⟩
      .have dj:(l.drop k).map Ke=[]:=by rw[Xw (by omega)];rfl
       rw[Zo dj]at M;have fj:¬(k:Int)<(l.length:Int):=by omega
       obtain⟨ov,dn⟩:=nm (P7 t r);have du:(ov=none/\∀u,t≠ .leaf r u)\/∃u,ov=some u/\t=.leaf r u:=by
        rw[<-dn];unfold P7;cases t with
        |leaf p' v'=>
         simp only;by_cases e:p'=r;.subst e;rw[Zo rfl];exact .inr ⟨v',rfl,rfl⟩
         .rw[Zj e];exact .inl ⟨rfl,λu e'=>by cases e';exact e rfl⟩
        |_=>exact .inl ⟨rfl,by simp⟩
       have cu:Hid (∀W,Ba wr W->Calls oa 146 #[Sa #[Ma pv mv cv,v,La r]] W λx w'=>x=na (Wa #[La (ov.getD ⟨#[]⟩),Oa ov.isSome])/\Ba W w'):=λW J=>ZG pv mv cv (hf.below J) L.node du;rw[dn]at M;have D:Hid (R=.ok ov/\Ba w wr):=⟨M,al⟩;obtain⟨os,dm⟩:=nm (ov.getD ⟨#[]⟩);obtain⟨ob,dk⟩:=nm ov.isSome;rw[dm,dk]at cu;have ei:Hid (ov.getD ⟨#[]⟩=os/\ov.isSome=ob):=⟨dm,dk⟩;clear hf L ae cf bm aq hn cw M bv ar dj V al bi du dn dm dk;rcases fp with rfl|⟨T,a,rfl⟩;all_goals go_wp2_with (first| (refine Zr rfl 226 _ rfl g 0 rfl _ _ ah underlying226 rfl Fj ?_)| (go_at_call 144;refine(N _).mono ?_;rintro x w2 ⟨rfl,m⟩;have F:=Hq m;have fw:=gi _ m;clear m)| (refine Zr rfl 226 _ rfl g 0 rfl _ _ fw underlying226 rfl Fj ?_)| (go_at_call 146;refine(cu _ F.o).mono ?_;rintro x w3 ⟨rfl,H⟩;have aw:=Hq H;clear H))
       all_goals go_ret3
       all_goals rw[D.1]
       all_goals exact⟨(D.2.va F.o).va aw.o,.inr ⟨ov,rfl,by rw[ei.1,ei.2];rfl⟩⟩
end
section
theorem UH:∀(n:Nat) (x:It) (za:Nat) (er:Er),N9 n x za=.error er->er.Wb
 |0,x,za,er,h=>by rw[N9]at h;cases h;show(8:Nat)∈Gq;decide
 |n+1,x,za,er,h=>by
  have hno:∀fr,(Ay fr).Wb:=λfr=>by show(8:Nat)∈Gq;decide
  have ih:=UH n;have hR:∀y d er,Nw (N9 n) y d=.error er->er.Wb:=λy d er h=>by
   cases y with
   |text _ _ _=>cases h
   |list a b l=>exact ih _ _ _ h
  cases x with
  |text a b s=>rw[N9]at h;cases h;exact hno _
  |list fr en l=>
   rw[N9]at h;by_cases h2:l.length=2
   .obtain⟨a,b,rfl⟩:=nr h2;rw[oq]at h;unfold Gw at h;cases a with
    |list _ _ _=>cases h;exact hno _
    |text a1 a2 s=>
     simp only at h;cases hu:K6 s with
     |none=>rw[hu]at h;cases h;show Er.base 3=_;rfl
     |some q=>
      obtain⟨p,leaf⟩:=q;rw[hu]at h;simp only at h;split at h
      .split at h;.cases h;exact hno _
       .cases h
      .unfold Pm at h;split at h;.cases h;exact hno _
       .cases hn:Nw (N9 n) b (za+p.length)with
        |error e=>rw[hn]at h;cases h;exact hR _ _ _ hn
        |ok m=>rw[hn]at h;cases h
   .rw[vm h2]at h;split at h
    .unfold Pv at h;split at h;.cases h;exact hno _
     .have hk:∀(xs:List It) er,Kw (N9 n) (za+1) xs=.error er->er.Wb:=by
       intro xs;induction xs with
       |nil=>intro er h;rw[Kw]at h;cases h
       |cons y ys ihy=>
        intro er h;rw[Kw]at h;split at h
        .cases hn:Kw (N9 n) (za+1) ys with
         |error e=>rw[hn]at h;cases h;exact ihy _ hn
         |ok m=>rw[hn]at h;cases h
        .cases hm:Nw (N9 n) y (za+1)with
         |error e=>rw[hm]at h;cases h;exact hR _ _ _ hm
         |ok m=>
          rw[hm]at h;simp only at h;cases hn:Kw (N9 n) (za+1) ys with
          |error e=>rw[hn]at h;cases h;exact ihy _ hn
          |ok m=>rw[hn]at h;cases h
      cases hn:Kw (N9 n) (za+1) (l.take 16)with
      |error e=>rw[hn]at h;cases h;exact hk _ _ hn
      |ok m=>rw[hn]at h;cases h
    .cases h;exact hno _
variable{h:List Nat}
theorem gN{c:List Nat}(hc:∀y∈c,y<256){za:Nat}{er:Er}(hs:Pc c h za=.error er):er.Wb:=by
 unfold Pc at hs;split at hs;.cases hs;show(1:Nat)∈Gq;decide
 .split at hs;.cases hs;show(7:Nat)∈Gq;decide
  .cases hx:Gb c with
   |error e=>rw[hx]at hs;cases hs;exact(lB hc hx).1
   |ok x=>rw[hx]at hs;exact UH _ _ _ _ hs
theorem OE:∀(L:List (List Nat)) (h:List Nat) (r:Da) (k:Nat) (er:Er),(∀c∈L,∀y∈c,y<256)->Af L h r k=.error er->er.Wb
 | [],h,r,k,er,_,e=>by rw[Af]at e;cases e;show(2:Nat)∈Gq;decide
 |c::L,h,r,k,er,hL,e=>by
  rw[Af]at e;cases hs:Pc c h (64-r.size)with
  |error er'=>rw[hs]at e;cases e;show er'.Wb;exact gN (hL c (Yj ..)) hs
  |ok t=>
   rw[hs]at e;simp only at e;split at e;.exact OE L _ _ _ _ (λc hc=>hL c (Yy _ hc)) e
   .split at e;.cases e
    .cases e;show(4:Nat)∈Gq;decide
theorem zu{P:Da}{L:List (List Nat)}(hL:∀c∈L,∀y∈c,y<256){er:Er}(e:Ao h P L=.error er):er.Wb:=by
 unfold Ao at e;split at e;.cases e
 .exact OE _ _ _ _ _ hL e
def Ng:Except Er (Option Da)->Da
 | .error _=>⟨#[]⟩
 | .ok o=>o.getD ⟨#[]⟩
def Nh:Except Er (Option Da)->Bool
 | .error _=>false
 | .ok o=>o.isSome
def Nq:Except Er (Option Da)->Value
 | .error er=>Ki er.num er.proof er.node er.at_
 | .ok _=>Ki 0 0 0 0
theorem Iw(l:List Da):∀c∈l.map Ke,∀y∈c,y<256:=λc hc=>by obtain⟨s,_,rfl⟩:=Xd.1 hc;exact Qk s
theorem Wg{w:Fa}{b:Nat}{x0 x1 x2 x3:Value}{t:TypeId}(h:w.heap[b]? =some (ma #[x0,x1,x2,x3] t (0,0))):w.cell? ⟨b,0,none⟩=some x0/\w.cell? ⟨b,1,none⟩=some x1/\w.cell? ⟨b,2,none⟩=some x2/\w.cell? ⟨b,3,none⟩=some x3/\w.frozen? ⟨b,0,none⟩=false/\w.frozen? ⟨b,1,none⟩=false/\w.frozen? ⟨b,2,none⟩=false/\w.frozen? ⟨b,3,none⟩=false:=by refine⟨?_,?_,?_,?_,?_,?_,?_,?_⟩<;>simp[World.cell?,World.frozen?,h]
theorem tL{w:Fa}(sent:Nat->Addr)(h:List Nat)(K:Array Nat)(l:List Da)(p:Option Addr)(c:Nat)(hE:Env w.heap.size sent w)(hTy:Ht w)(hTl:14<w.heap.size)(hh:h.length=32)(hhb:∀x∈h,x<256)(hK:K.size=32)(hKb:K3 K)(hr:Ic w p l c)(hl:l.length<=9223372036854775807){q:Except Er (Option Da)}(hq:Ao h (Kg (Kl K.toList)) (l.map Ke)=q):Calls oa 43 #[Sa (h.map Kf).toArray,Sa (K.toList.map Kf).toArray,Ma p l.length c] w λe w'=>e=na (Wa #[La (Ng q),Oa (Nh q),Nq q])/\Ba w w':=by
 obtain⟨A,T⟩:=nm ((h.map Kf).toArray);obtain⟨Y,y⟩:=nm ((K.toList.map Kf).toArray);obtain⟨W0,n⟩:=nm (((w.alloc (ma A 39)).alloc (ma Y 37)).alloc (ma #[Ia ka 0,Ia ka 0,Ia ka 0,Ia ka 0] 91));have ac:W0.rangeAt w.heap.size 0 (h.map Kf):=λj u B=>by rw[<-n,Z8 _ _ _ (by simp;omega),Z8 _ _ _ (by simp),Zf,Ze,<-T];simpa using B
 have U:W0.rangeAt (w.heap.size+1) 0 (K.toList.map Kf):=λj u B=>by rw[<-n,Z8 _ _ _ (by simp),show w.heap.size+1=(w.alloc (ma A 39)).heap.size by simp,Zf,Ze,<-y];simpa using B
 have b:Ba w W0:=by rw[<-n];exact(((Zb _ _).alloc (Za _) _).alloc (by simp) _).alloc (by simp;omega) _
 have X:W0.heap.size=w.heap.size+3:=by rw[<-n];simp
 have S:W0.heap[w.heap.size+1+1]? =some (ma #[Ia ka 0,Ia ka 0,Ia ka 0,Ia ka 0] 91 (0,0)):=by rw[<-n];have :(((w.alloc (ma A 39)).alloc (ma Y 37)).alloc (ma #[Ia ka 0,Ia ka 0,Ia ka 0,Ia ka 0] 91)).heap[((w.alloc (ma A 39)).alloc (ma Y 37)).heap.size]? =some (ma #[Ia ka 0,Ia ka 0,Ia ka 0,Ia ka 0] 91 (0,0)):=Z6;simpa using this
 have V:Ic W0 p l c:=by
  rcases hr with h|⟨g,o,e1,e2,e3,e4⟩;.exact .inl h
  .exact .inr ⟨g,o,e1,e2,λh=>Zm (e3 h) b.size,λj u B=>by
    have hj:0<l.length:=by have :=(Zw.1 B).1;simp at this;omega
    exact(b.cell (p:=⟨g,o+j,none⟩) (e3 hj)).trans (e4 j u B)⟩
 have D:=Hq (DB sent h K l p c ((hE.below b).raise b.size) hh hhb hK hKb V hl);rw[hq]at D;have HT:Hid (∀W,Ba W0 W->∀a:Er,a.Wb->Calls oa 92 #[a.val sent] W λe w'=>e=na (Ki a.num a.proof a.node a.at_)/\Ba W w'):=λW hW a hs=>jG sent a hs W (hE.Wf.below (b.va hW)) (((b.va hW).cell (p:=⟨14,0,none⟩) hTl).trans hTy);have HS:Hid (∀a,q=.error a->a.Wb):=λa e=>zu (Iw l) (hq.trans e);have z:=Hq (A3 b X S);have hz:=oo hh;have aj:=Mb hK
 obtain⟨m,hm⟩:=nm l.length;rw[hm]at D⊢;have ah:=underlying39;have ag:=underlying37;clear hE hTy hTl hh hhb hK hKb hr hl hq b X V S hm;rw[T,y]at D⊢;go_enter func43,ntmps43;go_upto_region 1 with fail
 clear n;rw[<-T,<-y]at D;clear T y;go_wp2_with (first| (refine Zr rfl 39 _ rfl w.heap.size 0 rfl (h.map Kf) _ ac ah rfl hz ?_)| (refine Zr rfl 37 _ rfl (w.heap.size+1) 0 rfl (K.toList.map Kf) _ U ag rfl aj ?_))
 refine D.mono ?_;rintro e w1 ⟨f,(⟨a,rfl,rfl⟩|⟨o,rfl,rfl⟩)⟩
 .obtain⟨et,ev,P⟩:=a.shape sent;have J:=HT w1 f a (HS a rfl);rw[P]at J;have ai:=Hq J;have d:=Hq (A2 (z.1.va f) ((f.block _ (by have :=z.2.1;omega)).trans z.2.2));rw[P];clear P J f;go_wp2_with fail
  refine ai.mono ?_;rintro e k ⟨rfl,i⟩;have t:=(i.block _ (Zg.1 d.2).1).trans d.2;have ae:=(Zg.1 t).1;obtain⟨c0,c1,c2,c3,f0,f1,f2,f3⟩:=Wg t;have C:=Hq (d.1.va i);obtain⟨G,N⟩:=nm a.num;obtain⟨H,O⟩:=nm a.proof;obtain⟨F,M⟩:=nm a.node;obtain⟨E,L⟩:=nm a.at_;have s:=Hq (A4 N.symm O.symm M.symm L.symm);rw[N,O,M,L];clear N O M L;clear i;go_wp2;have I:((((k.setCell ⟨w.heap.size+1+1,0,none⟩ (Ia ka (G:Int))).setCell ⟨w.heap.size+1+1,1,none⟩ (Ia ka (H:Int))).setCell ⟨w.heap.size+1+1,2,none⟩ (Ia ka (F:Int))).setCell ⟨w.heap.size+1+1,3,none⟩ (Ia ka (E:Int))).heap[w.heap.size+1+1]? =some (ma #[Ia ka (G:Int),Ia ka (H:Int),Ia ka (F:Int),Ia ka (E:Int)] 91 (0,0)):=De (De (De (De (cs:=[Ia ka 0,Ia ka 0,Ia ka 0,Ia ka 0]) t 0 _) 1 _) 2 _) 3 _;have r:Ba w ((((k.setCell ⟨w.heap.size+1+1,0,none⟩ (Ia ka (G:Int))).setCell ⟨w.heap.size+1+1,1,none⟩ (Ia ka (H:Int))).setCell ⟨w.heap.size+1+1,2,none⟩ (Ia ka (F:Int))).setCell ⟨w.heap.size+1+1,3,none⟩ (Ia ka (E:Int))):=(((C.setCell (p:=⟨w.heap.size+1+1,0,none⟩) (by simp;omega) _).setCell (p:=⟨w.heap.size+1+1,1,none⟩) (by simp;omega) _).setCell (p:=⟨w.heap.size+1+1,2,none⟩) (by simp;omega) _).setCell (p:=⟨w.heap.size+1+1,3,none⟩) (by simp;omega) _;generalize ((((k.setCell ⟨w.heap.size+1+1,0,none⟩ (Ia ka (G:Int))).setCell ⟨w.heap.size+1+1,1,none⟩ (Ia ka (H:Int))).setCell ⟨w.heap.size+1+1,2,none⟩ (Ia ka (F:Int))).setCell ⟨w.heap.size+1+1,3,none⟩ (Ia ka (E:Int)))=w3 at I r⊢;obtain⟨Z,d1,d2,d3,-⟩:=Wg I;refine Zv (v:=Wa #[La ⟨#[]⟩,Oa false,Ki G H F E]) (by simp[results,results43,go_sem,Z,d1,d2,d3]) rfl ⟨by rw[s.1,s.2.1,s.2.2.1,s.2.2.2];rfl,r⟩
 .have d:Hid (Ba w w1/\w1.heap[w.heap.size+1+1]? =some (ma #[Ia ka 0,Ia ka 0,Ia ka 0,Ia ka 0] 91 (0,0))):=⟨z.1.va f,(f.block _ (by have :=z.2.1;omega)).trans z.2.2⟩;obtain⟨os,R⟩:=nm (o.getD ⟨#[]⟩);obtain⟨ob,Q⟩:=nm o.isSome;have s:Hid (Ng (.ok o)=os/\Nh (.ok o)=ob):=⟨R,Q⟩;rw[R,Q];clear f R Q;go_wp2_with fail
  refine(wH _).mono ?_;rintro e k ⟨rfl,i⟩;have t:k.heap[w.heap.size+1+1]? =some (ma #[Ia ka 0,Ia ka 0,Ia ka 0,Ia ka 0] 91 (0,0)):=(i.block _ (Zg.1 d.2).1).trans d.2;have ae:w.heap.size+1+1<k.heap.size:=(Zg.1 t).1;obtain⟨c0,c1,c2,c3,f0,f1,f2,f3⟩:=Wg t;have C:Hid (Ba w k):=d.1.va i;clear i;go_wp2;have I:((((k.setCell ⟨w.heap.size+1+1,0,none⟩ (Ia ka ((0:Nat):Int))).setCell ⟨w.heap.size+1+1,1,none⟩ (Ia ka ((0:Nat):Int))).setCell ⟨w.heap.size+1+1,2,none⟩ (Ia ka ((0:Nat):Int))).setCell ⟨w.heap.size+1+1,3,none⟩ (Ia ka ((0:Nat):Int))).heap[w.heap.size+1+1]? =some (ma #[Ia ka ((0:Nat):Int),Ia ka ((0:Nat):Int),Ia ka ((0:Nat):Int),Ia ka ((0:Nat):Int)] 91 (0,0)):=De (De (De (De (cs:=[Ia ka 0,Ia ka 0,Ia ka 0,Ia ka 0]) t 0 _) 1 _) 2 _) 3 _;have r:Ba w ((((k.setCell ⟨w.heap.size+1+1,0,none⟩ (Ia ka ((0:Nat):Int))).setCell ⟨w.heap.size+1+1,1,none⟩ (Ia ka ((0:Nat):Int))).setCell ⟨w.heap.size+1+1,2,none⟩ (Ia ka ((0:Nat):Int))).setCell ⟨w.heap.size+1+1,3,none⟩ (Ia ka ((0:Nat):Int))):=(((C.setCell (p:=⟨w.heap.size+1+1,0,none⟩) (by simp;omega) _).setCell (p:=⟨w.heap.size+1+1,1,none⟩) (by simp;omega) _).setCell (p:=⟨w.heap.size+1+1,2,none⟩) (by simp;omega) _).setCell (p:=⟨w.heap.size+1+1,3,none⟩) (by simp;omega) _;generalize ((((k.setCell ⟨w.heap.size+1+1,0,none⟩ (Ia ka ((0:Nat):Int))).setCell ⟨w.heap.size+1+1,1,none⟩ (Ia ka ((0:Nat):Int))).setCell ⟨w.heap.size+1+1,2,none⟩ (Ia ka ((0:Nat):Int))).setCell ⟨w.heap.size+1+1,3,none⟩ (Ia ka ((0:Nat):Int)))=w3 at I r⊢;obtain⟨Z,d1,d2,d3,-⟩:=Wg I;refine Zv (v:=Wa #[La os,Oa ob,Ki 0 0 0 0]) (by simp[results,results43,go_sem,Z,d1,d2,d3]) rfl ⟨by rw[s.1,s.2];rfl,r⟩
end
end Go.Proofs.YtpfbdlnibdfcoaaGreatDoor
