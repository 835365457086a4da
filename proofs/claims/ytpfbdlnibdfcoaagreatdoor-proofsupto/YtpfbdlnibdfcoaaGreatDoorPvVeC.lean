import Derived.Test.YtpfbdlnibdfcoaaGreatDoorPvMapC
import Derived.Test.YtpfbdlnibdfcoaaGreatDoorPvBooA
import Derived.Test.YtpfbdlnibdfcoaaGreatDoorPvVeB
namespace Go.Proofs.YtpfbdlnibdfcoaaGreatDoor
open Go.RowKit Tryz
open Value renaming int->Ia,string->La,slice->Ma,bool->Oa,pointer->Qa,agg->Sa,tuple->Wa,iface->ca,nilIface->da
open IntKind renaming i64->ka
open Obj renaming cells->ma
open Ending renaming returned->na
open Tryz renaming prog->oa
set_option maxRecDepth 100000
set_option maxHeartbeats 0
section
section
variable{P:Program}{md:Region.Mode}{ops:Array Oper}{Q:Exit->Act->Fa->Prop}
theorem Sat.congr{a0 a:Act}{val val':Nat->Value}{listed:Array Bool}(h:Sat ops a0 val listed a)(he:∀i,listed.getD i false=true->val i=val' i):Sat ops a0 val' listed a:=⟨h.defers,h.size,λi j hl hd hj=>by rw[<-he i hl];exact h.done i j hl hd hj,h.rest⟩
def Eo(md:Region.Mode)(ops:Array Oper):Bool:=(List.range ops.size).all λi=>match ops[i]? with |some o=>o.guard.isNone&&o.after.all (λe=> !Region.binds md e||decide (e.on<i))|none=>true
theorem TT(h:Eo md ops=true):∀(i:Nat) (o:Oper),ops[i]? =some o->o.guard=none/\∀e∈o.after,Region.binds md e=true->e.on<i:=by intro i o b;have f:=(Zg.1 b).1;have :=Xy.1 h i (X3.2 f);rw[b]at this;simp only[X5]at this;refine⟨by simpa using this.1,λe d c=>?_⟩;have a:=Jn.1 this.2 e d;rw[c]at a;simpa using a
theorem jr(a0:Act)(I:(Nat->Bool)->(Nat->Value)->Fa->Prop)(h1:Pj ops=true)(h2:Eo md ops=true)(each:∀(i:Nat) (o:Oper),ops[i]? =some o->∀(listed:Array Bool) (val:Nat->Value) (a:Act) (w:Fa),Sat ops a0 val listed a->listed.getD i false=false->(∀e∈o.after,Region.binds md e=true->listed.getD e.on false=true)->I (λk=>listed.getD k false) val w->o.wp P a w (λa' w'=>∃v,a'=a.put o.dst v/\I (λk=>if k=i then true else listed.getD k false) (λk=>if k=i then v else val k) w') Q)(w:Fa)(val0:Nat->Value)(hI:I (λ_=>false) val0 w)(hQ:∀val w,I (λk=>decide (k<ops.size)) val w->Q .normal (Gx val ops.toList 0 a0) w):wpAny P md ops Q ops.size (Array.replicate ops.size false) a0 w:=by
 have r:=IA h1;have l:=TT h2;have G:∀i,(Array.replicate ops.size false).getD i false=false:=by
  intro i;simp only[Array.getD];split;.simp
  .rfl
 have p:∀(listed:Array Bool) (val:Nat->Value) (a:Act) (w:Fa),listed.size=ops.size->(∀i,i<ops.size->listed.getD i false=true)->Sat ops a0 val listed a->I (λk=>listed.getD k false) val w->Q .normal a w:=by
  intro listed val a w g C b j;have :listed=Array.replicate ops.size true:=by
   apply Array.ext;.simp[g]
   .intro i h1 h2;have :=C i (by omega);simp only[Array.getD,h1,dif_pos]at this;simpa using this
  subst this;have d:(λk=>(Array.replicate ops.size true).getD k false)=λk=>decide (k<ops.size):=by
   funext k;simp only[Array.getD];split;.rename_i h;rw[Z5 (by simpa using h)];simp
   .rename_i h;rw[Zt (by simpa using h)]
  rw[d]at j;rw[b.same (Sat.all r ops.toList [] (Array.replicate ops.size false) a0 rfl (by simp) (λi=>by rw[G];exact(Zt (Nat.not_lt_zero _)).symm) (Sat.start ops a0 val ops.size))];exact hQ val w j
 have x:∀(listed:Array Bool),listed.size=ops.size->Region.ready md ops listed=[]->∀i,i<ops.size->listed.getD i false=true:=by
  intro listed g D;have K:∀n i,i<n->i<ops.size->listed.getD i false=true:=by
   intro n;induction n with
   |zero=>intro i h;omega
   |succ n ih=>
    intro i M c;by_cases B:listed.getD i false=true;.exact B
    .exfalso;have s:i∈Region.ready md ops listed:=by
      unfold Region.ready;rw[Xu];refine⟨X3.2 c,?_⟩;have h1:listed.getD i true=false:=by simp only[Array.getD,show i<listed.size by omega,dif_pos]at B⊢;simpa using B
      rw[h1,Xh c];simp only[Bool.not_false,Vp,Yk,Bool.true_and];rw[Jn];intro e d;cases A:Region.binds md e with
      |false=>rfl
      |true=>have N:=(l i ops[i] (Xh c)).2 e d A;rw[ih e.on (by omega) (by omega)];rfl
     rw[D]at s;cases s
  exact λi c=>K (i+1) i (by omega) c
 have E:∀(fuel:Nat) (listed:Array Bool) (val:Nat->Value) (a:Act) (w:Fa),listed.size=ops.size->Ek listed<=fuel->Sat ops a0 val listed a->I (λk=>listed.getD k false) val w->wpAny P md ops Q fuel listed a w:=by
  intro fuel;induction fuel with
  |zero=>
   intro listed val a w g C b j;have m:∀i,i<ops.size->listed.getD i false=true:=by
    intro i c;by_cases h:listed.getD i false=true;.exact h
    .exfalso;have :=Ox (listed:=listed) (i:=i) (by omega) (by simpa using h);omega
   refine⟨?_,p listed val a w g m b j⟩;unfold Region.ready;rw[List.filter_eq_nil_iff];intro i c;have h1:listed.getD i true=true:=by
    have h2:=m i (X3.1 c);simp only[Array.getD]at h2⊢;split
    .rename_i hk
     simpa[hk]using h2
    .rfl
   rw[h1];simp
  |succ fuel ih=>
   intro listed val a w g C b j;refine⟨λD=>p listed val a w g (x listed g D) b j,λi c=>?_⟩;unfold Region.ready at c;rw[Xu]at c;obtain⟨H,q⟩:=c;have J:=X3.1 H;have t:=Xh J;rw[t]at q;simp only[Vp,Yk,X5,Bool.not_eq_true']at q;obtain⟨h1,h2⟩:=q;have f:listed.getD i false=false:=by simp only[Array.getD,show i<listed.size by omega,dif_pos]at h1⊢;exact h1
   have y:∀e∈ops[i].after,Region.binds md e=true->listed.getD e.on false=true:=by intro e d A;have :=(Jn.1 h2) e d;rw[A]at this;simpa using this
   unfold wpOp;rw[t];simp only;have L:Region.wanted ops[i] (yielded ops a.tmps)=true:=by simp[Region.wanted,(l i _ t).1]
   rw[Zo L];refine .inl (Vd ?_ (each i _ t listed val a w b f y j));rintro a' w' ⟨v,rfl,F⟩;have :=Ox (listed:=listed) (i:=i) (by omega) f;have z:Sat ops a0 (λk=>if k=i then v else val k) listed a:=b.congr λk hk=>by rw[Zj (λe=>by rw[e,f]at hk;cases hk)]
   have u:=z.put t (by omega) f r;rw[Zo rfl]at u;have d:(λk=>(listed.setIfInBounds i true).getD k false)=λk=>if k=i then true else listed.getD k false:=by funext k;exact Bj (by omega) k
   exact ih _ _ _ w' (by simp[g]) (by omega) u (by rw[d];exact F)
 refine E ops.size _ val0 a0 w (by simp) ?_ (Sat.start ops a0 val0 ops.size) ?_;.unfold Ek;simp
 .have d:(λk=>(Array.replicate ops.size false).getD k false)=λ_=>false:=by funext k;exact G k
  rw[d];exact hI
end
variable{vf:Nat->Option Value}{d:Nat->Bool}{v:Nat->Value}{i:Nat}{x:Value}
theorem mj(h:∀i x,vf i=some x->d i=true->v i=x)(hi:vf i=some x):∀j y,vf j=some y->(λk=>if k=i then true else d k) j=true->(λk=>if k=i then x else v k) j=y:=λj y hj hd=>by
 by_cases e:j=i;.subst e;rw[hi]at hj;cases hj;simp
 .simp only[Zj e]at hd⊢;exact h j y hj hd
theorem vo(h:∀i x,vf i=some x->d i=true->v i=x)(hi:vf i=none):∀j y,vf j=some y->(λk=>if k=i then true else d k) j=true->(λk=>if k=i then x else v k) j=y:=λj y hj hd=>by
 by_cases e:j=i;.subst e;rw[hi]at hj;cases hj
 .simp only[Zj e]at hd⊢;exact h j y hj hd
variable{b:Act}{val:Nat->Value}
theorem sd{ops:Array Oper}{a0:Act}{listed:Array Bool}(hs:Sat ops a0 val listed b)(h1:∀i x,vf i=some x->listed.getD i false=true->val i=x){j s:Nat}(hd:listed.getD j false=true)(ht:Gv ops j=some s)(hl:s<a0.tmps.size)(hv:vf j=some x):b.tmps[s]? =some x:=(hs.done j s hd ht hl).trans (Y5 some (h1 j x hv hd))
variable{P:Program}{Q:Exit->Act->Fa->Prop}{I:Value->Fa->Prop}
theorem Qe{o:Oper}{W:Fa}{dl:Nat->Bool}(h1:∀j y,vf j=some y->dl j=true->val j=y)(hi:vf i=some x)(hX:I x W)(h:Oper.wp P o b W (λa' w'=>a'=b.put o.dst x/\w'=W) Q):Oper.wp P o b W (λa' w'=>∃v,a'=b.put o.dst v/\(∀j y,vf j=some y->(λk=>if k=i then true else dl k) j=true->(λk=>if k=i then v else val k) j=y)/\I v w') Q:=Vd (by rintro a' w' ⟨rfl,rfl⟩;exact⟨x,rfl,mj h1 hi,hX⟩) h
end
section
theorem Ft(K L:List Nat)(hK:K.length=32)(hL:L.length=32)(hKb:∀x∈K,x<256)(hLb:∀x∈L,x<256)(w:Fa):(Op.equalIn 10000 39 (Sa (K.map Kf).toArray) (Sa (L.map Kf).toArray)).run oa w=.ok (decide (K=L)) w:=by
 have f:∀w,(sizeOf 5).run oa w=.ok 1 w:=λw=>by kernel_rfl
 have a:∀(A:List Nat),(∀x∈A,x<256)->A.map Kf=(A.map UInt8.ofNat).map Extern.Stop.cell:=λA i=>by rw[Xx];apply Vs;intro x k;have l:=i x k;show Value.int .u8 _=Value.int .u8 _;congr 1;simp;omega
 have h:=run_equalIn_bytes (P:=oa) w 9998 39 5 32 underlying39 underlying5 f (K.map UInt8.ofNat) (L.map UInt8.ofNat) (by simp[hK]) (by simp[hL]);rw[<-a K hKb,<-a L hLb]at h;rw[h];by_cases e:K=L;.rw[e,Z5 rfl];simp
 .have d:K.map UInt8.ofNat≠L.map UInt8.ofNat:=λj=>e (by
   have c:=Y5 (List.map Extern.Stop.cell) j;rw[<-a K hKb,<-a L hLb]at c;have b:∀x y:Nat,Kf x=Kf y->x=y:=λx y g=>by simp only[Kf,Value.int.injEq]at g;omega
   exact(List.map_inj_right (λ{x y}=>b x y)).1 c)
  rw[Zt e,Xe.2 d]
variable{w w':Fa}
theorem qb.up(h:qb w)(hM:16<=w.heap.size)(hb:Ba w w'):qb w':=h.below hb hM
variable{B:Nat}
theorem zR{S:Bb}(sent:Nat->Addr)(s:Da)(h:List Nat)(za:Nat)(hf:ua B S w)(hF:Qb w sent)(hT:qb w)(hM:16<=w.heap.size)(hh:h.length=32)(hhb:∀x∈h,x<256)(hd:za<=64):Calls oa 184 #[La s,Sa (h.map Kf).toArray,Ia ka (za:Int)] w (Lc sent B S w (Pc (Ke s) h za)):=by
 obtain⟨A,E⟩:=nm ((h.map Kf).toArray);obtain⟨W0,f⟩:=nm (w.alloc (ma A 39));have d:W0.rangeAt w.heap.size 0 (h.map Kf):=λj u hu=>by rw[<-f,Zf,Ze,<-E];simpa using hu
 have g:Ba w W0:=by rw[<-f];exact(Zb _ _).alloc (Za _) _
 have L:w.heap.size<W0.heap.size:=by rw[<-f];simp
 have V:=(hF.below g).var 1 (by decide);rw[show Ri 1=1 from rfl]at V;have HF:=Hq hf;have ac:=Hq hF;have Z:=Hq g;have z:=Hq g.drew;by_cases o:700<(Ke s).length
 .have hi:(700:Int)<(s.size:Int):=by rw[ta]at o;omega
  have q:Pc (Ke s) h za=.error (.base 1):=by unfold Pc;rw[Zo o]
  rw[q];clear hf hF hT hM hh hhb hd o q d g L;rw[E];go_enter func184,ntmps184;go_upto_region 2 with fail
  clear f;go_region;all_goals (try go_wp2)
  all_goals go_ret2
  all_goals exact .inl ⟨_,rfl,rfl,Below.drewN Z 1⟩
 .have hi:(s.size:Int)<=700:=by rw[ta]at o;omega
  obtain⟨D,y⟩:=nm (Ky (Ke s));have H:(G8 s).toList=D:=by rw[<-y,Ky,Wm]
  have I:D.length=32:=by rw[<-y];exact Bh _
  have G:∀x∈D,x<256:=by rw[<-y];exact Lk _
  have J:=λW=>Ft D h I hh G hhb W;have HO:Hid (∀W,Ba w W->Calls oa 69 #[La s] W λe N=>e=na (Sa (D.map Kf).toArray)/\Ba W N):=λW F=>by have :=Dq s W (hT.up hM F) (Z2 hM F.size);rw[H]at this;exact this
  have P:=λW (F:Ba w W)=>(hF.below F).var 7 (by decide);rw[show Ri 7=5 from rfl]at P;have ae:=Hq P;have hz:(oa.info? 39).map (·.size)=some (h.map Kf).length:=by rw[Zl,hh];kernel_rfl
  have ag:=underlying39;have U:Hid (∀W,Ba w W->Calls oa 127 #[La s] W (Fh s sent W)):=λW F=>yE s sent W (hF.below F);have HX:=Hq hd;by_cases i:D=h
  .rw[Z5 i]at J;have q:Pc (Ke s) h za=match Gb (Ke s)with | .error e=>.error e| .ok x=>N9 6 x za:=by unfold Pc;rw[Zj o,Zj (by rw[y];simpa using i)];cases Gb (Ke s)<;>rfl
   have HQ:=Hq q;clear hf hF hT hM hh hhb hd o g y H I G V P i q;rw[E];clear E;go_enter func184,ntmps184;go_upto_region 3 with fail
   clear f;go_region_held3 (λN=>N.rangeAt w.heap.size 0 (h.map Kf)) (first|exact d|exact X) (first| (go_at_call 69;refine(HO _ z.o).mono ?_;rintro x O ⟨rfl,b⟩;have X:O.rangeAt w.heap.size 0 (h.map Kf):=zc d (b.block w.heap.size L);have r:Hid (Ba w O):=z.va b;clear b))
   all_goals go_wp2_with fail
   all_goals refine(U _ r.o).mono ?_
   all_goals intro e2 Q a
   all_goals cases hx:Gb (Ke s)with
    |error er=>
     obtain⟨t,v,hv,rfl⟩:=a.2.1 er hx
     have k:=Hq (A3 (by rw[HQ.o,hx]:Pc (Ke s) h za=.error er) hv (r.va a.1))
     clear a hx hv
     go_wp2
     go_ret2
     rw[k.1]
     exact .inl ⟨er,rfl,by rw[k.2.1];rfl,V8 k.2.2 k.2.2.size _⟩
    |ok x=>
     obtain⟨fr,en,l,tx,p,m,c,R,rfl⟩:=a.2.2 x hx
     have C:Ba w (Q.alloc (ma #[Ia ka (fr:Int),Ia ka (en:Int),Oa l,La tx,Ma p m c] 204)):=(r.va a.1).alloc (r.va a.1).size _
     have T:Ba Q (Q.alloc (ma #[Ia ka (fr:Int),Ia ka (en:Int),Oa l,La tx,Ma p m c] 204)):=(Zb _ _).alloc (Za _) _
     have HR:=Hq (nG sent B 6 S _ _ _ x za (HF.below C) (ac.below C) (R.below T) (zA (Qk s) hx) HX.o)
     have k:=Hq (A2 (by rw[HQ.o,hx]:Pc (Ke s) h za=N9 6 x za) C)
     clear a hx R C T
     go_wp2_with fail
     refine HR.mono ?_
     intro e3 w3 Y
     rcases(Lc.after HF k.2 Y)with⟨er,k1,rfl,hb⟩|⟨t,v,S',k1,rfl,k3,k4,k5⟩
     .obtain⟨et,ev,K⟩:=er.shape sent
      have n:=Hq (A3 k1 K hb)
      rw[K]
      clear Y k1 hb K
      go_wp2
      go_ret2
      rw[k.1,n.1]
      exact .inl ⟨er,rfl,by rw[n.2.1];rfl,n.2.2⟩
     .have n:=Hq (A4 k1 k3 k4 k5)
      clear Y k1 k3 k4 k5
      go_wp2
      go_ret2
      rw[k.1,n.1]
      exact .inr ⟨t,v,S',rfl,rfl,n.2.1,n.2.2.1,n.2.2.2⟩
  .rw[Zt i]at J;have q:Pc (Ke s) h za=.error (.base 7):=by unfold Pc;rw[Zj o,Zo (by rw[y];exact i)]
   rw[q];clear hf hF hT hM hh hhb hd o g y H I G V P i q;rw[E];clear E;go_enter func184,ntmps184;go_upto_region 3 with fail
   clear f;go_region_held3 (λN=>N.rangeAt w.heap.size 0 (h.map Kf)) (first|exact d|exact X) (first| (go_at_call 69;refine(HO _ z.o).mono ?_;rintro x O ⟨rfl,b⟩;have X:O.rangeAt w.heap.size 0 (h.map Kf):=zc d (b.block w.heap.size L);have r:Hid (Ba w O):=z.va b;have gg:=ae _ r.o;clear b))
   all_goals go_wp2_with fail
   all_goals go_region
   all_goals (try go_wp2)
   all_goals go_ret2
   all_goals exact .inl ⟨_,rfl,rfl,Below.drewN r 1⟩
structure Env(B:Nat)(sent:Nat->Addr)(w:Fa):Prop where
 Wf:Qb w sent
 Fg:qb w
 low:16<=B
 vars:∀n∈Gq,Ri n<B
 Sm:∀n∈Gq,(sent n).block<B
variable{sent:Nat->Addr}
theorem Env.below(h:Env B sent w)(hb:Below B w w'):Env B sent w':=⟨h.Wf.Cb hb h.vars h.Sm,h.Fg.ud (hb.block 13 (by have :=h.low;omega)) (hb.block 15 (by have :=h.low;omega)),h.low,h.vars,h.Sm⟩
theorem Env.raise{B':Nat}(h:Env B sent w)(hb:B<=B'):Env B' sent w:=⟨h.Wf,h.Fg,Z2 h.low hb,λn hn=>Zm (h.vars n hn) hb,λn hn=>Zm (h.Sm n hn) hb⟩
def Rb(B:Nat)(w:Fa)(bw:Nat)(t:Nd)(r:Da):Prop:=∃S l thr v cs,ua B S w/\Way S B w bw l t r thr v cs/\S bw=none/\(∀k,thr.ownBlock=some k->S k=none)/\l.length+r.size<=64/\t.fits r.size/\qd (Ke r)
variable{h:List Nat}
theorem QK(hl:h.length=32):(Nd.stub h).ph=h:=by have e:(Nd.stub h).ref=160::h:=wI hl;rw[Nd.ph,e,Zj (by simp;omega)];rfl
variable{t:Nd}{r:Da}{l:List (Nd×Da)}
theorem nc.len{e:Nd}{r':Da}(h:nc t r l e r'):t.fits r.size->l.length+r'.size<=r.size/\e.fits r'.size:=by
 induction h with
 |stop h=>intro a;simp;exact a
 |go hn _ ih=>intro a;obtain⟨f,g,d⟩:=Nd.we a hn;obtain⟨b,c⟩:=ih (by rw[Cf];exact d);rw[Cf]at b;exact⟨by simp;omega,c⟩
theorem nc.qd{t:Nd}{r:Da}{l:List (Nd×Da)}{e:Nd}{r':Da}(h:nc t r l e r'):qd (Ke r)->qd (Ke r'):=by
 induction h with
 |stop h=>exact id
 |go hn _ ih=>intro a;exact ih (zp a _)
theorem Way.grow{S S':Bb}{bw:Nat}{thr v:Value}{cs:List Value}(h:Way S B w bw l t r thr v cs)(hg:Fr B S S' w w')(hbw:S bw=none)(hth:∀k,thr.ownBlock=some k->S k=none):Way S' B w' bw l t r thr v cs/\S' bw=none/\∀k,thr.ownBlock=some k->S' k=none:=by refine⟨⟨(hg.other bw h.lt hbw).trans h.ub,h.lo,h.node.sub hg.sub,h.own.Cb hg.size λk b a=>hg.other k b (hth k a),h.apart,h.turns.sub hg.sub⟩,hg.new bw h.lt hbw,λk a=>hg.new k ?_ (hth k a)⟩;exact(h.own.block k a).2
theorem NU(bw:Nat)(p:Option Addr)(c:Nat)(hE:Env B sent w):Calls oa 145 #[Qa (some ⟨bw,0,none⟩),Ma p 0 c] w λe w'=>e=na ((Er.base 2).val sent)/\Ba w w':=by have a:=hE.Wf.var 2 (by decide);rw[show Ri 2=2 from rfl]at a;clear hE;go_enter func145,ntmps145;go_wp2;go_ret;exact⟨rfl,Zb _ _⟩
def Tm(sent:Nat->Addr)(B bw:Nat)(w:Fa)(q:Except Er Nd)(r:Da)(e:Ending)(w':Fa):Prop:=Below B w w'/\((∃er:Er,q=.error er/\e=na (er.val sent))\/∃t,q=.ok t/\e=na da/\Rb B w' bw (t.walk 64 r).1 (t.walk 64 r).2)
theorem WJ{bw g o m c:Nat}{s:Da}(hE:Env B sent w)(hS:Rb B w bw (.stub h) r)(hg:g<B)(hc:w.cell? ⟨g,o,none⟩=some (La s))(hm:0<m):Calls oa 145 #[Qa (some ⟨bw,0,none⟩),Ma (some ⟨g,o,none⟩) m c] w (Tm sent B bw w (Pc (Ke s) h (64-r.size)) r):=by
 obtain⟨S,l,G,v,cs,p,q,y,K,hl,i,R⟩:=hS;obtain⟨d,T,hd⟩:=q.node.full (by simp);have bi:v=ca 228 (Qa (some ⟨d,0,none⟩)):=T;clear T;subst bi;obtain⟨Q,I⟩:=nm (Pc (Ke s) h (64-r.size));rw[I];have C:=p.ok d _ hd;rw[Nd.ok]at C;have al:S g=none:=p.nothing hg;have ay:g<w.heap.size:=Zm hg p.le;obtain⟨c0,c1,c2,f0,f1,f2⟩:=q.cell;have ak:=q.lt;have bn:(0:Int)<(m:Int):=by omega
 have bq:¬((m:Int)=0):=by omega
 have bv:((m:Int)==0)=false:=by simp;omega
 have ao:r.size<=64:=by omega
 have ag:wrap64 ((64:Int)-(r.size:Int))=((64-r.size:Nat):Int):=by rw[show(64:Int)-(r.size:Int)=((64-r.size:Nat):Int)by omega];exact Oy _ (by omega)
 obtain⟨za,z⟩:=nm (64-r.size);rw[z]at ag I;have bj:IntKind.i64.wrap ((64:Int)-(r.size:Int))=(za:Int):=by clear ag;rw[IntKind.wrap_i64];omega
 have HX:Hid (ua B S w/\Way S B w bw l (.stub h) r G (ca 228 (Qa (some ⟨d,0,none⟩))) cs/\S bw=none/\(∀k,G.ownBlock=some k->S k=none)/\l.length+r.size<=64/\qd (Ke r)/\Env B sent w/\h.length=32/\(∀x∈h,x<256)/\64-r.size=za/\Pc (Ke s) h za=Q):=⟨p,q,y,K,hl,R,hE,C.1,C.2,z,I⟩;have HD:Hid (∀W,Ba w W->Calls oa 160 #[ca 228 (Qa (some ⟨d,0,none⟩))] W λe E=>e=na (Sa (h.map Kf).toArray)/\Fr B S S w E):=λW f=>by have :=UD (p.below f) (hE.Fg.up (Z2 hE.low p.le) f) hE.low hd (by simp);rw[QK C.1]at this;exact this.mono λe E h=>⟨h.1,(Fr.xa p f).trans h.2⟩
 have HS:Hid (∀W,Fr B S S w W->Calls oa 184 #[La s,Sa (h.map Kf).toArray,Ia ka (za:Int)] W λe E=>∃a b,e=na (Wa #[a,b])/\((∃D:Er,∃V X,Q=.error D/\a=da/\b=D.val sent/\D.val sent=ca V X/\Fr B S S w E)\/∃t j,Q=.ok t/\t≠ .no/\od j a t/\b=da/\Fr B S j w E)):=λW f=>by
  have :=zR sent s h za f.wa (hE.below (f.below p)).Wf (hE.below (f.below p)).Fg (Z2 hE.low f.wa.le) C.1 C.2 (by omega);rw[I]at this;refine this.mono ?_;rintro e E (⟨D,h1,h2,h3⟩|⟨t,v,j,h1,h2,h3,h4,h5⟩);.obtain⟨V,X,J⟩:=D.shape sent;exact⟨_,_,h2,.inl ⟨D,V,X,h1,rfl,rfl,J,f.behind h3⟩⟩
  .exact⟨_,_,h2,.inr ⟨t,j,h1,h3,h4,rfl,f.trans h5.2⟩⟩
 have HC:Hid (∀(j:Bb) (W:Fa),Fr B S j w W->W.cell? ⟨g,o,none⟩=some (La s)/\W.cell? ⟨bw,1,none⟩=some (ca 228 (Qa (some ⟨d,0,none⟩)))/\W.cell? ⟨bw,2,none⟩=some (La r)):=λj W f=>⟨(f.cell (a:=⟨g,o,none⟩) ay al).trans hc,(f.cell (a:=⟨bw,1,none⟩) ak y).trans c1,(f.cell (a:=⟨bw,2,none⟩) ak y).trans c2⟩;have HB:Hid (Ba w w.drew):=(Zb _ _).drew;clear hE p q y K hl i R hd C al hg z I f0 f1 f2 c0 ao;go_enter func145,ntmps145;go_upto_region 3 with fail
 go_region_held3 (λE=>E.cell? ⟨g,o,none⟩=some (La s)/\E.cell? ⟨bw,1,none⟩=some (ca 228 (Qa (some ⟨d,0,none⟩)))/\E.cell? ⟨bw,2,none⟩=some (La r)) (first|exact⟨hc,c1,c2⟩|exact k1|exact k2) (first| (go_at_call 160;refine(HD _ HB.o).mono ?_;rintro e w1 ⟨rfl,ac⟩;have k1:=HC _ w1 ac;have ar:=Hq ac;clear ac)| (go_at_call 184;refine(HS _ ar.o).mono ?_;rintro e F ⟨a,b,rfl,Z⟩;have k2:F.cell? ⟨g,o,none⟩=some (La s)/\F.cell? ⟨bw,1,none⟩=some (ca 228 (Qa (some ⟨d,0,none⟩)))/\F.cell? ⟨bw,2,none⟩=some (La r):=(by rcases Z with⟨_,_,_,_,_,_,_,h⟩|⟨_,_,_,_,_,_,h⟩<;>exact HC _ F h);have U:=Hq Z;clear Z))
 rcases U.o with⟨D,V,X,hq,rfl,hb',J,hf2⟩|⟨t,j,hq,hne,T,rfl,hf2⟩;.rw[J]at hb';subst hb';have O:Hid (Q=.error D/\D.val sent=ca V X/\Below B w F):=⟨hq,J,hf2.below HX.1⟩;clear hq J hf2 U;go_wp2;go_ret;rw[O.1];exact⟨O.2.2,.inl ⟨D,rfl,by rw[O.2.1];rfl⟩⟩
 .obtain⟨p,q,y,K,hl,R,hE,az,ba,z,I⟩:=HX.o;obtain⟨n,H,M⟩:=q.grow hf2 y K;obtain⟨P,rfl,aw⟩:=T.full hne;obtain⟨b0,b1,b2,f0,f1,f2⟩:=n.cell;have bl:=n.lt;have ah:Way j B (F.setCell ⟨bw,1,none⟩ (ca (K9 t) (Qa (some ⟨P,0,none⟩)))) bw l t r G (ca (K9 t) (Qa (some ⟨P,0,none⟩))) cs:=⟨De (cs:=[G,ca 228 (Qa (some ⟨d,0,none⟩)),La r]) n.ub 1 _,n.lo,T,n.own.Cb (by simp) λk L bc=>Zd _ _ _ _ (λe=>n.apart (by rw[bc,e])),n.apart,n.turns⟩;have ae:ua B j (F.setCell ⟨bw,1,none⟩ (ca (K9 t) (Qa (some ⟨P,0,none⟩)))):=hf2.wa.Cb (by simp) λk u L=>Zd _ _ _ _ (by rintro rfl;rw[H]at L;cases L);have aj:Below B w (F.setCell ⟨bw,1,none⟩ (ca (K9 t) (Qa (some ⟨P,0,none⟩)))):=by have hb:=hf2.below p;have bm:=q.lo;exact⟨hb.os,hb.tape,hb.output,by simpa using hb.size,λk L=>(Zd _ _ _ _ (by simp;omega)).trans (hb.block k L)⟩
  have i:t.fits r.size:=by have :=(SH (Qk s) (by omega) (I.trans hq)).2.1;rw[show 64-za=r.size by omega]at this;exact this
  obtain⟨l',Y,bf,_,_⟩:=eD 64 t r i (by omega);have HG:=Hq (wG ae ah H M i R Y (by omega));have O:Hid (Q=.ok t/\Below B w (F.setCell ⟨bw,1,none⟩ (ca (K9 t) (Qa (some ⟨P,0,none⟩))))/\(∀k,G.ownBlock=some k->B<=k)/\ua B j (F.setCell ⟨bw,1,none⟩ (ca (K9 t) (Qa (some ⟨P,0,none⟩))))/\j bw=none/\(∀k,G.ownBlock=some k->j k=none)/\B<=bw/\l.length+l'.length+(t.walk 64 r).2.size<=64/\(t.walk 64 r).1.fits (t.walk 64 r).2.size/\qd (Ke (t.walk 64 r).2)):=⟨hq,aj,λk L=>(q.own.block k L).1,ae,H,M,q.lo,by have :=(Y.len i).1;omega,(Y.len i).2,Y.qd R⟩;clear p q y K hl R hE az ba z I n H M aw T ah ae aj i Y bf hq hne hf2 U HX HD HS HC b0 b2 f0 f2;go_wp2_with fail
  refine HG.mono ?_;rintro e w3 ⟨rfl,aq,v',au,N,ai⟩;obtain⟨y1,y2,y3,y4,y5,y6,y7,y8,y9,am⟩:=O.o;have HZ:Hid (Below B w w3/\Rb B w3 bw (t.walk 64 r).1 (t.walk 64 r).2):=⟨y2.trans (N.below y7 y3 y4.le),j,_,aq,v',au,y4.yp N y5 y6,ai,y5,N.none y4 y6,by rw[Zq];omega,y9,am⟩;clear N ai y1 y2 y3 y4 y5 y6 y7 y8 y9 am;go_wp2;go_ret;exact⟨HZ.1,.inr ⟨t,O.1,rfl,HZ.2⟩⟩
def R6(h:List Nat):Obj:=ma [La (Kg (Kh h))].toArray 298 (0,0)
def Be(h:List Nat)(B:Nat)(w:Fa)(b:Nat):Prop:=B<=b/\w.heap[b]? =some (R6 h)
variable{b:Nat}
theorem Be.lt(k:Be h B w b):b<w.heap.size:=(Zg.1 k.2).1
theorem Be.below(k:Be h B w b)(hb:Ba w w'):Be h B w' b:=⟨k.1,(hb.block b k.lt).trans k.2⟩
structure xj(B:Nat)(W0:Fa)(A K:Value)(h:List Nat)(p:Da)(d:Nat->Bool)(v:Nat->Value)(w:Fa):Prop where
 below:Below B W0 w
 o0:d 0=true->v 0=A
 o1:d 1=true->∃b,v 1=Qa (some ⟨b,0,none⟩)/\Be h B w b/\(d 6=true->v 6≠ Qa (some ⟨b,0,none⟩))
 o2:d 2=true->∃b,v 2=ca 228 (Qa (some ⟨b,0,none⟩))/\Be h B w b/\(d 6=true->v 6≠ Qa (some ⟨b,0,none⟩))
 o3:d 3=true->v 3=K
 o4:d 4=true->v 4=La p
 o5:d 5=true->∃b thr,v 5=Sa #[thr,ca 228 (Qa (some ⟨b,0,none⟩)),La p]/\Be h B w b/\Db w B 2 thr 0 []/\thr.ownBlock≠some b/\(d 6=true->v 6≠ Qa (some ⟨b,0,none⟩))/\(d 6=true->∀k,thr.ownBlock=some k->v 6≠ Qa (some ⟨k,0,none⟩))
 o6:d 6=true->∃g,v 6=Qa (some ⟨g,0,none⟩)/\B<=g/\g<w.heap.size/\(d 7=false->w.heap[g]? =some (ma #[Ma none 0 0,da,La ⟨#[]⟩] 226 (0,0)))/\(d 7=true->∃x y z,v 5=Sa #[x,y,z]/\w.heap[g]? =some (ma #[x,y,z] 226 (0,0)))
 o7:d 7=true->d 5=true/\d 6=true
theorem Ds{a:Nat}(h:a≠b):Value.pointer (some ⟨a,0,none⟩)≠ Qa (some ⟨b,0,none⟩):=λe=>h (by cases e;rfl)
section
variable{B:Nat}{W0:Fa}{A K:Value}{h:List Nat}{p:Da}{d:Nat->Bool}{v:Nat->Value}{w w':Fa}
def Et(d:Nat->Bool)(i:Nat):Nat->Bool:=λk=>if k=i then true else d k
def Ec(v:Nat->Value)(i:Nat)(x:Value):Nat->Value:=λk=>if k=i then x else v k
theorem xj.step(i:Nat)(x:Value)(hi:i<6)(H:xj B W0 A K h p d v w)(hn:d i=false)(hb:Ba w w')(hBw:B<=w.heap.size)(h0:i=0->x=A)(h1:i=1->∃b,x=Qa (some ⟨b,0,none⟩)/\Be h B w' b/\(d 6=true->v 6≠ Qa (some ⟨b,0,none⟩)))(h2:i=2->∃b,x=ca 228 (Qa (some ⟨b,0,none⟩))/\Be h B w' b/\(d 6=true->v 6≠ Qa (some ⟨b,0,none⟩)))(h3:i=3->x=K)(h4:i=4->x=La p)(h5:i=5->∃b thr,x=Sa #[thr,ca 228 (Qa (some ⟨b,0,none⟩)),La p]/\Be h B w' b/\Db w' B 2 thr 0 []/\thr.ownBlock≠some b/\(d 6=true->v 6≠ Qa (some ⟨b,0,none⟩))/\(d 6=true->∀k,thr.ownBlock=some k->v 6≠ Qa (some ⟨k,0,none⟩))):xj B W0 A K h p (Et d i) (Ec v i x) w':=by
 have j:Et d i 6=d 6:=by simp[Et];omega
 have s:Et d i 7=d 7:=by simp[Et];omega
 have l:Ec v i x 6=v 6:=by simp[Ec];omega
 refine⟨H.below.trans (hb.mono hBw),?_,?_,?_,?_,?_,?_,?_,?_⟩
 .intro k;by_cases e:0=i;.simp only[Ec,Zo e];exact h0 e.symm
  .simp only[Ec,Et,Zj e]at k⊢;exact H.o0 k
 .intro k;rw[j,l];by_cases e:1=i;.simp only[Ec,Zo e];exact h1 e.symm
  .simp only[Ec,Et,Zj e]at k⊢;obtain⟨b,c,f,a⟩:=H.o1 k;exact⟨b,c,f.below hb,a⟩
 .intro k;rw[j,l];by_cases e:2=i;.simp only[Ec,Zo e];exact h2 e.symm
  .simp only[Ec,Et,Zj e]at k⊢;obtain⟨b,c,f,a⟩:=H.o2 k;exact⟨b,c,f.below hb,a⟩
 .intro k;by_cases e:3=i;.simp only[Ec,Zo e];exact h3 e.symm
  .simp only[Ec,Et,Zj e]at k⊢;exact H.o3 k
 .intro k;by_cases e:4=i;.simp only[Ec,Zo e];exact h4 e.symm
  .simp only[Ec,Et,Zj e]at k⊢;exact H.o4 k
 .intro k;rw[j,l];by_cases e:5=i;.simp only[Ec,Zo e];exact h5 e.symm
  .simp only[Ec,Et,Zj e]at k⊢;obtain⟨b,thr,c,f,a,m,n⟩:=H.o5 k;exact⟨b,thr,c,f.below hb,a.below hb,m,n⟩
 .intro k;rw[j]at k;rw[l,s];obtain⟨g,c,f,a,m,n⟩:=H.o6 k;refine⟨g,c,f,Zm a hb.size,λq=>(hb.block g a).trans (m q),λq=>?_⟩;obtain⟨u,y,z,o,r⟩:=n q;have t:5≠i:=λe=>by have :=(H.o7 q).1;rw[e,hn]at this;cases this
  exact⟨u,y,z,by simp only[Ec,Zj t];exact o,(hb.block g a).trans r⟩
 .intro k;rw[s]at k;rw[j];obtain⟨o,r⟩:=H.o7 k;exact⟨by simp only[Et];split<;>first|rfl|exact o,r⟩
theorem xj.made(H:xj B W0 A K h p d v w)(hn:d 6=false)(hBw:B<=w.heap.size):xj B W0 A K h p (Et d 6) (Ec v 6 (Qa (some ⟨w.heap.size,0,none⟩))) (w.alloc (ma #[Ma none 0 0,da,La ⟨#[]⟩] 226)):=by
 have c:Ba w (w.alloc (ma #[Ma none 0 0,da,La ⟨#[]⟩] 226)):=(Zb _ _).alloc (Za _) _;have g:d 7=false:=by
  cases e:d 7 with
  |false=>rfl
  |true=>have :=(H.o7 e).2;rw[hn]at this;cases this
 refine⟨H.below.trans (c.mono hBw),H.o0,λk=>?_,λk=>?_,H.o3,H.o4,λk=>?_,λ_=>?_,λk=>?_⟩;.obtain⟨b,f,a,_⟩:=H.o1 k;exact⟨b,f,a.below c,λ_=>Ds (by have :=a.lt;omega)⟩
 .obtain⟨b,f,a,_⟩:=H.o2 k;exact⟨b,f,a.below c,λ_=>Ds (by have :=a.lt;omega)⟩
 .obtain⟨b,m,f,a,j,o,_,_⟩:=H.o5 k;exact⟨b,m,f,a.below c,j.below c,o,λ_=>Ds (by have :=a.lt;omega),λ_ k n=>Ds (by have :=(j.block k n).2;omega)⟩
 .refine⟨w.heap.size,rfl,hBw,by simp,λ_=>Z6,λq=>?_⟩;have l:d 7=true:=q;rw[g]at l;cases l
 .have i:d 7=true:=k;rw[g]at i;cases i
theorem xj.wrote(H:xj B W0 A K h p d v w)(h5:d 5=true)(h6:d 6=true)(x:Value){g:Nat}(hg:v 6=Qa (some ⟨g,0,none⟩)){a b c:Value}(hv:v 5=Sa #[a,b,c])(hh:w'.heap=(((w.setCell ⟨g,0,none⟩ a).setCell ⟨g,1,none⟩ b).setCell ⟨g,2,none⟩ c).heap)(ho:w'.os=w.os)(ht:w'.tape=w.tape)(hu:w'.output=w.output):xj B W0 A K h p (Et d 7) (Ec v 7 x) w':=by
 obtain⟨m,z,F,N,G,I⟩:=H.o6 h6;obtain rfl:m=g:=by rw[hg]at z;simpa using z.symm
 have n:∀k,k≠m->w'.heap[k]? =w.heap[k]? :=λk f=>by rw[hh];exact(Zd _ _ _ _ f).trans ((Zd _ _ _ _ f).trans (Zd _ _ _ _ f))
 have L:w'.heap.size=w.heap.size:=by rw[hh];simp
 have o:∃r s t,w.heap[m]? =some (ma [r,s,t].toArray 226 (0,0)):=by
  cases e:d 7 with
  |false=>exact⟨_,_,_,G e⟩
  |true=>obtain⟨r,s,t,_,q⟩:=I e;exact⟨r,s,t,q⟩
 obtain⟨r,s,t,J⟩:=o;have u:w'.heap[m]? =some (ma #[a,b,c] 226 (0,0)):=by rw[hh];have i:=De J 0 a;have j:=De i 1 b;exact De j 2 c
 have y:∀{b},Be h B w b->v 6≠ Qa (some ⟨b,0,none⟩)->Be h B w' b:=λ{b} k q=>⟨k.1,(n b (λe=>q (by rw[hg,e]))).trans k.2⟩;refine⟨⟨ho.trans H.below.os,ht.trans H.below.tape,hu.trans H.below.output,by rw[L];exact H.below.size,λk f=>(n k (by omega)).trans (H.below.block k f)⟩,H.o0,λk=>?_,λk=>?_,H.o3,H.o4,λk=>?_,λ_=>?_,λ_=>⟨h5,h6⟩⟩;.obtain⟨b,i,j,l⟩:=H.o1 k;exact⟨b,i,y j (l h6),l⟩
 .obtain⟨b,i,j,l⟩:=H.o2 k;exact⟨b,i,y j (l h6),l⟩
 .obtain⟨b,E,i,j,l,M,C,D⟩:=H.o5 k;exact⟨b,E,i,y j (C h6),l.Cb (by omega) λk _ f=>n k (λe=>D h6 k f (by rw[hg,e])),M,C,D⟩
 .exact⟨m,hg,F,by omega,λq=>by simp[Et]at q,λ_=>⟨a,b,c,hv,u⟩⟩
end
def Ic(w:Fa)(p:Option Addr)(l:List Da)(c:Nat):Prop:=(p=none/\l=[]/\c=0)\/∃g o,p=some ⟨g,o,none⟩/\l.length<=c/\(0<l.length->g<w.heap.size)/\w.rangeAt g o (l.map Value.string)
def vi(sent:Nat->Addr)(q:Except Er (Option Da))(e:Ending):Prop:=(∃er:Er,q=.error er/\e=na (Wa #[La ⟨#[]⟩,Oa false,er.val sent]))\/∃o:Option Da,q=.ok o/\e=na (Wa #[La (o.getD ⟨#[]⟩),Oa o.isSome,da])
def R7(L:List (List Nat))(t:Nd)(r:Da)(k:Nat):Except Er (Option Da):=match t with
 | .stub h=>Af L h r k
 |_=>if L=[]then .ok (P7 t r)else .error (.inNode k (.base 4))
theorem NS(h:∀g,t≠ .stub g)(L:List (List Nat))(r:Da)(k:Nat):R7 L t r k=if L=[]then .ok (P7 t r)else .error (.inNode k (.base 4)):=by
 cases t with
 |stub g=>exact absurd rfl (h g)
 |_=>rfl
theorem rL(c:List Nat)(L:List (List Nat))(h:List Nat)(r:Da)(k:Nat)(hs:Pc c h (64-r.size)=.ok t):Af (c::L) h r k=R7 L (t.walk 64 r).1 (t.walk 64 r).2 (k+1):=by rw[Af,hs];simp only;obtain⟨e,a⟩:=t.walk 64 r;cases e<;>rfl
theorem RQ(c:List Nat)(L:List (List Nat))(h:List Nat)(r:Da)(k:Nat){er:Er}(hs:Pc c h (64-r.size)=.error er):Af (c::L) h r k=.error (.inNode k er):=by rw[Af,hs]
theorem TP(h:List Nat)(a:Addr)(w:Fa):(Instr.typeAssert (ca (K9 (.stub h)) (Qa (some a))) 96 228 true).run oa w=.ok (Wa #[Qa (some a),Oa true]) w:=by kernel_rfl
theorem nL(h:List Nat)(r:Da)(p:Option Addr)(m c d:Nat):Calls oa 144 #[Sa #[Ma p m c,ca (K9 (.stub h)) (Qa (some ⟨d,0,none⟩)),La r]] w λx w'=>x=na (Qa (some ⟨d,0,none⟩))/\Ba w w':=by have b:=λW=>TP h ⟨d,0,none⟩ W;obtain⟨T,a⟩:=nm (K9 (.stub h));rw[a]at b⊢;clear a;go_enter func144,ntmps144;go_wp2;go_ret;exact⟨rfl,(Zb _ _).alloc (Za _) _⟩
end
end Go.Proofs.YtpfbdlnibdfcoaaGreatDoor
