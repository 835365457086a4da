import Derived.Test.YtpfbdlnibdfcoaaGreatDoorPvOwnG
namespace Go.Proofs.YtpfbdlnibdfcoaaGreatDoor
open Go.RowKit Tryz
open Value renaming int->Ia,string->La,slice->Ma,bool->Oa,pointer->Qa,agg->Sa,tuple->Wa,iface->ca,nilIface->da
open IntKind renaming i64->ka
open Obj renaming cells->ma
open Ending renaming returned->na
open Tryz renaming prog->oa
set_option maxRecDepth 100000
set_option maxHeartbeats 0
variable{P:Program}{C:Fa->Prop}
theorem ml{id:Nat}{l:List Oper}{Q:Exit->Act->Fa->Prop}{a:Act}{w:Fa}(hm:P.follows .mixedOrders=true)(hB:Region.lexB .any l.toArray=true)(hC:C w.drew)(h:wpQuiet P l.toArray C (λa'=>∀w',C w'->Q .normal a' w') l a):(Code.region id l.toArray true).wp P Q a w:=wp_region_quiet hm hB hC h
theorem _root_.Go.Calls.Cb{f:FuncId}{args:Array Value}{a w:Fa}{v:Value}(h:Calls P f args w λe w'=>e=na v/\Ba w w')(hW:Ba a w):Calls P f args w λe w'=>e=na v/\Ba a w':=h.mono λ_ _ h=>⟨h.1,hW.trans (h.2.mono hW.size)⟩
theorem yq{ops:Array Oper}{Q:Act->Prop}{rest:List Oper}{op:Oper}{a:Act}(hg:op.guard=none)(ty:TypeId)(x:Operand)(ho:op.op=.load ty x)(b o:Nat)(hx:a.eval x=Qa (some ⟨b,o,none⟩))(cs:List Value)(d:TypeDesc)(hc:∀w,C w->w.rangeAt b o cs)(hu:P.underlying ty=some d)(hd:d.isRow=true)(hi:(P.info? ty).map (·.size)=some cs.length)(h:wpQuiet P ops C Q rest (a.put op.dst (Sa cs.toArray))):wpQuiet P ops C Q (op::rest) a:=BigFrame.wpQuiet_want (by simp[Region.wanted,hg]) λK hK=>⟨_,λw hw=>by unfold Oper.quietAt execOp;simp only[ho,hx,Instr.loadAt,Instr.sureAddr,Je,Sem.run_pure,Result.andThen_ok,Yg w b o ty cs d (hc w hw) hu hd hi];exact⟨rfl,rfl⟩,hK _ h⟩
section
variable{P:Program}{C:Fa->Prop}{Q:Exit->Act->Fa->Prop}
variable{listed:Array Bool}
theorem ZB{i:Nat}(hi:i<listed.size)(k:Nat):(listed.setIfInBounds i true).getD k false=if k=i then true else listed.getD k false:=by
 by_cases h:k=i;.subst h;rw[Zo rfl];simp[Array.getD,hi]
 .rw[Zj h];simp only[Array.getD,X8];split
  .rename_i hk
   exact Array.getElem_setIfInBounds_ne hk (Ne.symm h)
  .rfl
theorem Mt{i:Nat}(hi:i<listed.size):listed.getD i true=listed.getD i false:=by simp[Array.getD,hi]
def Ui(listed:Array Bool):Nat:=(listed.toList.filter (λb=> !b)).length
theorem IE{i:Nat}(hi:i<listed.size)(hn:listed.getD i false=false):Ui (listed.setIfInBounds i true)+1=Ui listed:=by
 unfold Ui;have a:listed.toList[i]? =some false:=by simp only[Array.getD,hi,dif_pos]at hn;rw[Array.getElem?_toList,Xh hi];simpa using hn
 rw[show(listed.setIfInBounds i true).toList=listed.toList.set i true by simp];generalize listed.toList=l at a;clear hn hi;induction l generalizing i with
 |nil=>simp at a
 |cons x l ih=>
  cases i with
  |zero=>simp only[List.getElem?_cons_zero,Xj]at a;subst a;simp
  |succ i=>
   have :=ih (by simpa using a);rw[Yw,J8,J8];split;.simp only[Zu];omega
   .exact this
def Eg(n:Nat)(ops:List Oper):Bool:=(List.range ops.length).all λi=>match ops[i]? with
 |some o=>o.guard.isNone&&(o.after.all λe=> !Region.binds .any e||decide (e.on<i))&&(decide (i<n)||(List.range i).all λk=>o.after.any λe=>Region.binds .any e&&decide (e.on=k))
 |none=>true
theorem Mu{n i:Nat}{ops:List Oper}{o:Oper}(h:Eg n ops=true)(ho:ops[i]? =some o):o.guard=none/\(∀e∈o.after,Region.binds .any e=true->e.on<i)/\(n<=i->∀k,k<i->∃e∈o.after,Region.binds .any e=true/\e.on=k):=by
 have a:=Xy.1 h i (X3.2 (Zw.1 ho).1);rw[ho]at a;simp only[X5,Bool.or_eq_true,Jw]at a;refine⟨by simpa using a.1.1,λe c f=>?_,λj k g=>?_⟩;.have b:=Jn.1 a.1.2 e c;rw[f]at b;simpa using b
 .have b:=Xy.1 (a.2.resolve_left (by omega)) k (X3.2 g);obtain⟨e,c,d⟩:=Array.any_eq_true'.1 b;simp only[X5,Jw]at d;exact⟨e,c,d⟩
theorem Qw{o:Oper}(h:o.guard=none)(y:Nat->Option Bool):Region.wanted o y=true:=by simp[Region.wanted,h]
theorem FG{n:Nat}{ops:List Oper}(hB:Eg n ops=true):∀(r pre:List Oper) (listed:Array Bool) (a:Act) (w:Fa),ops=pre++r->n<=pre.length->listed.size=ops.length->(∀i,listed.getD i false=decide (i<pre.length))->wpList P ops.toArray Q r a w->wpAny P .any ops.toArray Q r.length listed a w
 | [],pre,listed,a,w,hp,hn,hs,hl,h=>by refine⟨List.eq_nil_iff_forall_not_mem.2 λi hi=>?_,h⟩;obtain⟨h1,o,ho,_⟩:=mem_ready.1 hi;have hi:=(Zw.1 (by simpa using ho:ops[i]? =some o)).1;rw[Mt (by omega),hl,decide_eq_false_iff_not]at h1;rw[hp,Jy]at hi;exact h1 hi
 |o::r,pre,listed,a,w,hp,hn,hs,hl,h=>by
  have ho:ops[pre.length]? =some o:=by rw[hp];simp
  have hlt:pre.length<listed.size:=by rw[hs];exact(Zw.1 ho).1
  obtain⟨g1,g2,g3⟩:=Mu hB ho;rw[wpList,Zo (Qw g1 _)]at h;have hrd:pre.length∈Region.ready .any ops.toArray listed:=mem_ready.2 ⟨by rw[Mt hlt,hl];simp,o,by simpa using ho,λe he hb=>by rw[hl];exact Z5 (g2 e he hb)⟩;refine⟨λh0=>(by rw[h0]at hrd;cases hrd),λi hi=>?_⟩;obtain⟨h1,oi,hoi,hd⟩:=mem_ready.1 hi;have hio:ops[i]? =some oi:=by simpa using hoi
  have his:=(Zw.1 hio).1;rw[Mt (by omega),hl,decide_eq_false_iff_not]at h1;obtain rfl:i=pre.length:=by refine Nat.le_antisymm (Xn λc=>?_) (by omega);obtain⟨e,he,hb,b⟩:=(Mu hB hio).2.2 (by omega) pre.length c;have :=hd e he hb;rw[b,hl]at this;simp at this
  unfold wpOp;rw[hoi];obtain rfl:oi=o:=by rw[hio]at ho;exact Zi ho
  simp only;rw[Zo (Qw g1 _)];refine h.imp (λh=>Vd (λd f b=>?_) h) id;refine FG hB r (pre++[oi]) _ d f (by rw[hp];simp) (by simp;omega) (by simpa using hs) (λk=>?_) b;rw[ZB hlt,hl];by_cases e:k=pre.length;.simp[e]
  .rw[Zj e];congr 1;simp;omega
theorem PE{l1 l2:List Oper}(hB:Eg l1.length (l1++l2)=true){K:Act->Prop}(hK:∀a w,C w->K a->wpList P (l1++l2).toArray Q l2 a w):∀(fuel:Nat) (listed1 listed:Array Bool) (a:Act) (w:Fa),listed1.size=l1.length->listed.size=(l1++l2).length->(∀i,listed.getD i false=listed1.getD i false)->Ui listed1=fuel->C w->wpAnyQ P .any l1.toArray C K fuel listed1 a->wpAny P .any (l1++l2).toArray Q (fuel+l2.length) listed a w
 |0,listed1,listed,a,w,hs1,hs,hl,hf,hC,h=>by
  have hall:∀i,i<l1.length->listed1.getD i false=true:=λi hi=>by
   cases e:listed1.getD i false with
   |true=>rfl
   |false=>have :=IE (by omega) e;omega
  rw[Zf];refine FG hB l2 l1 listed a w rfl (Za _) hs (λi=>?_) (hK a w hC h.2);rw[hl];by_cases hi:i<l1.length;.rw[hall i hi,Z5 hi]
  .rw[Zt hi];simp[Array.getD,show ¬i<listed1.size by omega]
 |fuel+1,listed1,listed,a,w,hs1,hs,hl,hf,hC,h=>by
  obtain⟨k,hk,hkn,hkm⟩:∃k,k<l1.length/\listed1.getD k false=false/\∀j,j<k->listed1.getD j false=true:=by
   by_cases l:∃k,k<l1.length/\listed1.getD k false=false
   .obtain⟨k,hk⟩:=l;induction k using Nat.strongRecOn with
    |_ k ih=>
     by_cases r:∃j,j<k/\listed1.getD j false=false;.obtain⟨j,q,B⟩:=r;exact ih j q ⟨by omega,B⟩
     .exact⟨k,hk.1,hk.2,λj q=>by
       cases e:listed1.getD j false with
       |true=>rfl
       |false=>exact absurd ⟨j,q,e⟩ r⟩
   .exfalso;have :Ui listed1=0:=by
     unfold Ui;rw[Vv,List.filter_eq_nil_iff];intro x G;obtain⟨i,hi,rfl⟩:=Xv G;have z:i<listed1.size:=by simpa using hi
     cases e:listed1[i]with
     |true=>simp[e]
     |false=>exact absurd ⟨i,by omega,by simp[Array.getD,z,e]⟩ l
    omega
  have f:∀{i:Nat},i<l1.length->(l1++l2)[i]? =l1[i]? :=λhi=>Yl hi;have n:k∈Region.ready .any (l1++l2).toArray listed:=mem_ready.2 ⟨by rw[Mt (by rw[hs,Zq];omega),hl];exact hkn,l1[k],by simp[f hk],λe d c=>by rw[hl];exact hkm _ ((Mu hB (by rw[f hk];exact Zk hk)).2.1 e d c)⟩;rw[show fuel+1+l2.length=fuel+l2.length+1 by omega];refine⟨λF=>(by rw[F]at n;cases n),λi hi=>?_⟩;obtain⟨p,oi,o,u⟩:=mem_ready.1 hi;have b:(l1++l2)[i]? =some oi:=by simpa using o
  have I:=(Zw.1 b).1;rw[Mt (by omega),hl]at p;have A:i<l1.length:=Nat.lt_of_not_le λD=>by obtain⟨e,d,c,v⟩:=(Mu hB b).2.2 D k (by omega);have :=u e d c;rw[v,hl,hkn]at this;cases this
  have m:l1[i]? =some oi:=by rw[<-f A];exact b
  have g:=h.2 i (mem_ready.2 ⟨by rw[Mt (by omega)];exact p,oi,by simpa using m,λe d c=>by rw[<-hl];exact u e d c⟩);have y:=(Mu hB b).1;unfold qOp at g;rw[show l1.toArray[i]? =some oi by simpa using m]at g;simp only at g;rw[Zo (Qw y _)]at g;unfold wpOp;rw[o];simp only;rw[Zo (Qw y _)];refine .inl (Oper.wp_of_quiet hC (λE H s t=>?_) g);refine PE hB hK fuel _ _ E H (by simpa using hs1) (by simpa using hs) (λj=>?_) (by have :=IE (by omega) p;omega) s t;rw[ZB (by omega),ZB (by omega),hl]
theorem vT{id:Nat}{l1 l2:List Oper}{a:Act}{w:Fa}(hm:P.follows .mixedOrders=true)(hL:Region.lexB .any l1.toArray=true)(hB:Eg l1.length (l1++l2)=true)(hC:C w.drew)(h:wpQuiet P l1.toArray C (λa'=>∀w',C w'->wpList P (l1++l2).toArray Q l2 a' w') l1 a):(Code.region id (l1++l2).toArray true).wp P Q a w:=by
 simp only[Region.lexB,X5]at hL;refine Vj hm ?_;have c:=wpAnyQ_lex (C:=C) (md:=.any) hL.1 l1 0 (Array.replicate l1.toArray.size false) a (by simp) (by simpa using hL.2) h;have b:=PE (Q:=Q) (K:=λa'=>∀w',C w'->wpList P (l1++l2).toArray Q l2 a' w') hB (λa w f d=>d w f) l1.length (Array.replicate l1.length false) (Array.replicate (l1++l2).length false) a w.drew (by simp) (by simp) (λi=>by simp[Array.getD]) (by unfold Ui;simp) hC (by simpa using c);have e:(l1++l2).toArray.size=l1.length+l2.length:=by simp
 rw[e,<-Zq];rw[Zq]at b⊢;exact b
theorem Wo(n:Nat){id:Nat}{l:List Oper}{a:Act}{w:Fa}(hm:P.follows .mixedOrders=true)(hL:Region.lexB .any (l.take n).toArray=true)(hB:Eg (l.take n).length l=true)(hC:C w.drew)(h:wpQuiet P (l.take n).toArray C (λa'=>∀w',C w'->wpList P l.toArray Q (l.drop n) a' w') (l.take n) a):(Code.region id l.toArray true).wp P Q a w:=by have :=vT (P:=P) (C:=C) (Q:=Q) (id:=id) (l1:=l.take n) (l2:=l.drop n) (a:=a) (w:=w) hm hL;rw[Xc]at this;exact this hB hC h
end
end Go.Proofs.YtpfbdlnibdfcoaaGreatDoor
