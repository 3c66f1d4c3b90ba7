import Derived.Test.YtmfpiodlecapiaaGreatDoorJ01
import Derived.Conc.Beside
import GoSem.Dispatch
import Derived.Calls
namespace Go.fE
section
open Go.Ren Go.bn Go.Conc
variable {P:Program} {Sh:Nat->Prop}
def EvB(B:Nat)(e:Event):Prop:=e.loc.low B/\∀m,e.loc= .mark m->Bare m
theorem EvB.mono{B B':Nat}(h:B<=B'){e:Event}(he:EvB B e):EvB B' e:=⟨Loc.low_mono h he.1,he.2⟩
theorem yC{w:World}{a:Addr}{v:Value}(h:w.cell? a=some v):a.block<w.heap.size:=by
 unfold World.cell? at h;cases hb:w.heap[a.block]? with
 |none=>rw[hb]at h;simp at h
 |some o=>exact(Array.getElem?_eq_some_iff.1 hb).1
theorem tO(w:World)(a:Addr)(v:Value):(w.setCell a v).heap.size=w.heap.size:=by
 unfold World.setCell;split<;>simp
theorem xE(w:World)(a:Addr)(n:Nat):(w.freeze a n).heap.size=w.heap.size:=by
 unfold World.freeze;split<;>simp
def qE(w:World)(es:Array Event){α:Type}:Result α×Array Event->Prop
 |(.ok _ w',es1)=>w.heap.size<=w'.heap.size/\∃es2,es1=es++es2/\∀e∈es2,EvB w'.heap.size e
 |_=>True
theorem qE.after{α:Type}{w w1:World}{es ev:Array Event}{r:Result α×Array Event}(hw:w.heap.size<=w1.heap.size)(dt:∀e∈ev,EvB w1.heap.size e)(h:qE w1 (es++ev) r):qE w es r:=by
 obtain⟨r,es1⟩:=r;cases r with
 |halt x w'=>trivial
 |ok a w'=>
  obtain⟨h1,es2,h2,h3⟩:=h;refine⟨Nat.le_trans hw h1,ev++es2,by rw[h2,Array.append_assoc],fun e he=>?_⟩;rcases Array.mem_append.1 he with he|he
  .exact(dt e he).mono h1
  .exact h3 e he
theorem Tm.low{α:Type}{s:Sem α}(h:Tm P s):∀(w:World) (es:Array Event),PS (fun _=>False) w w->qE w es (s.runT P w es):=by
 have Fa:∀(B:Nat),∀e∈(#[]:Array Event),EvB B e:=fun B e he=>by simp at he
 induction h with
 |pure a=>exact fun w es _=>⟨Nat.le_refl _,#[],by simp,Fa _⟩
 |@load m a k _ ih=>
  intro w es h;simp only[Sem.runT];cases hc:w.cell? a with
  |none=>
   rcases h.Jw P a (m== .atomic)with⟨x,e,hx⟩|⟨⟨v,l⟩,e,_,hl⟩
   .simp only[e];trivial
   .simp only[e];refine qE.after (Nat.le_refl _) (fun e he=>?_) (ih v w _ h);simp only[Array.mem_map,List.mem_toArray]at he;obtain⟨x,hx,rfl⟩:=he;exact⟨(hl x hx).2,fun m e=>by cases e⟩
  |some v=>
   simp only[Array.push_eq_append];refine qE.after (Nat.le_refl _) (fun e he=>?_) (ih v w _ h);simp at he;subst he;exact⟨yC hc,fun m e=>by cases e⟩
 |@store m a v k _ ih=>
  intro w es h;have key:(∀c,v≠.agg c)->(∀c,v≠.tuple c)->qE w es ((Sem.store m a v k).runT P w es):=by
   intro ha ht;have e:(Sem.store m a v k).runT P w es=(match w.cell? a with
    |some _=>if w.frozen? a then(.halt (.unsupported (.unsafePointer "a write to bytes that a string shares")) w,es)else k.runT P (w.setCell a v) (es.push ⟨.cell a,true,m== .atomic⟩)
    |none=>match w.farStore P a v (m== .atomic)with
     | .ok (w,touched)=>k.runT P w (es++touched.toArray.map (⟨.cell ·,true,m== .atomic⟩))
     | .error h=>(.halt h w,es)):=by
    cases v<;>first|exact absurd rfl (ha _)|exact absurd rfl (ht _)|rfl
   rw[e];cases hc:w.cell? a with
   |none=>
    rcases h.DZ P a v (m== .atomic)with⟨x,e,hx⟩|⟨p',l,e3,⟨u',_,mv,mu⟩,hl,cC⟩
    .simp only[e];trivial
    .have eu:u'=p':=by rw[e3]at mv;cases mv;rfl
     subst eu;simp only[e3];refine qE.after (Nat.le_of_eq cC.symm) (fun e he=>?_) (ih _ _ mu);simp only[Array.mem_map,List.mem_toArray]at he;obtain⟨x,hx,rfl⟩:=he;exact⟨by show x.block<_;rw[cC];exact(hl x hx).2,fun m e=>by cases e⟩
   |some x=>
    simp only;cases hf:w.frozen? a with
    |true=>simp only[if_true];trivial
    |false=>
     simp only[Bool.false_eq_true,if_false,Array.push_eq_append];refine qE.after (by rw[tO];exact Nat.le_refl _) (fun e he=>?_) (ih _ _ (h.setCell a v (fun x=>x)));simp at he;subst he;exact⟨by rw[tO];exact yC hc,fun m e=>by cases e⟩
  cases v<;>first|(simp only[Sem.runT];trivial)|exact key (fun _ e=>by cases e) (fun _ e=>by cases e)
 |@new o k ho _ ih=>
  intro w es h;simp only[Sem.runT];have:=ih w.heap.size _ es (h.new (fun b hb=>hb.elim) ho);exact qE.after (w1:= {w with heap:=w.heap.push o}) (ev:=#[]) (by simp) (Fa _) (by simpa using this)
 |@shape r k hk _ ih=>
  intro w es h;simp only[Sem.runT];exact ih _ w es h
 |@nI r k _ _ ih=>
  intro w es h;simp only[Sem.runT];exact ih _ w es h
 |@jQ o k ho _ ih=>
  intro w es h;simp only[Sem.runT];have:=ih w.heap.size (World.shape? {w with heap:=w.heap.push o} w.heap.size) _ es (h.new (fun b hb=>hb.elim) ho);exact qE.after (w1:= {w with heap:=w.heap.push o}) (ev:=#[]) (by simp) (Fa _) (by simpa using this)
 |@freeze a n k _ ih=>
  intro w es h;simp only[Sem.runT];exact qE.after (w1:=w.freeze a n) (ev:=#[]) (by rw[xE];exact Nat.le_refl _) (Fa _) (by simpa using ih _ es (h.freeze a n))
 |@stringish r k k' he _ _ ih ih'=>
  intro w es h;simp only[Sem.runT];cases hp:w.shape? r with
  |none=>exact ih' w es h
  |some x=>
   obtain⟨x,n⟩:=x;rw[he];simp only[Sem.runT];exact qE.after (w1:=w.freeze ⟨r,n,none⟩ 1) (ev:=#[]) (by rw[xE];exact Nat.le_refl _) (Fa _) (by simpa using ih _ es (h.freeze _ 1))
 |@getObj r k _ ih=>
  intro w es h;simp only[Sem.runT];split
  .trivial
  .rename_i o bd ho;refine qE.after (ev:=#[⟨.obj r,false,o.isChan⟩]) (Nat.le_refl _) (fun e he=>?_) (by simpa using ih o w _ h);simp at he;subst he;exact⟨(Array.getElem?_eq_some_iff.1 ho).1,fun m e=>by cases e⟩
  .trivial
 |@setObj r o k AI _ ih=>
  intro w es h;simp only[Sem.runT];split
  .trivial
  .rename_i x bd ho;refine qE.after (w1:= {w with heap:=w.heap.setIfInBounds r o}) (ev:=#[⟨.obj r,true,o.isChan⟩]) (by simp) (fun e he=>?_) (by simpa using ih _ _ (h.set (fun x=>x) AI));simp at he;subst he;exact⟨by simpa[Loc.low]using(Array.getElem?_eq_some_iff.1 ho).1,fun m e=>by cases e⟩
  .trivial
 |@choose q k _ ih=>
  intro w es h;simp only[Sem.runT];cases hq:q.forced with
  |true=>simp only[if_true];exact ih 0 w es h
  |false=>
   simp only[Bool.false_eq_true,if_false];exact ih _ {w with drawn:=w.drawn+1} es ⟨h.size,h.same,h.rows,h.views,h.tape,rfl,h.os,h.output⟩
 |@env k _ ih=>
  intro w es h;have hs:w.sys .env=(.strings w.os.env,w):=rfl;simp only[Sem.runT,hs];refine qE.after (ev:=#[⟨.output,true,false⟩]) (Nat.le_refl _) (fun e he=>?_) (by simpa using ih _ w _ h);simp at he;subst he;exact⟨trivial,fun m e=>by cases e⟩
 |@program k _ ih=>
  intro w es h;simp only[Sem.runT];exact ih w es h
 |@mark m k hm _ ih=>
  intro w es h;simp only[Sem.runT];refine qE.after (ev:=#[⟨.mark m,false,true⟩]) (Nat.le_refl _) (fun e he=>?_) (by simpa using ih w _ h);simp at he;subst he;exact⟨trivial,fun m' e=>by cases e;exact hm⟩
 |halt x hx=>exact fun w es _=>trivial
 |@dK s hb=>
  intro w es h;obtain⟨x,w',h1,h2⟩:=hb w;cases hr:s.runT P w es with
  |mk r es1=>
   have:r=s.run P w:=by
    have e:=congrArg Prod.fst hr;rw[Sem.runT_fst]at e;exact e.symm
   rw[this,h1];trivial
end
section
open Go.Ren Go.bn
variable{w:World}{a:Addr}{m:Bool}
variable {P:Program}
def kR{α:Type}:Sem α->Sem (Except Value α)
 | .pure a=>.pure (.ok a)
 | .load m a k=>.load m a fun v=>kR (k v)
 | .store m a v k=>.store m a v (kR k)
 | .new o k=>.new o fun n=>kR (k n)
 | .shape r k=>.shape r fun x=>kR (k x)
 | .freeze a n k=>.freeze a n (kR k)
 | .frozen a k=>.frozen a fun x=>kR (k x)
 | .getObj r k=>.getObj r fun x=>kR (k x)
 | .setObj r o k=>.setObj r o (kR k)
 | .choose q k=>.choose q fun x=>kR (k x)
 | .sys c k=>.sys c fun x=>kR (k x)
 | .program k=>.program fun x=>kR (k x)
 | .mark m k=>.mark m (kR k)
 | .halt h=>match h with| .panic v=>.pure (.error v)|h=>.halt h
def caught{α:Type}:Result α×Array Event->Result (Except Value α)×Array Event
 |(.ok a w,es)=>(.ok (.ok a) w,es)
 |(.halt h w,es)=>match h with| .panic v=>(.ok (.error v) w,es)|h=>(.halt h w,es)
theorem Dr(w:World)(a:Addr)(s:String)(v:Value):w.noCell a s≠.panic v:=by
 unfold World.noCell;split<;>simp
theorem M4{h:Halt}(e:w.farLoad P a m= .error h)(v:Value):h≠.panic v:=by
 unfold World.farLoad at e;split at e
 .split at e
  .cases e
  .cases e;simp
 .cases e;exact Dr _ _ _ _
theorem Jy{x:Value}{h:Halt}(e:w.farStore P a x m= .error h)(v:Value):h≠.panic v:=by
 unfold World.farStore at e;split at e
 .split at e
  .cases e
  .cases e;simp
 .cases e;exact Dr _ _ _ _
theorem xH{α:Type}{h:Halt}(hn:∀v,h≠.panic v)(w:World)(es:Array Event):caught (α:=α) (.halt h w,es)=(.halt h w,es):=by
 cases h<;>first|rfl|exact absurd rfl (hn _)
theorem uY{α:Type}(s:Sem α):∀(w:World) (es:Array Event),(kR s).runT P w es=caught (s.runT P w es):=by
 induction s with
 |pure a=>exact fun w es=>rfl
 |load m a k ih=>
  intro w es;simp only[kR,Sem.runT];cases w.cell? a with
  |some v=>exact ih v w _
  |none=>
   cases hf:w.farLoad P a (m== .atomic)with
   |error h=>simp only[xH (M4 hf)]
   |ok x=>exact ih _ w _
 |store m a v k ih=>
  intro w es;have key:(∀c,v≠.agg c)->(∀c,v≠.tuple c)->(kR (Sem.store m a v k)).runT P w es=caught ((Sem.store m a v k).runT P w es):=by
   intro ha ht;have e:∀{β:Type} (k:Sem β),(Sem.store m a v k).runT P w es=(match w.cell? a with
    |some _=>if w.frozen? a then(.halt (.unsupported (.unsafePointer "a write to bytes that a string shares")) w,es)else k.runT P (w.setCell a v) (es.push ⟨.cell a,true,m== .atomic⟩)
    |none=>match w.farStore P a v (m== .atomic)with
     | .ok (w,touched)=>k.runT P w (es++touched.toArray.map (⟨.cell ·,true,m== .atomic⟩))
     | .error h=>(.halt h w,es)):=by
    intro β k;cases v<;>first|exact absurd rfl (ha _)|exact absurd rfl (ht _)|rfl
   simp only[kR,e];cases w.cell? a with
   |some x=>
    cases hz:w.frozen? a with
    |true=>rfl
    |false=>simp only[Bool.false_eq_true,if_false];exact ih _ _
   |none=>
    cases hf:w.farStore P a v (m== .atomic)with
    |error h=>simp only[xH (Jy hf)]
    |ok x=>exact ih _ _
  cases v<;>first|rfl|exact key (fun _ e=>by cases e) (fun _ e=>by cases e)
 |new o k ih=>exact fun w es=>ih _ _ es
 |shape r k ih=>exact fun w es=>ih _ _ es
 |freeze a n k ih=>exact fun w es=>ih _ es
 |frozen a k ih=>exact fun w es=>ih _ _ es
 |getObj r k ih=>
  intro w es;simp only[kR,Sem.runT];split
  .rfl
  .exact ih _ w _
  .rfl
 |setObj r o k ih=>
  intro w es;simp only[kR,Sem.runT];split
  .rfl
  .exact ih _ _
  .rfl
 |choose q k ih=>
  intro w es;simp only[kR,Sem.runT];cases q.forced with
  |true=>exact ih _ _ es
  |false=>exact ih _ _ es
 |sys c k ih=>exact fun w es=>ih _ _ _
 |program k ih=>exact fun w es=>ih _ _ es
 |mark m k ih=>exact fun w es=>ih _ _
 |halt h=>intro w es;cases h<;>rfl
theorem GI{α:Type}(s:Sem α)(w:World):(kR s).run P w=(caught (s.runT P w #[])).1:=by rw[<-Sem.runT_fst,uY]
theorem CW{α:Type}{s:Sem α}{w':World}{x:Halt}(h:s.run P w= .halt x w')(hx:Dead x):(kR s).run P w= .halt x w':=by
 rw[GI,Sem.runT_eq,h];cases x<;>first|rfl|exact hx.elim
theorem Xd{α:Type}{s:Sem α}(h:Tm P s):Tm P (kR s):=by
 induction h with
 |pure a=>exact .pure _
 |load m a _ ih=>exact .load m a ih
 |store m a v _ ih=>exact .store m a v ih
 |new o ho _ ih=>exact .new o ho ih
 |shape r hk _ ih=>exact .shape r (fun x y e=>by rw[hk x y e]) ih
 |nI r hd _ ih=>
  refine .nI r (fun e w=>?_) ih;obtain⟨x,w',h1,h2⟩:=hd e w;exact⟨x,w',CW h1 h2,h2⟩
 |jQ o ho _ ih=>exact .jQ o ho ih
 |freeze a n _ ih=>exact .freeze a n ih
 |stringish r he _ _ ih ih'=>exact .stringish r (fun e n=>by rw[he];rfl) ih ih'
 |getObj r _ ih=>exact .getObj r ih
 |setObj r o ho _ ih=>exact .setObj r o ho ih
 |choose q _ ih=>exact .choose q ih
 |env _ ih=>exact .env ih
 |program _ ih=>exact .program ih
 |mark m hm _ ih=>exact .mark m hm ih
 |halt h hh=>
  rcases hh with⟨v,rfl⟩|⟨y,rfl⟩|⟨y,rfl,hy⟩
  .exact .pure _
  .exact .halt _ (.inr (.inl ⟨_,rfl⟩))
  .exact .halt _ (.inr (.inr ⟨_,rfl,hy⟩))
 |@dK s hb=>
  refine .dK fun w=>?_;obtain⟨x,w',h1,h2⟩:=hb w;exact⟨x,w',CW h1 h2,h2⟩
end
end Go.fE
namespace Go.bn
variable {σ:Type} {nx:σ->World->σ->World->Prop} {Stop I:σ->World->Prop}
inductive V9{σ:Type}(nx:σ->World->σ->World->Prop)(Stop:σ->World->Prop):σ->World->Prop
 |stop {s:σ} {w:World}:Stop s w->V9 nx Stop s w
 |step {s:σ} {w:World}:(∀τ d,∃s' w',nx s (w.re τ d) s' w')->(∀τ d s' w',nx s (w.re τ d) s' w'->V9 nx Stop s' w')->V9 nx Stop s w
def qD(nx:σ->World->σ->World->Prop)(Stop:σ->World->Prop):Nat->σ->World->Prop
 |0,s,w=>Stop s w
 |n+1,s,w=>Stop s w\/∃s' w',nx s w s' w'/\qD nx Stop n s' w'
def LocN(nx:σ->World->σ->World->Prop)(s:σ)(w:World):Prop:=
 ∀s' w',nx s w s' w'->w'.tape=w.tape/\∃m,w'.drawn=w.drawn+m/\∀τ d,(∀i,i<m->τ (d+i)=w.tape (w.drawn+i))->nx s (w.re τ d) s' (w'.re τ (d+m))
theorem tY(hI:∀s w τ d,I s w->I s (w.re τ d))(aq:∀s w s' w',I s w->nx s w s' w'->I s' w')(mj:∀s w,I s w->LocN nx s w)
  (hS:∀s w τ d,Stop s w->Stop s (w.re τ d)):∀(n:Nat) (s:σ) (w:World) (τ:Nat->Question->Nat) (d:Nat),I s w->(∀i,τ (d+i)=w.tape (w.drawn+i))->qD nx Stop n s w->qD nx Stop n s (w.re τ d)
 |0,s,w,τ,d,_,_,h=>hS s w τ d h
 |n+1,s,w,τ,d,hi,ht,h=>by
  rcases h with h|⟨s',w',e,hr⟩
  .exact .inl (hS s w τ d h)
  .obtain⟨k1,m,k2,k3⟩:=mj s w hi s' w' e;exact .inr ⟨s',w'.re τ (d+m),k3 τ d (fun i _=>ht i),tY hI aq mj hS n s' w' τ (d+m) (aq _ _ _ _ hi e) (fun i=>by rw[k1,k2,Nat.add_assoc,Nat.add_assoc,ht]) hr⟩
theorem barN(det:∀s w s1 w1 s2 w2,nx s w s1 w1->nx s w s2 w2->s1=s2/\w1=w2)(hI:∀s w τ d,I s w->I s (w.re τ d))(aq:∀s w s' w',I s w->nx s w s' w'->I s' w')(mj:∀s w,I s w->LocN nx s w)
  (hS:∀s w τ d,Stop s w->Stop s (w.re τ d)){s:σ}{w:World}(h0:I s w)(H:∀τ d,∃n,qD nx Stop n s (w.re τ d)):V9 nx Stop s w:=by
 classical
 by_cases hn:V9 nx Stop s w
 .exact hn
 exfalso;let S:=σ×World
 let Bad:S->Prop:=fun s=>I s.1 s.2/\¬V9 nx Stop s.1 s.2/\∀τ d,∃n,qD nx Stop n s.1 (s.2.re τ d)
 have next:∀s:S,Bad s->∃(s':S) (τ:Nat->Question->Nat) (m:Nat),Bad s'/\∀uT d',(∀i,i<m->uT (d'+i)=τ i)->nx s.1 (s.2.re uT d') s'.1 (s'.2.re uT (d'+m)):=by
  rintro⟨s,w⟩ ⟨h1,h2,h3⟩;have s_:∀τ d,¬Stop s (w.re τ d):=fun τ d hs=>h2 (.stop (by have:=hS _ _ w.tape w.drawn hs;rwa [NW,lS]at this));have hgo:∀τ d,∃s' w',nx s (w.re τ d) s' w':=by
   intro τ d;obtain⟨n,hr⟩:=h3 τ d;cases n with
   |zero=>exact absurd hr (s_ τ d)
   |succ n=>
    rcases hr with hr|⟨s',w',e,_⟩
    .exact absurd hr (s_ τ d)
    .exact⟨s',w',e⟩
  have hex:∃τ d s' w',nx s (w.re τ d) s' w'/\¬V9 nx Stop s' w':=by
   refine Classical.byContradiction fun hx=>h2 (.step hgo fun τ d s' w' e=>?_);exact Classical.byContradiction fun hy=>hx ⟨τ,d,s',w',e,hy⟩
  obtain⟨τ,d,s',w',e,qe⟩:=hex;have hi:=hI s w τ d h1;obtain⟨k1,m,k2,k3⟩:=mj s _ hi s' w' e;have bh:=aq _ _ _ _ hi e;have k3':∀uT d',(∀i,i<m->uT (d'+i)=τ (d+i))->nx s (w.re uT d') s' (w'.re uT (d'+m)):=fun uT d' h=>k3 uT d' h;refine⟨⟨s',w'⟩,fun i=>τ (d+i),m,⟨bh,qe,fun uT d'=>?_⟩,k3'⟩;let YH:Nat->Question->Nat:=fun x=>if x<m then τ (d+x)else uT (d'+(x-m))
  have e2:=k3' YH 0 (fun i hi=>by simp[YH,hi]);rw[Nat.zero_add]at e2;obtain⟨n,hr⟩:=h3 YH 0;cases n with
  |zero=>exact absurd hr (s_ YH 0)
  |succ n=>
   rcases hr with hr|⟨s2,w2,e3,hr⟩
   .exact absurd hr (s_ YH 0)
   .obtain⟨rfl,rfl⟩:=det _ _ _ _ _ _ e2 e3;refine⟨n,?_⟩;exact tY hI aq mj hS n s' (w'.re YH m) uT d' (hI _ _ _ _ bh) (fun i=>by
     show uT (d'+i)=YH (m+i);simp[YH];exact fun h=>absurd h (by omega)) hr
 have choice:∀s: {s:S // Bad s},∃(s': {s:S // Bad s}) (τ:Nat->Question->Nat) (m:Nat),∀uT d',(∀i,i<m->uT (d'+i)=τ i)->nx s.1.1 (s.1.2.re uT d') s'.1.1 (s'.1.2.re uT (d'+m)):=by
  rintro⟨s,hs⟩;obtain⟨s',τ,m,h1,h2⟩:=next s hs
  exact⟨⟨s',h1⟩,τ,m,h2⟩
 let nt: {s:S // Bad s}->{s:S // Bad s}:=fun s=>Classical.choose (choice s)
 let tp: {s:S // Bad s}->Nat->Question->Nat:=fun s=>Classical.choose (Classical.choose_spec (choice s))
 let ms: {s:S // Bad s}->Nat:=fun s=>Classical.choose (Classical.choose_spec (Classical.choose_spec (choice s)))
 have road:∀s,∀uT d',(∀i,i<ms s->uT (d'+i)=tp s i)->nx s.1.1 (s.1.2.re uT d') (nt s).1.1 ((nt s).1.2.re uT (d'+ms s)):=fun s=>Classical.choose_spec (Classical.choose_spec (Classical.choose_spec (choice s)));let sq:Nat->{s:S // Bad s}:=fun n=>Nat.rec ⟨⟨s,w⟩,h0,hn,H⟩ (fun _ s=>nt s) n
 let D:Nat->Nat:=fun n=>Nat.rec 0 (fun i x=>x+ms (sq i)) n
 have Nq:∀n,D (n+1)=D n+ms (sq n):=fun _=>rfl;have Wt:∀a b,a<=b->D a<=D b:=by
  intro a b h;induction h with
  |refl=>exact Nat.le_refl _
  |step _ ih=>rw[Nq];omega
 let T:Nat->Question->Nat:=fun x=>if h:∃i,D i<=x/\x<D (i+1)then tp (sq (Classical.choose h)) (x-D (Classical.choose h))else fun _=>0
 have hT:∀n i,i<ms (sq n)->T (D n+i)=tp (sq n) i:=by
  intro n i hi;have hx:∃j,D j<=D n+i/\D n+i<D (j+1):=⟨n,by omega,by rw[Nq];omega⟩;have hc:=Classical.choose_spec hx;have hj:Classical.choose hx=n:=by
   generalize Classical.choose hx=j at hc;rcases Nat.lt_trichotomy j n with h|h|h
   .have:=Wt (j+1) n h;omega
   .exact h
   .have:=Wt (n+1) j h;rw[Nq]at this;omega
  simp only[T,hx,dif_pos];rw[hj];congr 1
  omega
 have never:∀n i,¬qD nx Stop n (sq i).1.1 ((sq i).1.2.re T (D i)):=by
  intro n;induction n with
  |zero=>exact fun i h=>(sq i).2.2.1 (.stop (by have:=hS _ _ (sq i).1.2.tape (sq i).1.2.drawn h;rwa [NW,lS]at this))
  |succ n ih=>
   intro i h;rcases h with h|⟨s',w',e,hr⟩
   .exact(sq i).2.2.1 (.stop (by have:=hS _ _ (sq i).1.2.tape (sq i).1.2.drawn h;rwa [NW,lS]at this))
   .obtain⟨rfl,rfl⟩:=det _ _ _ _ _ _ (road (sq i) T (D i) (fun j hj=>hT i j hj)) e;exact ih (i+1) hr
 obtain⟨n,hr⟩:=H T 0;exact never n 0 hr
end Go.bn
namespace Go.Ren
variable{c c' z:Array Value}{t t':TypeId}{v v' x x' y y':Value}{a a':Addr}{l l':List Value}{ρ':Array Nat}{k:Nat}{lo' hi bh mx mx':Option Value}
variable {P:Program} {ρ:Array Nat}
def yE{α:Type}:Array Nat->α->α->Prop:=fun _ a b=>a=b
theorem SR.seq{α β γ δ:Type}{A:Array Nat->α->β->Prop}{B:Array Nat->γ->δ->Prop}{s:Sem α}{s':Sem β}{f:α->Sem γ}{f':β->Sem δ}
 (h:SR P A ρ s s')(hk:∀ρ' a b,Ext ρ ρ'->A ρ' a b->SR P B ρ' (f a) (f' b)):SR P B ρ (s >>= f) (s' >>= f'):=SR.bind h hk
theorem SR.ret{α β:Type}{A:Array Nat->α->β->Prop}{a:α}{b:β}(h:A ρ a b):SR P A ρ (Pure.pure a) (Pure.pure b):=SR.pure h
theorem aF{α β:Type}{A:Array Nat->α->β->Prop}{why:String}{s:Sem β}:SR P A ρ (stuck why) s:=.dK fun _=>trivial
theorem iU{α β:Type}{A:Array Nat->α->β->Prop}{u:Unsupported}{s:Sem β}(hu:∀g,u≠.initOrder g:=by intro g e;cases e):SR P A ρ (unsupported u) s:=.dK fun _=>by
 cases u<;>first|trivial|exact absurd rfl (hu _)
theorem iE{γ δ:Type}{B:Array Nat->γ->δ->Prop}{f:Program->Sem γ}{f':Program->Sem δ}(h:SR P B ρ (f P) (f' P)):SR P B ρ (program >>= f) (program >>= f'):=SR.program h
theorem qH{γ δ:Type}{B:Array Nat->γ->δ->Prop}{q:Question}{f:Nat->Sem γ}{f':Nat->Sem δ}(h:∀n,SR P B ρ (f n) (f' n)):SR P B ρ (choose q >>= f) (choose q >>= f'):=SR.choose h
theorem fG{α β:Type}{A:Array Nat->α->β->Prop}{c:Prop}[Decidable c]{a b:Sem α}{a' b':Sem β}(h1:c->SR P A ρ a a')(h2:¬c->SR P A ρ b b'):SR P A ρ (if c then a else b) (if c then a' else b'):=by
 by_cases h:c
 .simp only[h,if_true];exact h1 h
 .simp only[h,if_false];exact h2 h
theorem fQ(t:TypeId):SR P (fun _ a b=>a=b/\P.info? t=some a) ρ (typeInfo t) (typeInfo t):=by
 unfold typeInfo;refine iE ?_;cases h:P.info? t with
 |none=>exact aF
 |some i=>exact SR.ret ⟨rfl,rfl⟩
theorem aS(t:TypeId):SR P (fun _ a b=>a=b/\P.underlying t=some a) ρ (underlying t) (underlying t):=by
 unfold underlying;refine iE ?_;cases h:P.underlying t with
 |none=>exact aF
 |some i=>exact SR.ret ⟨rfl,rfl⟩
theorem eD(t:TypeId):SR P yE ρ (sizeOf t) (sizeOf t):=by
 unfold sizeOf;refine(fQ t).seq fun ρ' a b _ ⟨h,_⟩=>?_;subst h;exact SR.ret rfl
def ZOk(P:Program)(t:TypeId):Prop:=∀i v,P.info? t=some i->i.zero=some v->∀ρ,bF ρ v.cells v.cells
theorem iT:SR P (fun _ a b=>a=b/\∃i,P.info? t=some i/\i.zero=some a) ρ (zeroValue t) (zeroValue t):=by
 unfold zeroValue;refine(fQ t).seq fun ρ' a b _ ⟨h,hi⟩=>?_;subst h;cases hz:a.zero with
 |none=>exact iU
 |some v=>exact SR.ret ⟨rfl,a,hi,hz⟩
theorem iC{α β:Type}{A:Array Nat->α->β->Prop}(m:String):SR P A ρ (runtimePanic (.error m)) (runtimePanic (.error m)):=by
 unfold runtimePanic;exact iE (.panic (.iface _ (.string _)))
theorem OP(ρ:Array Nat)(x y:Int)(s:Bool)(c:Nat):VR ρ (.agg #[.int .i64 x,.int .i64 y,.bool s,.int .u8 c]) (.agg #[.int .i64 x,.int .i64 y,.bool s,.int .u8 c]):=by
 refine .agg rfl fun i v v' h h'=>?_;rw[h]at h';obtain rfl:=Option.some.inj h';match i,h with
 |0,h=>obtain rfl:=Option.some.inj h;exact .int _ _
 |1,h=>obtain rfl:=Option.some.inj h;exact .int _ _
 |2,h=>obtain rfl:=Option.some.inj h;exact .bool _
 |3,h=>obtain rfl:=Option.some.inj h;exact .int _ _
 |n+4,h=>simp at h
theorem vD{α β:Type}{A:Array Nat->α->β->Prop}(k:IntKind)(x y:Int)(c:BoundsCode):SR P A ρ (boundsPanic k x y c) (boundsPanic k x y c):=by
 have jp:∀ρ' signed,SR P A ρ' (runtimePanic (.bounds (IntKind.i64.wrap x) y signed c)) (runtimePanic (.bounds (IntKind.i64.wrap x) y signed c)):=by
  intro ρ' signed;unfold runtimePanic;exact iE (.panic (.iface _ (OP _ _ _ _ _)))
 unfold boundsPanic;dsimp only;by_cases hc:(k != .u64&&decide (0<=x)&&decide (x<=31))=true
 .simp only[hc,if_true];refine SR.seq (A:=yE) (SR.choose fun n=>.pure rfl) fun ρ' a b _ h=>?_;obtain rfl:=h;exact jp ρ' a
 .simp only[hc];refine SR.seq (A:=yE) (SR.ret rfl) fun ρ' a b _ h=>?_;obtain rfl:=h;exact jp ρ' a
theorem rU(h:SV ρ v v'):SR P yE ρ (asIntOf v) (asIntOf v'):=by
 cases h<;>first|exact aF|exact SR.ret rfl
theorem H_(h:SV ρ v v'):SR P yE ρ (asInt v) (asInt v'):=by
 unfold asInt;refine(rU h).seq fun ρ' a b _ e=>?_;obtain rfl:=e;exact SR.ret rfl
theorem bF.empty:bF ρ #[] #[]:=⟨rfl,fun i v v' h=>by simp at h⟩
theorem bF.push(h:bF ρ c c')(hv:SV ρ v v'):bF ρ (c.push v) (c'.push v'):=by
 refine⟨by simp[h.1],fun i x x' h1 h2=>?_⟩;rw[Array.getElem?_push]at h1 h2;rw[<-h.1]at h2;by_cases e:i=c.size
 .simp only[e,if_true]at h1 h2;obtain rfl:=Option.some.inj h1;obtain rfl:=Option.some.inj h2;exact hv
 .simp only[e,if_false]at h1 h2;exact h.2 i x x' h1 h2
theorem bF.append{d d':Array Value}(h:bF ρ c c')(h':bF ρ d d'):bF ρ (c++d) (c'++d'):=by
 refine⟨by simp[h.1,h'.1],fun i x x' h1 h2=>?_⟩;rw[Array.getElem?_append]at h1 h2;rw[<-h.1]at h2;by_cases e:i<c.size
 .simp only[e,if_true]at h1 h2;exact h.2 i x x' h1 h2
 .simp only[e,if_false]at h1 h2;exact h'.2 _ x x' h1 h2
theorem bF.one{v v':Value}(hv:SV ρ v v'):bF ρ #[v] #[v']:=by
 have:=bF.push (ρ:=ρ) bF.empty hv;simpa using this
theorem bF.map{α:Type}{f f':α->Value}(l:Array α)(h:∀x∈l,SV ρ (f x) (f' x)):bF ρ (l.map f) (l.map f'):=by
 refine⟨by simp,fun i v v' h1 h2=>?_⟩;rw[Array.getElem?_map]at h1 h2;cases e:l[i]? with
 |none=>rw[e]at h1;cases h1
 |some x=>
  rw[e]at h1 h2;obtain rfl:=Option.some.inj h1;obtain rfl:=Option.some.inj h2;exact h x (Array.mem_of_getElem? e)
theorem bF.get!(h:bF ρ c c)(i:Nat):SV ρ c[i]! c[i]! :=by
 rw[Array.getElem!_eq_getD,Array.getD_eq_getD_getElem?];cases e:c[i]? with
 |none=>exact .bool _
 |some v=>exact h.2 i v v e e
theorem mX:∀(n i:Nat) {a a':Addr} {acc acc':Array Value} {ρ:Array Nat},AR ρ a a'->bF ρ acc acc'->SR P bF ρ (loadCellsFrom a i n acc) (loadCellsFrom a' i n acc')
 |0,_,_,_,_,_,_,_,h=>SR.ret h
 |n+1,i,_,_,_,_,_,ha,h=>.load (ha.add i) fun _ _ hv=>mX n (i+1) ha (h.push hv)
theorem EL(h:AR ρ a a')(n:Nat):SR P bF ρ (loadCells a n) (loadCells a' n):=mX n 0 h bF.empty
inductive LS(ρ:Array Nat):List Value->List Value->Prop
 |nil:LS ρ [] []
 |cons {v v':Value} {l l':List Value}:SV ρ v v'->LS ρ l l'->LS ρ (v::l) (v'::l')
theorem LS.of(hl:l.length=l'.length)(h:∀(i:Nat) v v',l[i]? =some v->l'[i]? =some v'->SV ρ v v'):LS ρ l l':=by
 induction l generalizing l' with
 |nil=>cases l' with
  |nil=>exact .nil
  |cons _ _=>simp at hl
 |cons x l ih=>cases l' with
  |nil=>simp at hl
  |cons y l'=>exact .cons (h 0 x y rfl rfl) (ih (by simpa using hl) fun i v v' h1 h2=>h (i+1) v v' (by simpa using h1) (by simpa using h2))
theorem bF.toList(h:bF ρ c c'):LS ρ c.toList c'.toList:=LS.of (by simpa using h.1) fun i v v' h1 h2=>h.2 i v v' (by simpa using h1) (by simpa using h2)
theorem mI(ha:AR ρ a a')(h:LS ρ l l'):∀i,SR P yE ρ (storeCells a l i) (storeCells a' l' i):=by
 induction h with
 |nil=>exact fun i=>SR.ret rfl
 |cons hv _ ih=>exact fun i=>.store (ha.add i) hv (ih (i+1))
def CR(ρ:Array Nat):Nat->Value->Value->Prop
 |0,v,v'=>SV ρ v v'
 |1,v,v'=>∃c c',((v= .agg c/\v'= .agg c')\/(v= .tuple c/\v'= .tuple c'))/\bF ρ c c'
 |3,v,v'=>(v= .tuple #[]/\v'= .tuple #[])\/∃t x x',v= .iface t x/\v'= .iface t x'/\VR ρ x x'
 |4,v,v'=>∃c c',v= .tuple c/\v'= .tuple c'/\c.size=c'.size/\(∀(i:Nat) x x',c[i]? =some x->c'[i]? =some x'->VR ρ x x')/\∀(i:Nat) x x',i<2->c[i]? =some x->c'[i]? =some x'->SV ρ x x'
 |_,v,v'=>VR ρ v v'
theorem bF.vr(h:bF ρ c c'):∀(i:Nat) v v',c[i]? =some v->c'[i]? =some v'->VR ρ v v':=fun i v v' a b=>(h.2 i v v' a b).val
theorem CR.val{k:Nat}{v v':Value}(h:CR ρ k v v'):VR ρ v v':=by
 match k,h with
 |0,h=>exact SV.val h
 |1,⟨c,c',.inl ⟨e,e'⟩,hc⟩=>subst e e';exact .agg hc.1 hc.vr
 |1,⟨c,c',.inr ⟨e,e'⟩,hc⟩=>subst e e';exact .tuple hc.1 hc.vr
 |2,h=>exact h
 |3,.inl ⟨e,e'⟩=>subst e e';exact SV.undef.val
 |3,.inr ⟨t,x,x',e,e',hx⟩=>subst e e';exact .iface t hx
 |4,⟨c,c',e,e',h1,h2,_⟩=>subst e e';exact .tuple h1 h2
 |n+5,h=>exact h
theorem CR.mono(e:Ext ρ ρ')(h:CR ρ k v v'):CR ρ' k v v':=by
 match k,h with
 |0,h=>exact SV.mono e h
 |1,⟨c,c',h1,hc⟩=>exact⟨c,c',h1,hc.mono e⟩
 |2,h=>exact VR.mono e h
 |3,.inl h=>exact .inl h
 |3,.inr ⟨t,x,x',e1,e2,hx⟩=>exact .inr ⟨t,x,x',e1,e2,hx.mono e⟩
 |4,⟨c,c',e1,e2,h1,h2,h3⟩=>exact⟨c,c',e1,e2,h1,fun i x x' a b=>(h2 i x x' a b).mono e,fun i x x' k a b=>(h3 i x x' k a b).mono e⟩
 |n+5,h=>exact VR.mono e h
def wo(k:Nat):Array Nat->Value->Value->Prop:=fun ρ=>CR ρ k
theorem lN(h:VR ρ v v'):SR P AR ρ (Instr.sureAddr v) (Instr.sureAddr v'):=by
 cases h<;>first|exact aF|(rename_i h;exact SR.ret h)
theorem Tj(t:TypeId):SR P (fun _ a b=>a=b/\(a=true->∃d,P.underlying t=some d/\((∃fs,d= .struct fs)\/∃n e,d= .array n e))) ρ (isAgg t) (isAgg t):=by
 unfold isAgg;refine(aS t).seq fun ρ' a b _ ⟨h,hu⟩=>?_;subst h;cases a<;>first|exact SR.ret ⟨rfl,fun _=>⟨_,hu,.inl ⟨_,rfl⟩⟩⟩|exact SR.ret ⟨rfl,fun _=>⟨_,hu,.inr ⟨_,_,rfl⟩⟩⟩|exact SR.ret ⟨rfl,fun e=>by cases e⟩
def NA(P:Program)(t:TypeId):Prop:=∀d,P.underlying t=some d->(∀fs,d≠.struct fs)/\∀n e,d≠.array n e
theorem Px(ht:NA P t)(h:VR ρ v v'):SR P (wo 0) ρ (Instr.loadAt t v) (Instr.loadAt t v'):=by
 unfold Instr.loadAt;refine(lN h).seq fun ρ' a b _ j'=>?_;unfold loadVar;refine(Tj t).seq fun J3 x y e ⟨CL,hx⟩=>?_;subst CL;cases x with
 |true=>
  obtain⟨d,hd,⟨fs,rfl⟩|⟨n,el,rfl⟩⟩:=hx rfl
  .exact absurd rfl ((ht _ hd).1 fs)
  .exact absurd rfl ((ht _ hd).2 n el)
 |false=>exact .load (j'.mono e) fun v v' hv=>.pure hv
theorem yZ(h:VR ρ v v')(hx:bF ρ x.cells x'.cells):SR P yE ρ (Instr.storeAt t v x) (Instr.storeAt t v' x'):=by
 unfold Instr.storeAt;refine(lN h).seq fun ρ' a b e j'=>?_;unfold storeVar;refine(eD t).seq fun J3 n m e' Rg=>?_;obtain rfl:=Rg;rw[<-hx.1];split
 .exact aF
 .exact mI (j'.mono e') ((hx.mono (e.trans e')).toList) 0
theorem kL(t:TypeId)(h:bF ρ c c'):SR P AR ρ (newRow t c) (newRow t c'):=by
 unfold newRow;exact .new h fun n=>.pure ⟨zu _ _,rfl,rfl⟩
def IxR:Array Nat->Option Addr×Nat×TypeId->Option Addr×Nat×TypeId->Prop:=fun ρ a b=>a.2=b.2/\((a.1=none/\b.1=none)\/∃c c',a.1=some c/\b.1=some c'/\AR ρ c c')
theorem KY{i i':Value}(hx:SV ρ x x')(hi:SV ρ i i'):SR P (wo 2) ρ (Instr.indexAt t x i) (Instr.indexAt t x' i'):=by
 unfold Instr.indexAt;refine(rU hi).seq fun jo a b e1 h1=>?_;obtain rfl:=h1;obtain⟨k,j⟩:=a;have ie:=hx.mono e1;dsimp only;refine(aS t).seq fun xM d d' e2 h2=>?_;obtain⟨rfl,_⟩:=h2;have ir:=ie.mono e2;have q1:∀{why:String},SR P IxR xM (stuck why) (stuck why):=aF;cases d<;>first
  |refine SR.seq q1 ?_
  |(refine SR.seq (lN ir.val) fun qR a b e3 h3=>?_;refine SR.seq (A:=IxR) (SR.ret ⟨rfl,.inr ⟨_,_,rfl,rfl,h3⟩⟩) ?_)
  |(cases ir<;>first|refine SR.seq q1 ?_|refine SR.seq (A:=IxR) (SR.ret ⟨rfl,.inl ⟨rfl,rfl⟩⟩) ?_|(rename_i h;refine SR.seq (A:=IxR) (SR.ret ⟨rfl,.inr ⟨_,_,rfl,rfl,h⟩⟩) ?_))
 all_goals
  rintro qR ⟨a1,n,el⟩ ⟨b1,n',el'⟩ e3 ⟨h2,h3⟩;simp only[Prod.mk.injEq]at h2;obtain⟨rfl,rfl⟩:=h2;dsimp only;refine(aS t).seq fun WB d d' e4 h4=>?_;obtain⟨rfl,_⟩:=h4;rcases h3 with⟨ea,eb⟩|⟨c,c',ea,eb,hc⟩
  .simp only at ea eb;subst ea eb;exact vD _ _ _ _
  .simp only at ea eb;subst ea eb;simp only;refine fG (fun _=>?_) (fun _=>fG (fun _=>iU) (fun _=>vD _ _ _ _));refine(eD el).seq fun ρ5 m m' e5 h5=>?_;obtain rfl:=h5;exact SR.ret (.ptr ((hc.mono (e4.trans e5)).add _))
inductive OS(ρ:Array Nat):Option Value->Option Value->Prop
 |none:OS ρ none none
 |some {v v':Value}:SV ρ v v'->OS ρ (some v) (some v')
theorem OS.mono(e:Ext ρ ρ'){o o':Option Value}(h:OS ρ o o'):OS ρ' o o':=by cases h with|none=>exact .none|some h=>exact .some (h.mono e)
theorem jI(h:SV ρ v v')(y:Nat)(c:BoundsCode):SR P yE ρ (Instr.sliceBound v y c) (Instr.sliceBound v' y c):=by
 unfold Instr.sliceBound;refine(rU h).seq fun jo a b e h1=>?_;obtain rfl:=h1;obtain⟨k,i⟩:=a;simp only;split
 .exact SR.ret rfl
 .exact vD _ _ _ _
theorem kW(isS:Bool)(len cap:Nat){lo:Option Value}(h1:OS ρ lo lo')(h2:OS ρ hi bh)(h3:OS ρ mx mx'):SR P yE ρ (Instr.sliceBounds isS len cap lo hi mx) (Instr.sliceBounds isS len cap lo' bh mx'):=by
 have jl:∀(xM:Array Nat) (h m:Nat),Ext ρ xM->SR P yE xM (match(generalizing:=false) lo with|some v=>(do let l<-Instr.sliceBound v h (if mx.isSome=true then .slice3C else .sliceB);Pure.pure (l,h,m))|none=>(do let l<-Pure.pure 0;Pure.pure (l,h,m)))
   (match(generalizing:=false) lo' with|some v=>(do let l<-Instr.sliceBound v h (if mx'.isSome=true then .slice3C else .sliceB);Pure.pure (l,h,m))|none=>(do let l<-Pure.pure 0;Pure.pure (l,h,m))):=by
  intro xM h m e;have em:mx.isSome=mx'.isSome:=by cases h3<;>rfl
  cases h1 with
  |none=>exact SR.seq (A:=yE) (SR.ret rfl) fun qR a b _ x=>by obtain rfl:=x;exact SR.ret rfl
  |some h1=>rw[em];exact SR.seq (jI (h1.mono e) _ _) fun qR a b _ x=>by obtain rfl:=x;exact SR.ret rfl
 unfold Instr.sliceBounds;dsimp only;cases h3 with
 |none=>
  refine SR.seq (A:=yE) (SR.ret rfl) fun jo m m' e1 hm=>?_;obtain rfl:=hm;cases h2 with
  |none=>exact SR.seq (A:=yE) (SR.ret rfl) fun xM a b e2 x=>by obtain rfl:=x;exact jl xM a m (e1.trans e2)
  |some h=>exact SR.seq (jI (h.mono e1) _ _) fun xM a b e2 x=>by obtain rfl:=x;exact jl xM a m (e1.trans e2)
 |some h3=>
  refine SR.seq (jI h3 _ _) fun jo m m' e1 hm=>?_;obtain rfl:=hm;cases h2 with
  |none=>exact SR.seq (A:=yE) aF fun xM a b e2 x=>by obtain rfl:=x;exact jl xM a m (e1.trans e2)
  |some h=>exact SR.seq (jI (h.mono e1) _ _) fun xM a b e2 x=>by obtain rfl:=x;exact jl xM a m (e1.trans e2)
theorem KX(hx:SV ρ x x'){lo:Option Value}(h1:OS ρ lo lo')(h2:OS ρ hi bh)(h3:OS ρ mx mx'):SR P (wo 0) ρ (Instr.sliceAt t x lo hi mx) (Instr.sliceAt t x' lo' bh mx'):=by
 have key:∀jo,Ext ρ jo->SR P (wo 0) jo (Instr.slice t x lo hi mx) (Instr.slice t x' lo' bh mx'):=by
  intro jo e1;unfold Instr.slice;refine(aS t).seq fun xM d d' e2 h=>?_;obtain⟨rfl,_⟩:=h;have ir:=hx.mono (e1.trans e2);have g1:=h1.mono (e1.trans e2);have g2:=h2.mono (e1.trans e2);have g3:=h3.mono (e1.trans e2);cases d<;>first
   |exact aF
   |(cases ir<;>exact aF)
   |(cases ir with
      |bool b=>exact aF
      |int k n=>exact aF
      |oz=>exact aF
      |chan h=>exact aF
      |undef=>exact aF
      |Gg l c=>
       refine(kW true l c g1 g2 g3).seq fun qR a b e3 h=>?_;obtain rfl:=h;obtain⟨l',h',m'⟩:=a;refine(eD _).seq fun WB n n' e4 h=>?_;obtain rfl:=h;refine SR.ret ?_;simp only[Option.map_none,ite_self];exact SV.Gg _ _
      |sl l c ha=>
       refine(kW true l c g1 g2 g3).seq fun qR a b e3 h=>?_;obtain rfl:=h;obtain⟨l',h',m'⟩:=a;refine(eD _).seq fun WB n n' e4 h=>?_;obtain rfl:=h;refine SR.ret ?_;simp only[Option.map_some];split
       .exact SV.sl _ _ (ha.mono (e3.trans e4))
       .exact SV.sl _ _ ((ha.mono (e3.trans e4)).add _))
 unfold Instr.sliceAt;refine(aS t).seq fun jo d d' e1 h=>?_;obtain⟨rfl,_⟩:=h;cases d<;>first
  |exact key jo e1
  |(refine SR.seq (A:=AR) (by have:=hx.mono e1;cases this<;>exact aF) fun xM a b e2 ha=>?_
    refine(kW false _ _ (h1.mono (e1.trans e2)) (h2.mono (e1.trans e2)) (h3.mono (e1.trans e2))).seq fun qR a' b' e3 h=>?_;obtain rfl:=h;obtain⟨l',h',m'⟩:=a';refine(eD _).seq fun WB n n' e4 h=>?_;obtain rfl:=h;refine SR.ret ?_;split
    .exact SV.sl _ _ (ha.mono (e3.trans e4))
    .exact SV.sl _ _ ((ha.mono (e3.trans e4)).add _))
def BT(P:Program)(t:TypeId):Prop:=∀d,P.underlying t=some d->(∃k,d= .int k)\/d= .bool\/∃e,d= .slice e
theorem H9(ht:BT P t)(hx:SV ρ x x')(hy:SV ρ y y'):SR P yE ρ (Op.equal t x y) (Op.equal t x' y'):=by
 unfold Op.equal Op.maxDepth;unfold Op.equalIn;refine(aS t).seq fun jo d d' e h=>?_;obtain⟨rfl,hu⟩:=h;have hx:=hx.mono e;have hy:=hy.mono e;rcases ht _ hu with⟨k,rfl⟩|rfl|⟨el,rfl⟩
 .cases hx<;>cases hy<;>first|exact aF|exact fG (fun _=>SR.ret rfl) (fun _=>aF)
 iterate 2 (·cases hx<;>cases hy<;>first|exact aF|exact SR.ret rfl)
theorem La(op:BinOp)(t:TypeId)(a b:Operand)(hx:SV ρ x x')(hy:SV ρ y y'):SR P yE ρ (eqGuard op t a b x y) (eqGuard op t a b x' y'):=by
 unfold eqGuard;refine fG (fun _=>SR.ret rfl) (fun _=>?_);cases hx<;>cases hy<;>exact SR.ret rfl
theorem Tq{op:BinOp}(ht:BT P t)(hx:SV ρ x x')(hy:SV ρ y y'):SR P (wo 0) ρ (binOp op t x y) (binOp op t x' y'):=by
 have eq:SR P (wo 0) ρ (do Pure.pure (Value.bool (<-Op.equal t x y))) (do Pure.pure (Value.bool (<-Op.equal t x' y'))):=
  SR.seq (H9 ht hx hy) fun jo a b _ h=>by obtain rfl:=h;exact SR.ret (SV.bool _)
 have ne:SR P (wo 0) ρ (do Pure.pure (Value.bool (!(<-Op.equal t x y)))) (do Pure.pure (Value.bool (!(<-Op.equal t x' y')))):=
  SR.seq (H9 ht hx hy) fun jo a b _ h=>by obtain rfl:=h;exact SR.ret (SV.bool _)
 unfold binOp;cases hx with
 |int k n=>
  cases hy with
  |int k' m=>
   cases op<;>dsimp only<;>first
    |(unfold Op.shift;refine fG (fun _=>iC _) (fun _=>?_);exact SR.ret (SV.int _ _))
    |(refine fG (fun _=>aF) (fun _=>?_)
      first
       |(unfold Op.intArith;exact SR.ret (SV.int _ _))
       |(unfold Op.intDiv;exact fG (fun _=>iC _) (fun _=>SR.ret (SV.int _ _)))
       |(unfold Op.intBits;exact SR.ret (SV.int _ _))
       |(unfold Op.intCmp;first|exact SR.ret (SV.bool _)|exact aF))
  |_=>cases op<;>first|exact aF|exact eq|exact ne
 |bool b=>cases hy<;>cases op<;>first|exact aF|exact eq|exact ne
 |Gg l c=>cases hy<;>cases op<;>first|exact aF|exact eq|exact ne
 |sl l c h=>cases hy<;>cases op<;>first|exact aF|exact eq|exact ne
 |oz=>cases hy<;>cases op<;>first|exact aF|exact eq|exact ne
 |chan h=>cases hy<;>cases op<;>first|exact aF|exact eq|exact ne
 |undef=>cases hy<;>cases op<;>first|exact aF|exact eq|exact ne
theorem Ti{op:UnOp}(hx:SV ρ x x'):SR P (wo 0) ρ (Op.unary op x) (Op.unary op x'):=by
 unfold Op.unary;cases hx<;>cases op<;>first|exact aF|exact SR.ret (SV.bool _)|(unfold Op.intArith;exact SR.ret (SV.int _ _))|(unfold Op.intBits;exact SR.ret (SV.int _ _))
def IT(P:Program)(t:TypeId):Prop:=∀d,P.underlying t=some d->∃k,d= .int k
theorem Lc{src dst:TypeId}(h1:IT P src)(h2:IT P dst)(hx:SV ρ x x'):SR P (wo 0) ρ (convert src dst x) (convert src dst x'):=by
 unfold convert;refine(aS src).seq fun jo a b e1 h=>?_;obtain⟨rfl,ha⟩:=h;refine(aS dst).seq fun xM c d e2 h=>?_;obtain⟨rfl,hc⟩:=h;obtain⟨k,rfl⟩:=h1 _ ha;obtain⟨k',rfl⟩:=h2 _ hc;have hx:=hx.mono (e1.trans e2);cases hx<;>first|exact iU|(unfold Conv.intToInt;exact SR.ret (SV.int _ _))
theorem K_(hx:CR ρ 1 x x')(i:Nat):SR P (wo 0) ρ (Instr.extract x i) (Instr.extract x' i):=by
 obtain⟨c,c',⟨e,e'⟩|⟨e,e'⟩,hc⟩:=hx
 .subst e e';exact aF
 .subst e e';unfold Instr.extract;dsimp only;cases h:c[i]? with
  |none=>exact aF
  |some v=>
   obtain⟨v',h1,h2⟩:=hc.get h;simp only[h1];exact SR.ret h2
theorem H8(hx:CR ρ 4 x x'){i:Nat}(hi:i<2):SR P (wo 0) ρ (Instr.extract x i) (Instr.extract x' i):=by
 obtain⟨c,c',e,e',h1,_,h3⟩:=hx;subst e e';unfold Instr.extract;dsimp only;cases h:c[i]? with
 |none=>exact aF
 |some v=>
  have ai:i<c.size:=(Array.getElem?_eq_some_iff.1 h).1;have e1:c'[i]? =some (c'[i]'(h1▸ai)):=Array.getElem?_eq_getElem _;simp only[e1];exact SR.ret (h3 i _ _ hi h e1)
theorem uV(h:bF ρ z z)(n:Nat):bF ρ ((Array.range n).map (z[· %z.size]!)) ((Array.range n).map (z[· %z.size]!)):=bF.map _ fun _ _=>bF.get! h _
def ST(P:Program)(t:TypeId):Prop:=∃e,P.underlying t=some (.slice e)/\ZOk P e
theorem SR.die{α β γ δ:Type}{B:Array Nat->γ->δ->Prop}{s:Sem α}{s':Sem β}{f:α->Sem γ}{f':β->Sem δ}(h:SR P (fun _ _ _=>False) ρ s s'):SR P B ρ (s >>= f) (s' >>= f'):=SR.seq h fun _ _ _ _ x=>x.elim
theorem rT(n:Nat):SR P yE ρ (askRoom n) (askRoom n):=by
 unfold askRoom;exact fG (fun _=>.mark trivial (.pure rfl)) (fun _=>SR.ret rfl)
theorem EK(ht:ST P t){l l' c c':Value}(hl:SV ρ l l')(hc:SV ρ c c'):SR P (wo 0) ρ (Instr.makeSlice t l c) (Instr.makeSlice t l' c'):=by
 obtain⟨el,hu,hz⟩:=ht;unfold Instr.makeSlice;refine(aS t).seq fun jo a b e1 h=>?_;obtain⟨rfl,ha⟩:=h;rw[hu]at ha;obtain rfl:=Option.some.inj ha;dsimp only;refine(H_ (hl.mono e1)).seq fun xM a b e2 h=>?_;obtain rfl:=h;refine(H_ (hc.mono (e1.trans e2))).seq fun qR d d' e3 h=>?_;obtain rfl:=h;refine(fQ el).seq fun WB i i' e4 h=>?_;obtain⟨rfl,_⟩:=h;refine fG (fun _=>fG (fun _=>SR.die (iC _)) (fun _=>fG (fun _=>SR.die (iC _)) (fun _=>qH fun n=>SR.die (iC _)))) (fun _=>?_);refine(rT _).seq fun ρ5 _ _ e5 _=>?_;refine(eD el).seq fun ρ6 n n' e6 h=>?_;obtain rfl:=h;refine fG (fun _=>?_) (fun _=>?_)
 .refine SR.seq (A:=fun ρ a b=>a=b/\bF ρ a a) (SR.ret ⟨rfl,bF.empty⟩) fun ρ7 z z' e7 h=>?_;obtain⟨rfl,hz⟩:=h;refine(kL el (uV hz _)).seq fun ρ8 x y e8 hx=>?_;exact SR.ret (SV.sl _ _ hx)
 .refine iT.seq fun ρ7 v v' e7 h=>?_;obtain⟨rfl,i',hi,hv⟩:=h;refine SR.seq (A:=fun ρ a b=>a=b/\bF ρ a a) (SR.ret ⟨rfl,hz _ _ hi hv _⟩) fun ρ8 z z' e8 h=>?_;obtain⟨rfl,hz⟩:=h;refine(kL el (uV hz _)).seq fun ρ9 x y e9 hx=>?_;exact SR.ret (SV.sl _ _ hx)
inductive PS(ρ:Array Nat):List (Nat×Value)->List (Nat×Value)->Prop
 |nil:PS ρ [] []
 |cons (i:Nat) {v v':Value} {l l':List (Nat×Value)}:SV ρ v v'->PS ρ l l'->PS ρ ((i,v)::l) ((i,v')::l')
theorem PS.mono(e:Ext ρ ρ'){l l':List (Nat×Value)}(h:PS ρ l l'):PS ρ' l l':=by
 induction h with
 |nil=>exact .nil
 |cons i hv _ ih=>exact .cons i (hv.mono e) ih
theorem bF.set(h:bF ρ c c')(i:Nat)(hv:SV ρ v v'):bF ρ (c.setIfInBounds i v) (c'.setIfInBounds i v'):=by
 refine⟨by simp[h.1],fun j x x' h1 h2=>?_⟩;rw[Array.getElem?_setIfInBounds]at h1 h2;rw[<-h.1]at h2;by_cases e:i=j
 .simp only[e,if_true]at h1 h2;by_cases hj:j<c.size
  .simp only[hj,if_true]at h1 h2;obtain rfl:=Option.some.inj h1;obtain rfl:=Option.some.inj h2;exact hv
  .simp only[hj,if_false]at h1;cases h1
 .simp only[e,if_false]at h1 h2;exact h.2 j x x' h1 h2
def FR(ρ:Array Nat):Option (Array Value)->Option (Array Value)->Prop
 |none,none=>True
 |some c,some c'=>bF ρ c c'
 |_,_=>False
theorem Ak{place:Nat->Option (Nat×Nat)}{l l':List (Nat×Value)}(h:PS ρ l l'):∀{c c':Array Value},bF ρ c c'->FR ρ (Instr.fill place c l) (Instr.fill place c' l'):=by
 induction h with
 |nil=>exact fun h=>h
 |@cons i v v' l l' hv _ ih=>
  intro c c' hc;obtain⟨e,e'⟩:=hv.cells;unfold Instr.fill;cases hp:place i with
  |none=>trivial
  |some q=>
   obtain⟨off,size⟩:=q;simp only[e,e',<-hc.1,List.size_toArray,List.length_cons,List.length_nil];split
   .trivial
   .refine ih ?_;simp;exact hc.set _ hv
theorem BI(ht:ST P t)(len:Nat){ps ps':Array (Nat×Value)}(hp:PS ρ ps.toList ps'.toList):SR P (wo 0) ρ (Instr.buildSlice t len ps) (Instr.buildSlice t len ps'):=by
 obtain⟨el,hu,hz⟩:=ht;unfold Instr.buildSlice;refine(aS t).seq fun jo a b e1 h=>?_;obtain⟨rfl,ha⟩:=h;rw[hu]at ha;obtain rfl:=Option.some.inj ha;dsimp only;refine(eD el).seq fun xM n n' e2 h=>?_;obtain rfl:=h;have key:∀(qR:Array Nat) (z:Array Value),Ext ρ qR->bF qR z z->SR P (wo 0) qR
   (match Instr.fill (fun i=>some (i*n,n)) ((Array.range (len*n)).map (z[· %z.size]!)) ps.toList with|some cells=>(do let a<-newRow el cells;Pure.pure (Value.slice (some a) len len))|x=>stuck "buildSlice: a part of the wrong size")
   (match Instr.fill (fun i=>some (i*n,n)) ((Array.range (len*n)).map (z[· %z.size]!)) ps'.toList with|some cells=>(do let a<-newRow el cells;Pure.pure (Value.slice (some a) len len))|x=>stuck "buildSlice: a part of the wrong size"):=by
  intro qR z e3 hz;have:=Ak (place:=fun i=>some (i*n,n)) (hp.mono e3) (uV hz (len*n));revert this;cases Instr.fill (fun i=>some (i*n,n)) ((Array.range (len*n)).map (z[· %z.size]!)) ps.toList with
  |none=>exact fun _=>aF
  |some c=>
   cases Instr.fill (fun i=>some (i*n,n)) ((Array.range (len*n)).map (z[· %z.size]!)) ps'.toList with
   |none=>exact fun h=>h.elim
   |some c'=>exact fun h=>(kL el h).seq fun WB x y e4 hx=>SR.ret (SV.sl _ _ hx)
 refine fG (fun _=>SR.die iU) (fun _=>?_);refine fG (fun _=>?_) (fun _=>?_)
 .refine SR.seq (A:=fun ρ a b=>a=b/\bF ρ a a) (SR.ret ⟨rfl,bF.empty⟩) fun WB z z' e4 h=>?_;obtain⟨rfl,hz⟩:=h;exact key WB z ((e1.trans e2).trans e4) hz
 .refine iT.seq fun WB v v' e4 h=>?_;obtain⟨rfl,i',hi,hv⟩:=h;refine SR.seq (A:=fun ρ a b=>a=b/\bF ρ a a) (SR.ret ⟨rfl,hz _ _ hi hv _⟩) fun ρ5 z z' e5 h=>?_;obtain⟨rfl,hz⟩:=h;exact key ρ5 z (((e1.trans e2).trans e4).trans e5) hz
theorem ZK{ty:TypeId}(ht:ST P t)(hx:SV ρ x x'):SR P (wo 0) ρ (Builtin.len_ #[t] ty #[x]) (Builtin.len_ #[t] ty #[x']):=by
 obtain⟨el,hu,_⟩:=ht;unfold Builtin.len_;refine(aS t).seq fun jo a b e1 h=>?_;obtain⟨rfl,ha⟩:=h;rw[hu]at ha;obtain rfl:=Option.some.inj ha;have hx:=hx.mono e1;cases hx<;>first|exact aF|exact SR.ret (SV.int _ _)
theorem H7(hx:SV ρ x x'):SR P yE ρ (Builtin.lenOf x) (Builtin.lenOf x'):=by
 cases hx<;>first|exact aF|exact SR.ret rfl
theorem jJ(size n:Nat)(hx:SV ρ x x'):SR P bF ρ (Builtin.firstCells size n x) (Builtin.firstCells size n x'):=by
 cases hx<;>first|exact aF|exact SR.ret bF.empty|(rename_i h;exact EL h _)
theorem Bj(h:bF ρ z z)(n:Nat):bF ρ (Builtin.zeroCells z n) (Builtin.zeroCells z n):=bF.map _ fun _ _=>bF.get! h _
theorem Xo{ty:TypeId}(hx:SV ρ x x')(hy:SV ρ y y'):SR P (wo 0) ρ (Builtin.copy_ #[t,t'] ty #[x,y]) (Builtin.copy_ #[t,t'] ty #[x',y']):=by
 unfold Builtin.copy_;dsimp only[List.getElem?_toArray,List.getElem?_cons_zero,List.getElem?_cons_succ];refine(aS t).seq fun jo a b e1 h=>?_;obtain⟨rfl,ha⟩:=h;have hx:=hx.mono e1;have hy:=hy.mono e1;cases a<;>first
  |exact aF
  |(cases hx<;>first
   |exact aF
   |(refine(H7 hy).seq fun xM n n' e2 h=>?_
     obtain rfl:=h;refine(eD _).seq fun qR s s' e3 h=>?_;obtain rfl:=h;refine(jJ _ _ (hy.mono (e2.trans e3))).seq fun WB c c' e4 h=>?_
     first
      |exact SR.ret (SV.int _ _)
      |(rename_i hb;refine(mI (hb.mono ((e2.trans e3).trans e4)) h.toList 0).seq fun ρ5 _ _ e5 _=>?_;exact SR.ret (SV.int _ _))))
inductive OA(ρ:Array Nat):Option Addr->Option Addr->Prop
 |none:OA ρ none none
 |some {a a':Addr}:AR ρ a a'->OA ρ (some a) (some a')
theorem OA.mono(e:Ext ρ ρ'){a a':Option Addr}(h:OA ρ a a'):OA ρ' a a':=by cases h with|none=>exact .none|some h=>exact .some (h.mono e)
theorem OA.slice{a a':Option Addr}(h:OA ρ a a')(l c:Nat):SV ρ (.slice a l c) (.slice a' l c):=by cases h with|none=>exact .Gg l c|some h=>exact .sl l c h
def Tot(P:Program){α:Type}(s:Sem α):Prop:=∀p,∃a p',s.run P p= .ok a p'
theorem Tot.ret{α:Type}(a:α):Tot P (Pure.pure a:Sem α):=fun p=>⟨a,p,rfl⟩
theorem Tot.seq{α β:Type}{s:Sem α}{f:α->Sem β}(h:Tot P s)(hf:∀a,Tot P (f a)):Tot P (s >>= f):=by
 intro p;obtain⟨a,p',h⟩:=h p;obtain⟨b,p'',h'⟩:=hf a p';exact⟨b,p'',by show(s.bind f).run P p=_;rw[run_bind,h];exact h'⟩
theorem OX(r:Nat):Tot P (shape r):=fun p=>⟨_,p,rfl⟩
theorem Kw(a:Addr):Tot P (frozen a):=fun p=>⟨_,p,rfl⟩
theorem CX(a:Addr)(m:Nat):Tot P (Builtin.holdsCells a m):=by
 unfold Builtin.holdsCells;refine(OX _).seq fun s=>?_;cases s<;>exact Tot.ret _
theorem Ew(size sLen n:Nat)(base:Option Addr)(x:Value):Tot P (Builtin.mayShare size sLen n base x):=by
 have tail:∀(base:Option Addr) (there:Bool),Tot P (if(!there)=true then(Pure.pure true:Sem Bool)else match x with| .slice (some b) _ _=>do Pure.pure (!(<-Builtin.holdsCells b (n*size))||base.any (·.block==b.block))|_=>Pure.pure false):=by
  intro base there;cases there with
  |false=>exact Tot.ret _
  |true=>
   simp only[Bool.not_true,Bool.false_eq_true,if_false];split
   .exact(CX _ _).seq fun _=>Tot.ret _
   .exact Tot.ret _
 unfold Builtin.mayShare;cases base with
 |none=>exact(Tot.ret true).seq fun b=>tail none b
 |some a=>exact(CX _ _).seq fun b=>(Kw _).seq fun c=>(Tot.ret _).seq fun d=>tail (some a) d
theorem pF{ty:TypeId}(ht:ST P t)(Mm:ST P t'){b b':Option Addr}(l c:Nat)(hb:OA ρ b b')(hy:SV ρ y y'):SR P (wo 0) ρ (Builtin.append_ #[t,t'] ty #[.slice b l c,y]) (Builtin.append_ #[t,t'] ty #[.slice b' l c,y']):=by
 obtain⟨el,hu,hz⟩:=ht;obtain⟨el',hu',_⟩:=Mm;unfold Builtin.append_;dsimp only[List.getElem?_toArray,List.getElem?_cons_zero,List.getElem?_cons_succ];refine(aS t).seq fun jo a a' e1 h=>?_;obtain⟨rfl,ha⟩:=h;rw[hu]at ha;obtain rfl:=Option.some.inj ha;refine(eD el).seq fun xM size size' e2 h=>?_;obtain rfl:=h;refine(aS t').seq fun qR d d' e3 h=>?_;obtain⟨rfl,hd⟩:=h;rw[hu']at hd;obtain rfl:=Option.some.inj hd;refine SR.seq (A:=fun _ a b=>a=false/\b=false) (SR.ret ⟨rfl,rfl⟩) fun WB z z' e4 h=>?_;obtain⟨rfl,rfl⟩:=h;have e14:=((e1.trans e2).trans e3).trans e4;refine(H7 (hy.mono e14)).seq fun ρ5 n n' e5 h=>?_;obtain rfl:=h;have e15:=e14.trans e5;refine fG (fun _=>?_) (fun _=>?_)
 .refine(jJ _ _ (hy.mono e15)).seq fun ρ6 cs cs' e6 hc=>?_;have FG:=hb.mono (e15.trans e6);cases FG with
  |none=>exact SR.ret (SV.Gg _ _)
  |some h=>exact(mI (h.add _) hc.toList 0).seq fun ρ7 _ _ e7 _=>SR.ret (SV.sl _ _ (h.mono e7))
 .refine(fQ el).seq fun ρ6 i i' e6 h=>?_;obtain⟨rfl,_⟩:=h;refine fG (fun _=>SR.die (iC _)) (fun _=>?_);refine(fQ el).seq fun ρ7 i i' e7 h=>?_;obtain⟨rfl,_⟩:=h;refine fG (fun _=>SR.die (.dK fun p=>?_)) (fun _=>?_)
  .simp only[Bool.false_eq_true,if_false];obtain⟨r,p',hr⟩:=Ew (P:=P) size l n b y p;show Bad (((Builtin.mayShare size l n b y).bind _).run P p);rw[run_bind,hr];cases r<;>trivial
  refine qH fun nc=>?_;refine(fQ el).seq fun ρ8 i i' e8 h=>?_;obtain⟨rfl,_⟩:=h;refine(rT _).seq fun ρ9 _ _ e9 _=>?_;have e09:=(((e15.trans e6).trans e7).trans e8).trans e9;refine(jJ size l ((hb.mono e09).slice l c)).seq fun ρ10 old old' e10 ho=>?_;refine(jJ size n (hy.mono (e09.trans e10))).seq fun ρ11 new new' e11 hn=>?_;refine iT.seq fun ρ12 v v' e12 h=>?_;obtain⟨rfl,i',hi,hv⟩:=h;refine(kL el (((ho.mono (e11.trans e12)).append (hn.mono e12)).append (Bj (hz _ _ hi hv _) _))).seq fun ρ13 x x' e13 hx=>?_;exact SR.ret (SV.sl _ _ hx)
theorem Py{ty:TypeId}(ht:ST P t)(Mm:ST P t')(hx:SV ρ x x')(hy:SV ρ y y'):SR P (wo 0) ρ (Builtin.append_ #[t,t'] ty #[x,y]) (Builtin.append_ #[t,t'] ty #[x',y']):=by
 have bad:∀v,(∀b l c,v≠.slice b l c)->∀s',SR P (wo 0) ρ (Builtin.append_ #[t,t'] ty #[v,y]) s':=by
  intro v hv s';obtain⟨el,hu,hz⟩:=ht;refine .dK fun p=>?_;unfold Builtin.append_;dsimp only[List.getElem?_toArray,List.getElem?_cons_zero,List.getElem?_cons_succ];show Bad (((underlying t).bind _).run P p);have hr:(underlying t).run P p= .ok (.slice el) p:=by
   unfold underlying;show(Sem.program fun q=>_).run P p=_;simp only[Sem.run,Sem.bind,hu];rfl
  rw[run_bind,hr];cases v<;>first|exact absurd rfl (hv _ _ _)|trivial
 cases hx with
 |bool b=>exact bad _ (fun _ _ _ e=>by cases e) _
 |int k n=>exact bad _ (fun _ _ _ e=>by cases e) _
 |oz=>exact bad _ (fun _ _ _ e=>by cases e) _
 |chan h=>exact bad _ (fun _ _ _ e=>by cases e) _
 |undef=>exact bad _ (fun _ _ _ e=>by cases e) _
 |Gg l c=>exact pF ht Mm l c .none hy
 |sl l c h=>exact pF ht Mm l c (.some h) hy
def DW:Value->Bool
 | .bool _| .int _ _| .slice none _ _| .chan none=>true
 |_=>false
def VZ:Value->Bool
 | .bool _| .int _ _| .slice none _ _| .chan none| .string _| .float _ _| .pointer none| .nilIface| .nilFunc=>true
 | .tuple c| .agg c=>c.all DW
 |_=>false
theorem Oy(h:DW v=true):SV ρ v v:=by
 match v,h with
 | .bool b,_=>exact .bool b
 | .int k n,_=>exact .int k n
 | .slice none l c,_=>exact .Gg l c
 | .chan none,_=>exact .oz
theorem vP(h:c.all DW=true):bF ρ c c:=by
 refine⟨rfl,fun i v v' h1 h2=>?_⟩;rw[h1]at h2;obtain rfl:=Option.some.inj h2;exact Oy (Array.all_eq_true_iff_forall_mem.1 h _ (Array.mem_of_getElem? h1))
theorem Yz(h:VZ v=true):VR ρ v v:=by
 match v,h with
 | .bool b,_=>exact .bool b
 | .int k n,_=>exact .int k n
 | .float k n,_=>exact .float k n
 | .string s,_=>exact .string s
 | .pointer none,_=>exact .ZU
 | .slice none l c,_=>exact .Gg l c
 | .chan none,_=>exact .oz
 | .nilIface,_=>exact .nilIface
 | .nilFunc,_=>exact .nilFunc
 | .tuple c,h=>have:=vP (ρ:=ρ) (c:=c) h;exact .tuple rfl this.vr
 | .agg c,h=>have:=vP (ρ:=ρ) (c:=c) h;exact .agg rfl this.vr
def TR(ρ:Array Nat)(K:Nat->Nat)(a a':Array Value):Prop:=a.size=a'.size/\∀(i:Nat) v v',a[i]? =some v->a'[i]? =some v'->CR ρ (K i) v v'
theorem TR.mono(e:Ext ρ ρ'){K:Nat->Nat}{a a':Array Value}(h:TR ρ K a a'):TR ρ' K a a':=⟨h.1,fun i v v' h1 h2=>(h.2 i v v' h1 h2).mono e⟩
theorem TR.set{K:Nat->Nat}{a a':Array Value}(h:TR ρ K a a')(i:Nat)(hv:CR ρ (K i) v v'):TR ρ K (a.setIfInBounds i v) (a'.setIfInBounds i v'):=by
 refine⟨by simp[h.1],fun j x x' h1 h2=>?_⟩;rw[Array.getElem?_setIfInBounds]at h1 h2;rw[<-h.1]at h2;by_cases e:i=j
 .subst e;simp only[if_true]at h1 h2;by_cases hj:i<a.size
  .simp only[hj,if_true]at h1 h2;obtain rfl:=Option.some.inj h1;obtain rfl:=Option.some.inj h2;exact hv
  .simp only[hj,if_false]at h1;cases h1
 .simp only[e,if_false]at h1 h2;exact h.2 j x x' h1 h2
def oq(K:Nat->Nat):Operand->Option Nat
 | .tmp t=>some (K t)
 | .const v=>if DW v then some 0 else if VZ v then some 2 else none
 | .func _=>some 2
 | .global _=>none
theorem CR.undef(k:Nat):CR ρ k undef undef:=by
 match k with
 |0=>exact SV.undef
 |1=>exact⟨#[],#[],.inr ⟨rfl,rfl⟩,bF.empty⟩
 |2=>exact SV.undef.val
 |3=>exact .inl ⟨rfl,rfl⟩
 |4=>exact⟨#[],#[],rfl,rfl,rfl,fun i x x' h=>by simp at h,fun i x x' _ h=>by simp at h⟩
 |n+5=>exact SV.undef.val
theorem TR.eval{K:Nat->Nat}{a a':Act}(h:TR ρ K a.tmps a'.tmps){x:Operand}(hx:oq K x=some k):CR ρ k (a.eval x) (a'.eval x):=by
 cases x with
 |tmp t=>
  obtain rfl:K t=k:=Option.some.inj hx;show CR ρ (K t) (a.tmps.getD t undef) (a'.tmps.getD t undef);rw[Array.getD_eq_getD_getElem?,Array.getD_eq_getD_getElem?];cases e:a.tmps[t]? with
  |none=>
   have:a'.tmps[t]? =none:=by rw[Array.getElem?_eq_none_iff]at e⊢;rw[<-h.1];exact e
   rw[this];exact CR.undef _
  |some v=>
   have ai:t<a.tmps.size:=by
    rcases Nat.lt_or_ge t a.tmps.size with h'|h'
    .exact h'
    .rw[Array.getElem?_eq_none h']at e;cases e
   have e':a'.tmps[t]? =some (a'.tmps[t]'(h.1▸ai)):=Array.getElem?_eq_getElem _;rw[e'];exact h.2 t v _ e e'
 |const v=>
  show CR ρ k v v;unfold oq at hx;by_cases hf:DW v=true
  .simp only[hf,if_true,Option.some.injEq]at hx;subst hx;exact Oy hf
  .simp only[hf]at hx;by_cases hb:VZ v=true
   .simp only[hb,if_true]at hx;obtain rfl:=Option.some.inj hx;exact Yz hb
   .simp only[hb]at hx;cases hx
 |func f=>
  obtain rfl:2=k:=Option.some.inj hx;exact VR.func _ rfl (fun i v v' h=>by simp at h) rfl (fun i v v' h=>by simp at h)
 |global g=>cases hx
