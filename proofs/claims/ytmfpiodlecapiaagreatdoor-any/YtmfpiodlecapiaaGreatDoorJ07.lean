import Derived.Test.YtmfpiodlecapiaaGreatDoorJ06
set_option linter.unusedSimpArgs false
namespace Go.eO
open Go.Ren
def noView:Obj->Prop
 | .pending .. =>False
 |_=>True
theorem Fq{o:Obj}(h:noView o)(b:Nat):xR b o:=by cases o<;>first|exact trivial|exact h.elim
structure PS(Sh:Nat->Prop)(p u:World):Prop where
 size:u.heap.size=p.heap.size
 same:∀b:Nat,¬Sh b->u.heap[b]? =p.heap[b]?
 rows:∀b:Nat,Sh b->∃e fz vg c,p.heap[b]? =some (.cells #[] e fz)/\u.heap[b]? =some (.cells c e vg)
 views:∀(b:Nat) o,p.heap[b]? =some o->xR b o
 tape:u.tape=p.tape
 drawn:u.drawn=p.drawn
 os:u.os=p.os
 output:u.output=p.output
def Dead:Halt->Prop
 | .stuck _=>True
 | .unsupported (.initOrder g)=>4<=g
 | .unsupported _=>True
 |_=>False
inductive Tm(P:Program){α:Type}:Sem α->Prop
 |pure (a:α):Tm P (.pure a)
 |load (m:Mode) (a:Addr) {k:Value->Sem α}:(∀v,Tm P (k v))->Tm P (.load m a k)
 |store (m:Mode) (a:Addr) (v:Value) {k:Sem α}:Tm P k->Tm P (.store m a v k)
 |new (o:Obj) {k:Nat->Sem α}:noView o->(∀n,Tm P (k n))->Tm P (.new o k)
 |shape (r:Nat) {k:Option (TypeId×Nat)->Sem α}:(∀x y,x.map Prod.fst=y.map Prod.fst->k x=k y)->(∀x,Tm P (k x))->Tm P (.shape r k)
 |freeze (a:Addr) (n:Nat) {k:Sem α}:Tm P k->Tm P (.freeze a n k)
 |stringish (r:Nat) {k:Option (TypeId×Nat)->Sem α} {k':Sem α}:(∀e n,k (some (e,n))= .freeze ⟨r,n,none⟩ 1 k')->Tm P k'->Tm P (k none)->Tm P (.shape r k)
 |getObj (r:Nat) {k:Obj->Sem α}:(∀x,Tm P (k x))->Tm P (.getObj r k)
 |setObj (r:Nat) (o:Obj) {k:Sem α}:noView o->Tm P k->Tm P (.setObj r o k)
 |choose (q:Question) {k:Nat->Sem α}:(∀n,Tm P (k n))->Tm P (.choose q k)
 |program {k:Program->Sem α}:Tm P (k P)->Tm P (.program k)
 |mark (m:Mark) {k:Sem α}:Bare m->Tm P k->Tm P (.mark m k)
 |halt (h:Halt):((∃v,h= .panic v)\/(∃y,h= .stuck y)\/∃y,h= .unsupported y/\∀g,y≠.initOrder g)->Tm P (.halt h)
 |qG (r:Nat) {k:Option (TypeId×Nat)->Sem α}:(∀e w,∃x w',(k (some (e,0))).run P w= .halt x w'/\Dead x)->(∀x,Tm P (k x))->Tm P (.shape r k)
 |lF (o:Obj) {k:Nat->Option (TypeId×Nat)->Sem α}:noView o->(∀n x,Tm P (k n x))->Tm P (.new o fun n=>.shape n (k n))
 |dB {s:Sem α}:(∀w,∃x w',s.run P w= .halt x w'/\Dead x)->Tm P s
theorem Tm.bind{P:Program}{α β:Type}{s:Sem α}{f:α->Sem β}(h:Tm P s)(hf:∀a,Tm P (f a)):Tm P (s.bind f):=by
 induction h with
 |pure a=>exact hf a
 |load m a _ ih=>exact .load m a ih
 |store m a v _ ih=>exact .store m a v ih
 |new o ho _ ih=>exact .new o ho ih
 |shape r hk _ ih=>exact .shape r (fun x y e=>by rw[hk x y e]) ih
 |qG r hd _ ih=>
  refine .qG r (fun e w=>?_) ih;obtain⟨x,w',h1,h2⟩:=hd e w;exact⟨x,w',by rw[run_bind,h1],h2⟩
 |lF o ho _ ih=>exact .lF o ho ih
 |freeze a n _ ih=>exact .freeze a n ih
 |stringish r he _ _ ih ih'=>exact .stringish r (fun e n=>by rw[he];rfl) ih ih'
 |getObj r _ ih=>exact .getObj r ih
 |setObj r o ho _ ih=>exact .setObj r o ho ih
 |choose q _ ih=>exact .choose q ih
 |program _ ih=>exact .program ih
 |mark m hm _ ih=>exact .mark m hm ih
 |halt h hh=>exact .halt h hh
 |@dB s hb=>
  refine .dB fun w=>?_;obtain⟨x,w',h1,h2⟩:=hb w;exact⟨x,w',by rw[run_bind,h1],h2⟩
def Off(Sh:Nat->Prop)(e:Event):Prop:=(∀a,e.loc= .cell a->¬Sh a.block)/\∀m,e.loc= .mark m->Bare m
section
variable {Sh:Nat->Prop} {p u:World}
theorem PS.off(h:PS Sh p u){a:Addr}{v:Value}(hc:p.cell? a=some v):¬Sh a.block:=by
 intro hs;obtain⟨e,fz,vg,c,h1,_⟩:=h.rows _ hs;simp only[World.cell?,h1]at hc;split at hc<;>simp at hc
theorem PS.cell(h:PS Sh p u){a:Addr}(hs:¬Sh a.block):u.cell? a=p.cell? a:=by simp only[World.cell?,h.same _ hs]
theorem PS.frozen(h:PS Sh p u){a:Addr}(hs:¬Sh a.block):u.frozen? a=p.frozen? a:=by
 simp only[World.frozen?,h.same _ hs]
theorem PS.setCell(h:PS Sh p u)(a:Addr)(v:Value)(hs:¬Sh a.block):PS Sh (p.setCell a v) (u.setCell a v):=by
 refine⟨by simp[World.setCell,h.size],fun b hb=>?_,fun b hb=>?_,fun b x hx=>?_,h.tape,h.drawn,h.os,h.output⟩
 ·simp only[World.setCell,Array.getElem?_modify,h.same b hb]
 ·obtain⟨e,fz,vg,c,h1,h2⟩:=h.rows b hb;have hne:¬a.block=b:=fun e=>hs (e▸hb);exact⟨e,fz,vg,c,by simp[World.setCell,Array.getElem?_modify,hne,h1],by simp[World.setCell,Array.getElem?_modify,hne,h2]⟩
 ·simp only[World.setCell,Array.getElem?_modify]at hx;split at hx
  ·cases ho:p.heap[b]? with
   |none=>rw[ho]at hx;cases hx
   |some o=>
    rw[ho]at hx;have:=h.views b o ho;cases o<;>(simp only[Option.map_some,Option.some.injEq]at hx;subst hx;exact this)
  ·exact h.views b x hx
theorem PS.LA(h:PS Sh p u){a b:Addr}(n:Nat)(hb:b.block=a.block)(heq:¬Sh a.block->b=a):PS Sh (p.freeze a n) (u.freeze b n):=by
 unfold World.freeze;by_cases hn:n=0
 ·simpa[hn]using h
 ·simp only[hn,if_false];refine⟨by simp[h.size],fun x hx=>?_,fun x hx=>?_,fun x y hy=>?_,h.tape,h.drawn,h.os,h.output⟩
  ·by_cases hs:Sh a.block
   ·have hne:¬a.block=x:=fun e=>hx (e▸hs);have hne':¬b.block=x:=fun e=>hne (hb▸e);simp only[Array.getElem?_modify,hne,hne',if_false,h.same x hx]
   ·rw[heq hs];simp only[Array.getElem?_modify,h.same x hx]
  ·obtain⟨e,⟨lo,hi⟩,⟨lo',hi'⟩,c,h1,h2⟩:=h.rows x hx;by_cases hne:a.block=x
   ·have hne':b.block=x:=hb.trans hne;exact⟨e,_,_,c,by simp only[Array.getElem?_modify,hne,if_true,h1];rfl,by simp only[Array.getElem?_modify,hne',if_true,h2];rfl⟩
   ·have hne':¬b.block=x:=fun e=>hne (hb▸e);exact⟨e,_,_,c,by simp only[Array.getElem?_modify,hne,if_false];exact h1,by simp only[Array.getElem?_modify,hne',if_false];exact h2⟩
  ·simp only[Array.getElem?_modify]at hy;split at hy
   ·cases ho:p.heap[x]? with
    |none=>rw[ho]at hy;cases hy
    |some o=>
     rw[ho]at hy;have:=h.views x o ho;cases o<;>(simp only[Option.map_some,Option.some.injEq]at hy;subst hy;exact this)
   ·exact h.views x y hy
theorem PS.freeze(h:PS Sh p u)(a:Addr)(n:Nat):PS Sh (p.freeze a n) (u.freeze a n):=h.LA n rfl fun _=>rfl
theorem PS.new(h:PS Sh p u)(hl:∀b,Sh b->b<p.heap.size){o:Obj}(ho:noView o):PS Sh {p with heap:=p.heap.push o} {u with heap:=u.heap.push o}:=by
 refine⟨by simp[h.size],fun b hb=>?_,fun b hb=>?_,fun b x hx=>?_,h.tape,h.drawn,h.os,h.output⟩
 ·simp only[Array.getElem?_push,h.size,h.same b hb]
 ·obtain⟨e,fz,vg,c,h1,h2⟩:=h.rows b hb;have:=hl b hb;have hne:¬b=p.heap.size:=by omega
  have hne':¬b=u.heap.size:=by rw[h.size];exact hne
  exact⟨e,fz,vg,c,by simp only[Array.getElem?_push,hne,if_false];exact h1,by simp only[Array.getElem?_push,hne',if_false];exact h2⟩
 ·simp only[Array.getElem?_push]at hx;split at hx
  ·obtain rfl:=Option.some.inj hx;exact Fq ho _
  ·exact h.views b x hx
theorem PS.lt(h:PS Sh p u){b:Nat}(hb:Sh b):b<p.heap.size:=by
 obtain⟨e,fz,vg,c,h1,_⟩:=h.rows b hb;exact(Array.getElem?_eq_some_iff.1 h1).1
theorem PS.set(h:PS Sh p u){r:Nat}(hr:¬Sh r){o:Obj}(ho:noView o):PS Sh {p with heap:=p.heap.setIfInBounds r o} {u with heap:=u.heap.setIfInBounds r o}:=by
 refine⟨by simp[h.size],fun b hb=>?_,fun b hb=>?_,fun b x hx=>?_,h.tape,h.drawn,h.os,h.output⟩
 ·by_cases e:r=b
  ·subst e;by_cases hlt:r<p.heap.size
   ·rw[Array.getElem?_setIfInBounds_self_of_lt hlt,Array.getElem?_setIfInBounds_self_of_lt (by rw[h.size];exact hlt)]
   ·rw[Array.getElem?_eq_none (by simpa[h.size]using hlt),Array.getElem?_eq_none (by simpa using hlt)]
  ·rw[Array.getElem?_setIfInBounds_ne e,Array.getElem?_setIfInBounds_ne e];exact h.same b hb
 ·obtain⟨e,fz,vg,c,h1,h2⟩:=h.rows b hb;have hne:r≠b:=fun e=>hr (e▸hb);exact⟨e,fz,vg,c,by rw[Array.getElem?_setIfInBounds_ne hne];exact h1,by rw[Array.getElem?_setIfInBounds_ne hne];exact h2⟩
 ·by_cases e:r=b
  ·subst e;by_cases hlt:r<p.heap.size
   ·simp only[Array.getElem?_setIfInBounds_self_of_lt hlt,Option.some.injEq]at hx;subst hx;exact Fq ho _
   ·rw[Array.getElem?_eq_none (by simpa using hlt)]at hx;cases hx
  ·simp only[Array.getElem?_setIfInBounds_ne e]at hx;exact h.views b x hx
theorem OT{v:Value}{bs:List UInt8}(h:v.bytes? =some bs):bs.length≠0:=by
 have hl:∀s n,(leBytes s n).length=s:=fun s=>by
  induction s with
  |zero=>intro n;rfl
  |succ s ih=>intro n;simp[leBytes,ih]
 cases v<;>simp only[Value.bytes?,Option.some.injEq,reduceCtorEq]at h;all_goals subst h
 ·simp
 iterate 2 (·rename_i k n;rw[hl];cases k<;>decide)
 ·rename_i k n m;rw[List.length_append,hl,hl];cases k<;>decide
theorem Qt{P:Program}{e:TypeId}{n x:Nat}(hn:n≠0):∀r,seenCells P #[] e (n+1) x (x+n)≠.ok r:=by
 intro r h;unfold seenCells at h;rw[if_neg (by omega)]at h;dsimp only at h;split at h
 ·cases h
 ·split at h
  ·cases h
  ·simp at h
theorem Ns{P:Program}{p:World}{at_ a:Addr}{t:TypeId}{m:Bool}{e:TypeId}{fz:Nat×Nat}(hr:p.heap[at_.block]? =some (.cells #[] e fz)):∀r,p.seen P at_ t a m≠.ok r:=by
 intro r h;unfold World.seen at h;simp only[hr,bind,Except.bind,pure,Except.pure,throw,throwThe,MonadExceptOf.throw]at h;split at h
 ·cases h
 ·split at h
  ·rename_i like _;split at h
   ·rename_i size hsz;split at h
    ·split at h
     ·cases h
     ·split at h
      ·rename_i b0 _;cases hb:like.bytes? with
       |none=>rw[hb]at hsz;cases hsz
       |some bs=>
        rw[hb]at hsz;obtain rfl:bs.length=size:=Option.some.inj hsz;generalize hs:seenCells P #[] e (bs.length+1) _ _=res at h;cases res with
        |error _=>cases h
        |ok r=>exact Qt (OT hb) r hs
      ·cases h
    ·cases h
   ·cases h
  ·cases h
theorem PS.seen(h:PS Sh p u){P:Program}{at_ a:Addr}{t:TypeId}{m:Bool}{r}(hr:p.seen P at_ t a m= .ok r):¬Sh at_.block/\u.seen P at_ t a m= .ok r/\at_.block<p.heap.size:=by
 have hs:¬Sh at_.block:=fun hs=>by
  obtain⟨e,fz,vg,c,h1,_⟩:=h.rows _ hs;exact Ns h1 r hr
 have e:u.seen P at_ t a m=p.seen P at_ t a m:=by simp only[World.seen,h.same _ hs]
 refine⟨hs,e.trans hr,?_⟩;cases hb:p.heap[at_.block]? with
 |some o=>exact(Array.getElem?_eq_some_iff.1 hb).1
 |none=>
  exfalso;unfold World.seen at hr;simp only[hb,bind,Except.bind,pure,Except.pure,throw,throwThe,MonadExceptOf.throw]at hr;repeat' first|(cases hr;done)|split at hr
theorem PS.Gl(h:PS Sh p u)(P:Program)(a:Addr)(m:Bool):(∃x,p.farLoad P a m= .error x/\Dead x)\/∃r,p.farLoad P a m= .ok r/\(u.cell? a=none/\u.farLoad P a m= .ok r)/\∀x∈r.2,¬Sh x.block/\x.block<p.heap.size:=by
 cases ho:p.heap[a.block]? with
 |none=>exact .inl ⟨_,by unfold World.farLoad;rw[ho],by simp[World.noCell,ho,Dead]⟩
 |some o=>
  have hv:=h.views _ o ho;cases o with
  |view at_ t=>
   have hs:¬Sh a.block:=fun hs=>by
    obtain⟨e,fz,vg,c,h1,_⟩:=h.rows _ hs;rw[h1]at ho;cases ho
   have hu:u.heap[a.block]? =some (.view at_ t):=(h.same _ hs).trans ho;cases hl:p.viewLoad P at_ t a m with
   |error why=>exact .inl ⟨.unsupported (.unsafePointer why),by unfold World.farLoad;simp only[ho,hl],trivial⟩
   |ok r=>
    cases hse:p.seen P at_ t a m with
    |error why=>unfold World.viewLoad at hl;simp only[hse,bind,Except.bind]at hl;cases hl
    |ok q=>
     obtain⟨k1,k2,k3⟩:=h.seen hse;have hul:u.viewLoad P at_ t a m= .ok r:=by rw[<-hl];unfold World.viewLoad;simp only[hse,k2]
     refine .inr ⟨r,by unfold World.farLoad;simp only[ho,hl],⟨by simp[World.cell?,hu],by unfold World.farLoad;simp only[hu,hul]⟩,fun x hx=>?_⟩;have hxb:x.block=at_.block:=by
      unfold World.viewLoad at hl;simp only[hse,bind,Except.bind,pure,Except.pure,throw,throwThe,MonadExceptOf.throw]at hl;split at hl
      ·cases hl;simp only[List.mem_map]at hx;obtain⟨y,_,rfl⟩:=hx;rfl
      ·cases hl
     rw[hxb];exact⟨k1,k3⟩
  |pending c e=>exact .inl ⟨_,by unfold World.farLoad;rw[ho],by simp only[World.noCell,ho];exact hv⟩
  |_=>exact .inl ⟨_,by unfold World.farLoad;rw[ho],by simp[World.noCell,ho,Dead]⟩
theorem PS.Bn(h:PS Sh p u)(P:Program)(a:Addr)(v:Value)(m:Bool):(∃x,p.farStore P a v m= .error x/\Dead x)\/∃p' l,p.farStore P a v m= .ok (p',l)/\(∃u',u.cell? a=none/\u.farStore P a v m= .ok (u',l)/\PS Sh p' u')/\(∀x∈l,¬Sh x.block/\x.block<p.heap.size)/\p'.heap.size=p.heap.size:=by
 cases ho:p.heap[a.block]? with
 |none=>exact .inl ⟨_,by unfold World.farStore;rw[ho],by simp[World.noCell,ho,Dead]⟩
 |some o=>
  have hv:=h.views _ o ho;cases o with
  |view at_ t=>
   have hs:¬Sh a.block:=fun hs=>by
    obtain⟨e,fz,vg,c,h1,_⟩:=h.rows _ hs;rw[h1]at ho;cases ho
   have hu:u.heap[a.block]? =some (.view at_ t):=(h.same _ hs).trans ho;cases hl:p.viewStore P at_ t a v m with
   |error why=>exact .inl ⟨.unsupported (.unsafePointer why),by unfold World.farStore;simp only[ho,hl],trivial⟩
   |ok r=>
    obtain⟨p',l⟩:=r;cases hse:p.seen P at_ t a m with
    |error why=>
     unfold World.viewStore at hl;simp only[hse,bind,Except.bind,pure,Except.pure,throw,throwThe,MonadExceptOf.throw]at hl;split at hl<;>cases hl
    |ok q=>
     obtain⟨k1,k2,k3⟩:=h.seen hse;have key:∃o:Obj,noView o/\p'= {p with heap:=p.heap.setIfInBounds at_.block o}/\u.viewStore P at_ t a v m= .ok ({u with heap:=u.heap.setIfInBounds at_.block o},l)/\∀x∈l,x.block=at_.block:=by
      unfold World.viewStore at hl⊢;obtain⟨q1,q2,q3,q4,q5,q6⟩:=q;simp only[hse,k2,bind,Except.bind,pure,Except.pure,throw,throwThe,MonadExceptOf.throw]at hl⊢;split at hl
      ·cases hl
      ·rename_i ht;rw[if_neg ht];split at hl
       ·rename_i bs _;split at hl
        ·cases hl
        ·rename_i hlen;rw[if_neg hlen];generalize hf:List.foldlM (m:=Except String) _ q1 q6=res at hl⊢;cases res with
         |error _=>cases hl
         |ok c'=>
          simp only[Except.ok.injEq,Prod.mk.injEq]at hl;obtain⟨rfl,rfl⟩:=hl;refine⟨.cells c' q2 q3,trivial,rfl,rfl,fun x hx=>?_⟩;simp only[List.mem_map]at hx;obtain⟨y,_,rfl⟩:=hx;rfl
       ·cases hl
     obtain⟨o,e1,rfl,e3,e4⟩:=key;refine .inr ⟨_,l,by unfold World.farStore;simp only[ho,hl],⟨_,by simp[World.cell?,hu],by unfold World.farStore;simp only[hu,e3],h.set k1 e1⟩,fun x hx=>?_,by simp⟩;rw[e4 x hx];exact⟨k1,k3⟩
  |pending c e=>exact .inl ⟨_,by unfold World.farStore;rw[ho],by simp only[World.noCell,ho];exact hv⟩
  |_=>exact .inl ⟨_,by unfold World.farStore;rw[ho],by simp[World.noCell,ho,Dead]⟩
end
def Alike(P:Program){α:Type}(Sh:Nat->Prop)(u:World)(s:Sem α)(es:Array Event):Result α×Array Event->Prop
 |(.ok a p',es1)=>∃u' es2,es1=es++es2/\s.runT P u es=(.ok a u',es1)/\PS Sh p' u'/\∀e∈es2,Off Sh e
 |(.halt (.panic v) p',es1)=>∃u' es2,es1=es++es2/\s.runT P u es=(.halt (.panic v) u',es1)/\PS Sh p' u'/\∀e∈es2,Off Sh e
 |(.halt x _,_)=>Dead x
theorem Alike.after{P:Program}{α:Type}{Sh:Nat->Prop}{u u1:World}{s s1:Sem α}{es ev:Array Event}{r:Result α×Array Event}(hs:s.runT P u es=s1.runT P u1 (es++ev))(hev:∀e∈ev,Off Sh e)(h:Alike P Sh u1 s1 (es++ev) r):Alike P Sh u s es r:=by
 obtain⟨r,es1⟩:=r;have key:∀{u':World} {es2:Array Event},es1=es++ev++es2->(∀e∈es2,Off Sh e)->es1=es++(ev++es2)/\∀e∈ev++es2,Off Sh e:=fun {_ _} e1 e2=>⟨by rw[e1,Array.append_assoc],fun e he=>(Array.mem_append.1 he).elim (hev e) (e2 e)⟩;cases r with
 |ok a p'=>
  obtain⟨u',es2,e1,e2,e3,e4⟩:=h;obtain⟨k1,k2⟩:=key (u':=u') e1 e4;exact⟨u',ev++es2,k1,hs.trans e2,e3,k2⟩
 |halt x p'=>
  cases x with
  |panic v=>
   obtain⟨u',es2,e1,e2,e3,e4⟩:=h;obtain⟨k1,k2⟩:=key (u':=u') e1 e4;exact⟨u',ev++es2,k1,hs.trans e2,e3,k2⟩
  |_=>exact h
theorem ko{P:Program}{α:Type}{Sh:Nat->Prop}{u p:World}{s:Sem α}{es es1:Array Event}{x:Halt}(h:Dead x):Alike P Sh u s es (.halt x p,es1):=by
 cases x<;>first|exact h|exact h.elim
theorem Tm.run{P:Program}{α:Type}{Sh:Nat->Prop}{s:Sem α}(h:Tm P s):∀(p u:World) (es:Array Event),PS Sh p u->Alike P Sh u s es (s.runT P p es):=by
 have vN:∀e∈(#[]:Array Event),Off Sh e:=fun e he=>by simp at he
 induction h with
 |pure a=>exact fun p u es h=>⟨u,#[],by simp,by simp[Sem.runT],h,vN⟩
 |@load m a k _ ih=>
  intro p u es h;simp only[Sem.runT];cases hc:p.cell? a with
  |none=>
   rcases h.Gl P a (m== .atomic)with⟨x,e,hx⟩|⟨⟨v,l⟩,e,⟨hu1,hu2⟩,hl⟩
   ·simp only[e];exact ko hx
   ·simp only[e];refine Alike.after (s1:=k v) (u1:=u) (ev:=l.toArray.map (⟨.cell ·,false,m== .atomic⟩)) ?_ (fun e he=>?_) (ih v p u _ h)
    ·simp only[Sem.runT,hu1,hu2]
    ·simp only[Array.mem_map,List.mem_toArray]at he;obtain⟨x,hx,rfl⟩:=he;exact⟨fun b e=>by cases e;exact(hl x hx).1,fun m e=>by cases e⟩
  |some v=>
   have hs:=h.off hc;simp only[Array.push_eq_append];refine Alike.after (s1:=k v) (u1:=u) (ev:=#[⟨.cell a,false,m== .atomic⟩]) ?_ (fun e he=>?_) (ih v p u _ h)
   ·simp only[Sem.runT,h.cell hs,hc,Array.push_eq_append]
   ·simp at he;subst he;exact⟨fun b e=>by cases e;exact hs,fun m e=>by cases e⟩
 |@store m a v k _ ih=>
  intro p u es h;have key:(∀c,v≠.agg c)->(∀c,v≠.tuple c)->Alike P Sh u (Sem.store m a v k) es ((Sem.store m a v k).runT P p es):=by
   intro ha ht;have e:∀u:World,(Sem.store m a v k).runT P u es=(match u.cell? a with
    |some _=>if u.frozen? a then(.halt (.unsupported (.unsafePointer "a write to bytes that a string shares")) u,es)else k.runT P (u.setCell a v) (es.push ⟨.cell a,true,m== .atomic⟩)
    |none=>match u.farStore P a v (m== .atomic)with
     | .ok (w,touched)=>k.runT P w (es++touched.toArray.map (⟨.cell ·,true,m== .atomic⟩))
     | .error h=>(.halt h u,es)):=by
    intro u;cases v<;>first|exact absurd rfl (ha _)|exact absurd rfl (ht _)|rfl
   rw[e p];cases hc:p.cell? a with
   |none=>
    rcases h.Bn P a v (m== .atomic)with⟨x,e,hx⟩|⟨p',l,e3,⟨u',hu1,hu2,hu3⟩,hl,_⟩
    ·simp only[e];exact ko hx
    ·simp only[e3];refine Alike.after (s1:=k) (u1:=u') (ev:=l.toArray.map (⟨.cell ·,true,m== .atomic⟩)) ?_ (fun e he=>?_) (ih p' u' _ hu3)
     ·rw[e u];simp only[hu1,hu2]
     ·simp only[Array.mem_map,List.mem_toArray]at he;obtain⟨x,hx,rfl⟩:=he;exact⟨fun b e=>by cases e;exact(hl x hx).1,fun m e=>by cases e⟩
   |some x=>
    have hs:=h.off hc;simp only;cases hf:p.frozen? a with
    |true=>simp only[if_true];trivial
    |false=>
     simp only[Bool.false_eq_true,if_false,Array.push_eq_append];refine Alike.after (s1:=k) (u1:=u.setCell a v) (ev:=#[⟨.cell a,true,m== .atomic⟩]) ?_ (fun e he=>?_) (ih _ _ _ (h.setCell a v hs))
     ·rw[e u];simp only[h.cell hs,hc,h.frozen hs,hf,Bool.false_eq_true,if_false,Array.push_eq_append]
     ·simp at he;subst he;exact⟨fun b e=>by cases e;exact hs,fun m e=>by cases e⟩
  cases v<;>first|(simp only[Sem.runT];trivial)|exact key (fun _ e=>by cases e) (fun _ e=>by cases e)
 |@new o k ho _ ih=>
  intro p u es h;simp only[Sem.runT];have:=ih p.heap.size _ _ es (h.new (fun b hb=>h.lt hb) ho);refine Alike.after (s1:=k p.heap.size) (u1:= {u with heap:=u.heap.push o}) (ev:=#[]) ?_ vN (by simpa using this);simp only[Sem.runT,Array.append_empty,h.size]
 |@shape r k hk _ ih=>
  intro p u es h;simp only[Sem.runT];have e:k (u.shape? r)=k (p.shape? r):=by
   refine hk _ _ ?_;by_cases hs:Sh r
   ·obtain⟨e,fz,vg,c,h1,h2⟩:=h.rows r hs;simp[World.shape?,h1,h2]
   ·simp[World.shape?,h.same r hs]
  refine Alike.after (s1:=k (p.shape? r)) (u1:=u) (ev:=#[]) ?_ vN (by simpa using ih _ p u es h);simp only[Sem.runT,Array.append_empty,e]
 |@qG r k hd _ ih=>
  intro p u es h;simp only[Sem.runT];by_cases hs:Sh r
  ·obtain⟨e,fz,vg,c,h1,_⟩:=h.rows r hs;have hp:p.shape? r=some (e,0):=by simp[World.shape?,h1]
   obtain⟨x,w',k1,k2⟩:=hd e p;rw[hp];cases hr:(k (some (e,0))).runT P p es with
   |mk res es1=>
    have:res=(k (some (e,0))).run P p:=by
     have e:=congrArg Prod.fst hr;rw[Sem.runT_fst]at e;exact e.symm
    rw[this,k1];exact ko k2
  ·have e:u.shape? r=p.shape? r:=by simp[World.shape?,h.same r hs]
   refine Alike.after (s1:=k (p.shape? r)) (u1:=u) (ev:=#[]) ?_ vN (by simpa using ih _ p u es h);simp only[Sem.runT,Array.append_empty,e]
 |@lF o k ho _ ih=>
  intro p u es h;simp only[Sem.runT];have hn:=h.new (fun b hb=>h.lt hb) ho;have e:World.shape? {u with heap:=u.heap.push o} p.heap.size=World.shape? {p with heap:=p.heap.push o} p.heap.size:=by
   have:=hn.same p.heap.size (fun hs=>Nat.lt_irrefl _ (h.lt hs));simp only[World.shape?,this]
  have:=ih p.heap.size (World.shape? {p with heap:=p.heap.push o} p.heap.size) _ _ es hn;refine Alike.after (s1:=k p.heap.size (World.shape? {p with heap:=p.heap.push o} p.heap.size)) (u1:= {u with heap:=u.heap.push o}) (ev:=#[]) ?_ vN (by simpa using this);simp only[Sem.runT,Array.append_empty,h.size,e]
 |@freeze a n k _ ih=>
  intro p u es h;simp only[Sem.runT];refine Alike.after (s1:=k) (u1:=u.freeze a n) (ev:=#[]) ?_ vN (by simpa using ih _ _ es (h.freeze a n));simp only[Sem.runT,Array.append_empty]
 |@stringish r k k' he _ _ ih ih'=>
  intro p u es h;simp only[Sem.runT];by_cases hs:Sh r
  ·obtain⟨e,fz,vg,c,h1,h2⟩:=h.rows r hs;have hp:p.shape? r=some (e,0):=by simp[World.shape?,h1]
   have hu:u.shape? r=some (e,c.size):=by simp[World.shape?,h2]
   rw[hp,he];simp only[Sem.runT];refine Alike.after (s1:=k') (u1:=u.freeze ⟨r,c.size,none⟩ 1) (ev:=#[]) ?_ vN (by simpa using ih _ _ es (h.LA (a:=⟨r,0,none⟩) (b:=⟨r,c.size,none⟩) 1 rfl fun hn=>absurd hs hn));simp only[Sem.runT,hu,he,Array.append_empty]
  ·have e:u.shape? r=p.shape? r:=by simp[World.shape?,h.same r hs]
   cases hp:p.shape? r with
   |none=>
    refine Alike.after (s1:=k none) (u1:=u) (ev:=#[]) ?_ vN (by simpa using ih' p u es h);simp only[Sem.runT,e,hp,Array.append_empty]
   |some x=>
    obtain⟨x,n⟩:=x;rw[he];simp only[Sem.runT];refine Alike.after (s1:=k') (u1:=u.freeze ⟨r,n,none⟩ 1) (ev:=#[]) ?_ vN (by simpa using ih _ _ es (h.freeze _ 1));simp only[Sem.runT,e,hp,he,Array.append_empty]
 |@getObj r k _ ih=>
  intro p u es h;simp only[Sem.runT];split
  ·trivial
  ·rename_i o hne ho;have hs:¬Sh r:=fun hs=>by
    obtain⟨e,fz,vg,c,h1,_⟩:=h.rows r hs;rw[h1]at ho;obtain rfl:=Option.some.inj ho;exact hne _ _ _ rfl
   refine Alike.after (s1:=k o) (u1:=u) (ev:=#[⟨.obj r,false,o.isChan⟩]) ?_ (fun e he=>?_) (by simpa using ih o p u _ h)
   ·simp only[Sem.runT,h.same r hs,ho];cases o<;>first|exact absurd rfl (fun e=>hne _ _ _ e)|simp
   ·simp at he;subst he;exact⟨fun b e=>(by cases e),fun m e=>(by cases e)⟩
  ·trivial
 |@setObj r o k hov _ ih=>
  intro p u es h;simp only[Sem.runT];split
  ·trivial
  ·rename_i x hne ho;have hs:¬Sh r:=fun hs=>by
    obtain⟨e,fz,vg,c,h1,_⟩:=h.rows r hs;rw[h1]at ho;obtain rfl:=Option.some.inj ho;exact hne _ _ _ rfl
   refine Alike.after (s1:=k) (u1:= {u with heap:=u.heap.setIfInBounds r o}) (ev:=#[⟨.obj r,true,o.isChan⟩]) ?_ (fun e he=>?_) (by simpa using ih _ _ _ (h.set hs hov))
   ·simp only[Sem.runT,h.same r hs,ho];cases x<;>first|exact absurd rfl (fun e=>hne _ _ _ e)|simp
   ·simp at he;subst he;exact⟨fun b e=>(by cases e),fun m e=>(by cases e)⟩
  ·trivial
 |@choose q k _ ih=>
  intro p u es h;simp only[Sem.runT];cases hq:q.forced with
  |true=>
   simp only[if_true];exact Alike.after (s1:=k 0) (u1:=u) (ev:=#[]) (by simp only[Sem.runT,hq,if_true,Array.append_empty]) vN (by simpa using ih 0 p u es h)
  |false=>
   simp only[Bool.false_eq_true,if_false];have h':PS Sh {p with drawn:=p.drawn+1} {u with drawn:=u.drawn+1}:=⟨h.size,h.same,h.rows,h.views,h.tape,by simp[h.drawn],h.os,h.output⟩;refine Alike.after (s1:=k (q.cut (p.tape p.drawn q))) (u1:= {u with drawn:=u.drawn+1}) (ev:=#[]) ?_ vN (by simpa using ih _ _ _ es h');simp only[Sem.runT,hq,Bool.false_eq_true,if_false,Array.append_empty,h.tape,h.drawn]
 |@program k _ ih=>
  intro p u es h;simp only[Sem.runT];exact Alike.after (s1:=k P) (u1:=u) (ev:=#[]) (by simp only[Sem.runT,Array.append_empty]) vN (by simpa using ih p u es h)
 |@mark m k hm _ ih=>
  intro p u es h;simp only[Sem.runT];refine Alike.after (s1:=k) (u1:=u) (ev:=#[⟨.mark m,false,true⟩]) (by simp only[Sem.runT,Array.push_eq_append]) (fun e he=>?_) (by simpa using ih p u _ h);simp at he;subst he;exact⟨fun b e=>(by cases e),fun m' e=>(by cases e;exact hm)⟩
 |halt x hx=>
  intro p u es h;simp only[Sem.runT];rcases hx with⟨v,rfl⟩|⟨y,rfl⟩|⟨y,rfl,hy⟩
  ·exact⟨u,#[],by simp,by simp[Sem.runT],h,vN⟩
  ·trivial
  ·refine ko ?_;cases y<;>first|exact absurd rfl (hy _)|trivial
 |@dB s hb=>
  intro p u es h;obtain⟨x,w',h1,h2⟩:=hb p;cases hr:s.runT P p es with
  |mk r es1=>
   have:r=s.run P p:=by
    have e:=congrArg Prod.fst hr;rw[Sem.runT_fst]at e;exact e.symm
   rw[this,h1];exact ko h2
theorem Tm.pl{P:Program}{α:Type}{s:Sem α}(h:Tm P s):Go.bB.Pl P s:=by
 induction h with
 |pure a=>exact .pure a
 |load m a _ ih=>exact .load m a ih
 |store m a v _ ih=>exact .store m a v ih
 |new o _ _ ih=>exact .new o ih
 |shape r _ _ ih=>exact .shape r ih
 |qG r _ _ ih=>exact .shape r ih
 |lF o _ _ ih=>exact .new o fun n=>.shape n (ih n)
 |freeze a n _ ih=>exact .freeze a n ih
 |@stringish r k k' he _ _ ih ih'=>
  refine .shape r fun x=>?_;cases x with
  |none=>exact ih'
  |some x=>obtain⟨x,n⟩:=x;rw[he];exact .freeze _ _ ih
 |getObj r _ ih=>exact .getObj r ih
 |setObj r o _ _ ih=>exact .setObj r o ih
 |choose q _ ih=>exact .choose q ih
 |program _ ih=>exact .program ih
 |mark m _ _ ih=>exact .mark m ih
 |halt h _=>exact .halt h
 |dB hb=>exact .dB fun w a w' e=>by obtain⟨x,w1,h1,_⟩:=hb w;rw[h1]at e;cases e
end Go.eO
namespace Go.eO
open Go.Ren
variable {P:Program}
theorem ay{α:Type}(a:α):Tm P (Pure.pure a:Sem α):=.pure a
theorem au{α β:Type}{s:Sem α}{f:α->Sem β}(h:Tm P s)(hf:∀a,Tm P (f a)):Tm P (s >>= f):=h.bind hf
theorem aK{α β:Type}{s:Sem α}{g:α->β}(h:Tm P s):Tm P (g <$> s):=h.bind fun a=>.pure (g a)
theorem aA{α:Type}{y:String}:Tm P (stuck y:Sem α):=.halt _ (.inr (.inl ⟨_,rfl⟩))
theorem bf{α:Type}{y:Unsupported}(h:∀g,y≠.initOrder g):Tm P (unsupported y:Sem α):=.halt _ (.inr (.inr ⟨_,rfl,h⟩))
theorem D_{α:Type}{v:Value}:Tm P (goPanic v:Sem α):=.halt _ (.inl ⟨_,rfl⟩)
theorem dw:Tm P program:=.program (.pure _)
theorem rH(a:Addr)(m:Mode):Tm P (load a m):=.load _ _ fun v=>.pure v
theorem PV(a:Addr)(v:Value)(m:Mode):Tm P (store a v m):=.store _ _ _ (.pure ())
theorem cZ(q:Question):Tm P (choose q):=.choose _ fun n=>.pure n
theorem jG(r:Nat):Tm P (getObj r):=.getObj _ fun n=>.pure n
theorem M0(a:Addr)(n:Nat):Tm P (freeze a n):=.freeze _ _ (.pure ())
theorem jF{o:Obj}(h:noView o):Tm P (newObj o):=.new _ h fun n=>.pure n
theorem tu{r:Nat}{o:Obj}(h:noView o):Tm P (setObj r o):=.setObj _ _ h (.pure ())
theorem iC(e:TypeId)(c:Array Value):Tm P (newRow e c):=au (jF trivial) fun _=>ay _
theorem qC(n:Nat):Tm P (askRoom n):=by
 unfold askRoom;split
 ·exact .mark _ trivial (.pure ())
 ·exact ay _
theorem dD(t:TypeId):Tm P (typeInfo t):=by
 unfold typeInfo;repeat' first
  |exact ay _
  |exact aA
  |exact dw
  |refine au ?_ (fun _=>?_)
  |refine aK ?_
  |split
  |dsimp only
theorem aD(t:TypeId):Tm P (underlying t):=by
 unfold underlying;repeat' first
  |exact ay _
  |exact aA
  |exact dw
  |refine au ?_ (fun _=>?_)
  |refine aK ?_
  |split
  |dsimp only
theorem dW(t:TypeId):Tm P (zeroValue t):=by
 unfold zeroValue;repeat' first
  |exact ay _
  |exact bf (by intro g h;cases h)
  |exact dD _
  |refine au ?_ (fun _=>?_)
  |refine aK ?_
  |split
  |dsimp only
theorem bY(t:TypeId):Tm P (sizeOf t):=by
 unfold sizeOf;repeat' first
  |exact ay _
  |exact dD _
  |refine au ?_ (fun _=>?_)
  |refine aK ?_
  |split
  |dsimp only
theorem Ec(t:TypeId):Tm P (isAgg t):=by
 unfold isAgg;repeat' first
  |exact ay _
  |exact aD _
  |refine au ?_ (fun _=>?_)
  |refine aK ?_
  |split
  |dsimp only
theorem kX(a:Addr):∀(n i:Nat) (acc:Array Value),Tm P (loadCellsFrom a i n acc)
 |0,_,_=>ay _
 |n+1,_,_=>au (rH _ _) fun _=>kX a n _ _
theorem lN(a:Addr)(n:Nat):Tm P (loadCells a n):=kX a n 0 #[]
theorem iJ(a:Addr):∀(l:List Value) (i:Nat),Tm P (storeCells a l i)
 | [],_=>ay _
 |_::l,_=>au (PV _ _ _) fun _=>iJ a l _
theorem wZ(t:TypeId)(a:Addr):Tm P (loadVar t a):=by
 unfold loadVar;repeat' first
  |exact ay _
  |exact rH _ _
  |exact bY _
  |exact Ec _
  |exact lN _ _
  |refine au ?_ (fun _=>?_)
  |refine aK ?_
  |split
  |dsimp only
theorem uL(t:TypeId)(a:Addr)(v:Value):Tm P (storeVar t a v):=by
 unfold storeVar;repeat' first
  |exact aA
  |exact bY _
  |exact iJ _ _ _
  |refine au ?_ (fun _=>?_)
  |refine aK ?_
  |split
  |dsimp only
theorem rF(t:TypeId)(c:Array Value)(o:Nat):Tm P (part t c o):=by
 unfold part;repeat' first
  |exact ay _
  |exact aA
  |exact bY _
  |exact Ec _
  |refine au ?_ (fun _=>?_)
  |refine aK ?_
  |split
  |dsimp only
theorem lS(v:Value):Tm P (asIntOf v):=by
 unfold asIntOf;repeat' first
  |exact ay _
  |exact aA
  |exact bf (by intro g h;cases h)
  |refine au ?_ (fun _=>?_)
  |refine aK ?_
  |split
  |dsimp only
theorem jP(v:Value):Tm P (asInt v):=by
 unfold asInt;repeat' first
  |exact ay _
  |exact lS _
  |refine au ?_ (fun _=>?_)
  |refine aK ?_
  |split
  |dsimp only
theorem tJ(v:Value):Tm P (asBool v):=by
 unfold asBool;repeat' first
  |exact ay _
  |exact aA
  |refine au ?_ (fun _=>?_)
  |refine aK ?_
  |split
  |dsimp only
theorem Qb(v:Value):Tm P (asAgg v):=by
 unfold asAgg;repeat' first
  |exact ay _
  |exact aA
  |refine au ?_ (fun _=>?_)
  |refine aK ?_
  |split
  |dsimp only
theorem Aq(v:Value):Tm P (asAddr v):=by
 unfold asAddr;repeat' first
  |exact ay _
  |exact aA
  |exact D_
  |exact dw
  |refine au ?_ (fun _=>?_)
  |refine aK ?_
  |split
  |dsimp only
theorem iT(v:Value):Tm P (Instr.sureAddr v):=by
 unfold Instr.sureAddr;repeat' first
  |exact ay _
  |exact aA
  |refine au ?_ (fun _=>?_)
  |refine aK ?_
  |split
  |dsimp only
theorem bD{α:Type}(e:RuntimeError):Tm P (runtimePanic e:Sem α):=by
 unfold runtimePanic;repeat' first
  |exact ay _
  |exact aA
  |exact D_
  |exact dw
  |exact iC _ _
  |exact aD _
  |refine au ?_ (fun _=>?_)
  |refine aK ?_
  |split
  |dsimp only
theorem jO{α:Type}(k:IntKind)(x y:Int)(c:BoundsCode):Tm P (boundsPanic k x y c:Sem α):=by
 unfold boundsPanic;repeat' first
  |exact ay _
  |exact cZ _
  |exact bD _
  |refine au ?_ (fun _=>?_)
  |refine aK ?_
  |split
  |dsimp only
theorem MV(t:TypeId)(v:Value):Tm P (Instr.loadAt t v):=by
 unfold Instr.loadAt;repeat' first
  |exact wZ _ _
  |exact iT _
  |refine au ?_ (fun _=>?_)
  |refine aK ?_
  |split
  |dsimp only
theorem H8(t:TypeId)(a v:Value):Tm P (Instr.storeAt t a v):=by
 unfold Instr.storeAt;repeat' first
  |exact uL _ _ _
  |exact iT _
  |refine au ?_ (fun _=>?_)
  |refine aK ?_
  |split
  |dsimp only
theorem Qc(t:TypeId)(h:Bool)(v:Value):Tm P (Instr.alloc t h v):=by
 unfold Instr.alloc;repeat' first
  |exact ay _
  |exact iC _ _
  |exact dW _
  |exact uL _ _ _
  |refine au ?_ (fun _=>?_)
  |refine aK ?_
  |split
  |dsimp only
theorem XC(t:TypeId)(v:Value):Tm P (Instr.box t v):=by
 unfold Instr.box;repeat' first
  |exact ay _
  |exact iC _ _
  |refine au ?_ (fun _=>?_)
  |refine aK ?_
  |split
  |dsimp only
theorem Ie(t:TypeId)(x i:Value):Tm P (Instr.indexAt t x i):=by
 unfold Instr.indexAt;repeat' first
  |exact ay _
  |exact aA
  |exact bf (by intro g h;cases h)
  |exact aD _
  |exact bY _
  |exact lS _
  |exact iT _
  |exact jO _ _ _ _
  |refine au ?_ (fun _=>?_)
  |refine aK ?_
  |split
  |dsimp only
theorem P7(t:TypeId)(x i:Value):Tm P (Instr.index t x i):=by
 unfold Instr.index;repeat' first
  |exact ay _
  |exact aA
  |exact aD _
  |exact bY _
  |exact rF _ _ _
  |exact lS _
  |exact jO _ _ _ _
  |refine au ?_ (fun _=>?_)
  |refine aK ?_
  |split
  |dsimp only
theorem zy(v:Value)(n:Nat)(c:BoundsCode):Tm P (Instr.sliceBound v n c):=by
 unfold Instr.sliceBound;repeat' first
  |exact ay _
  |exact lS _
  |exact jO _ _ _ _
  |refine au ?_ (fun _=>?_)
  |refine aK ?_
  |split
  |dsimp only
theorem nK(b:Bool)(l c:Nat)(x y z:Option Value):Tm P (Instr.sliceBounds b l c x y z):=by
 unfold Instr.sliceBounds;repeat' first
  |exact ay _
  |exact aA
  |exact zy _ _ _
  |refine au ?_ (fun _=>?_)
  |refine aK ?_
  |split
  |dsimp only
theorem PW(t:TypeId)(v:Value)(x y z:Option Value):Tm P (Instr.slice t v x y z):=by
 unfold Instr.slice;repeat' first
  |exact ay _
  |exact aA
  |exact aD _
  |exact bY _
  |exact Aq _
  |exact nK _ _ _ _ _ _
  |refine au ?_ (fun _=>?_)
  |refine aK ?_
  |split
  |dsimp only
theorem H9(t:TypeId)(v:Value)(x y z:Option Value):Tm P (Instr.sliceAt t v x y z):=by
 unfold Instr.sliceAt;repeat' first
  |exact ay _
  |exact aD _
  |exact bY _
  |exact iT _
  |exact nK _ _ _ _ _ _
  |exact PW _ _ _ _ _
  |refine au ?_ (fun _=>?_)
  |refine aK ?_
  |split
  |dsimp only
theorem BL(t:TypeId)(x y:Value):Tm P (Instr.makeSlice t x y):=by
 unfold Instr.makeSlice;repeat' first
  |exact ay _
  |exact aA
  |exact cZ _
  |exact iC _ _
  |exact qC _
  |exact dD _
  |exact aD _
  |exact dW _
  |exact bY _
  |exact jP _
  |exact bD _
  |refine au ?_ (fun _=>?_)
  |refine aK ?_
  |split
  |dsimp only
theorem Ij(v:Value)(i:Nat):Tm P (Instr.extract v i):=by
 unfold Instr.extract;repeat' first
  |exact ay _
  |exact aA
  |refine au ?_ (fun _=>?_)
  |refine aK ?_
  |split
  |dsimp only
theorem zG(t:TypeId)(n:Nat)(ps:Array (Nat×Value)):Tm P (Instr.buildSlice t n ps):=by
 unfold Instr.buildSlice;repeat' first
  |exact ay _
  |exact aA
  |exact bf (by intro g h;cases h)
  |exact iC _ _
  |exact aD _
  |exact dW _
  |exact bY _
  |refine au ?_ (fun _=>?_)
  |refine aK ?_
  |split
  |dsimp only
end Go.eO
