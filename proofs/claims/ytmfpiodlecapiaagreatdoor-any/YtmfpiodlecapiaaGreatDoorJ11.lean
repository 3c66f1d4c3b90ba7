import Derived.Test.YtmfpiodlecapiaaGreatDoorJ10
import Derived.Conc.Own4
namespace Go.bB
open Go.Ren
variable {P:Program}
def yG(o:Oper):Bool:=match o.op with
 | .select _ _| .recv _ _ _| .go _=>true
 |_=>false
def far:FuncId:=1000000
def Zz(P:Program)(X A:FuncId->Bool)(K:Nat->Nat)(o:Oper):Bool:=opB P X A K o||(X far&&yG o)
theorem xG{α β:Type}{s:Sem α}{g:α->β}{w w':World}{n:β}(h:(s.bind fun x=>.pure (g x)).run P w= .ok n w'):∃x,n=g x:=by
 rw[run_bind]at h;cases hr:s.run P w with
 |ok a w1=>
  rw[hr]at h;simp only[Sem.run,Result.ok.injEq]at h;exact⟨a,h.1.symm⟩
 |halt x w1=>rw[hr]at h;cases h
theorem Df{o:Oper}(h:yG o=true){ev:Operand->Value}{w w':World}{n:Next}(e:(execOp ev o).run P w= .ok n w'):(∃cs b sh,n= .comm cs b sh)\/∃d,n= .spawn d:=by
 obtain⟨dst,op,ty,pos,aft,gd⟩:=o;cases op<;>first|(simp[yG]at h;done)|skip
 ·obtain⟨x,rfl⟩:=xG (g:=Next.spawn) e;exact .inr ⟨x,rfl⟩
 ·rename_i ct ch ok;have e':((underlying ct).bind fun d=>match d with| .chan _ elem=>(zeroValue elem).bind fun z=>.pure (Next.comm #[{chan:=ev ch,send:=none,zero:=z}] true (.recv ok))|_=>stuck "receive: channel type expected").run P w= .ok n w':=e;rw[run_bind]at e';cases hr:(underlying ct).run P w with
  |halt x w1=>rw[hr]at e';cases e'
  |ok d w1=>
   rw[hr]at e';simp only at e';split at e'
   ·obtain⟨x,rfl⟩:=xG (g:=fun z=>Next.comm #[{chan:=ev ch,send:=none,zero:=z}] true (.recv ok)) e';exact .inl ⟨_,_,_,rfl⟩
   ·simp[stuck]at e'
 ·rename_i cs b;obtain⟨x,rfl⟩:=xG (g:=fun c=>Next.comm c b .select) e;exact .inl ⟨_,_,_,rfl⟩
def lH(P:Program)(X A:FuncId->Bool)(K:Nat->Nat):Code->Bool
 | .skip| .exit _| .label _| .ret=>true
 | .region _ ops _=>ops.all (Zz P X A K)
 | .seq a b=>lH P X A K a&&lH P X A K b
 | .cond c a b=>sQ K c&&lH P X A K a&&lH P X A K b
 | .block _ a| .loop a=>lH P X A K a
 |_=>false
def su(P:Program)(X A:FuncId->Bool)(K:Nat->Nat):Item->Bool
 | .code c| .inLoop c=>lH P X A K c
 | .inBlock _=>true
 | .inRegion ops _=>ops.all (Zz P X A K)
 |_=>false
def Qy(fn:Func)(K:Nat->Nat):Bool:=match fn.results.toList with| []=>true| [.tmp t]=>K t==0| [.tmp t,.tmp u]=>K t==0&&K u==0|_=>false
def gH(P:Program)(X A:FuncId->Bool)(K:Nat->Nat)(fn:Func):Bool:=
 (match fn.body with|some c=>lH P X A K c|none=>false)&&Qy fn K&&(List.range fn.params.size).all (fun i=>iU 0 (K i))
structure Closed(P:Program)(X A:FuncId->Bool)(K:FuncId->Nat->Nat):Prop where
 ext:∀f,X f=true->∀(ρ:Array Nat) (az Xj:Array Value),bF ρ az Xj->SR P VN ρ (callFunc f az) (callFunc f Xj)
 fns:∀f,A f=true->∀fn,P.funcs[f]? =some fn->gH P X A (K f) fn=true
 has:∀f,A f=true->∃fn,P.funcs[f]? =some fn
section
variable {X A:FuncId->Bool} {K:FuncId->Nat->Nat} {ρ:Array Nat}
structure BA(P:Program)(X A:FuncId->Bool)(K:FuncId->Nat->Nat)(ρ:Array Nat)(f f':Fr):Prop where
 fn:f'.fn=f.fn
 todo:f'.todo=f.todo
 ret:f'.ret=f.ret
 tmps:TR ρ (K f.fn) f.tmps f'.tmps
 ok:∀x∈f.todo,su P X A (K f.fn) x=true
def Link(P:Program)(A:FuncId->Bool)(K:FuncId->Nat->Nat)(f c:Fr):Prop:=
 A f.fn=true/\c.ret=false/\∃ops i rest k o,c.todo= .inRegion ops (i::rest)::k/\ops[i]? =some o/\∀fn,P.funcs[f.fn]? =some fn->iU (qH fn) (JO (K c.fn) o)=true
inductive ze(P:Program)(X A:FuncId->Bool)(K:FuncId->Nat->Nat)(ρ:Array Nat):Fr->List Fr->Fr->List Fr->Prop
 |one {f f':Fr}:BA P X A K ρ f f'->ze P X A K ρ f [] f' []
 |cons {f f' c c':Fr} {fs fs':List Fr}:BA P X A K ρ f f'->Link P A K f c->ze P X A K ρ c fs c' fs'->ze P X A K ρ f (c::fs) f' (c'::fs')
theorem BA.mono{ρ':Array Nat}(e:Ext ρ ρ'){f f':Fr}(h:BA P X A K ρ f f'):BA P X A K ρ' f f':=⟨h.fn,h.todo,h.ret,h.tmps.mono e,h.ok⟩
theorem ze.mono{ρ':Array Nat}(e:Ext ρ ρ'){f f':Fr}{fs fs':List Fr}(h:ze P X A K ρ f fs f' fs'):ze P X A K ρ' f fs f' fs':=by
 induction h with
 |one h=>exact .one (h.mono e)
 |cons h l _ ih=>exact .cons (h.mono e) l ih
theorem ze.head{f f':Fr}{fs fs':List Fr}(h:ze P X A K ρ f fs f' fs'):BA P X A K ρ f f':=by cases h<;>assumption
theorem ze.swap{f f' g g':Fr}{fs fs':List Fr}(h:ze P X A K ρ f fs f' fs')(hg:BA P X A K ρ g g')(e:g.fn=f.fn):ze P X A K ρ g fs g' fs':=by
 cases h with
 |one _=>exact .one hg
 |cons _ l t=>exact .cons hg (by unfold Link at l⊢;rw[e];exact l) t
theorem ze.wf{f f':Fr}{fs fs':List Fr}(h:ze P X A K ρ f fs f' fs'):Wf fs:=by
 induction h with
 |one _=>exact fun _ h=>by cases h
 |cons _ l _ ih=>
  intro x hx;rcases List.mem_cons.1 hx with rfl|hx
  ·obtain⟨_,hr,ops,i,rest,k,o,h1,_,_⟩:=l;exact⟨⟨ops,i,rest,k,h1⟩,hr⟩
  ·exact ih x hx
theorem ze.wf'{f f':Fr}{fs fs':List Fr}(h:ze P X A K ρ f fs f' fs'):Wf fs':=by
 induction h with
 |one _=>exact fun _ h=>by cases h
 |cons _ l t ih=>
  intro x hx;rcases List.mem_cons.1 hx with rfl|hx
  ·obtain⟨_,hr,ops,i,rest,k,o,h1,_,_⟩:=l;exact⟨⟨ops,i,rest,k,t.head.todo.trans h1⟩,t.head.ret.trans hr⟩
  ·exact ih x hx
theorem ze.Vi{f f':Fr}{fs fs':List Fr}(h:ze P X A K ρ f fs f' fs'):fs= []↔fs'= []:=by
 cases h<;>simp
theorem VR.TM{v v':Value}(h:VR ρ v v')(b:Bool):v= .bool b↔v'= .bool b:=by cases h<;>simp
theorem qg{f f':Fr}(h:TR ρ (K f.fn) f.tmps f'.tmps)(ops:Array Oper):yielded ops f'.tmps=yielded ops f.tmps:=by
 funext j;unfold yielded;cases hd:(ops[j]?).bind (·.dst)with
 |none=>rfl
 |some d=>
  simp only[Option.bind_some];cases e:f.tmps[d]? with
  |none=>
   have:f'.tmps[d]? =none:=by rw[Array.getElem?_eq_none_iff]at e⊢;rw[<-h.1];exact e
   rw[this]
  |some v=>
   have hlt:d<f.tmps.size:=by
    rcases Nat.lt_or_ge d f.tmps.size with h'|h'
    ·exact h'
    ·rw[Array.getElem?_eq_none h']at e;cases e
   have e':f'.tmps[d]? =some (f'.tmps[d]'(h.1▸hlt)):=Array.getElem?_eq_getElem _;have hv:=(h.2 d v _ e e').val;rw[e'];revert hv;generalize f'.tmps[d]'(h.1▸hlt)=v';intro hv;cases hv<;>rfl
theorem fE(f:Fr)(v:Value):(f.finish v).fn=f.fn:=by unfold Fr.finish;split<;>rfl
theorem yI(f:Fr)(v:Value):(f.finish v).ret=f.ret:=by unfold Fr.finish;split<;>rfl
theorem BA.finish{f f':Fr}(h:BA P X A K ρ f f'){ops:Array Oper}{i:Nat}{rest:List Nat}{k:List Item}(htd:f.todo= .inRegion ops (i::rest)::k){v v':Value}
  (hv:∀o,ops[i]? =some o->CR ρ (JO (K f.fn) o) v v'):BA P X A K ρ (f.finish v) (f'.finish v'):=by
 have dK:f'.todo= .inRegion ops (i::rest)::k:=h.todo.trans htd;refine⟨by rw[fE,fE];exact h.fn,by simp only[Fr.finish,htd,dK],by rw[yI,yI];exact h.ret,?_,fun x hx=>?_⟩
 ·rw[fE];simp only[Fr.finish,htd,dK];cases ho:ops[i]? with
  |none=>exact h.tmps
  |some o=>
   have:=hv o ho;cases hd:o.dst with
   |none=>simp only[Option.bind_some,hd];exact h.tmps
   |some d=>
    simp only[Option.bind_some,hd];refine h.tmps.set d ?_;simpa[JO,hd]using this
 ·rw[fE];simp only[Fr.finish,htd]at hx;rcases List.mem_cons.1 hx with rfl|hx
  ·exact h.ok (.inRegion ops (i::rest)) (by rw[htd];simp)
  ·exact h.ok x (by rw[htd];simp[hx])
theorem BA.enter(hC:Closed P X A K){g:FuncId}{fn:Func}{a a':Array Value}(ha:bF ρ a a')(hf:P.funcs[g]? =some fn)(hA:A g=true)(hs:a.size<=fn.params.size):BA P X A K ρ (kU P g a) (kU P g a'):=by
 have hB:=hC.fns g hA fn hf;simp only[gH,Bool.and_eq_true]at hB;obtain⟨⟨hc,_⟩,hp⟩:=hB;cases hb:fn.body with
 |none=>rw[hb]at hc;cases hc
 |some c=>
  rw[hb]at hc;refine⟨rfl,rfl,rfl,?_,fun x hx=>?_⟩
  ·simp only[kU,hf,Option.map_some,Option.getD_some];refine⟨by simp[ha.1],fun i v v' h1 h2=>?_⟩;rw[Array.getElem?_append]at h1 h2;rw[<-ha.1]at h2;by_cases hi:i<a.size
   ·simp only[hi,if_true]at h1 h2;have hk:iU 0 (K g i)=true:=by
     have:=List.all_eq_true.1 hp i (by simp;omega);simpa using this
    exact CR.up hk (ha.2 i v v' h1 h2)
   ·simp only[hi,if_false]at h1 h2;rw[Array.getElem?_replicate]at h1 h2;split at h1
    ·split at h2
     ·obtain rfl:=Option.some.inj h1;obtain rfl:=Option.some.inj h2;exact CR.undef _
     ·rename_i hx hy;exact absurd hx hy
    ·cases h1
  ·simp only[kU,hf,Option.bind_some,hb,Option.getD_some,List.mem_singleton]at hx;subst hx;exact hc
def Uc(P:Program)(X A:FuncId->Bool)(K:FuncId->Nat->Nat)(ρ:Array Nat)(p u:World)(f':Fr)(fs':List Fr):FO->Prop
 | .go f1 fs1 p1 _=>∃iy Gn Dc u1 es',aG P f' fs' u= .go Gn Dc u1 es'/\ze P X A K iy f1 fs1 Gn Dc/\WR iy p1 u1/\Grow ρ p u iy p1 u1/\∀e∈es',Wv iy p1 e
 |_=>True
theorem mem_seen{fn:FuncId}{es:Array Event}{e:Event}(h:e∈seen P fn es):e∈es:=by
 unfold seen at h;have key:∀(l:List Event) (q:Bool) (kept:Array Event),e∈(l.foldl (fun(x:Bool×Array Event) e=>match e.loc with| .mark (.extern f)=>((P.funcs[f]?).any (·.norace),x.2)|_=>(x.1,if x.1&& !e.sync then x.2 else x.2.push e)) (q,kept)).2->e∈kept\/e∈l:=by
  intro l;induction l with
  |nil=>exact fun q kept h=>.inl h
  |cons y l ih=>
   intro q kept h;simp only[List.foldl_cons]at h;rcases ih _ _ h with h1|h1
   ·split at h1
    ·exact .inl h1
    ·simp only at h1;split at h1
     ·exact .inl h1
     ·rcases Array.mem_push.1 h1 with h1|rfl
      ·exact .inl h1
      ·exact .inr (by simp)
   ·exact .inr (by simp[h1])
 dsimp only at h;rw[<-Array.foldl_toList]at h;rcases key _ _ _ h with h1|h1
 ·simp at h1
 ·exact Array.mem_toList_iff.1 h1
theorem zX{α:Type}(s:Sem α){w:World}{r:Result α}{es':Array Event}(h:s.runT P w #[]=(r,#[]++es')):s.run P w=r/\s.events P w #[]=es':=by
 have e:s.runT P w #[]=(s.run P w,s.events P w #[]):=Sem.runT_eq P s w #[];rw[h]at e;simp only[Prod.mk.injEq,Array.empty_append]at e;exact⟨e.1.symm,e.2.symm⟩
theorem OG(hC:Closed P X A K){f f':Fr}{fs fs':List Fr}{p u:World}(h:ze P X A K ρ f fs f' fs')(hw:WR ρ p u)(hr:f.ret=false){ops:Array Oper}{i:Nat}{rest:List Nat}{k:List Item}{o:Oper}
  (htd:f.todo= .inRegion ops (i::rest)::k)(ho:ops[i]? =some o)(hst:∀p u,bU P f fs o p=aG P f fs p->bU P f' fs' o u=aG P f' fs' u):
  bU P f fs o p=aG P f fs p->Uc P X A K ρ p u f' fs' (bU P f fs o p):=by
 intro he;have hst:=hst p u he;have hh:=h.head;have hF:Zz P X A (K f.fn) o=true:=by
  have:=hh.ok (.inRegion ops (i::rest)) (by rw[htd];simp);exact Array.all_eq_true_iff_forall_mem.1 this o (Array.mem_of_getElem? ho)
 simp only[Zz,Bool.or_eq_true,Bool.and_eq_true]at hF;rcases hF with hB|⟨_,hfo⟩;rotate_left
 ·unfold bU;cases hrun:(execOp f.act.eval o).run P p with
  |halt x p1=>cases x<;>trivial
  |ok n p1=>rcases Df hfo hrun with⟨cs,b,sh,rfl⟩|⟨d,rfl⟩<;>trivial
 have hs:=(Fg hC.ext (a:=f.act) (a':=f'.act) hh.tmps hB).run p u hw;unfold O9 at hs;unfold bU;unfold bU at hst;cases hrun:(execOp f.act.eval o).run P p with
 |halt x p1=>cases x<;>trivial
 |ok n p1=>
  rw[hrun]at hs;obtain⟨iy,n',u1,es',h1,h2,h3,h4,h5⟩:=hs #[];obtain⟨h6,h7⟩:=zX _ h1;rw[h6,h7]at hst;have hev:∀e∈seen P f'.fn es',Wv iy p1 e:=fun e he=>h5 e (mem_seen he);cases h2 with
  |value hv=>
   refine⟨iy,_,_,u1,_,hst.symm,?_,h3,h4,hev⟩;exact(h.mono h4.ext).swap ((hh.mono h4.ext).finish htd fun o' ho'=>by rw[ho]at ho';obtain rfl:=Option.some.inj ho';exact hv) (fE _ _)
  |skip=>
   refine⟨iy,_,_,u1,_,hst.symm,?_,h3,h4,hev⟩;exact(h.mono h4.ext).swap ((hh.mono h4.ext).finish htd fun o' ho'=>CR.undef _) (fE _ _)
  |enter g fn ha hf hA hsz hsub=>
   refine⟨iy,_,_,u1,_,hst.symm,?_,h3,h4,hev⟩;refine .cons (BA.enter hC ha hf hA hsz) ⟨hA,hr,ops,i,rest,k,o,htd,ho,fun fn' hf'=>?_⟩ (h.mono h4.ext);have:P.funcs[g]? =some fn':=hf';rw[hf]at this;obtain rfl:=Option.some.inj this;exact hsub
theorem Hy{f f':Fr}(h:TR ρ (K f.fn) f.tmps f'.tmps){t:Nat}(ht:K f.fn t=0):SV ρ (f.tmps.getD t undef) (f'.tmps.getD t undef):=by
 have:=TR.eval (a:=f.act) (a':=f'.act) h (x:=.tmp t) rfl;rw[ht]at this;exact this
theorem zN{f f':Fr}(h:TR ρ (K f.fn) f.tmps f'.tmps){fn:Func}(hb:Qy fn (K f.fn)=true)(p u:World):
  ∃v v',(results fn f.tmps).run P p= .ok v p/\(results fn f'.tmps).run P u= .ok v' u/\(results fn f.tmps).events P p #[]=#[]/\(results fn f'.tmps).events P u #[]=#[]/\CR ρ (qH fn) v v':=by
 unfold Qy at hb;split at hb
 ·rename_i hl;have hr:fn.results=#[]:=by apply Array.ext';simpa using hl
  refine⟨.tuple #[],.tuple #[],by simp[results,hr],by simp[results,hr],Conc.events_results_none hr _ _,Conc.events_results_none hr _ _,?_⟩;simp only[qH,hr];exact⟨#[],#[],.inr ⟨rfl,rfl⟩,bF.empty⟩
 ·rename_i t hl;have hr:fn.results=#[.tmp t]:=by apply Array.ext';simpa using hl
  refine⟨f.tmps.getD t undef,f'.tmps.getD t undef,by simp[results,hr],by simp[results,hr],Conc.events_results_tmp hr _ _,Conc.events_results_tmp hr _ _,?_⟩;simp only[qH,hr];exact Hy h (by simpa using hb)
 ·rename_i t t2 hl;have hr:fn.results=#[.tmp t,.tmp t2]:=by apply Array.ext';simpa using hl
  simp only[Bool.and_eq_true,beq_iff_eq]at hb;refine⟨.tuple #[f.tmps.getD t undef,f.tmps.getD t2 undef],.tuple #[f'.tmps.getD t undef,f'.tmps.getD t2 undef],by simp[results,hr],by simp[results,hr],Conc.events_results_tmp2 hr _ _,Conc.events_results_tmp2 hr _ _,?_⟩;simp only[qH,hr];exact⟨_,_,.inr ⟨rfl,rfl⟩,by simpa using(bF.one (Hy h hb.1)).push (Hy h hb.2)⟩
 ·cases hb
theorem wH{id:Nat}{Q:Item->Prop}:∀{k k':List Item},exitTo id k=some k'->(∀x∈k,Q x)->∀x∈k',Q x
 | [],_,h,_=>by cases h
 |y::k,k',h,hq=>by
  have hq':∀x∈k,Q x:=fun x hx=>hq x (by simp[hx]);cases y<;>simp only[exitTo]at h<;>first
   |exact wH h hq'
   |(split at h
     ·obtain rfl:=Option.some.inj h;exact hq'
     ·exact wH h hq')
theorem BA.todo'{f f':Fr}(h:BA P X A K ρ f f'){k:List Item}(hk:∀x∈k,su P X A (K f.fn) x=true):BA P X A K ρ {f with todo:=k} {f' with todo:=k}:=⟨h.fn,rfl,h.ret,h.tmps,hk⟩
theorem BA.out{f f':Fr}(h:BA P X A K ρ f f'):BA P X A K ρ {f with ret:=true} {f' with ret:=true}:=⟨h.fn,h.todo,rfl,h.tmps,h.ok⟩
theorem Bf(hC:Closed P X A K){f f':Fr}{fs fs':List Fr}{p u:World}(h:ze P X A K ρ f fs f' fs')(hw:WR ρ p u):Uc P X A K ρ p u f' fs' (aG P f fs p):=by
 have hh:=h.head;unfold aG;cases hr:f.ret with
 |true=>
  have hr':f'.ret=true:=hh.ret.trans hr;simp only[if_true];unfold jY;cases h with
  |one _=>trivial
  |@cons _ _ c c' fs fs' hf l t=>
   obtain⟨hA,hcr,ops,i,rest,k,o,htd,ho,hsub⟩:=l;simp only;cases hfn:P.funcs[f.fn]? with
   |none=>trivial
   |some fn=>
    have hB:=hC.fns f.fn hA fn hfn;simp only[gH,Bool.and_eq_true]at hB;obtain⟨v,v',h1,h2,h3,h4,h5⟩:=zN (P:=P) hh.tmps hB.1.2 p u;simp only[h1];refine⟨ρ,c'.finish v',fs',u,#[],?_,?_,hw,.refl hw,fun e he=>by simp at he⟩
    ·have hfn':P.funcs[f'.fn]? =some fn:=by rw[hh.fn];exact hfn
     simp only[aG,hr',if_true,jY,hfn',h2,h4];rfl
    ·exact t.swap (t.head.finish htd fun o' ho'=>by rw[ho]at ho';obtain rfl:=Option.some.inj ho';exact CR.up (hsub fn hfn) h5) (fE _ _)
 |false=>
  have hr':f'.ret=false:=hh.ret.trans hr;simp only[Bool.false_eq_true,if_false];have go:∀(g g':Fr),BA P X A K ρ g g'->g.fn=f.fn->aG P f' fs' u= .go g' fs' u #[]->Uc P X A K ρ p u f' fs' (.go g fs p #[]):=fun g g' hg hfn e=>
   ⟨ρ,g',fs',u,#[],e,h.swap hg hfn,hw,.refl hw,fun e he=>by simp at he⟩
  have e0:aG P f' fs' u=aJ P f' fs' u:=by simp[aG,hr']
  have rZ:∀{x:Item} {k:List Item},f.todo=x::k->su P X A (K f.fn) x=true/\∀y∈k,su P X A (K f.fn) y=true:=fun htd=>⟨hh.ok _ (by rw[htd];simp),fun y hy=>hh.ok y (by rw[htd];simp[hy])⟩;unfold aJ;split
  ·rename_i htd;have dK:=hh.todo.trans htd;cases h with
   |one _=>trivial
   |cons hf l t=>exact go _ _ hh.out rfl (by rw[e0];simp[aJ,dK])
  ·rename_i htd;have dK:=hh.todo.trans htd;exact go _ _ hh.out rfl (by rw[e0];simp[aJ,dK])
  iterate 3 (·rename_i htd;have dK:=hh.todo.trans htd;exact go _ _ (hh.todo' (rZ htd).2) rfl (by rw[e0];simp[aJ,dK]))
  ·rename_i a b k htd;have dK:=hh.todo.trans htd;have:=(rZ htd).1;simp only[su,lH,Bool.and_eq_true]at this;refine go _ _ (hh.todo' (k:=.code a:: .code b::k) fun x hx=>?_) rfl (by rw[e0];simp[aJ,dK]);rcases List.mem_cons.1 hx with rfl|hx
   ·exact this.1
   ·rcases List.mem_cons.1 hx with rfl|hx
    ·exact this.2
    ·exact(rZ htd).2 x hx
  ·rename_i c thn els k htd;have dK:=hh.todo.trans htd;have:=(rZ htd).1;simp only[su,lH,Bool.and_eq_true]at this;have hsc:=bV (a:=f.act) (a':=f'.act) hh.tmps this.1.1;split
   ·rename_i b hb;rw[hb]at hsc;have hb':f'.act.eval c= .bool b:=(VR.TM hsc.val b).1 rfl;refine go _ _ (hh.todo' (k:=.code (if b then thn else els)::k) fun x hx=>?_) rfl (by rw[e0];simp[aJ,dK,hb']);rcases List.mem_cons.1 hx with rfl|hx
    ·cases b
     ·exact this.2
     ·exact this.1.2
    ·exact(rZ htd).2 x hx
   ·trivial
  ·rename_i id body k htd;have dK:=hh.todo.trans htd;refine go _ _ (hh.todo' (k:=.code body:: .inBlock id::k) fun x hx=>?_) rfl (by rw[e0];simp[aJ,dK]);rcases List.mem_cons.1 hx with rfl|hx
   ·exact(rZ htd).1
   ·rcases List.mem_cons.1 hx with rfl|hx
    ·rfl
    ·exact(rZ htd).2 x hx
  ·rename_i body k htd;have dK:=hh.todo.trans htd;refine go _ _ (hh.todo' (k:=.code body:: .inLoop body::k) fun x hx=>?_) rfl (by rw[e0];simp[aJ,dK]);rcases List.mem_cons.1 hx with rfl|hx
   ·exact(rZ htd).1
   ·rcases List.mem_cons.1 hx with rfl|hx
    ·exact(rZ htd).1
    ·exact(rZ htd).2 x hx
  ·rename_i body k htd;have dK:=hh.todo.trans htd;refine go _ _ (hh.todo' (k:=.code body:: .inLoop body::k) fun x hx=>?_) rfl (by rw[e0];simp[aJ,dK]);rcases List.mem_cons.1 hx with rfl|hx
   ·exact(rZ htd).1
   ·rcases List.mem_cons.1 hx with rfl|hx
    ·exact(rZ htd).1
    ·exact(rZ htd).2 x hx
  ·rename_i id k htd;have dK:=hh.todo.trans htd;split
   ·rename_i k' hk';exact go _ _ (hh.todo' (wH hk' (rZ htd).2)) rfl (by rw[e0];simp[aJ,dK,hk'])
   ·trivial
  ·rename_i id ops draw k htd;have dK:=hh.todo.trans htd;cases draw with
   |true=>
    simp only[if_true];have hw':WR ρ {p with drawn:=p.drawn+1} {u with drawn:=u.drawn+1}:=⟨hw.size,hw.rows,hw.inj,hw.low,hw.cell,hw.free,hw.tape,by rw[hw.drawn]⟩;refine⟨ρ,{f' with todo:=.inRegion ops (Region.schedule (P.follows .mixedOrders) ops (p.tape p.drawn (.order f.fn id)))::k},fs',{u with drawn:=u.drawn+1},#[],?_,h.swap (hh.todo' fun x hx=>?_) rfl,hw',?_,fun e he=>by simp at he⟩
    ·rw[e0];simp[aJ,dK,hw.tape,hw.drawn,hh.fn]
    ·rcases List.mem_cons.1 hx with rfl|hx
     ·exact(rZ htd).1
     ·exact(rZ htd).2 x hx
    ·exact⟨.refl _,Nat.le_refl _,fun _ _ _=>⟨rfl,rfl⟩,fun b c hb hc=>by have:=lt_of_some hc;have:=hw.size;omega,Nat.le_refl _,fun _ _ _=>rfl,fun c h1 h2=>by simp only at h2;omega,fun _ _ _=>rfl,rfl,rfl,rfl,rfl,rfl,fun h=>h⟩
   |false=>
    simp only[Bool.false_eq_true,if_false];refine go _ _ (hh.todo' (k:=.inRegion ops (List.range ops.size)::k) fun x hx=>?_) rfl (by rw[e0];simp[aJ,dK]);rcases List.mem_cons.1 hx with rfl|hx
    ·exact(rZ htd).1
    ·exact(rZ htd).2 x hx
  ·rename_i htd;have dK:=hh.todo.trans htd;exact go _ _ (hh.todo' (rZ htd).2) rfl (by rw[e0];simp[aJ,dK])
  ·rename_i ops i rest k htd;have dK:=hh.todo.trans htd;split
   ·rename_i ho;exact go _ (f'.finish undef) (hh.finish htd fun o ho'=>by rw[ho]at ho';cases ho') (fE _ _) (by rw[e0];simp[aJ,dK,ho])
   ·rename_i o ho;by_cases hwt:Region.wanted o (yielded ops f.tmps)=true
    ·simp only[hwt,if_true];have e1:bU P f fs o p=aG P f fs p:=by simp[aG,hr,aJ,htd,ho,hwt]
     exact OG hC h hw hr htd ho (fun _ _ _=>by simp[aG,hr',aJ,dK,ho,qg hh.tmps,hwt]) e1
    ·simp only[hwt];exact go _ _ (hh.finish htd fun o ho'=>CR.undef _) (fE _ _) (by rw[e0];simp[aJ,dK,ho,qg hh.tmps,hwt])
  ·trivial
end
end Go.bB
namespace Go.bB
variable {P:Program}
inductive Tr(P:Program)(Stop:Fr->List Fr->World->Prop):Fr->List Fr->World->Prop
 |stop {f:Fr} {fs:List Fr} {w:World}:Stop f fs w->Tr P Stop f fs w
 |step {f:Fr} {fs:List Fr} {w:World}:(∀τ d,∃f' fs' w' es,aG P f fs (w.re τ d)= .go f' fs' w' es)->(∀τ d f' fs' w' es,aG P f fs (w.re τ d)= .go f' fs' w' es->Tr P Stop f' fs' w')->Tr P Stop f fs w
def Reach(P:Program)(Stop:Fr->List Fr->World->Prop):Nat->Fr->List Fr->World->Prop
 |0,f,fs,w=>Stop f fs w
 |n+1,f,fs,w=>Stop f fs w\/∃f' fs' w' es,aG P f fs w= .go f' fs' w' es/\Reach P Stop n f' fs' w'
def Uf(P:Program)(f:Fr)(fs:List Fr)(w:World):Prop:=
 ∀f' fs' w' es,aG P f fs w= .go f' fs' w' es->w'.tape=w.tape/\∃m,w'.drawn=w.drawn+m/\∀τ d,(∀i,i<m->τ (d+i)=w.tape (w.drawn+i))->aG P f fs (w.re τ d)= .go f' fs' (w'.re τ (d+m)) es
section
variable {Stop:Fr->List Fr->World->Prop} {I:Fr->List Fr->World->Prop}
theorem uT(hI:∀f fs w τ d,I f fs w->I f fs (w.re τ d))(hstep:∀f fs w f' fs' w' es,I f fs w->aG P f fs w= .go f' fs' w' es->I f' fs' w')(hloc:∀f fs w,I f fs w->Uf P f fs w)
  (hS:∀f fs w τ d,Stop f fs w->Stop f fs (w.re τ d)):∀(n:Nat) (f:Fr) (fs:List Fr) (w:World) (τ:Nat->Question->Nat) (d:Nat),I f fs w->(∀i,τ (d+i)=w.tape (w.drawn+i))->Reach P Stop n f fs w->Reach P Stop n f fs (w.re τ d)
 |0,f,fs,w,τ,d,_,_,h=>hS f fs w τ d h
 |n+1,f,fs,w,τ,d,hi,ht,h=>by
  rcases h with h|⟨f',fs',w',es,e,hr⟩
  ·exact .inl (hS f fs w τ d h)
  ·obtain⟨k1,m,k2,k3⟩:=hloc f fs w hi f' fs' w' es e;refine .inr ⟨f',fs',w'.re τ (d+m),es,k3 τ d (fun i _=>ht i),?_⟩;exact uT hI hstep hloc hS n f' fs' w' τ (d+m) (hstep _ _ _ _ _ _ _ hi e) (fun i=>by rw[k1,k2,Nat.add_assoc,Nat.add_assoc,ht]) hr
theorem bar(hI:∀f fs w τ d,I f fs w->I f fs (w.re τ d))(hstep:∀f fs w f' fs' w' es,I f fs w->aG P f fs w= .go f' fs' w' es->I f' fs' w')(hloc:∀f fs w,I f fs w->Uf P f fs w)
  (hS:∀f fs w τ d,Stop f fs w->Stop f fs (w.re τ d)){f:Fr}{fs:List Fr}{w:World}(h0:I f fs w)(H:∀τ d,∃n,Reach P Stop n f fs (w.re τ d)):Tr P Stop f fs w:=by
 classical
 by_cases hn:Tr P Stop f fs w
 ·exact hn
 exfalso;let S:=Fr×List Fr×World
 let Bad:S->Prop:=fun s=>I s.1 s.2.1 s.2.2/\¬Tr P Stop s.1 s.2.1 s.2.2/\∀τ d,∃n,Reach P Stop n s.1 s.2.1 (s.2.2.re τ d)
 have next:∀s:S,Bad s->∃(s':S) (τ:Nat->Question->Nat) (m:Nat) (es:Array Event),Bad s'/\
   ∀sP d',(∀i,i<m->sP (d'+i)=τ i)->aG P s.1 s.2.1 (s.2.2.re sP d')= .go s'.1 s'.2.1 (s'.2.2.re sP (d'+m)) es:=by
  rintro⟨f,fs,w⟩ ⟨h1,h2,h3⟩;have hns:∀τ d,¬Stop f fs (w.re τ d):=fun τ d hs=>h2 (.stop (by have:=hS _ _ _ w.tape w.drawn hs;rwa [KG,kF]at this));have hgo:∀τ d,∃f' fs' w' es,aG P f fs (w.re τ d)= .go f' fs' w' es:=by
   intro τ d;obtain⟨n,hr⟩:=h3 τ d;cases n with
   |zero=>exact absurd hr (hns τ d)
   |succ n=>
    rcases hr with hr|⟨f',fs',w',es,e,_⟩
    ·exact absurd hr (hns τ d)
    ·exact⟨f',fs',w',es,e⟩
  have hex:∃τ d f' fs' w' es,aG P f fs (w.re τ d)= .go f' fs' w' es/\¬Tr P Stop f' fs' w':=by
   refine Classical.byContradiction fun hx=>h2 (.step hgo fun τ d f' fs' w' es e=>?_);refine Classical.byContradiction fun hy=>hx ⟨τ,d,f',fs',w',es,e,hy⟩
  obtain⟨τ,d,f',fs',w',es,e,hnt⟩:=hex;have hi:=hI f fs w τ d h1;obtain⟨k1,m,k2,k3⟩:=hloc f fs _ hi f' fs' w' es e;have hi':=hstep _ _ _ _ _ _ _ hi e;have k3':∀sP d',(∀i,i<m->sP (d'+i)=τ (d+i))->aG P f fs (w.re sP d')= .go f' fs' (w'.re sP (d'+m)) es:=fun sP d' h=>k3 sP d' h;refine⟨⟨f',fs',w'⟩,fun i=>τ (d+i),m,es,⟨hi',hnt,fun sP d'=>?_⟩,k3'⟩;let Wy:Nat->Question->Nat:=fun x=>if x<m then τ (d+x)else sP (d'+(x-m))
  have e2:=k3' Wy 0 (fun i hi=>by simp[Wy,hi]);rw[Nat.zero_add]at e2;obtain⟨n,hr⟩:=h3 Wy 0;cases n with
  |zero=>exact absurd hr (hns Wy 0)
  |succ n=>
   rcases hr with hr|⟨f2,Ze,w2,es2,e3,hr⟩
   ·exact absurd hr (hns Wy 0)
   ·rw[e2]at e3;simp only[FO.go.injEq]at e3;obtain⟨rfl,rfl,rfl,rfl⟩:=e3;refine⟨n,?_⟩;have:=uT hI hstep hloc hS n f' fs' (w'.re Wy m) sP d' (hI _ _ _ _ _ hi') (fun i=>by
     show sP (d'+i)=Wy (m+i);simp[Wy];exact fun h=>absurd h (by omega)) hr
    exact this
 have choice:∀s: {s:S // Bad s},∃(s': {s:S // Bad s}) (τ:Nat->Question->Nat) (m:Nat) (es:Array Event),∀sP d',(∀i,i<m->sP (d'+i)=τ i)->aG P s.1.1 s.1.2.1 (s.1.2.2.re sP d')= .go s'.1.1 s'.1.2.1 (s'.1.2.2.re sP (d'+m)) es:=by
  rintro⟨s,hs⟩;obtain⟨s',τ,m,es,h1,h2⟩:=next s hs
  exact⟨⟨s',h1⟩,τ,m,es,h2⟩
 let nx: {s:S // Bad s}->{s:S // Bad s}:=fun s=>Classical.choose (choice s)
 let tp: {s:S // Bad s}->Nat->Question->Nat:=fun s=>Classical.choose (Classical.choose_spec (choice s))
 let ms: {s:S // Bad s}->Nat:=fun s=>Classical.choose (Classical.choose_spec (Classical.choose_spec (choice s)))
 have road:∀s,∃es,∀sP d',(∀i,i<ms s->sP (d'+i)=tp s i)->aG P s.1.1 s.1.2.1 (s.1.2.2.re sP d')= .go (nx s).1.1 (nx s).1.2.1 ((nx s).1.2.2.re sP (d'+ms s)) es:=fun s=>Classical.choose_spec (Classical.choose_spec (Classical.choose_spec (choice s)));let sq:Nat->{s:S // Bad s}:=fun n=>Nat.rec ⟨⟨f,fs,w⟩,h0,hn,H⟩ (fun _ s=>nx s) n
 let D:Nat->Nat:=fun n=>Nat.rec 0 (fun i x=>x+ms (sq i)) n
 have J3:∀n,D (n+1)=D n+ms (sq n):=fun _=>rfl;have Uj:∀a b,a<=b->D a<=D b:=by
  intro a b h;induction h with
  |refl=>exact Nat.le_refl _
  |step _ ih=>rw[J3];omega
 let T:Nat->Question->Nat:=fun x=>if h:∃i,D i<=x/\x<D (i+1)then tp (sq (Classical.choose h)) (x-D (Classical.choose h))else fun _=>0
 have hT:∀n i,i<ms (sq n)->T (D n+i)=tp (sq n) i:=by
  intro n i hi;have hx:∃j,D j<=D n+i/\D n+i<D (j+1):=⟨n,by omega,by rw[J3];omega⟩;have hc:=Classical.choose_spec hx;have hj:Classical.choose hx=n:=by
   generalize Classical.choose hx=j at hc;rcases Nat.lt_trichotomy j n with h|h|h
   ·have:=Uj (j+1) n h;omega
   ·exact h
   ·have:=Uj (n+1) j h;rw[J3]at this;omega
  simp only[T,hx,dif_pos];rw[hj];congr 1
  omega
 have never:∀n i,¬Reach P Stop n (sq i).1.1 (sq i).1.2.1 ((sq i).1.2.2.re T (D i)):=by
  intro n;induction n with
  |zero=>exact fun i h=>(sq i).2.2.1 (.stop (by have:=hS _ _ _ (sq i).1.2.2.tape (sq i).1.2.2.drawn h;rwa [KG,kF]at this))
  |succ n ih=>
   intro i h;rcases h with h|⟨f',fs',w',es,e,hr⟩
   ·exact(sq i).2.2.1 (.stop (by have:=hS _ _ _ (sq i).1.2.2.tape (sq i).1.2.2.drawn h;rwa [KG,kF]at this))
   ·obtain⟨es',e'⟩:=road (sq i);rw[e' T (D i) (fun j hj=>hT i j hj)]at e;simp only[FO.go.injEq]at e;obtain⟨rfl,rfl,rfl,rfl⟩:=e;exact ih (i+1) hr
 obtain⟨n,hr⟩:=H T 0;exact never n 0 hr
end
end Go.bB
