import Derived.Test.YtmfpiodlecapiaaGreatDoorJ12
namespace Go.eO
open Go.Ren Go.bB Go.Conc
variable {P:Program} {X A:FuncId->Bool}
def Xi(X A:FuncId->Bool)(o:Oper):Bool:=match o.op with
 | .call c=>(match c.callee with| .value (.func f)=>X f||A f|_=>true)
 |_=>true
def opP(o:Oper):Bool:=match o.op with
 | .panic _=>true
 |_=>false
def xQ(P:Program)(X A:FuncId->Bool)(o:Oper):Bool:=opP o||(XP P X o&&Xi X A o)
def Ends(P:Program)(s:Sem Next):Prop:=∀w,∃x w',s.run P w= .halt x w'/\(Dead x\/∃v,x= .panic v)
theorem QV{α:Type}(w:World):∃x w',(runtimePanic .panicNil:Sem α).run P w= .halt x w'/\(Dead x\/∃v,x= .panic v):=by
 show∃x w',((elemOf P.rt.panicNilError).bind _).run P w= .halt x w'/\_;rw[run_bind];have key:(∃t,(elemOf P.rt.panicNilError).run P w= .ok t w)\/∃y,(elemOf P.rt.panicNilError).run P w= .halt (.stuck y) w:=by
  unfold elemOf;show(∃t,((underlying P.rt.panicNilError).bind _).run P w= .ok t w)\/∃y,((underlying P.rt.panicNilError).bind _).run P w= .halt (.stuck y) w;rw[run_bind];have hu:(underlying P.rt.panicNilError).run P w=(match P.underlying P.rt.panicNilError with|some d=>Pure.pure d|none=>stuck "no such type" :Sem TypeDesc).run P w:=rfl;rw[hu];cases P.underlying P.rt.panicNilError with
  |none=>exact .inr ⟨_,rfl⟩
  |some d=>cases d<;>first|exact .inl ⟨_,rfl⟩|exact .inr ⟨_,rfl⟩
 rcases key with⟨t,ht⟩|⟨y,hy⟩
 ·rw[ht];exact⟨_,_,rfl,.inr ⟨_,rfl⟩⟩
 ·rw[hy];exact⟨_,_,rfl,.inl trivial⟩
theorem qL(v:Value)(w:World):∃x w',(Instr.panic v).run P w= .halt x w'/\(Dead x\/∃v,x= .panic v):=by
 unfold Instr.panic;split
 ·exact⟨_,_,rfl,.inr ⟨_,rfl⟩⟩
 ·show∃x w',((Instr.panicnil).bind _).run P w= .halt x w'/\_;rw[run_bind];have key:(∃n w1,Instr.panicnil.run P w= .ok n w1)\/∃y w1,Instr.panicnil.run P w= .halt (.stuck y) w1:=by
   have hu:Instr.panicnil.run P w=(match(w.sys .env).1 with| .strings env=>_|_=>stuck "strings expected" :Sem Int).run P (w.sys .env).2:=rfl;rw[hu];cases (w.sys .env).1<;>first|exact .inl ⟨_,_,rfl⟩|exact .inr ⟨_,_,rfl⟩
  rcases key with⟨n,w1,h1⟩|⟨y,w1,h1⟩
  ·rw[h1];dsimp only;split
   ·exact⟨_,_,rfl,.inr ⟨_,rfl⟩⟩
   ·exact QV w1
  ·rw[h1];exact⟨_,_,rfl,.inl trivial⟩
 ·exact⟨_,_,rfl,.inl trivial⟩
theorem Fh{ρ:Operand->Value}{o:Oper}(h:opP o=true):Ends P (execOp ρ o):=by
 intro w;unfold opP at h;unfold execOp;dsimp only;split at h
 ·rename_i x ho;rw[ho];obtain⟨y,w',h1,h2⟩:=qL (P:=P) (ρ x) w;refine⟨y,w',?_,h2⟩;show((Instr.panic (ρ x)).bind _).run P w=_;rw[run_bind,h1]
 ·cases h
def iZ(P:Program)(X A:FuncId->Bool):Code->Bool
 | .skip| .exit _| .label _| .ret=>true
 | .region _ ops _=>ops.all (xQ P X A)
 | .seq a b=>iZ P X A a&&iZ P X A b
 | .cond _ a b=>iZ P X A a&&iZ P X A b
 | .block _ a| .loop a=>iZ P X A a
 |_=>false
def fO(P:Program)(X A:FuncId->Bool):Item->Bool
 | .code c| .inLoop c=>iZ P X A c
 | .inBlock _=>true
 | .inRegion ops _=>ops.all (xQ P X A)
 |_=>false
def SY(P:Program)(X A:FuncId->Bool)(fn:Func):Bool:=
 match fn.body with|some c=>iZ P X A c|none=>false
theorem wX(tmps:Array Value):∀l:List ResultVar,Tm P (l.mapM fun| .tmp t=>Pure.pure (tmps.getD t undef)| .cell a t=>do loadVar t (<-asAddr (tmps.getD a undef)))
 | []=>by rw[List.mapM_nil];exact ay _
 |r::l=>by
  rw[List.mapM_cons];refine au ?_ fun _=>au (wX tmps l) fun _=>ay _;cases r with
  |tmp t=>exact ay _
  |cell a t=>exact au (Aq _) fun _=>wZ _ _
theorem jM(fn:Func)(tmps:Array Value):Tm P (results fn tmps):=by
 unfold results;refine au ?_ fun _=>ay _;rw[Array.mapM_eq_mapM_toList];exact aK (wX tmps _)
structure bK(P:Program)(X A:FuncId->Bool):Prop where
 ext:∀f,X f=true->∀xs:Array Value,Tm P (callFunc f xs)
 extv:∀f,X f=true->∀(xs:Array Value) (w:World) (n:Next) (w':World),(callFunc f xs).run P w= .ok n w'->∃v,n= .value v
 fns:∀f,A f=true->∀fn,P.funcs[f]? =some fn->SY P X A fn=true
 has:∀f,A f=true->∃fn,P.funcs[f]? =some fn
 ahead:P.follows .staticDataAhead=true
 late:∀g,4<=g->P.stepOf g=none
inductive DI(P:Program)(X A:FuncId->Bool):Fr->List Fr->Prop
 |one {f:Fr}:(∀x∈f.todo,fO P X A x=true)->DI P X A f []
 |cons {f c:Fr} {fs:List Fr}:(∀x∈f.todo,fO P X A x=true)->A f.fn=true->Pm c->c.ret=false->DI P X A c fs->DI P X A f (c::fs)
def o_(P:Program)(X A:FuncId->Bool)(f:Fr)(fs:List Fr)(w:World):Prop:=DI P X A f fs/\PS (fun _=>False) w w
theorem DI.ok{f:Fr}{fs:List Fr}(h:DI P X A f fs):∀x∈f.todo,fO P X A x=true:=by cases h<;>assumption
theorem DI.swap{f g:Fr}{fs:List Fr}(h:DI P X A f fs)(hg:∀x∈g.todo,fO P X A x=true)(e:g.fn=f.fn):DI P X A g fs:=by
 cases h with
 |one _=>exact .one hg
 |cons _ h1 h2 h3 h4=>exact .cons hg (by rw[e];exact h1) h2 h3 h4
theorem DI.wf:∀{fs:List Fr} {f:Fr},DI P X A f fs->Wf fs
 | [],_,_=>fun _ hc=>by simp at hc
 |c::fs,_,.cons _ _ h2 h3 h4=>fun d hd=>by
  rcases List.mem_cons.1 hd with rfl|hd
  ·exact⟨h2,h3⟩
  ·exact h4.wf d hd
theorem pV{f:Fr}(h:∀x∈f.todo,fO P X A x=true)(v:Value):∀x∈(f.finish v).todo,fO P X A x=true:=by
 unfold Fr.finish;split
 ·rename_i ops i rest k htd;rw[htd]at h;intro x hx;rcases List.mem_cons.1 hx with rfl|hx
  ·exact h (.inRegion ops (i::rest)) (by simp)
  ·exact h x (by simp[hx])
 ·exact h
theorem mG(f:Fr)(v:Value):(f.finish v).fn=f.fn:=by unfold Fr.finish;split<;>rfl
theorem qZ{α:Type}{s:Sem α}{g:α->Value}{w w':World}{n:Next}(h:(s >>= fun a=>Pure.pure (Next.value (g a))).run P w= .ok n w'):∃v,n= .value v:=by
 replace h:(s.bind fun a=>Sem.pure (Next.value (g a))).run P w= .ok n w':=h;rw[run_bind]at h;cases hs:s.run P w with
 |ok a w1=>rw[hs]at h;simp only[Sem.run,Result.ok.injEq]at h;exact⟨_,h.1.symm⟩
 |halt x w1=>rw[hs]at h;cases h
theorem MH{s:Sem Unit}{w w':World}{n:Next}(h:(s >>= fun _=>Pure.pure Next.skip).run P w= .ok n w'):n= .skip:=by
 replace h:(s.bind fun _=>Sem.pure Next.skip).run P w= .ok n w':=h;rw[run_bind]at h;cases hs:s.run P w with
 |ok a w1=>rw[hs]at h;simp only[Sem.run,Result.ok.injEq]at h;exact h.1.symm
 |halt x w1=>rw[hs]at h;cases h
theorem wu(hC:bK P X A){ρ:Operand->Value}(hf:∀f,ρ (.func f)= .func (.func f) #[] #[]){o:Oper}(h:xQ P X A o=true){w w':World}{n:Next}(hr:(execOp ρ o).run P w= .ok n w'):
  (∃v,n= .value v)\/n= .skip\/∃f xs,n= .enter f xs/\A f=true:=by
 unfold xQ at h;simp only[Bool.or_eq_true,Bool.and_eq_true]at h;rcases h with h|h
 ·obtain⟨x,w1,h1,_⟩:=Fh (P:=P) (ρ:=ρ) h w;rw[h1]at hr;cases hr
 obtain⟨h,hA⟩:=h;unfold XP at h;unfold Xi at hA;unfold execOp at hr;dsimp only at hr;split at hr<;>rename_i ho<;>rw[ho]at h hA<;>dsimp only at h hA;all_goals first
  |(cases h;done)
  |exact .inl ⟨_,(Result.ok.inj hr).1.symm⟩
  |exact .inl (qZ (g:=fun x=>x) hr)
  |exact .inr (.inl (MH hr))
  |skip
 ·exact .inl (qZ (g:=fun b=>if b=true then _ else _) hr)
 ·left;have no:∀{x:Halt} {w1:World},(Result.halt x w1:Result Next)= .ok n w'->∃v,n= .value v:=fun e=>by cases e
  split at hr
  iterate 3 (·exact no hr)
  ·split at hr
   ·exact no hr
   ·replace hr:((nilAhead (P.types.size+Made.depth) _ _ _).bind _).run P w= .ok n w':=hr;rw[run_bind]at hr;split at hr
    ·split at hr
     ·exact no hr
     ·exact⟨_,(Result.ok.inj hr).1.symm⟩
    ·exact no hr
   ·exact⟨_,(Result.ok.inj hr).1.symm⟩
  ·exact⟨_,(Result.ok.inj hr).1.symm⟩
 ·rename_i c;obtain⟨callee,args,argTypes⟩:=c;unfold dM at h;dsimp only at h hA;cases callee with
  |builtin b=>
   cases b<;>first
    |(cases h;done)
    |exact .inl (qZ (g:=fun x=>x) hr)
  |invoke r n=>cases h
  |value x=>
   cases x with
   |func f=>
    replace hr:((Deferred.ofValue (ρ (.func f)) (args.map ρ)) >>= fun d=>invoke d.target d.args).run P w= .ok n w':=hr;rw[hf]at hr;replace hr:(callFunc f ((#[]++args.map ρ)++ #[])).run P w= .ok n w':=hr;dsimp only at h hA;cases hx:X f with
    |true=>exact .inl (hC.extv f hx _ _ _ _ hr)
    |false=>
     rw[hx,Bool.false_or]at h;simp only[hx,Bool.false_or]at hA;cases hn:P.funcs[f]? with
     |none=>rw[hn]at h;cases h
     |some fn=>
      rw[hn]at h;simp only[Bool.and_eq_true,bne_iff_ne,ne_eq,Option.isSome_iff_ne_none]at h;have h1:(fn.name== "runtime.NumGoroutine")=false:=by simpa using h.1
      have h2:fn.body.isNone=false:=by cases hb:fn.body with|none=>exact absurd hb h.2|some _=>rfl
      unfold callFunc at hr;replace hr:(match P.funcs[f]? with|none=>stuck "call: no such function"|some fn=>_:Sem Next).run P w= .ok n w':=hr;rw[hn]at hr;simp only[h1,h2,Bool.false_eq_true,if_false]at hr;exact .inr (.inr ⟨f,_,(Result.ok.inj hr).1.symm,hA⟩)
   |_=>cases h
theorem eval_const(a:Act)(v:Value):a.eval (.const v)=v:=rfl
theorem eval_func(a:Act)(f:FuncId):a.eval (.func f)= .func (.func f) #[] #[]:=rfl
theorem o_.op{f:Fr}{fs:List Fr}{w:World}(h:o_ P X A f fs w){ops:Array Oper}{i:Nat}{rest:List Nat}{k:List Item}{o:Oper}(htd:f.todo= .inRegion ops (i::rest)::k)(ho:ops[i]? =some o):xQ P X A o=true:=by
 have:=h.1.ok (.inRegion ops (i::rest)) (by rw[htd];simp);exact Array.all_eq_true'.1 this o (Array.mem_of_getElem? ho)
theorem xQ.tm(hC:bK P X A){o:Oper}(h:xQ P X A o=true)(a:Act):Tm P (execOp a.eval o)\/Ends P (execOp a.eval o):=by
 unfold xQ at h;simp only[Bool.or_eq_true,Bool.and_eq_true]at h;rcases h with h|h
 ·exact .inr (Fh h)
 ·exact .inl (Wz hC.ext (eval_const a) (eval_func a) h.1)
theorem xQ.pl(hC:bK P X A){o:Oper}(h:xQ P X A o=true)(a:Act):Pl P (execOp a.eval o):=by
 rcases xQ.tm hC h a with h|h
 ·exact h.pl
 ·exact .dB fun w n w' e=>by obtain⟨x,w1,h1,_⟩:=h w;rw[h1]at e;cases e
theorem xQ.halts(hC:bK P X A){o:Oper}(h:xQ P X A o=true)(a:Act){w w1:World}{x:Halt}(hw:PS (fun _=>False) w w)(hr:(execOp a.eval o).run P w= .halt x w1):Dead x\/∃v,x= .panic v:=by
 rcases xQ.tm hC h a with h|h
 ·have:=h.run w w #[] hw;rw[Sem.runT_eq,hr]at this;cases x<;>first|exact .inr ⟨_,rfl⟩|exact .inl this
 ·obtain⟨y,w2,h1,h2⟩:=h w;rw[h1]at hr;cases hr;exact h2
theorem JB{f:Fr}{fs:List Fr}{w:World}(hC:bK P X A)(h:o_ P X A f fs w){ops:Array Oper}{i:Nat}{rest:List Nat}{k:List Item}{o:Oper}(htd:f.todo= .inRegion ops (i::rest)::k)(ho:ops[i]? =some o)
  {f':Fr}{fs':List Fr}{w':World}{es:Array Event}(e:bU P f fs o w= .go f' fs' w' es):
  w'.tape=w.tape/\∃m,w'.drawn=w.drawn+m/\∀τ d,(∀i,i<m->τ (d+i)=w.tape (w.drawn+i))->bU P f fs o (w.re τ d)= .go f' fs' (w'.re τ (d+m)) es:=by
 have hs:=xQ.pl hC (h.op htd ho) f.act;unfold bU at e;have key:∀(n:Next) (w1:World),(execOp f.act.eval o).run P w= .ok n w1->w1.tape=w.tape/\∃m,w1.drawn=w.drawn+m/\∀τ d,(∀i,i<m->τ (d+i)=w.tape (w.drawn+i))->(execOp f.act.eval o).run P (w.re τ d)= .ok n (w1.re τ (d+m))/\(execOp f.act.eval o).events P (w.re τ d) #[]=(execOp f.act.eval o).events P w #[]:=by
  intro n w1 hr;obtain⟨h1,m,h2,h3⟩:=hs.again w #[] n w1 ((execOp f.act.eval o).events P w #[]) (by rw[Sem.runT_eq,hr]);refine⟨h1,m,h2,fun τ d hd=>?_⟩;have:=h3 τ d hd;rw[Sem.runT_eq]at this;simp only[Prod.mk.injEq]at this;exact this
 cases hr:(execOp f.act.eval o).run P w with
 |halt x w1=>rw[hr]at e;cases x<;>cases e
 |ok n w1=>
  rw[hr]at e;obtain⟨h1,m,h2,h3⟩:=key n w1 hr;cases n<;>first
   |(simp only[FO.go.injEq]at e
     obtain⟨rfl,rfl,rfl,rfl⟩:=e;refine⟨h1,m,h2,fun τ d hd=>?_⟩;obtain⟨h4,h5⟩:=h3 τ d hd;unfold bU;rw[h4,h5])
   |cases e
theorem Rw(hC:bK P X A){f:Fr}{fs:List Fr}{w:World}(h:o_ P X A f fs w):Uf P f fs w:=by
 intro f' fs' w' es e;have still:∀(g:Fr) (gs:List Fr),(∀τ d,aG P f fs (w.re τ d)= .go g gs (w.re τ d) es)->f'=g->fs'=gs->w'=w->
   w'.tape=w.tape/\∃m,w'.drawn=w.drawn+m/\∀τ d,(∀i,i<m->τ (d+i)=w.tape (w.drawn+i))->aG P f fs (w.re τ d)= .go f' fs' (w'.re τ (d+m)) es:=by
  intro g gs hall e1 e2 e3;subst e1 e2 e3;exact⟨rfl,0,rfl,fun τ d _=>hall τ d⟩
 unfold aG at e;cases hr:f.ret with
 |true=>
  simp only[hr,if_true]at e;obtain⟨h1,h2⟩:=h;unfold jY at e;cases h1 with
  |one _=>cases e
  |@cons _ c fs hf hA l1 l2 t=>
   simp only at e;cases hfn:P.funcs[f.fn]? with
   |none=>rw[hfn]at e;cases e
   |some fn=>
    rw[hfn]at e;simp only at e;cases hrun:(results fn f.tmps).run P w with
    |halt x w1=>rw[hrun]at e;cases e
    |ok v w1=>
     rw[hrun]at e;simp only[FO.go.injEq]at e;obtain⟨rfl,rfl,rfl,rfl⟩:=e;obtain⟨k1,m,k2,k3⟩:=(jM (P:=P) fn f.tmps).pl.again w #[] v w1 ((results fn f.tmps).events P w #[]) (by rw[Sem.runT_eq,hrun]);refine⟨k1,m,k2,fun τ d hd=>?_⟩;have:=k3 τ d hd;rw[Sem.runT_eq]at this;simp only[Prod.mk.injEq]at this;simp only[aG,hr,if_true,jY,hfn,this.1,this.2]
 |false=>
  simp only[hr,Bool.false_eq_true,if_false]at e;have e0:∀u,aG P f fs u=aJ P f fs u:=fun u=>by simp[aG,hr]
  unfold aJ at e;split at e
  ·rename_i htd;cases fs with
   |nil=>cases e
   |cons c rest=>
    simp only[FO.go.injEq]at e;obtain⟨rfl,rfl,rfl,rfl⟩:=e;exact still _ _ (fun τ d=>by rw[e0];simp[aJ,htd]) rfl rfl rfl
  iterate 5 (·rename_i htd;simp only[FO.go.injEq]at e;obtain⟨rfl,rfl,rfl,rfl⟩:=e;exact still _ _ (fun τ d=>by rw[e0];simp[aJ,htd]) rfl rfl rfl)
  ·rename_i htd;split at e
   ·rename_i b hb;simp only[FO.go.injEq]at e;obtain⟨rfl,rfl,rfl,rfl⟩:=e;exact still _ _ (fun τ d=>by rw[e0];simp[aJ,htd,hb]) rfl rfl rfl
   ·cases e
  iterate 3 (·rename_i htd;simp only[FO.go.injEq]at e;obtain⟨rfl,rfl,rfl,rfl⟩:=e;exact still _ _ (fun τ d=>by rw[e0];simp[aJ,htd]) rfl rfl rfl)
  ·rename_i htd;split at e
   ·rename_i k' hk';simp only[FO.go.injEq]at e;obtain⟨rfl,rfl,rfl,rfl⟩:=e;exact still _ _ (fun τ d=>by rw[e0];simp[aJ,htd,hk']) rfl rfl rfl
   ·cases e
  ·rename_i id ops draw k htd;cases draw with
   |true=>
    simp only[if_true,FO.go.injEq]at e;obtain⟨rfl,rfl,rfl,rfl⟩:=e;refine⟨rfl,1,rfl,fun τ d hd=>?_⟩;have e1:τ d=w.tape w.drawn:=by simpa using hd 0 (by omega)
    rw[e0];simp only[aJ,htd,if_true];show FO.go {f with todo:=Item.inRegion ops (Region.schedule (P.follows .mixedOrders) ops (τ d (.order f.fn id)))::k} fs _ _=_;rw[e1];rfl
   |false=>
    simp only[Bool.false_eq_true,if_false,FO.go.injEq]at e;obtain⟨rfl,rfl,rfl,rfl⟩:=e;exact still _ _ (fun τ d=>by rw[e0];simp[aJ,htd]) rfl rfl rfl
  ·rename_i htd;simp only[FO.go.injEq]at e;obtain⟨rfl,rfl,rfl,rfl⟩:=e;exact still _ _ (fun τ d=>by rw[e0];simp[aJ,htd]) rfl rfl rfl
  ·rename_i ops i rest k htd;split at e
   ·rename_i ho;simp only[FO.go.injEq]at e;obtain⟨rfl,rfl,rfl,rfl⟩:=e;exact still _ _ (fun τ d=>by rw[e0];simp[aJ,htd,ho]) rfl rfl rfl
   ·rename_i o ho;by_cases hwt:Region.wanted o (yielded ops f.tmps)=true
    ·simp only[hwt,if_true]at e;obtain⟨h1,m,h2,h3⟩:=JB hC h htd ho e;refine⟨h1,m,h2,fun τ d hd=>?_⟩;rw[e0];simp only[aJ,htd,ho,hwt,if_true];exact h3 τ d hd
    ·simp only[hwt]at e;simp only[Bool.false_eq_true,if_false,FO.go.injEq]at e;obtain⟨rfl,rfl,rfl,rfl⟩:=e;exact still _ _ (fun τ d=>by rw[e0];simp[aJ,htd,ho,hwt]) rfl rfl rfl
  ·cases e
theorem Oc(hC:bK P X A){f:Fr}{fs:List Fr}{w:World}(hI:o_ P X A f fs w)(h:aG P f fs w= .bad):∃o w',step P (jA P f fs w)= .ended o w':=by
 have hcur:=bO (C0 P) f fs;have e5:(cur (C0 P) f fs).tmps=f.tmps:=by rw[hcur]
 have e3:(cur (C0 P) f fs).roundOf=none:=by rw[hcur]
 have he:(cur (C0 P) f fs).eval=f.act.eval:=by rw[hcur];exact oV _ rfl
 have hok:∀x∈f.todo,fO P X A x=true:=hI.1.ok;unfold aG at h;cases hr:f.ret with
 |true=>
  simp only[hr,if_true]at h;obtain⟨h1,_⟩:=hI;unfold jY at h;cases h1 with
  |one _=>cases h
  |@cons _ c fs hf hA l1 l2 t=>
   obtain⟨fn,hfn⟩:=hC.has f.fn hA;simp only[hfn]at h;have e4:(cur (C0 P) f (c::fs)).mode= .returning:=by rw[hcur];exact oh hr
   have e6:(cur (C0 P) f (c::fs)).defers= []:=by rw[hcur];rfl
   have e7:(cur (C0 P) f (c::fs)).fn=f.fn:=by rw[hcur]
   cases hrun:(results fn f.tmps).run P w with
   |ok v w1=>rw[hrun]at h;cases h
   |halt x w1=>
    cases x with
    |stuck y=>
     refine⟨.stuck y ((cur (C0 P) f (c::fs)).pos P),w1,step_lone_ended ?_⟩;simp[stepG,e4,e6,e7,e5,unwind,hfn,Sem.runT_eq,hrun,GStep.after]
    |_=>
     refine⟨.stuck "return: the result variables cannot be read" ((cur (C0 P) f (c::fs)).pos P),w1,step_lone_ended ?_⟩;simp[stepG,e4,e6,e7,e5,unwind,hfn,Sem.runT_eq,hrun,GStep.after]
 |false=>
  have e4:(cur (C0 P) f fs).mode= .run:=by rw[hcur];exact iX hr
  simp only[hr,Bool.false_eq_true,if_false]at h;unfold aJ at h;split at h;all_goals try (cases h;done)
  ·split at h<;>cases h
  ·rename_i c thn els k htd;split at h
   ·cases h
   ·rename_i hnb;have e1:(cur (C0 P) f fs).todo= .code (.cond c thn els)::(k++tail (C0 P) fs):=by rw[hcur,htd];rfl
    refine⟨.stuck "cond: bool expected" ((cur (C0 P) f fs).pos P),w,step_lone_ended ?_⟩;simp only[stepG,e4,stepG.exec,e1,he];generalize f.act.eval c=v at hnb;cases v<;>first|rfl|exact absurd rfl (hnb _)
  ·rename_i id k htd;split at h
   ·cases h
   ·rename_i hex;have e1:(cur (C0 P) f fs).todo= .code (.exit id)::(k++tail (C0 P) fs):=by rw[hcur,htd];rfl
    have e2:exitTo id (k++tail (C0 P) fs)=none:=by
     have key:∀(l r:List Item),exitTo id l=none->exitTo id r=none->exitTo id (l++r)=none:=by
      intro l;induction l with
      |nil=>exact fun r _ h=>h
      |cons x l ih=>
       intro r h1 h2;cases x<;>simp only[exitTo,List.cons_append]at h1⊢<;>first
        |exact ih r h1 h2
        |(split at h1
          ·cases h1
          ·rename_i hc;simp only[hc];exact ih r h1 h2)
     refine key _ _ hex ?_;cases fs<;>rfl
    refine⟨.stuck "exit, goto: no such block or label" ((cur (C0 P) f fs).pos P),w,step_lone_ended ?_⟩;simp[stepG,e4,stepG.exec,e1,e2,e3]
  ·split at h<;>cases h
  ·rename_i ops i rest k htd;split at h
   ·cases h
   ·rename_i o ho;by_cases hwt:Region.wanted o (yielded ops f.tmps)=true
    ·simp only[hwt,if_true]at h;have hop:=hI.op htd ho;have e1:(cur (C0 P) f fs).todo= .inRegion ops (i::rest)::(k++tail (C0 P) fs):=by rw[hcur,htd];rfl
     have e2:(cur (C0 P) f fs).oper? =some o:=by simp[Frame.oper?,e1,ho]
     have hk:((cur (C0 P) f fs).kind==CallKind.early)=false:=by rw[hcur];cases fs<;>rfl
     have happ:(stepG P true (G (cur (C0 P) f fs) (below (C0 P) fs)) w)=stepG.apply P true (cur (C0 P) f fs) (below (C0 P) fs) none (execOp f.act.eval o) w:=by
      rw[<-he];simp[G,stepG,stepG.exec,stepG.oper,e4,e1,e2,e3,e5,ho,hwt]
     unfold bU at h;cases hrun:(execOp f.act.eval o).run P w with
     |ok n w1=>
      rw[hrun]at h;rcases wu hC (eval_func f.act) hop hrun with⟨v,rfl⟩|rfl|⟨g,xs,rfl,_⟩<;>cases h
     |halt x w1=>
      rw[hrun]at h;have jC:=xQ.halts hC hop f.act hI.2 hrun;cases x with
      |panic v=>cases h
      |stuck why=>
       refine⟨.stuck why ((cur (C0 P) f fs).pos P),w1,step_lone_ended ?_⟩;show(stepG P true (G _ _) w).bare=_;rw[happ];simp[stepG.apply,hrun]
      |unsupported y=>
       refine⟨.unsupported y ((cur (C0 P) f fs).pos P),w1,step_lone_ended ?_⟩;show(stepG P true (G _ _) w).bare=_;rw[happ];have ZQ:Dead (.unsupported y):=jC.elim id fun⟨_,e⟩=>by cases e
       cases y with
       |initOrder g=>
        have hl:=hC.late g ZQ;simp[stepG.apply,hrun,early,hC.ahead,hl]
       |_=>simp[stepG.apply,hrun]
      |_=>exact jC.elim False.elim fun⟨_,e⟩=>by cases e
    ·simp only[hwt]at h;cases h
  ·rename_i h1 h2 h3 h4 h5 h6 h7 h8 h9 h10 h11 h12 Zd Zc;exfalso;cases hl:f.todo with
   |nil=>exact h1 hl
   |cons x k=>
    have hb:=hok x (by rw[hl];simp);cases x with
    |code c=>
     cases c<;>first
      |exact h2 _ hl|exact h3 _ hl|exact h4 _ _ hl|exact h6 _ _ _ hl|exact h7 _ _ _ _ hl|exact h8 _ _ _ hl|exact h9 _ _ hl|exact h11 _ _ hl|exact h12 _ _ _ _ hl
      |(simp[fO,iZ]at hb)
    |inBlock id=>exact h5 _ _ hl
    |inLoop b=>exact h10 _ _ hl
    |inRegion ops l=>cases l with
     |nil=>exact Zd _ _ hl
     |cons i l=>exact Zc _ _ _ _ hl
    |_=>simp[fO]at hb
theorem Ti{id:Nat}:∀{k k':List Item},exitTo id k=some k'->(∀x∈k,fO P X A x=true)->∀x∈k',fO P X A x=true:=fun h=>wH h
theorem OJ(hC:bK P X A){g:FuncId}(hA:A g=true)(args:Array Value):∀x∈(kU P g args).todo,fO P X A x=true:=by
 obtain⟨fn,hfn⟩:=hC.has g hA;have hB:=hC.fns g hA fn hfn;unfold SY at hB;intro x hx;unfold kU at hx;simp only[hfn,Option.bind_some,List.mem_singleton]at hx;subst hx;cases hb:fn.body with
 |none=>rw[hb]at hB;cases hB
 |some c=>rw[hb]at hB;simpa[fO]using hB
theorem o_.step(hC:bK P X A){f f':Fr}{fs fs':List Fr}{w w':World}{es:Array Event}(h:o_ P X A f fs w)(e:aG P f fs w= .go f' fs' w' es):o_ P X A f' fs' w':=by
 obtain⟨h1,h2⟩:=h;have rZ:∀{x:Item} {k:List Item},f.todo=x::k->fO P X A x=true/\∀y∈k,fO P X A y=true:=fun htd=>⟨h1.ok _ (by rw[htd];simp),fun y hy=>h1.ok y (by rw[htd];simp[hy])⟩;unfold aG at e;cases hr:f.ret with
 |true=>
  simp only[hr,if_true]at e;unfold jY at e;cases h1 with
  |one _=>cases e
  |@cons _ c fs hf hA l1 l2 t=>
   obtain⟨fn,hfn⟩:=hC.has f.fn hA;have jC:=(jM (P:=P) fn f.tmps).run w w #[] h2;rw[Sem.runT_eq]at jC;simp only[hfn]at e;cases hrun:(results fn f.tmps).run P w with
   |halt x w1=>rw[hrun]at e;cases e
   |ok v w1=>
    rw[hrun]at jC e;obtain⟨u',es2,_,hu,hps,_⟩:=jC;rw[Sem.runT_eq,hrun]at hu;obtain rfl:w1=u':=(Result.ok.inj (congrArg Prod.fst hu)).2;simp only[FO.go.injEq]at e;obtain⟨rfl,rfl,rfl,rfl⟩:=e;exact⟨t.swap (pV t.ok v) (mG _ _),hps⟩
 |false=>
  simp only[hr,Bool.false_eq_true,if_false]at e;unfold aJ at e;split at e
  ·cases h1 with
   |one _=>cases e
   |@cons _ c fs hf hA l1 l2 t=>
    simp only[FO.go.injEq]at e;obtain⟨rfl,rfl,rfl,rfl⟩:=e;exact⟨.cons hf hA l1 l2 t,h2⟩
  ·simp only[FO.go.injEq]at e;obtain⟨rfl,rfl,rfl,rfl⟩:=e;exact⟨h1.swap h1.ok rfl,h2⟩
  iterate 3 (·rename_i htd;simp only[FO.go.injEq]at e;obtain⟨rfl,rfl,rfl,rfl⟩:=e;exact⟨h1.swap (rZ htd).2 rfl,h2⟩)
  ·rename_i htd;simp only[FO.go.injEq]at e;obtain⟨rfl,rfl,rfl,rfl⟩:=e;obtain⟨k1,k2⟩:=rZ htd;simp only[fO,iZ,Bool.and_eq_true]at k1;exact⟨h1.swap (by
    intro x hx;simp only[List.mem_cons]at hx;rcases hx with rfl|rfl|hx
    ·exact k1.1
    ·exact k1.2
    ·exact k2 x hx) rfl,h2⟩
  ·rename_i htd;split at e
   ·rename_i b hb;simp only[FO.go.injEq]at e;obtain⟨rfl,rfl,rfl,rfl⟩:=e;obtain⟨k1,k2⟩:=rZ htd;simp only[fO,iZ,Bool.and_eq_true]at k1;exact⟨h1.swap (by
     intro x hx;simp only[List.mem_cons]at hx;rcases hx with rfl|hx
     ·cases b
      ·exact k1.2
      ·exact k1.1
     ·exact k2 x hx) rfl,h2⟩
   ·cases e
  ·rename_i htd;simp only[FO.go.injEq]at e;obtain⟨rfl,rfl,rfl,rfl⟩:=e;obtain⟨k1,k2⟩:=rZ htd;simp only[fO,iZ]at k1;exact⟨h1.swap (by
    intro x hx;simp only[List.mem_cons]at hx;rcases hx with rfl|rfl|hx
    ·exact k1
    ·rfl
    ·exact k2 x hx) rfl,h2⟩
  ·rename_i htd;simp only[FO.go.injEq]at e;obtain⟨rfl,rfl,rfl,rfl⟩:=e;obtain⟨k1,k2⟩:=rZ htd;simp only[fO,iZ]at k1;exact⟨h1.swap (by
    intro x hx;simp only[List.mem_cons]at hx;rcases hx with rfl|rfl|hx
    iterate 2 (·exact k1)
    ·exact k2 x hx) rfl,h2⟩
  ·rename_i htd;simp only[FO.go.injEq]at e;obtain⟨rfl,rfl,rfl,rfl⟩:=e;obtain⟨k1,k2⟩:=rZ htd;simp only[fO]at k1;exact⟨h1.swap (by
    intro x hx;simp only[List.mem_cons]at hx;rcases hx with rfl|rfl|hx
    iterate 2 (·exact k1)
    ·exact k2 x hx) rfl,h2⟩
  ·rename_i htd;split at e
   ·rename_i k' hk';simp only[FO.go.injEq]at e;obtain⟨rfl,rfl,rfl,rfl⟩:=e;exact⟨h1.swap (Ti hk' (rZ htd).2) rfl,h2⟩
   ·cases e
  ·rename_i id ops draw k htd;obtain⟨k1,k2⟩:=rZ htd;have key:∀l:List Nat,∀x∈(Item.inRegion ops l::k),fO P X A x=true:=by
    intro l x hx;rcases List.mem_cons.1 hx with rfl|hx
    ·exact k1
    ·exact k2 x hx
   cases draw with
   |true=>
    simp only[if_true,FO.go.injEq]at e;obtain⟨rfl,rfl,rfl,rfl⟩:=e;exact⟨h1.swap (key _) rfl,⟨h2.size,h2.same,h2.rows,h2.views,h2.tape,rfl,h2.os,h2.output⟩⟩
   |false=>
    simp only[Bool.false_eq_true,if_false,FO.go.injEq]at e;obtain⟨rfl,rfl,rfl,rfl⟩:=e;exact⟨h1.swap (key _) rfl,h2⟩
  ·rename_i htd;simp only[FO.go.injEq]at e;obtain⟨rfl,rfl,rfl,rfl⟩:=e;exact⟨h1.swap (rZ htd).2 rfl,h2⟩
  ·rename_i ops i rest k htd;split at e
   ·simp only[FO.go.injEq]at e;obtain⟨rfl,rfl,rfl,rfl⟩:=e;exact⟨h1.swap (pV h1.ok _) (mG _ _),h2⟩
   ·rename_i o ho;by_cases hwt:Region.wanted o (yielded ops f.tmps)=true
    ·simp only[hwt,if_true]at e;have hop:=o_.op ⟨h1,h2⟩ htd ho;unfold bU at e;rcases xQ.tm hC hop f.act with ZN|hno;rotate_left
     ·obtain⟨x,w1,hx,_⟩:=hno w;rw[hx]at e;cases x<;>cases e
     have jC:=ZN.run w w #[] h2;rw[Sem.runT_eq]at jC;cases hrun:(execOp f.act.eval o).run P w with
     |halt x w1=>rw[hrun]at e;cases x<;>cases e
     |ok n w1=>
      rw[hrun]at jC e;obtain⟨u',es2,_,hu,hps,_⟩:=jC;rw[Sem.runT_eq,hrun]at hu;obtain rfl:w1=u':=(Result.ok.inj (congrArg Prod.fst hu)).2;rcases wu hC (eval_func f.act) hop hrun with⟨v,rfl⟩|rfl|⟨g,xs,rfl,hg⟩
      iterate 2 (·simp only[FO.go.injEq]at e;obtain⟨rfl,rfl,rfl,rfl⟩:=e;exact⟨h1.swap (pV h1.ok _) (mG _ _),hps⟩)
      ·simp only[FO.go.injEq]at e;obtain⟨rfl,rfl,rfl,rfl⟩:=e;exact⟨.cons (OJ hC hg xs) hg ⟨_,_,_,_,htd⟩ hr h1,hps⟩
    ·simp only[hwt]at e;simp only[Bool.false_eq_true,if_false,FO.go.injEq]at e;obtain⟨rfl,rfl,rfl,rfl⟩:=e;exact⟨h1.swap (pV h1.ok _) (mG _ _),h2⟩
  ·cases e
theorem o_.re{f:Fr}{fs:List Fr}{w:World}(h:o_ P X A f fs w)(τ:Nat->Question->Nat)(d:Nat):o_ P X A f fs (w.re τ d):=
 ⟨h.1,⟨h.2.size,h.2.same,h.2.rows,h.2.views,rfl,rfl,h.2.os,h.2.output⟩⟩
theorem A9(hC:bK P X A):G5 P (o_ P X A):=
 ⟨fun _ _ _ τ d h=>h.re τ d,fun _ _ _ _ _ _ _ h e=>h.step hC e,fun _ _ _ h=>Rw hC h,fun _ _ _ h=>h.1.wf,fun _ _ _ h e=>Oc hC h e⟩
end Go.eO
namespace Go.eO
open Go.Ren Go.bB Go.Conc
variable {P:Program} {X A:FuncId->Bool} {Sh:Nat->Prop}
theorem EO{fn:FuncId}{es:Array Event}(h:∀e∈es,Off Sh e):∀e∈seen P fn es,Off Sh e:=fun e he=>h e (Go.bB.mem_seen he)
theorem ED(hC:bK P X A){f f':Fr}{fs fs':List Fr}{p p' u:World}{es:Array Event}(h1:DI P X A f fs)(h2:PS Sh p u)(e:aG P f fs p= .go f' fs' p' es):∃u',aG P f fs u= .go f' fs' u' es/\PS Sh p' u'/\∀x∈es,Off Sh x:=by
 have vN:∀x∈(#[]:Array Event),Off Sh x:=fun x hx=>by simp at hx
 have still:p'=p->es=#[]->aG P f fs u= .go f' fs' u #[]->∃u',aG P f fs u= .go f' fs' u' es/\PS Sh p' u'/\∀x∈es,Off Sh x:=by
  rintro rfl rfl e';exact⟨u,e',h2,vN⟩
 unfold aG at e;cases hr:f.ret with
 |true=>
  simp only[hr,if_true]at e;unfold jY at e;cases h1 with
  |one _=>cases e
  |@cons _ c fs hf hA l1 l2 t=>
   obtain⟨fn,hfn⟩:=hC.has f.fn hA;have jC:=(jM (P:=P) fn f.tmps).run p u #[] h2;rw[Sem.runT_eq]at jC;simp only[hfn]at e;cases hrun:(results fn f.tmps).run P p with
   |halt x w1=>rw[hrun]at e;cases e
   |ok v w1=>
    rw[hrun]at jC e;obtain⟨u',es2,he,hu,hps,hoff⟩:=jC;rw[Sem.runT_eq]at hu;simp only[Prod.mk.injEq]at hu;have RI:∀x∈(results fn f.tmps).events P p #[],Off Sh x:=by rw[he];simpa using hoff
    simp only[FO.go.injEq]at e;obtain⟨rfl,rfl,rfl,rfl⟩:=e;exact⟨u',by simp only[aG,hr,if_true,jY,hfn,hu.1,hu.2],hps,EO RI⟩
 |false=>
  simp only[hr,Bool.false_eq_true,if_false]at e;have e0:∀u,aG P f fs u=aJ P f fs u:=fun u=>by simp[aG,hr]
  unfold aJ at e;split at e
  ·rename_i htd;cases fs with
   |nil=>cases e
   |cons c rest=>
    simp only[FO.go.injEq]at e;obtain⟨rfl,rfl,rfl,rfl⟩:=e;exact still rfl rfl (by rw[e0];simp[aJ,htd])
  iterate 5 (·rename_i htd;simp only[FO.go.injEq]at e;obtain⟨rfl,rfl,rfl,rfl⟩:=e;exact still rfl rfl (by rw[e0];simp[aJ,htd]))
  ·rename_i htd;split at e
   ·rename_i b hb;simp only[FO.go.injEq]at e;obtain⟨rfl,rfl,rfl,rfl⟩:=e;exact still rfl rfl (by rw[e0];simp[aJ,htd,hb])
   ·cases e
  iterate 3 (·rename_i htd;simp only[FO.go.injEq]at e;obtain⟨rfl,rfl,rfl,rfl⟩:=e;exact still rfl rfl (by rw[e0];simp[aJ,htd]))
  ·rename_i htd;split at e
   ·rename_i k' hk';simp only[FO.go.injEq]at e;obtain⟨rfl,rfl,rfl,rfl⟩:=e;exact still rfl rfl (by rw[e0];simp[aJ,htd,hk'])
   ·cases e
  ·rename_i id ops draw k htd;cases draw with
   |true=>
    simp only[if_true,FO.go.injEq]at e;obtain⟨rfl,rfl,rfl,rfl⟩:=e;refine⟨{u with drawn:=u.drawn+1},?_,⟨h2.size,h2.same,h2.rows,h2.views,h2.tape,by simp[h2.drawn],h2.os,h2.output⟩,vN⟩;rw[e0];simp only[aJ,htd,if_true,h2.tape,h2.drawn]
   |false=>
    simp only[Bool.false_eq_true,if_false,FO.go.injEq]at e;obtain⟨rfl,rfl,rfl,rfl⟩:=e;exact still rfl rfl (by rw[e0];simp[aJ,htd])
  ·rename_i htd;simp only[FO.go.injEq]at e;obtain⟨rfl,rfl,rfl,rfl⟩:=e;exact still rfl rfl (by rw[e0];simp[aJ,htd])
  ·rename_i ops i rest k htd;split at e
   ·rename_i ho;simp only[FO.go.injEq]at e;obtain⟨rfl,rfl,rfl,rfl⟩:=e;exact still rfl rfl (by rw[e0];simp[aJ,htd,ho])
   ·rename_i o ho;by_cases hwt:Region.wanted o (yielded ops f.tmps)=true
    ·simp only[hwt,if_true]at e;have hop:xQ P X A o=true:=by
      have:=h1.ok (.inRegion ops (i::rest)) (by rw[htd];simp);exact Array.all_eq_true'.1 this o (Array.mem_of_getElem? ho)
     unfold bU at e;rcases xQ.tm hC hop f.act with ZN|hno;rotate_left
     ·obtain⟨x,w1,hx,_⟩:=hno p;rw[hx]at e;cases x<;>cases e
     have jC:=ZN.run p u #[] h2;rw[Sem.runT_eq]at jC;cases hrun:(execOp f.act.eval o).run P p with
     |halt x w1=>rw[hrun]at e;cases x<;>cases e
     |ok n w1=>
      rw[hrun]at jC e;obtain⟨u',es2,he,hu,hps,hoff⟩:=jC;rw[Sem.runT_eq]at hu;simp only[Prod.mk.injEq]at hu;obtain⟨hu1,hu2⟩:=hu;have RI:∀x∈(execOp f.act.eval o).events P p #[],Off Sh x:=by rw[he];simpa using hoff
      have goal:∀f1 fs1,bU P f fs o u= .go f1 fs1 u' (seen P f.fn ((execOp f.act.eval o).events P p #[]))->f'=f1->fs'=fs1->p'=w1->es=seen P f.fn ((execOp f.act.eval o).events P p #[])->∃u',aG P f fs u= .go f' fs' u' es/\PS Sh p' u'/\∀x∈es,Off Sh x:=by
       rintro f1 fs1 hg rfl rfl rfl rfl;refine⟨u',?_,hps,EO RI⟩;rw[e0];simp only[aJ,htd,ho,hwt,if_true];exact hg
      rcases wu hC (eval_func f.act) hop hrun with⟨v,rfl⟩|rfl|⟨g,xs,rfl,hg⟩
      iterate 3 (·simp only[FO.go.injEq]at e;exact goal _ _ (by unfold bU;rw[hu1,hu2]) e.1.symm e.2.1.symm e.2.2.1.symm e.2.2.2.symm)
    ·simp only[hwt]at e;simp only[Bool.false_eq_true,if_false,FO.go.injEq]at e;obtain⟨rfl,rfl,rfl,rfl⟩:=e;exact still rfl rfl (by rw[e0];simp[aJ,htd,ho,hwt])
  ·cases e
end Go.eO
