import Derived.StepT
import Derived.Laws.World
set_option linter.unusedSimpArgs false
namespace Go.Ren
variable{ρ ρ' J3:Array Nat}{b c i:Nat}{a a':Addr}{v v':Value}{c':Array Value}{o:Obj}{u p p' u' w:World}
def Ext(ρ ρ':Array Nat):Prop:=∀b c:Nat,ρ[b]? =some c->ρ'[b]? =some c
theorem Ext.refl(ρ:Array Nat):Ext ρ ρ:=fun _ _ h=>h
theorem Ext.trans(h:Ext ρ ρ')(h':Ext ρ' J3):Ext ρ J3:=fun b c x=>h' b c (h b c x)
theorem lt_of_some(h:ρ[b]? =some c):b<ρ.size:=by
 rcases Nat.lt_or_ge b ρ.size with h'|h'
 .exact h'
 .rw[Array.getElem?_eq_none h']at h;cases h
theorem Iq(n:Nat)(h:ρ[b]? =some c):(ρ.push n)[b]? =some c:=by
 have:=lt_of_some h;rw[Array.getElem?_push,if_neg (by omega)];exact h
theorem zu(ρ:Array Nat)(n:Nat):(ρ.push n)[ρ.size]? =some n:=by simp
theorem kZ{n:Nat}(h:(ρ.push n)[b]? =some c):ρ[b]? =some c\/(b=ρ.size/\c=n):=by
 rw[Array.getElem?_push]at h;split at h
 .rename_i e;exact .inr ⟨e,(Option.some.inj h).symm⟩
 .exact .inl h
theorem Ext.push(ρ:Array Nat)(n:Nat):Ext ρ (ρ.push n):=fun _ _ h=>Iq n h
def AR(ρ:Array Nat)(a a':Addr):Prop:=ρ[a.block]? =some a'.block/\a'.off=a.off/\a'.spot=a.spot
theorem AR.mono(h:AR ρ a a')(e:Ext ρ ρ'):AR ρ' a a':=⟨e _ _ h.1,h.2⟩
theorem AR.add(h:AR ρ a a')(n:Nat):AR ρ (a.add n) (a'.add n):=by
 unfold Addr.add;by_cases hn:n=0
 .simpa[hn]using h
 .simp only[hn,if_false];exact⟨h.1,by simp[h.2.1],rfl⟩
inductive VR(ρ:Array Nat):Value->Value->Prop
 |bool (b:Bool):VR ρ (.bool b) (.bool b)
 |int (k:IntKind) (n:Int):VR ρ (.int k n) (.int k n)
 |float (k:FloatKind) (n:Nat):VR ρ (.float k n) (.float k n)
 |complex (k:FloatKind) (n m:Nat):VR ρ (.complex k n m) (.complex k n m)
 |string (s:ByteArray):VR ρ (.string s) (.string s)
 |ZU:VR ρ (.pointer none) (.pointer none)
 |ptr {a a':Addr}:AR ρ a a'->VR ρ (.pointer (some a)) (.pointer (some a'))
 |Gg (l c:Nat):VR ρ (.slice none l c) (.slice none l c)
 |sl {a a':Addr} (l c:Nat):AR ρ a a'->VR ρ (.slice (some a) l c) (.slice (some a') l c)
 |mapN:VR ρ (.map none) (.map none)
 |map {r r':Nat}:ρ[r]? =some r'->VR ρ (.map (some r)) (.map (some r'))
 |oz:VR ρ (.chan none) (.chan none)
 |chan {r r':Nat}:ρ[r]? =some r'->VR ρ (.chan (some r)) (.chan (some r'))
 |func (fn:Fn) {f f' c c':Array Value}:f.size=f'.size->(∀(i:Nat) v v',f[i]? =some v->f'[i]? =some v'->VR ρ v v')->
  c.size=c'.size->(∀(i:Nat) v v',c[i]? =some v->c'[i]? =some v'->VR ρ v v')->VR ρ (.func fn f c) (.func fn f' c')
 |nilFunc:VR ρ .nilFunc .nilFunc
 |nilIface:VR ρ .nilIface .nilIface
 |iface (t:TypeId) {v v':Value}:VR ρ v v'->VR ρ (.iface t v) (.iface t v')
 |agg {c c':Array Value}:c.size=c'.size->(∀(i:Nat) v v',c[i]? =some v->c'[i]? =some v'->VR ρ v v')->VR ρ (.agg c) (.agg c')
 |tuple {c c':Array Value}:c.size=c'.size->(∀(i:Nat) v v',c[i]? =some v->c'[i]? =some v'->VR ρ v v')->VR ρ (.tuple c) (.tuple c')
theorem VR.mono(e:Ext ρ ρ')(h:VR ρ v v'):VR ρ' v v':=by
 induction h with
 |bool b=>exact .bool b
 |int k n=>exact .int k n
 |float k n=>exact .float k n
 |complex k n m=>exact .complex k n m
 |string s=>exact .string s
 |ZU=>exact .ZU
 |ptr h=>exact .ptr (h.mono e)
 |Gg l c=>exact .Gg l c
 |sl l c h=>exact .sl l c (h.mono e)
 |mapN=>exact .mapN
 |map h=>exact .map (e _ _ h)
 |oz=>exact .oz
 |chan h=>exact .chan (e _ _ h)
 |func fn h1 _ h2 _ ih1 ih2=>exact .func fn h1 (fun i v v' a b=>ih1 i v v' a b) h2 (fun i v v' a b=>ih2 i v v' a b)
 |nilFunc=>exact .nilFunc
 |nilIface=>exact .nilIface
 |iface t _ ih=>exact .iface t ih
 |agg h _ ih=>exact .agg h (fun i v v' a b=>ih i v v' a b)
 |tuple h _ ih=>exact .tuple h (fun i v v' a b=>ih i v v' a b)
inductive SV(ρ:Array Nat):Value->Value->Prop
 |bool (b:Bool):SV ρ (.bool b) (.bool b)
 |int (k:IntKind) (n:Int):SV ρ (.int k n) (.int k n)
 |Gg (l c:Nat):SV ρ (.slice none l c) (.slice none l c)
 |sl {a a':Addr} (l c:Nat):AR ρ a a'->SV ρ (.slice (some a) l c) (.slice (some a') l c)
 |oz:SV ρ (.chan none) (.chan none)
 |chan {r r':Nat}:ρ[r]? =some r'->SV ρ (.chan (some r)) (.chan (some r'))
 |undef:SV ρ (.tuple #[]) (.tuple #[])
theorem SV.mono(e:Ext ρ ρ')(h:SV ρ v v'):SV ρ' v v':=by
 cases h with
 |bool b=>exact .bool b
 |int k n=>exact .int k n
 |Gg l c=>exact .Gg l c
 |sl l c h=>exact .sl l c (h.mono e)
 |oz=>exact .oz
 |chan h=>exact .chan (e _ _ h)
 |undef=>exact .undef
theorem SV.val{ρ:Array Nat}{v v':Value}(h:SV ρ v v'):VR ρ v v':=by
 cases h with
 |bool b=>exact .bool b
 |int k n=>exact .int k n
 |Gg l c=>exact .Gg l c
 |sl l c h=>exact .sl l c h
 |oz=>exact .oz
 |chan h=>exact .chan h
 |undef=>exact .tuple rfl (fun i v v' h=>by simp at h)
theorem SV.cells(h:SV ρ v v'):v.cells=#[v]/\v'.cells=#[v']:=by cases h<;>exact⟨rfl,rfl⟩
def bF(ρ:Array Nat)(c c':Array Value):Prop:=c.size=c'.size/\∀(i:Nat) v v',c[i]? =some v->c'[i]? =some v'->SV ρ v v'
theorem bF.mono(e:Ext ρ ρ'){c:Array Value}(h:bF ρ c c'):bF ρ' c c':=⟨h.1,fun i v v' a b=>(h.2 i v v' a b).mono e⟩
theorem bF.get{c:Array Value}(h:bF ρ c c')(hv:c[i]? =some v):∃v',c'[i]? =some v'/\SV ρ v v':=by
 have ai:i<c.size:=by
  rcases Nat.lt_or_ge i c.size with h'|h'
  .exact h'
  .rw[Array.getElem?_eq_none h']at hv;cases hv
 have e:c'[i]? =some (c'[i]'(h.1▸ai)):=Array.getElem?_eq_getElem _;exact⟨_,e,h.2 i _ _ hv e⟩
def YF(ρ:Array Nat)(p:World)(e:Event):Prop:=
 (∃b c i wr,e=⟨.cell ⟨c,i,none⟩,wr,false⟩/\ρ[b]? =some c/\(p.cell? ⟨b,i,none⟩).isSome=true/\(wr=true->p.frozen? ⟨b,i,none⟩=false))\/
 e=⟨.mark .noRoom,false,true⟩\/∃f,e=⟨.mark (.extern f),false,true⟩
structure WR(ρ:Array Nat)(p u:World):Prop where
 size:ρ.size=p.heap.size
 rows:∀b:Nat,b<p.heap.size->∃c e fz,p.heap[b]? =some (.cells c e fz)
 inj:∀b b' c:Nat,ρ[b]? =some c->ρ[b']? =some c->b=b'
 low:∀b c:Nat,ρ[b]? =some c->c<u.heap.size
 cell:∀b i v,p.cell? ⟨b,i,none⟩=some v->∃c v',ρ[b]? =some c/\u.cell? ⟨c,i,none⟩=some v'/\SV ρ v v'
 free:∀b i c,(p.cell? ⟨b,i,none⟩).isSome=true->p.frozen? ⟨b,i,none⟩=false->ρ[b]? =some c->u.frozen? ⟨c,i,none⟩=false
 tape:u.tape=p.tape
 drawn:u.drawn=p.drawn
def Wr(p:World)(b:Nat):Prop:=∃i,(p.cell? ⟨b,i,none⟩).isSome=true/\p.frozen? ⟨b,i,none⟩=false
def plainO:Obj->Prop
 | .view ..| .pending .. =>False
 |_=>True
def IL(b:Nat):Obj->Prop
 | .pending .. =>4<=b
 |_=>True
theorem XE(h:plainO o)(b:Nat):IL b o:=by cases o<;>first|exact trivial|exact h.elim
def NV(u:World):Prop:=∀(b:Nat) o,u.heap[b]? =some o->IL b o
structure Grow(ρ:Array Nat)(p u:World)(ρ':Array Nat)(p' u':World):Prop where
 ext:Ext ρ ρ'
 NY:p.heap.size<=p'.heap.size
 xS:∀b i,b<p.heap.size->(p'.cell? ⟨b,i,none⟩).isSome=(p.cell? ⟨b,i,none⟩).isSome/\p'.frozen? ⟨b,i,none⟩=p.frozen? ⟨b,i,none⟩
 fresh:∀b c:Nat,p.heap.size<=b->ρ'[b]? =some c->u.heap.size<=c
 JN:u.heap.size<=u'.heap.size
 keep:∀c:Nat,c<u.heap.size->(∀b:Nat,ρ[b]? =some c->¬Wr p b)->u'.heap[c]? =u.heap[c]?
 ours:∀c:Nat,u.heap.size<=c->c<u'.heap.size->∃b:Nat,ρ'[b]? =some c
 YO:∀b:Nat,b<p.heap.size->¬Wr p b->p'.heap[b]? =p.heap[b]?
 os:u'.os=u.os
 output:u'.output=u.output
 tape:u'.tape=u.tape
 pos:p'.os=p.os
 N7:p'.output=p.output
 nv:NV u->NV u'
theorem L9(h:NV u)(ho:plainO o):NV (u.alloc o):=by
 intro b o' hb;simp only[World.alloc,Array.getElem?_push]at hb;split at hb
 .obtain rfl:=Option.some.inj hb;exact XE ho _
 .exact h b o' hb
theorem vI(h:NV u):NV (u.setCell a v):=by
 intro b o' hb;simp only[World.setCell,Array.getElem?_modify]at hb;split at hb
 .cases ho:u.heap[b]? with
  |none=>rw[ho]at hb;cases hb
  |some o=>
   rw[ho]at hb;have hp:=h b o ho;simp only[Option.map_some,Option.some.injEq]at hb;subst hb;cases o<;>first|exact hp|exact trivial
 .exact h b o' hb
theorem Grow.refl(h:WR ρ p u):Grow ρ p u ρ p u:=
 ⟨.refl _,Nat.le_refl _,fun _ _ _=>⟨rfl,rfl⟩,fun b c hb hc=>by have:=lt_of_some hc;have:=h.size;omega,Nat.le_refl _,fun _ _ _=>rfl,fun c h1 h2=>by omega,fun _ _ _=>rfl,rfl,rfl,rfl,rfl,rfl,id⟩
theorem Grow.wr(g:Grow ρ p u ρ' p' u')(hb:b<p.heap.size):Wr p' b↔Wr p b:=by
 unfold Wr;constructor
 .rintro⟨i,h1,h2⟩;exact⟨i,(g.xS b i hb).1▸h1,(g.xS b i hb).2▸h2⟩
 .rintro⟨i,h1,h2⟩;exact⟨i,(g.xS b i hb).1.symm▸h1,(g.xS b i hb).2.symm▸h2⟩
theorem Grow.trans{p'' u'':World}(h0:WR ρ p u)(h1:WR ρ' p' u')(g:Grow ρ p u ρ' p' u')(g':Grow ρ' p' u' J3 p'' u''):Grow ρ p u J3 p'' u'':=by
 refine⟨g.ext.trans g'.ext,Nat.le_trans g.NY g'.NY,fun b i hb=>?_,fun b c hb hc=>?_,Nat.le_trans g.JN g'.JN,fun c hc hn=>?_,fun c Im VC=>?_,fun b hb hn=>?_,g'.os.trans g.os,g'.output.trans g.output,g'.tape.trans g.tape,g'.pos.trans g.pos,g'.N7.trans g.N7,g'.nv∘g.nv⟩
 .have cU:b<p'.heap.size:=Nat.lt_of_lt_of_le hb g.NY;exact⟨(g'.xS b i cU).1.trans (g.xS b i hb).1,(g'.xS b i cU).2.trans (g.xS b i hb).2⟩
 .rcases Nat.lt_or_ge b p'.heap.size with ai|eJ
  .have hx:b<ρ'.size:=by rw[h1.size];exact ai
   have e:ρ'[b]? =some ρ'[b]:=Array.getElem?_eq_getElem hx;have:=g'.ext _ _ e;rw[hc]at this;obtain rfl:=Option.some.inj this;exact g.fresh b _ hb e
  .exact Nat.le_trans g.JN (g'.fresh b c eJ hc)
 .have e1:=g.keep c hc hn;have e2:=g'.keep c (Nat.lt_of_lt_of_le hc g.JN) (fun b hb hw=>by
   rcases Nat.lt_or_ge b p.heap.size with ai|eJ
   .have hx:b<ρ.size:=by rw[h0.size];exact ai
    have e:ρ[b]? =some ρ[b]:=Array.getElem?_eq_getElem hx;have:=g.ext _ _ e;rw[hb]at this;obtain rfl:=Option.some.inj this;exact hn b e ((g.wr ai).1 hw)
   .have:=g.fresh b c eJ hb;omega)
  exact e2.trans e1
 .rcases Nat.lt_or_ge c u'.heap.size with ai|eJ
  .obtain⟨b,hb⟩:=g.ours c Im ai;exact⟨b,g'.ext _ _ hb⟩
  .exact g'.ours c eJ VC
 .exact(g'.YO b (Nat.lt_of_lt_of_le hb g.NY) (fun hw=>hn ((g.wr hb).1 hw))).trans (g.YO b hb hn)
theorem YF.mono(h:WR ρ p u)(g:Grow ρ p u ρ' p' u'){e:Event}(he:YF ρ p e):YF ρ' p' e:=by
 rcases he with⟨b,c,i,wr,h1,h2,h3,h4⟩|h1|h1
 .have hb:b<p.heap.size:=h.size▸lt_of_some h2;exact .inl ⟨b,c,i,wr,h1,g.ext _ _ h2,(g.xS b i hb).1.symm▸h3,fun hw=>(g.xS b i hb).2.symm▸h4 hw⟩
 .exact .inr (.inl h1)
 .exact .inr (.inr h1)
def Bare:Mark->Prop
 | .noRoom| .extern _=>True
 |_=>False
def Bad{α:Type}:Result α->Prop
 | .halt (.stuck _) _=>True
 | .halt (.unsupported (.initOrder _)) _=>False
 | .halt (.unsupported _) _=>True
 |_=>False
theorem run_bind{P:Program}{α β:Type}(s:Sem α)(f:α->Sem β)(w:World):(s.bind f).run P w=match s.run P w with| .ok a w'=>(f a).run P w'| .halt h w'=>.halt h w':=by
 induction s generalizing w with
 |pure a=>simp[Sem.bind,Sem.run]
 |load m a k ih=>simp only[Sem.bind,Sem.run];(repeat' split)<;>simp_all
 |store m a v k ih=>cases v<;>simp only[Sem.bind,Sem.run]<;>(try ((repeat' split)<;>simp_all))
 |new o k ih=>simp[Sem.bind,Sem.run,ih]
 |shape r k ih=>simp[Sem.bind,Sem.run,ih]
 |freeze a n k ih=>simp[Sem.bind,Sem.run,ih]
 |frozen a k ih=>simp[Sem.bind,Sem.run,ih]
 |getObj r k ih=>simp only[Sem.bind,Sem.run];(repeat' split)<;>simp_all
 |setObj r o k ih=>simp only[Sem.bind,Sem.run];(repeat' split)<;>simp_all
 |choose q k ih=>simp only[Sem.bind,Sem.run];(repeat' split)<;>simp_all
 |sys c k ih=>simp[Sem.bind,Sem.run,ih]
 |program k ih=>simp[Sem.bind,Sem.run,ih]
 |mark m k ih=>simp[Sem.bind,Sem.run,ih]
 |halt h=>simp[Sem.bind,Sem.run]
theorem Bad.bind{P:Program}{α β:Type}{s:Sem α}{f:α->Sem β}(h:Bad (s.run P w)):Bad ((s.bind f).run P w):=by
 rw[run_bind];cases hr:s.run P w with
 |ok a w'=>rw[hr]at h;exact h.elim
 |halt x w'=>
  rw[hr]at h;cases x<;>first|exact h|(rename_i y;cases y<;>exact h)
inductive SR(P:Program){α β:Type}(A:Array Nat->α->β->Prop):Array Nat->Sem α->Sem β->Prop
 |pure {ρ:Array Nat} {a:α} {b:β}:A ρ a b->SR P A ρ (.pure a) (.pure b)
 |load {ρ:Array Nat} {a a':Addr} {k:Value->Sem α} {k':Value->Sem β}:AR ρ a a'->(∀v v',SV ρ v v'->SR P A ρ (k v) (k' v'))->SR P A ρ (.load .plain a k) (.load .plain a' k')
 |store {ρ:Array Nat} {a a':Addr} {v v':Value} {k:Sem α} {k':Sem β}:AR ρ a a'->SV ρ v v'->SR P A ρ k k'->SR P A ρ (.store .plain a v k) (.store .plain a' v' k')
 |new {ρ:Array Nat} {c c':Array Value} {e:TypeId} {k:Nat->Sem α} {k':Nat->Sem β}:bF ρ c c'->(∀n,SR P A (ρ.push n) (k ρ.size) (k' n))->SR P A ρ (.new (.cells c e) k) (.new (.cells c' e) k')
 |choose {ρ:Array Nat} {q:Question} {k:Nat->Sem α} {k':Nat->Sem β}:(∀n,SR P A ρ (k n) (k' n))->SR P A ρ (.choose q k) (.choose q k')
 |program {ρ:Array Nat} {k:Program->Sem α} {k':Program->Sem β}:SR P A ρ (k P) (k' P)->SR P A ρ (.program k) (.program k')
 |mark {ρ:Array Nat} {m:Mark} {k:Sem α} {k':Sem β}:Bare m->SR P A ρ k k'->SR P A ρ (.mark m k) (.mark m k')
 |dK {ρ:Array Nat} {s:Sem α} {s':Sem β}:(∀p,Bad (s.run P p))->SR P A ρ s s'
 |panic {ρ:Array Nat} {v v':Value}:VR ρ v v'->SR P A ρ (.halt (.panic v)) (.halt (.panic v'))
theorem SR.bind{P:Program}{α β γ δ:Type}{A:Array Nat->α->β->Prop}{B:Array Nat->γ->δ->Prop}{s:Sem α}{s':Sem β}{f:α->Sem γ}{f':β->Sem δ}
  (h:SR P A ρ s s')(hk:∀ρ' a b,Ext ρ ρ'->A ρ' a b->SR P B ρ' (f a) (f' b)):SR P B ρ (s.bind f) (s'.bind f'):=by
 induction h with
 |pure ha=>exact hk _ _ _ (.refl _) ha
 |load ha _ ih=>exact .load ha (fun v v' hv=>ih v v' hv hk)
 |store ha hv _ ih=>exact .store ha hv (ih hk)
 |new hc _ ih=>exact .new hc (fun n=>ih n (fun ρ' a b e hA=>hk ρ' a b ((Ext.push _ _).trans e) hA))
 |choose _ ih=>exact .choose (fun n=>ih n hk)
 |program _ ih=>exact .program (ih hk)
 |mark hm _ ih=>exact .mark hm (ih hk)
 |dK hb=>exact .dK fun p=>(hb p).bind
 |panic hv=>exact .panic hv
theorem SR.mono{P:Program}{α β:Type}{A B:Array Nat->α->β->Prop}{s:Sem α}{s':Sem β}(h:SR P A ρ s s')(hk:∀ρ' a b,Ext ρ ρ'->A ρ' a b->B ρ' a b):SR P B ρ s s':=by
 induction h with
 |pure ha=>exact .pure (hk _ _ _ (.refl _) ha)
 |load ha _ ih=>exact .load ha (fun v v' hv=>ih v v' hv hk)
 |store ha hv _ ih=>exact .store ha hv (ih hk)
 |new hc _ ih=>exact .new hc (fun n=>ih n (fun ρ' a b e hA=>hk ρ' a b ((Ext.push _ _).trans e) hA))
 |choose _ ih=>exact .choose (fun n=>ih n hk)
 |program _ ih=>exact .program (ih hk)
 |mark hm _ ih=>exact .mark hm (ih hk)
 |dK hb=>exact .dK hb
 |panic hv=>exact .panic hv
theorem WR.Oa{P:Program}(h:WR ρ p u)(a:Addr)(m:Bool):∃why,p.farLoad P a m= .error (.stuck why):=by
 unfold World.farLoad World.noCell;rcases Nat.lt_or_ge a.block p.heap.size with ai|eJ
 .obtain⟨c,e,fz,hr⟩:=h.rows _ ai;rw[hr];exact⟨_,rfl⟩
 .rw[Array.getElem?_eq_none eJ];exact⟨_,rfl⟩
theorem WR.IY{P:Program}(h:WR ρ p u)(a:Addr)(v:Value)(m:Bool):∃why,p.farStore P a v m= .error (.stuck why):=by
 unfold World.farStore World.noCell;rcases Nat.lt_or_ge a.block p.heap.size with ai|eJ
 .obtain⟨c,e,fz,hr⟩:=h.rows _ ai;rw[hr];exact⟨_,rfl⟩
 .rw[Array.getElem?_eq_none eJ];exact⟨_,rfl⟩
theorem kM(h:w.cell? a=some v):a.spot=none:=by
 unfold World.cell? at h;split at h
 .split at h
  .cases h
  .rename_i hs;simpa using hs
 .cases h
theorem yC(h:w.cell? ⟨b,i,none⟩=some v):b<w.heap.size:=by
 unfold World.cell? at h;rcases Nat.lt_or_ge b w.heap.size with ai|eJ
 .exact ai
 .rw[show w.heap[(⟨b,i,none⟩:Addr).block]? =none from Array.getElem?_eq_none eJ]at h;cases h
theorem heap_setCell_other(h:b≠a.block):(w.setCell a v).heap[b]? =w.heap[b]? :=by
 unfold World.setCell;simp only[Array.getElem?_modify];rw[if_neg (fun e=>h e.symm)]
theorem size_setCell:(w.setCell a v).heap.size=w.heap.size:=by simp[World.setCell]
theorem lG{b:Addr}:((w.setCell a v).cell? b).isSome=(w.cell? b).isSome:=by
 by_cases h:a=b
 .subst h;cases hc:w.cell? a with
  |some x=>rw[World.cell?_setCell_same _ _ _ hc];rfl
  |none=>
   unfold World.cell? World.setCell at*;simp only[Array.getElem?_modify,if_true]at*;cases hb:w.heap[a.block]? with
   |none=>simp
   |some o=>
    rw[hb]at hc;cases o with
    |cells c e fz=>
     simp only[Option.map_some]at hc⊢;split
     .simp
     .rename_i hs;simp only[hs]at hc;simp only[Option.isSome_none,Bool.false_eq_true,if_false]at*;rw[Array.getElem?_eq_none_iff]at hc;simp[hc]
    |_=>simp
 .rw[World.cell?_setCell_other _ _ _ _ h]
theorem WR.store{ρ:Array Nat}{p u:World}(h:WR ρ p u){a a':Addr}{v v' x:Value}(ha:AR ρ a a')(hx:p.cell? a=some x)(hf:p.frozen? a=false)(hv:SV ρ v v'):
  u.frozen? a'=false/\(∃x',u.cell? a'=some x')/\WR ρ (p.setCell a v) (u.setCell a' v')/\Grow ρ p u ρ (p.setCell a v) (u.setCell a' v'):=by
 obtain⟨b,i,sp⟩:=a;obtain⟨c,i',sp'⟩:=a';obtain rfl:sp=none:=kM hx;obtain⟨oS,pN,pM⟩:=ha;simp only at oS pN pM;subst pN pM;obtain⟨c1,x',dr,lE,_⟩:=h.cell b i' x hx;obtain rfl:c1=c:=Option.some.inj (dr.symm.trans oS);have Nd:=h.free b i' c1 (by rw[hx];rfl) hf oS;refine⟨Nd,⟨x',lE⟩,?_,?_⟩
 .refine⟨by rw[size_setCell];exact h.size,fun b' cU=>?_,h.inj,fun b' c' lA=>by rw[size_setCell];exact h.low b' c' lA,fun b' j y hy=>?_,fun b' j c' hs pL lA=>?_,h.tape,h.drawn⟩
  .rw[size_setCell]at cU;obtain⟨cs,e,fz,hr⟩:=h.rows b' cU;by_cases e':b'=b
   .subst e';refine⟨cs.setIfInBounds i' v,e,fz,?_⟩;simp[World.setCell,Array.getElem?_modify,hr]
   .exact⟨cs,e,fz,by rw[heap_setCell_other (by exact e')];exact hr⟩
  .by_cases e':(⟨b,i',none⟩:Addr)=⟨b',j,none⟩
   .simp only[Addr.mk.injEq,and_true]at e';obtain⟨rfl,rfl⟩:=e';rw[World.cell?_setCell_same _ _ _ hx]at hy;obtain rfl:=Option.some.inj hy;exact⟨c1,v',oS,World.cell?_setCell_same _ _ _ lE,hv⟩
   .rw[World.cell?_setCell_other _ _ _ _ e']at hy;obtain⟨c',y',lA,Pw,hvr⟩:=h.cell b' j y hy;refine⟨c',y',lA,?_,hvr⟩;rw[World.cell?_setCell_other]
    .exact Pw
    .intro e2;simp only[Addr.mk.injEq,and_true]at e2;obtain⟨rfl,rfl⟩:=e2;exact e' (by rw[h.inj b b' _ oS lA])
  .rw[lG]at hs;rw[World.frozen?_setCell]at pL⊢;exact h.free b' j c' hs pL lA
 .refine⟨.refl _,by rw[size_setCell];exact Nat.le_refl _,fun b' j _=>⟨lG,World.frozen?_setCell ..⟩,fun b' c' cU lA=>by have:=lt_of_some lA;have:=h.size;omega,by rw[size_setCell];exact Nat.le_refl _,
   fun c' _ hn=>?_,fun c' h1 h2=>by rw[size_setCell]at h2;omega,fun b' _ hn=>?_,rfl,rfl,rfl,rfl,rfl,fun h=>vI h⟩
  .refine heap_setCell_other fun e'=>hn b (e'▸oS) ⟨i',by rw[hx];rfl,hf⟩
  .refine heap_setCell_other fun e'=>hn (e'▸⟨i',by rw[hx];rfl,hf⟩)
theorem oC{c:Array Value}{e:TypeId}:(w.alloc (.cells c e)).cell? ⟨w.heap.size,i,none⟩=c[i]? :=World.cell?_alloc_new w c e i
theorem iB(h:b<w.heap.size):(w.alloc o).cell? ⟨b,i,none⟩=w.cell? ⟨b,i,none⟩:=World.cell?_alloc_old w o _ (by show b≠_;omega)
theorem jD(h:b<w.heap.size):(w.alloc o).frozen? ⟨b,i,none⟩=w.frozen? ⟨b,i,none⟩:=World.frozen?_alloc_old w o _ (by show b≠_;omega)
theorem heap_alloc_old(h:b<w.heap.size):(w.alloc o).heap[b]? =w.heap[b]? :=by
 simp only[World.alloc,Array.getElem?_push];rw[if_neg (by omega)]
theorem size_alloc:(w.alloc o).heap.size=w.heap.size+1:=Array.size_push _
theorem heap_alloc_new:(w.alloc o).heap[w.heap.size]? =some o:=Array.getElem?_push_size
theorem WR.new{ρ:Array Nat}{p u:World}(h:WR ρ p u){c c':Array Value}(e:TypeId)(hc:bF ρ c c'):
  WR (ρ.push u.heap.size) (p.alloc (.cells c e)) (u.alloc (.cells c' e))/\Grow ρ p u (ρ.push u.heap.size) (p.alloc (.cells c e)) (u.alloc (.cells c' e)):=by
 have hs:=h.size;refine⟨⟨by rw[size_alloc,Array.size_push,hs],fun b hb=>?_,fun b b' x h1 h2=>?_,fun b x h1=>?_,fun b i v hv=>?_,fun b i x h1 h2 h3=>?_,h.tape,h.drawn⟩,?_⟩
 .rw[size_alloc]at hb;rcases Nat.lt_or_ge b p.heap.size with ai|eJ
  .rw[heap_alloc_old ai];exact h.rows b ai
  .obtain rfl:b=p.heap.size:=by omega
   exact⟨c,e,(0,0),heap_alloc_new⟩
 .rcases kZ h1 with h1|⟨e1,e2⟩<;>rcases kZ h2 with h2|⟨e3,e4⟩
  .exact h.inj b b' x h1 h2
  .have:=h.low b _ h1;omega
  .have:=h.low b' _ h2;omega
  .omega
 .rw[size_alloc];rcases kZ h1 with h1|⟨rfl,rfl⟩
  .have:=h.low b x h1;omega
  .omega
 .have hb:=yC hv;rw[size_alloc]at hb;rcases Nat.lt_or_ge b p.heap.size with ai|eJ
  .rw[iB ai]at hv;obtain⟨x,v',h1,h2,h3⟩:=h.cell b i v hv;exact⟨x,v',Iq _ h1,by rw[iB (h.low b x h1)];exact h2,h3.mono (.push _ _)⟩
  .obtain rfl:b=p.heap.size:=by omega
   rw[oC]at hv;obtain⟨v',h1,h2⟩:=hc.get hv;exact⟨u.heap.size,v',by rw[<-hs];exact zu _ _,by rw[oC];exact h1,h2.mono (.push _ _)⟩
 .rcases kZ h3 with h3|⟨rfl,rfl⟩
  .have ai:b<p.heap.size:=hs▸lt_of_some h3;rw[iB ai]at h1;rw[jD ai]at h2;rw[jD (h.low b x h3)];exact h.free b i x h1 h2 h3
  .exact World.frozen?_alloc_new u c' e i
 .refine⟨.push _ _,by rw[size_alloc];omega,fun b i hb=>⟨by rw[iB hb],jD hb⟩,fun b x hb hx=>?_,by rw[size_alloc];omega,fun x hx _=>heap_alloc_old hx,fun x h1 h2=>?_,fun b hb _=>heap_alloc_old hb,rfl,rfl,rfl,rfl,rfl,fun h=>L9 h trivial⟩
  .rcases kZ hx with hx|⟨rfl,rfl⟩
   .have:=lt_of_some hx;omega
   .exact Nat.le_refl _
  .rw[size_alloc]at h2;obtain rfl:x=u.heap.size:=by omega
   exact⟨ρ.size,zu _ _⟩
def RQ(P:Program){α β:Type}(A:Array Nat->α->β->Prop)(ρ:Array Nat)(p u:World)(s':Sem β):Result α->Prop
 | .ok a p'=>∀es,∃ρ' b u' es',s'.runT P u es=(.ok b u',es++es')/\A ρ' a b/\WR ρ' p' u'/\Grow ρ p u ρ' p' u'/\∀e∈es',YF ρ' p' e
 | .halt (.panic v) p'=>∀es,∃ρ' v' u' es',s'.runT P u es=(.halt (.panic v') u',es++es')/\VR ρ' v v'/\WR ρ' p' u'/\Grow ρ p u ρ' p' u'/\∀e∈es',YF ρ' p' e
 |r=>Bad r
theorem RQ.after{P:Program}{α β:Type}{A:Array Nat->α->β->Prop}{Ns:Array Nat}{p₁ u₁:World}{s' s₁:Sem β}{r:Result α}{ev:Array Event}
  (h0:WR ρ p u)(h1:WR Ns p₁ u₁)(g:Grow ρ p u Ns p₁ u₁)(dt:∀e∈ev,YF Ns p₁ e)(hs:∀es,s'.runT P u es=s₁.runT P u₁ (es++ev))(h:RQ P A Ns p₁ u₁ s₁ r):RQ P A ρ p u s' r:=by
 match r,h with
 |.ok a p',h=>
  intro es;obtain⟨ρ',b,u',es',e1,hA,hW,hG,hE⟩:=h (es++ev);refine⟨ρ',b,u',ev++es',by rw[hs,e1,Array.append_assoc],hA,hW,g.trans h0 h1 hG,fun e he=>?_⟩;rcases Array.mem_append.1 he with he|he
  .exact(dt e he).mono h1 hG
  .exact hE e he
 |.halt (.panic v) p',h=>
  intro es;obtain⟨ρ',b,u',es',e1,hA,hW,hG,hE⟩:=h (es++ev);refine⟨ρ',b,u',ev++es',by rw[hs,e1,Array.append_assoc],hA,hW,g.trans h0 h1 hG,fun e he=>?_⟩;rcases Array.mem_append.1 he with he|he
  .exact(dt e he).mono h1 hG
  .exact hE e he
 | .halt .blocked _,h| .halt .waiting _,h| .halt (.exit _) _,h| .halt (.fatal _) _,h| .halt (.throw _) _,h| .halt .goexit _,h| .halt (.unsupported _) _,h| .halt (.stuck _) _,h=>exact h
theorem SR.run{P:Program}{α β:Type}{A:Array Nat->α->β->Prop}{s:Sem α}{s':Sem β}(h:SR P A ρ s s'):∀p u,WR ρ p u->RQ P A ρ p u s' (s.run P p):=by
 induction h with
 |pure ha=>exact fun p u hw es=>⟨_,_,u,#[],by simp only[Sem.runT,Array.append_empty],ha,hw,.refl hw,fun e he=>by simp at he⟩
 |@load ρ a a' k k' ha _ ih=>
  intro p u hw;simp only[Sem.run];cases hc:p.cell? a with
  |none=>
   obtain⟨why,e⟩:=hw.Oa (P:=P) a (Mode.plain== .atomic);simp only[e];trivial
  |some v=>
   simp only;obtain⟨b,i,sp⟩:=a;obtain⟨c,i',sp'⟩:=a';obtain rfl:sp=none:=kM hc;obtain⟨oS,pN,pM⟩:=ha;simp only at oS pN pM;subst pN pM;obtain⟨c1,v',h1,h2,h3⟩:=hw.cell b i' v hc;obtain rfl:c1=c:=Option.some.inj (h1.symm.trans oS);refine RQ.after hw hw (.refl hw) (ev:=#[⟨.cell ⟨c1,i',none⟩,false,false⟩]) (fun e he=>?_) (fun es=>?_) (ih v v' h3 p u hw)
   .simp at he;subst he;exact .inl ⟨b,c1,i',false,rfl,oS,by rw[hc];rfl,fun x=>by cases x⟩
   .simp only[Sem.runT,h2];rfl
 |@store ρ a a' v v' k k' ha hv _ ih=>
  intro p u hw;have key:v≠.tuple #[]->RQ P A ρ p u (Sem.store .plain a' v' k') (match p.cell? a with
    |some _=>if p.frozen? a=true then .halt (.unsupported (.unsafePointer "a write to bytes that a string shares")) p else k.run P (p.setCell a v)
    |none=>match p.farStore P a v (Mode.plain== .atomic)with
     | .ok (w,_)=>k.run P w
     | .error h=>.halt h p):=by
   intro qe;cases hc:p.cell? a with
   |none=>
    obtain⟨why,e⟩:=hw.IY (P:=P) a v (Mode.plain== .atomic);simp only[e];trivial
   |some x=>
    simp only;cases hf:p.frozen? a with
    |true=>simp only[if_true];trivial
    |false=>
     simp only[Bool.false_eq_true,if_false];obtain⟨f1,⟨x',f2⟩,f3,f4⟩:=hw.store ha hc hf hv;have sp:=kM hc;refine RQ.after hw f3 f4 (ev:=#[⟨.cell a',true,false⟩]) (fun e he=>?_) (fun es=>?_) (ih _ _ f3)
     .simp at he;subst he;obtain⟨b,i,sp0⟩:=a;obtain⟨c,i',sp'⟩:=a';obtain⟨oS,pN,pM⟩:=ha;simp only at oS pN pM sp;subst sp pN pM;exact .inl ⟨b,c,i',true,rfl,oS,by rw[lG,hc];rfl,fun _=>by rw[World.frozen?_setCell];exact hf⟩
     .cases hv<;>first|exact absurd rfl qe|(simp only[Sem.runT,f2,f1];rfl)
  cases hv<;>first|exact key (fun e=>by cases e)|(simp only[Sem.run];trivial)
 |@new ρ c c' e k k' hc _ ih=>
  intro p u hw;simp only[Sem.run];obtain⟨f1,f2⟩:=hw.new e hc;have:=ih u.heap.size _ _ f1;rw[hw.size]at this;refine RQ.after hw f1 f2 (ev:=#[]) (fun e he=>by simp at he) (fun es=>?_) this;simp only[Sem.runT,Array.append_empty];rfl
 |@choose ρ q k k' _ ih=>
  intro p u hw;simp only[Sem.run];cases hq:q.forced with
  |true=>
   simp only[if_true];exact RQ.after hw hw (.refl hw) (ev:=#[]) (fun e he=>by simp at he) (fun es=>by simp only[Sem.runT,hq,if_true,Array.append_empty]) (ih 0 p u hw)
  |false=>
   simp only[Bool.false_eq_true,if_false];have lp:WR ρ {p with drawn:=p.drawn+1} {u with drawn:=u.drawn+1}:=⟨hw.size,hw.rows,hw.inj,hw.low,hw.cell,hw.free,hw.tape,by rw[hw.drawn]⟩;have hg:Grow ρ p u ρ {p with drawn:=p.drawn+1} {u with drawn:=u.drawn+1}:=
    ⟨.refl _,Nat.le_refl _,fun _ _ _=>⟨rfl,rfl⟩,fun b c hb hc=>by have:=lt_of_some hc;have:=hw.size;omega,Nat.le_refl _,fun _ _ _=>rfl,fun c h1 h2=>by simp only at h2;omega,fun _ _ _=>rfl,rfl,rfl,rfl,rfl,rfl,id⟩
   refine RQ.after hw lp hg (ev:=#[]) (fun e he=>by simp at he) (fun es=>?_) (ih _ _ _ lp);simp only[Sem.runT,hq,Bool.false_eq_true,if_false,Array.append_empty,hw.tape,hw.drawn]
 |program _ ih=>
  intro p u hw;simp only[Sem.run];exact RQ.after hw hw (.refl hw) (ev:=#[]) (fun e he=>by simp at he) (fun es=>by simp only[Sem.runT,Array.append_empty]) (ih p u hw)
 |@mark ρ m k k' hm _ ih=>
  intro p u hw;simp only[Sem.run];refine RQ.after hw hw (.refl hw) (ev:=#[⟨.mark m,false,true⟩]) (fun e he=>?_) (fun es=>by simp only[Sem.runT];rfl) (ih p u hw);simp at he;subst he;cases m<;>first|exact hm.elim|exact .inr (.inl rfl)|exact .inr (.inr ⟨_,rfl⟩)
 |@dK ρ s s' hb=>
  intro p u hw;have:=hb p;cases hr:s.run P p with
  |ok a p'=>rw[hr]at this;exact this.elim
  |halt x p'=>rw[hr]at this;cases x<;>first|exact this.elim|exact this
 |panic hv=>exact fun p u hw es=>⟨_,_,u,#[],by simp only[Sem.runT,Array.append_empty],hv,hw,.refl hw,fun e he=>by simp at he⟩
end Go.Ren
namespace Go.bn
def _root_.Go.World.re(w:World)(τ:Nat->Question->Nat)(d:Nat):World:= {w with tape:=τ,drawn:=d}
theorem lS(w:World):w.re w.tape w.drawn=w:=rfl
theorem NW(w:World)(τ uT:Nat->Question->Nat)(d d':Nat):(w.re τ d).re uT d'=w.re uT d':=rfl
theorem M0(P:Program)(w:World)(τ:Nat->Question->Nat)(d:Nat)(a:Addr)(m:Bool):(w.re τ d).farLoad P a m=w.farLoad P a m:=rfl
theorem map_bind{α β γ:Type}(f:β->γ)(x:Except String α)(g:α->Except String β):(x >>= g).map f=x >>= fun a=>(g a).map f:=by cases x<;>rfl
theorem Eo(P:Program)(w:World)(τ:Nat->Question->Nat)(d:Nat)(at_:Addr)(u:TypeId)(k:Addr)(v:Value)(m:Bool):
  (w.re τ d).viewStore P at_ u k v m=(w.viewStore P at_ u k v m).map fun x=>(x.1.re τ d,x.2):=by
 have hs:(w.re τ d).seen P at_ u k m=w.seen P at_ u k m:=rfl;unfold World.viewStore;rw[hs];dsimp only;split
 .rfl
 .rw[map_bind];congr 1
  funext x;obtain⟨c,e,frozen,first,like,cells⟩:=x;dsimp only;split
  .split
   .rfl
   .rw[map_bind];rfl
  .rfl
theorem xG(P:Program)(w:World)(τ:Nat->Question->Nat)(d:Nat)(a:Addr)(v:Value)(m:Bool):(w.re τ d).farStore P a v m=(w.farStore P a v m).map fun x=>(x.1.re τ d,x.2):=by
 unfold World.farStore;have hh:(w.re τ d).heap=w.heap:=rfl;rw[hh];split
 .rename_i at_ u _;rw[Eo];cases w.viewStore P at_ u a v m<;>rfl
 .rfl
theorem Am{P:Program}{w w':World}{a:Addr}{v:Value}{m:Bool}{l:List Addr}(h:w.farStore P a v m= .ok (w',l)):w'.tape=w.tape/\w'.drawn=w.drawn:=by
 have:=xG P w w.tape w.drawn a v m;rw[lS,h]at this;simp only[Except.map,Except.ok.injEq,Prod.mk.injEq,and_true]at this;rw[this];exact⟨rfl,rfl⟩
inductive Pl(P:Program){α:Type}:Sem α->Prop
 |pure (a:α):Pl P (.pure a)
 |load (m:Mode) (a:Addr) {k:Value->Sem α}:(∀v,Pl P (k v))->Pl P (.load m a k)
 |store (m:Mode) (a:Addr) (v:Value) {k:Sem α}:Pl P k->Pl P (.store m a v k)
 |new (o:Obj) {k:Nat->Sem α}:(∀n,Pl P (k n))->Pl P (.new o k)
 |shape (r:Nat) {k:Option (TypeId×Nat)->Sem α}:(∀x,Pl P (k x))->Pl P (.shape r k)
 |freeze (a:Addr) (n:Nat) {k:Sem α}:Pl P k->Pl P (.freeze a n k)
 |frozen (a:Addr) {k:Bool->Sem α}:(∀x,Pl P (k x))->Pl P (.frozen a k)
 |getObj (r:Nat) {k:Obj->Sem α}:(∀x,Pl P (k x))->Pl P (.getObj r k)
 |setObj (r:Nat) (o:Obj) {k:Sem α}:Pl P k->Pl P (.setObj r o k)
 |choose (q:Question) {k:Nat->Sem α}:(∀n,Pl P (k n))->Pl P (.choose q k)
 |env {k:SysRet->Sem α}:(∀x,Pl P (k x))->Pl P (.sys .env k)
 |program {k:Program->Sem α}:Pl P (k P)->Pl P (.program k)
 |mark (m:Mark) {k:Sem α}:Pl P k->Pl P (.mark m k)
 |halt (h:Halt):Pl P (.halt h)
 |dK {s:Sem α}:(∀w a w',s.run P w≠.ok a w')->Pl P s
theorem Pl.again{P:Program}{α:Type}{s:Sem α}(h:Pl P s):∀(w:World) (es:Array Event) (a:α) (w':World) (es':Array Event),s.runT P w es=(.ok a w',es')->
  w'.tape=w.tape/\∃m,w'.drawn=w.drawn+m/\∀τ d,(∀i,i<m->τ (d+i)=w.tape (w.drawn+i))->s.runT P (w.re τ d) es=(.ok a (w'.re τ (d+m)),es'):=by
 induction h with
 |pure a=>
  intro w es a' w' es' h;simp only[Sem.runT,Prod.mk.injEq,Result.ok.injEq]at h;obtain⟨⟨rfl,rfl⟩,rfl⟩:=h;exact⟨rfl,0,rfl,fun τ d _=>rfl⟩
 |@load m a k _ ih=>
  intro w es a' w' es' h;simp only[Sem.runT]at h;have hc:∀τ d,(w.re τ d).cell? a=w.cell? a:=fun _ _=>rfl;cases bm:w.cell? a with
  |some v=>
   simp only[bm]at h;obtain⟨h1,n,h2,h3⟩:=ih v w _ a' w' es' h;refine⟨h1,n,h2,fun τ d hd=>?_⟩;simp only[Sem.runT,hc,bm];exact h3 τ d hd
  |none=>
   simp only[bm]at h;cases im:w.farLoad P a (m== .atomic)with
   |error e=>simp only[im]at h;cases h
   |ok x=>
    obtain⟨v,t⟩:=x;simp only[im]at h;obtain⟨h1,n,h2,h3⟩:=ih v w _ a' w' es' h;refine⟨h1,n,h2,fun τ d hd=>?_⟩;simp only[Sem.runT,hc,bm,M0,im];exact h3 τ d hd
 |@store m a v k _ ih=>
  intro w es a' w' es' h;have hc:∀τ d,(w.re τ d).cell? a=w.cell? a:=fun _ _=>rfl;have hz:∀τ d,(w.re τ d).frozen? a=w.frozen? a:=fun _ _=>rfl;have hs:∀τ d,(w.re τ d).setCell a v=(w.setCell a v).re τ d:=fun _ _=>rfl;have key:(∀c,v≠.agg c)->(∀c,v≠.tuple c)->w'.tape=w.tape/\∃m,w'.drawn=w.drawn+m/\∀τ d,(∀i,i<m->τ (d+i)=w.tape (w.drawn+i))->(Sem.store ‹Mode› a v k).runT P (w.re τ d) es=(.ok a' (w'.re τ (d+m)),es'):=by
   intro ha ht;have e:∀u:World,(Sem.store m a v k).runT P u es=(match u.cell? a with
    |some _=>if u.frozen? a then(.halt (.unsupported (.unsafePointer "a write to bytes that a string shares")) u,es)else k.runT P (u.setCell a v) (es.push ⟨.cell a,true,m== .atomic⟩)
    |none=>match u.farStore P a v (m== .atomic)with
     | .ok (w,touched)=>k.runT P w (es++touched.toArray.map (⟨.cell ·,true,m== .atomic⟩))
     | .error h=>(.halt h u,es)):=by
    intro u;cases v<;>first|exact absurd rfl (ha _)|exact absurd rfl (ht _)|rfl
   rw[e]at h;cases bm:w.cell? a with
   |some x=>
    simp only[bm]at h;cases gC:w.frozen? a with
    |true=>simp only[gC,if_true]at h;cases h
    |false=>
     simp only[gC,Bool.false_eq_true,if_false]at h;obtain⟨h1,n,h2,h3⟩:=ih _ _ a' w' es' h;refine⟨h1,n,h2,fun τ d hd=>?_⟩;rw[e];simp only[hc,bm,hz,gC,hs,Bool.false_eq_true,if_false];exact h3 τ d hd
   |none=>
    simp only[bm]at h;cases im:w.farStore P a v (m== .atomic)with
    |error x=>simp only[im]at h;cases h
    |ok x=>
     obtain⟨w1,t⟩:=x;simp only[im]at h;obtain⟨k1,k2⟩:=Am im;obtain⟨h1,n,h2,h3⟩:=ih _ _ a' w' es' h;refine⟨h1.trans k1,n,by rw[h2,k2],fun τ d hd=>?_⟩;rw[e];simp only[hc,bm,xG,im,Except.map];exact h3 τ d (fun i hi=>by rw[hd i hi,k1,k2])
  cases v<;>first|(simp only[Sem.runT]at h;cases h;done)|exact key (fun _ e=>by cases e) (fun _ e=>by cases e)
 |@new o k _ ih=>
  intro w es a' w' es' h;simp only[Sem.runT]at h;obtain⟨h1,n,h2,h3⟩:=ih _ _ _ a' w' es' h;exact⟨h1,n,h2,fun τ d hd=>by simp only[Sem.runT];exact h3 τ d hd⟩
 |@shape r k _ ih=>
  intro w es a' w' es' h;simp only[Sem.runT]at h;obtain⟨h1,n,h2,h3⟩:=ih _ _ _ a' w' es' h;exact⟨h1,n,h2,fun τ d hd=>by simp only[Sem.runT];exact h3 τ d hd⟩
 |@freeze a n k _ ih=>
  intro w es a' w' es' h;simp only[Sem.runT]at h;obtain⟨h1,m,h2,h3⟩:=ih _ _ a' w' es' h;have k1:(w.freeze a n).tape=w.tape/\(w.freeze a n).drawn=w.drawn:=by unfold World.freeze;split<;>exact⟨rfl,rfl⟩
  have k2:∀τ d,(w.re τ d).freeze a n=(w.freeze a n).re τ d:=by intro τ d;unfold World.freeze;split<;>rfl
  refine⟨h1.trans k1.1,m,by rw[h2,k1.2],fun τ d hd=>?_⟩;simp only[Sem.runT,k2];exact h3 τ d (fun i hi=>by rw[hd i hi,k1.1,k1.2])
 |@frozen a k _ ih=>
  intro w es a' w' es' h;simp only[Sem.runT]at h;obtain⟨h1,n,h2,h3⟩:=ih _ _ _ a' w' es' h;exact⟨h1,n,h2,fun τ d hd=>by simp only[Sem.runT];exact h3 τ d hd⟩
 |@getObj r k _ ih=>
  intro w es a' w' es' h;have hh:∀τ d,(w.re τ d).heap=w.heap:=fun _ _=>rfl;simp only[Sem.runT]at h;split at h
  .cases h
  .rename_i o bd ho;obtain⟨h1,n,h2,h3⟩:=ih _ _ _ a' w' es' h;refine⟨h1,n,h2,fun τ d hd=>?_⟩;simp only[Sem.runT,hh,ho];cases o<;>first|exact absurd ho (bd _ _ _)|exact h3 τ d hd
  .cases h
 |@setObj r o k _ ih=>
  intro w es a' w' es' h;have hh:∀τ d,(w.re τ d).heap=w.heap:=fun _ _=>rfl;simp only[Sem.runT]at h;split at h
  .cases h
  .rename_i x bd ho;obtain⟨h1,n,h2,h3⟩:=ih _ _ a' w' es' h;refine⟨h1,n,h2,fun τ d hd=>?_⟩;simp only[Sem.runT,hh,ho];cases x<;>first|exact absurd ho (bd _ _ _)|exact h3 τ d hd
  .cases h
 |@choose q k _ ih=>
  intro w es a' w' es' h;simp only[Sem.runT]at h;cases hq:q.forced with
  |true=>
   simp only[hq,if_true]at h;obtain⟨h1,n,h2,h3⟩:=ih _ _ _ a' w' es' h;exact⟨h1,n,h2,fun τ d hd=>by simp only[Sem.runT,hq,if_true];exact h3 τ d hd⟩
  |false=>
   simp only[hq,Bool.false_eq_true,if_false]at h;obtain⟨h1,n,h2,h3⟩:=ih _ _ _ a' w' es' h;refine⟨h1,n+1,by rw[h2];simp only;omega,fun τ d hd=>?_⟩;have e0:τ d=w.tape w.drawn:=by simpa using hd 0 (by omega)
   simp only[Sem.runT,hq,Bool.false_eq_true,if_false];have:=h3 τ (d+1) (fun i hi=>by
    have:=hd (i+1) (by omega);simpa[Nat.add_assoc,Nat.add_comm 1]using this)
   show(k (q.cut (τ d q))).runT P ({w with drawn:=w.drawn+1}.re τ (d+1)) es=_;rw[e0,show d+(n+1)=d+1+n by omega];exact this
 |@env k _ ih=>
  intro w es a' w' es' h;have hs:∀u:World,u.sys .env=(.strings u.os.env,u):=fun _=>rfl;simp only[Sem.runT,hs]at h;obtain⟨h1,n,h2,h3⟩:=ih _ _ _ a' w' es' h;exact⟨h1,n,h2,fun τ d hd=>by simp only[Sem.runT,hs];exact h3 τ d hd⟩
 |program _ ih=>
  intro w es a' w' es' h;simp only[Sem.runT]at h;obtain⟨h1,n,h2,h3⟩:=ih _ _ a' w' es' h;exact⟨h1,n,h2,fun τ d hd=>by simp only[Sem.runT];exact h3 τ d hd⟩
 |mark m _ ih=>
  intro w es a' w' es' h;simp only[Sem.runT]at h;obtain⟨h1,n,h2,h3⟩:=ih _ _ a' w' es' h;exact⟨h1,n,h2,fun τ d hd=>by simp only[Sem.runT];exact h3 τ d hd⟩
 |halt x=>
  intro w es a' w' es' h;simp only[Sem.runT]at h;cases h
 |dK hb=>
  intro w es a' w' es' h;have:=congrArg Prod.fst h;rw[Sem.runT_fst]at this;exact absurd this (hb _ _ _)
end Go.bn
namespace Go.fE
open Go.Ren
variable{o:Obj}{a:Addr}{v:Value}{e t:TypeId}{m:Bool}
def noView:Obj->Prop
 | .pending .. =>False
 |_=>True
theorem IJ(h:noView o)(b:Nat):IL b o:=by cases o<;>first|exact trivial|exact h.elim
structure PS(Sh:Nat->Prop)(p u:World):Prop where
 size:u.heap.size=p.heap.size
 same:∀b:Nat,¬Sh b->u.heap[b]? =p.heap[b]?
 rows:∀b:Nat,Sh b->∃e fz xD c,p.heap[b]? =some (.cells #[] e fz)/\u.heap[b]? =some (.cells c e xD)
 views:∀(b:Nat) o,p.heap[b]? =some o->IL b o
 tape:u.tape=p.tape
 drawn:u.drawn=p.drawn
 os:u.os=p.os
 output:u.output=p.output
def Dead:Halt->Prop
 | .stuck _=>True
 | .unsupported (.initOrder g)=>4<=g
 | .unsupported _=>True
 |_=>False
inductive Tm(P:Program){α:Type}:Sem α->Prop
 |pure (a:α):Tm P (.pure a)
 |load (m:Mode) (a:Addr) {k:Value->Sem α}:(∀v,Tm P (k v))->Tm P (.load m a k)
 |store (m:Mode) (a:Addr) (v:Value) {k:Sem α}:Tm P k->Tm P (.store m a v k)
 |new (o:Obj) {k:Nat->Sem α}:noView o->(∀n,Tm P (k n))->Tm P (.new o k)
 |shape (r:Nat) {k:Option (TypeId×Nat)->Sem α}:(∀x y,x.map Prod.fst=y.map Prod.fst->k x=k y)->(∀x,Tm P (k x))->Tm P (.shape r k)
 |freeze (a:Addr) (n:Nat) {k:Sem α}:Tm P k->Tm P (.freeze a n k)
 |stringish (r:Nat) {k:Option (TypeId×Nat)->Sem α} {k':Sem α}:(∀e n,k (some (e,n))= .freeze ⟨r,n,none⟩ 1 k')->Tm P k'->Tm P (k none)->Tm P (.shape r k)
 |getObj (r:Nat) {k:Obj->Sem α}:(∀x,Tm P (k x))->Tm P (.getObj r k)
 |setObj (r:Nat) (o:Obj) {k:Sem α}:noView o->Tm P k->Tm P (.setObj r o k)
 |choose (q:Question) {k:Nat->Sem α}:(∀n,Tm P (k n))->Tm P (.choose q k)
 |env {k:SysRet->Sem α}:(∀x,Tm P (k x))->Tm P (.sys .env k)
 |program {k:Program->Sem α}:Tm P (k P)->Tm P (.program k)
 |mark (m:Mark) {k:Sem α}:Bare m->Tm P k->Tm P (.mark m k)
 |halt (h:Halt):((∃v,h= .panic v)\/(∃y,h= .stuck y)\/∃y,h= .unsupported y/\∀g,y≠.initOrder g)->Tm P (.halt h)
 |nI (r:Nat) {k:Option (TypeId×Nat)->Sem α}:(∀e w,∃x w',(k (some (e,0))).run P w= .halt x w'/\Dead x)->(∀x,Tm P (k x))->Tm P (.shape r k)
 |jQ (o:Obj) {k:Nat->Option (TypeId×Nat)->Sem α}:noView o->(∀n x,Tm P (k n x))->Tm P (.new o fun n=>.shape n (k n))
 |dK {s:Sem α}:(∀w,∃x w',s.run P w= .halt x w'/\Dead x)->Tm P s
theorem Tm.bind{P:Program}{α β:Type}{s:Sem α}{f:α->Sem β}(h:Tm P s)(hf:∀a,Tm P (f a)):Tm P (s.bind f):=by
 induction h with
 |pure a=>exact hf a
 |load m a _ ih=>exact .load m a ih
 |store m a v _ ih=>exact .store m a v ih
 |new o ho _ ih=>exact .new o ho ih
 |shape r hk _ ih=>exact .shape r (fun x y e=>by rw[hk x y e]) ih
 |nI r hd _ ih=>
  refine .nI r (fun e w=>?_) ih;obtain⟨x,w',h1,h2⟩:=hd e w;exact⟨x,w',by rw[run_bind,h1],h2⟩
 |jQ o ho _ ih=>exact .jQ o ho ih
 |freeze a n _ ih=>exact .freeze a n ih
 |stringish r he _ _ ih ih'=>exact .stringish r (fun e n=>by rw[he];rfl) ih ih'
 |getObj r _ ih=>exact .getObj r ih
 |setObj r o ho _ ih=>exact .setObj r o ho ih
 |choose q _ ih=>exact .choose q ih
 |env _ ih=>exact .env ih
 |program _ ih=>exact .program ih
 |mark m hm _ ih=>exact .mark m hm ih
 |halt h hh=>exact .halt h hh
 |@dK s hb=>
  refine .dK fun w=>?_;obtain⟨x,w',h1,h2⟩:=hb w;exact⟨x,w',by rw[run_bind,h1],h2⟩
def Off(Sh:Nat->Prop)(e:Event):Prop:=(∀a,e.loc= .cell a->¬Sh a.block)/\∀m,e.loc= .mark m->Bare m
section
variable {Sh:Nat->Prop} {p u:World}
theorem PS.off(h:PS Sh p u)(hc:p.cell? a=some v):¬Sh a.block:=by
 intro hs;obtain⟨e,fz,xD,c,h1,_⟩:=h.rows _ hs;simp only[World.cell?,h1]at hc;split at hc<;>simp at hc
theorem PS.cell(h:PS Sh p u)(hs:¬Sh a.block):u.cell? a=p.cell? a:=by simp only[World.cell?,h.same _ hs]
theorem PS.frozen(h:PS Sh p u){a:Addr}(hs:¬Sh a.block):u.frozen? a=p.frozen? a:=by
 simp only[World.frozen?,h.same _ hs]
theorem PS.setCell(h:PS Sh p u)(a:Addr)(v:Value)(hs:¬Sh a.block):PS Sh (p.setCell a v) (u.setCell a v):=by
 refine⟨by simp[World.setCell,h.size],fun b hb=>?_,fun b hb=>?_,fun b x hx=>?_,h.tape,h.drawn,h.os,h.output⟩
 .simp only[World.setCell,Array.getElem?_modify,h.same b hb]
 .obtain⟨e,fz,xD,c,h1,h2⟩:=h.rows b hb;have bd:¬a.block=b:=fun e=>hs (e▸hb);exact⟨e,fz,xD,c,by simp[World.setCell,Array.getElem?_modify,bd,h1],by simp[World.setCell,Array.getElem?_modify,bd,h2]⟩
 .simp only[World.setCell,Array.getElem?_modify]at hx;split at hx
  .cases ho:p.heap[b]? with
   |none=>rw[ho]at hx;cases hx
   |some o=>
    rw[ho]at hx;have:=h.views b o ho;cases o<;>(simp only[Option.map_some,Option.some.injEq]at hx;subst hx;exact this)
  .exact h.views b x hx
theorem PS.Ou(h:PS Sh p u){b:Addr}(n:Nat)(hb:b.block=a.block)(heq:¬Sh a.block->b=a):PS Sh (p.freeze a n) (u.freeze b n):=by
 unfold World.freeze;by_cases hn:n=0
 .simpa[hn]using h
 .simp only[hn,if_false];refine⟨by simp[h.size],fun x hx=>?_,fun x hx=>?_,fun x y hy=>?_,h.tape,h.drawn,h.os,h.output⟩
  .by_cases hs:Sh a.block
   .have bd:¬a.block=x:=fun e=>hx (e▸hs);have mi:¬b.block=x:=fun e=>bd (hb▸e);simp only[Array.getElem?_modify,bd,mi,if_false,h.same x hx]
   .rw[heq hs];simp only[Array.getElem?_modify,h.same x hx]
  .obtain⟨e,⟨lo,hi⟩,⟨lo',bh⟩,c,h1,h2⟩:=h.rows x hx;by_cases bd:a.block=x
   .have mi:b.block=x:=hb.trans bd;exact⟨e,_,_,c,by simp only[Array.getElem?_modify,bd,if_true,h1];rfl,by simp only[Array.getElem?_modify,mi,if_true,h2];rfl⟩
   .have mi:¬b.block=x:=fun e=>bd (hb▸e);exact⟨e,_,_,c,by simp only[Array.getElem?_modify,bd,if_false];exact h1,by simp only[Array.getElem?_modify,mi,if_false];exact h2⟩
  .simp only[Array.getElem?_modify]at hy;split at hy
   .cases ho:p.heap[x]? with
    |none=>rw[ho]at hy;cases hy
    |some o=>
     rw[ho]at hy;have:=h.views x o ho;cases o<;>(simp only[Option.map_some,Option.some.injEq]at hy;subst hy;exact this)
   .exact h.views x y hy
theorem PS.freeze(h:PS Sh p u)(a:Addr)(n:Nat):PS Sh (p.freeze a n) (u.freeze a n):=h.Ou n rfl fun _=>rfl
theorem PS.new(h:PS Sh p u)(hl:∀b,Sh b->b<p.heap.size){o:Obj}(ho:noView o):PS Sh {p with heap:=p.heap.push o} {u with heap:=u.heap.push o}:=by
 refine⟨by simp[h.size],fun b hb=>?_,fun b hb=>?_,fun b x hx=>?_,h.tape,h.drawn,h.os,h.output⟩
 .simp only[Array.getElem?_push,h.size,h.same b hb]
 .obtain⟨e,fz,xD,c,h1,h2⟩:=h.rows b hb;have:=hl b hb;have bd:¬b=p.heap.size:=by omega
  have mi:¬b=u.heap.size:=by rw[h.size];exact bd
  exact⟨e,fz,xD,c,by simp only[Array.getElem?_push,bd,if_false];exact h1,by simp only[Array.getElem?_push,mi,if_false];exact h2⟩
 .simp only[Array.getElem?_push]at hx;split at hx
  .obtain rfl:=Option.some.inj hx;exact IJ ho _
  .exact h.views b x hx
theorem PS.lt(h:PS Sh p u){b:Nat}(hb:Sh b):b<p.heap.size:=by
 obtain⟨e,fz,xD,c,h1,_⟩:=h.rows b hb;exact(Array.getElem?_eq_some_iff.1 h1).1
theorem PS.set(h:PS Sh p u){r:Nat}(hr:¬Sh r)(ho:noView o):PS Sh {p with heap:=p.heap.setIfInBounds r o} {u with heap:=u.heap.setIfInBounds r o}:=by
 refine⟨by simp[h.size],fun b hb=>?_,fun b hb=>?_,fun b x hx=>?_,h.tape,h.drawn,h.os,h.output⟩
 .by_cases e:r=b
  .subst e;by_cases ai:r<p.heap.size
   .rw[Array.getElem?_setIfInBounds_self_of_lt ai,Array.getElem?_setIfInBounds_self_of_lt (by rw[h.size];exact ai)]
   .rw[Array.getElem?_eq_none (by simpa[h.size]using ai),Array.getElem?_eq_none (by simpa using ai)]
  .rw[Array.getElem?_setIfInBounds_ne e,Array.getElem?_setIfInBounds_ne e];exact h.same b hb
 .obtain⟨e,fz,xD,c,h1,h2⟩:=h.rows b hb;have bd:r≠b:=fun e=>hr (e▸hb);exact⟨e,fz,xD,c,by rw[Array.getElem?_setIfInBounds_ne bd];exact h1,by rw[Array.getElem?_setIfInBounds_ne bd];exact h2⟩
 .by_cases e:r=b
  .subst e;by_cases ai:r<p.heap.size
   .simp only[Array.getElem?_setIfInBounds_self_of_lt ai,Option.some.injEq]at hx;subst hx;exact IJ ho _
   .rw[Array.getElem?_eq_none (by simpa using ai)]at hx;cases hx
  .simp only[Array.getElem?_setIfInBounds_ne e]at hx;exact h.views b x hx
theorem Rq{bs:List UInt8}(h:v.bytes? =some bs):bs.length≠0:=by
 have hl:∀s n,(leBytes s n).length=s:=fun s=>by
  induction s with
  |zero=>intro n;rfl
  |succ s ih=>intro n;simp[leBytes,ih]
 cases v<;>simp only[Value.bytes?,Option.some.injEq,reduceCtorEq]at h;all_goals subst h
 .simp
 iterate 2 (·rename_i k n;rw[hl];cases k<;>decide)
 .rename_i k n m;rw[List.length_append,hl,hl];cases k<;>decide
theorem Tz{P:Program}{n x:Nat}(hn:n≠0):∀r,seenCells P #[] e (n+1) x (x+n)≠.ok r:=by
 intro r h;unfold seenCells at h;rw[if_neg (by omega)]at h;dsimp only at h;split at h
 .cases h
 .split at h
  .cases h
  .simp at h
theorem PU{P:Program}{p:World}{at_:Addr}{fz:Nat×Nat}(hr:p.heap[at_.block]? =some (.cells #[] e fz)):∀r,p.seen P at_ t a m≠.ok r:=by
 intro r h;unfold World.seen at h;simp only[hr,bind,Except.bind,pure,Except.pure,throw,throwThe,MonadExceptOf.throw]at h;split at h
 .cases h
 .split at h
  .rename_i like _;split at h
   .rename_i size cC;split at h
    .split at h
     .cases h
     .split at h
      .rename_i b0 _;cases hb:like.bytes? with
       |none=>rw[hb]at cC;cases cC
       |some bs=>
        rw[hb]at cC;obtain rfl:bs.length=size:=Option.some.inj cC;generalize hs:seenCells P #[] e (bs.length+1) _ _=res at h;cases res with
        |error _=>cases h
        |ok r=>exact Tz (Rq hb) r hs
      .cases h
    .cases h
   .cases h
  .cases h
theorem PS.seen(h:PS Sh p u){P:Program}{at_:Addr}{r}(hr:p.seen P at_ t a m= .ok r):¬Sh at_.block/\u.seen P at_ t a m= .ok r/\at_.block<p.heap.size:=by
 have hs:¬Sh at_.block:=fun hs=>by
  obtain⟨e,fz,xD,c,h1,_⟩:=h.rows _ hs;exact PU h1 r hr
 have e:u.seen P at_ t a m=p.seen P at_ t a m:=by simp only[World.seen,h.same _ hs]
 refine⟨hs,e.trans hr,?_⟩;cases hb:p.heap[at_.block]? with
 |some o=>exact(Array.getElem?_eq_some_iff.1 hb).1
 |none=>
  exfalso;unfold World.seen at hr;simp only[hb,bind,Except.bind,pure,Except.pure,throw,throwThe,MonadExceptOf.throw]at hr;repeat' first|(cases hr;done)|split at hr
theorem PS.Jw(h:PS Sh p u)(P:Program)(a:Addr)(m:Bool):(∃x,p.farLoad P a m= .error x/\Dead x)\/∃r,p.farLoad P a m= .ok r/\(u.cell? a=none/\u.farLoad P a m= .ok r)/\∀x∈r.2,¬Sh x.block/\x.block<p.heap.size:=by
 cases ho:p.heap[a.block]? with
 |none=>exact .inl ⟨_,by unfold World.farLoad;rw[ho],by simp[World.noCell,ho,Dead]⟩
 |some o=>
  have hv:=h.views _ o ho;cases o with
  |view at_ t=>
   have hs:¬Sh a.block:=fun hs=>by
    obtain⟨e,fz,xD,c,h1,_⟩:=h.rows _ hs;rw[h1]at ho;cases ho
   have hu:u.heap[a.block]? =some (.view at_ t):=(h.same _ hs).trans ho;cases hl:p.viewLoad P at_ t a m with
   |error why=>exact .inl ⟨.unsupported (.unsafePointer why),by unfold World.farLoad;simp only[ho,hl],trivial⟩
   |ok r=>
    cases tG:p.seen P at_ t a m with
    |error why=>unfold World.viewLoad at hl;simp only[tG,bind,Except.bind]at hl;cases hl
    |ok q=>
     obtain⟨k1,k2,k3⟩:=h.seen tG;have P':u.viewLoad P at_ t a m= .ok r:=by rw[<-hl];unfold World.viewLoad;simp only[tG,k2]
     refine .inr ⟨r,by unfold World.farLoad;simp only[ho,hl],⟨by simp[World.cell?,hu],by unfold World.farLoad;simp only[hu,P']⟩,fun x hx=>?_⟩;have sB:x.block=at_.block:=by
      unfold World.viewLoad at hl;simp only[tG,bind,Except.bind,pure,Except.pure,throw,throwThe,MonadExceptOf.throw]at hl;split at hl
      .cases hl;simp only[List.mem_map]at hx;obtain⟨y,_,rfl⟩:=hx;rfl
      .cases hl
     rw[sB];exact⟨k1,k3⟩
  |pending c e=>exact .inl ⟨_,by unfold World.farLoad;rw[ho],by simp only[World.noCell,ho];exact hv⟩
  |_=>exact .inl ⟨_,by unfold World.farLoad;rw[ho],by simp[World.noCell,ho,Dead]⟩
theorem PS.DZ(h:PS Sh p u)(P:Program)(a:Addr)(v:Value)(m:Bool):(∃x,p.farStore P a v m= .error x/\Dead x)\/∃p' l,p.farStore P a v m= .ok (p',l)/\(∃u',u.cell? a=none/\u.farStore P a v m= .ok (u',l)/\PS Sh p' u')/\(∀x∈l,¬Sh x.block/\x.block<p.heap.size)/\p'.heap.size=p.heap.size:=by
 cases ho:p.heap[a.block]? with
 |none=>exact .inl ⟨_,by unfold World.farStore;rw[ho],by simp[World.noCell,ho,Dead]⟩
 |some o=>
  have hv:=h.views _ o ho;cases o with
  |view at_ t=>
   have hs:¬Sh a.block:=fun hs=>by
    obtain⟨e,fz,xD,c,h1,_⟩:=h.rows _ hs;rw[h1]at ho;cases ho
   have hu:u.heap[a.block]? =some (.view at_ t):=(h.same _ hs).trans ho;cases hl:p.viewStore P at_ t a v m with
   |error why=>exact .inl ⟨.unsupported (.unsafePointer why),by unfold World.farStore;simp only[ho,hl],trivial⟩
   |ok r=>
    obtain⟨p',l⟩:=r;cases tG:p.seen P at_ t a m with
    |error why=>
     unfold World.viewStore at hl;simp only[tG,bind,Except.bind,pure,Except.pure,throw,throwThe,MonadExceptOf.throw]at hl;split at hl<;>cases hl
    |ok q=>
     obtain⟨k1,k2,k3⟩:=h.seen tG;have key:∃o:Obj,noView o/\p'= {p with heap:=p.heap.setIfInBounds at_.block o}/\u.viewStore P at_ t a v m= .ok ({u with heap:=u.heap.setIfInBounds at_.block o},l)/\∀x∈l,x.block=at_.block:=by
      unfold World.viewStore at hl⊢;obtain⟨q1,q2,q3,q4,q5,q6⟩:=q;simp only[tG,k2,bind,Except.bind,pure,Except.pure,throw,throwThe,MonadExceptOf.throw]at hl⊢;split at hl
      .cases hl
      .rename_i ht;rw[if_neg ht];split at hl
       .rename_i bs _;split at hl
        .cases hl
        .rename_i hlen;rw[if_neg hlen];generalize hf:List.foldlM (m:=Except String) _ q1 q6=res at hl⊢;cases res with
         |error _=>cases hl
         |ok c'=>
          simp only[Except.ok.injEq,Prod.mk.injEq]at hl;obtain⟨rfl,rfl⟩:=hl;refine⟨.cells c' q2 q3,trivial,rfl,rfl,fun x hx=>?_⟩;simp only[List.mem_map]at hx;obtain⟨y,_,rfl⟩:=hx;rfl
       .cases hl
     obtain⟨o,e1,rfl,e3,e4⟩:=key;refine .inr ⟨_,l,by unfold World.farStore;simp only[ho,hl],⟨_,by simp[World.cell?,hu],by unfold World.farStore;simp only[hu,e3],h.set k1 e1⟩,fun x hx=>?_,by simp⟩;rw[e4 x hx];exact⟨k1,k3⟩
  |pending c e=>exact .inl ⟨_,by unfold World.farStore;rw[ho],by simp only[World.noCell,ho];exact hv⟩
  |_=>exact .inl ⟨_,by unfold World.farStore;rw[ho],by simp[World.noCell,ho,Dead]⟩
end
def Alike(P:Program){α:Type}(Sh:Nat->Prop)(u:World)(s:Sem α)(es:Array Event):Result α×Array Event->Prop
 |(.ok a p',es1)=>∃u' es2,es1=es++es2/\s.runT P u es=(.ok a u',es1)/\PS Sh p' u'/\∀e∈es2,Off Sh e
 |(.halt (.panic v) p',es1)=>∃u' es2,es1=es++es2/\s.runT P u es=(.halt (.panic v) u',es1)/\PS Sh p' u'/\∀e∈es2,Off Sh e
 |(.halt x _,_)=>Dead x
theorem Alike.after{P:Program}{α:Type}{Sh:Nat->Prop}{u u1:World}{s s1:Sem α}{es ev:Array Event}{r:Result α×Array Event}(hs:s.runT P u es=s1.runT P u1 (es++ev))(dt:∀e∈ev,Off Sh e)(h:Alike P Sh u1 s1 (es++ev) r):Alike P Sh u s es r:=by
 obtain⟨r,es1⟩:=r;have key:∀{u':World} {es2:Array Event},es1=es++ev++es2->(∀e∈es2,Off Sh e)->es1=es++(ev++es2)/\∀e∈ev++es2,Off Sh e:=fun {_ _} e1 e2=>⟨by rw[e1,Array.append_assoc],fun e he=>(Array.mem_append.1 he).elim (dt e) (e2 e)⟩;cases r with
 |ok a p'=>
  obtain⟨u',es2,e1,e2,e3,e4⟩:=h;obtain⟨k1,k2⟩:=key (u':=u') e1 e4;exact⟨u',ev++es2,k1,hs.trans e2,e3,k2⟩
 |halt x p'=>
  cases x with
  |panic v=>
   obtain⟨u',es2,e1,e2,e3,e4⟩:=h;obtain⟨k1,k2⟩:=key (u':=u') e1 e4;exact⟨u',ev++es2,k1,hs.trans e2,e3,k2⟩
  |_=>exact h
theorem lK{P:Program}{α:Type}{Sh:Nat->Prop}{u p:World}{s:Sem α}{es es1:Array Event}{x:Halt}(h:Dead x):Alike P Sh u s es (.halt x p,es1):=by
 cases x<;>first|exact h|exact h.elim
theorem Tm.run{P:Program}{α:Type}{Sh:Nat->Prop}{s:Sem α}(h:Tm P s):∀(p u:World) (es:Array Event),PS Sh p u->Alike P Sh u s es (s.runT P p es):=by
 have Fa:∀e∈(#[]:Array Event),Off Sh e:=fun e he=>by simp at he
 induction h with
 |pure a=>exact fun p u es h=>⟨u,#[],by simp,by simp[Sem.runT],h,Fa⟩
 |@load m a k _ ih=>
  intro p u es h;simp only[Sem.runT];cases hc:p.cell? a with
  |none=>
   rcases h.Jw P a (m== .atomic)with⟨x,e,hx⟩|⟨⟨v,l⟩,e,⟨vp,mv⟩,hl⟩
   .simp only[e];exact lK hx
   .simp only[e];refine Alike.after (s1:=k v) (u1:=u) (ev:=l.toArray.map (⟨.cell ·,false,m== .atomic⟩)) ?_ (fun e he=>?_) (ih v p u _ h)
    .simp only[Sem.runT,vp,mv]
    .simp only[Array.mem_map,List.mem_toArray]at he;obtain⟨x,hx,rfl⟩:=he;exact⟨fun b e=>by cases e;exact(hl x hx).1,fun m e=>by cases e⟩
  |some v=>
   have hs:=h.off hc;simp only[Array.push_eq_append];refine Alike.after (s1:=k v) (u1:=u) (ev:=#[⟨.cell a,false,m== .atomic⟩]) ?_ (fun e he=>?_) (ih v p u _ h)
   .simp only[Sem.runT,h.cell hs,hc,Array.push_eq_append]
   .simp at he;subst he;exact⟨fun b e=>by cases e;exact hs,fun m e=>by cases e⟩
 |@store m a v k _ ih=>
  intro p u es h;have key:(∀c,v≠.agg c)->(∀c,v≠.tuple c)->Alike P Sh u (Sem.store m a v k) es ((Sem.store m a v k).runT P p es):=by
   intro ha ht;have e:∀u:World,(Sem.store m a v k).runT P u es=(match u.cell? a with
    |some _=>if u.frozen? a then(.halt (.unsupported (.unsafePointer "a write to bytes that a string shares")) u,es)else k.runT P (u.setCell a v) (es.push ⟨.cell a,true,m== .atomic⟩)
    |none=>match u.farStore P a v (m== .atomic)with
     | .ok (w,touched)=>k.runT P w (es++touched.toArray.map (⟨.cell ·,true,m== .atomic⟩))
     | .error h=>(.halt h u,es)):=by
    intro u;cases v<;>first|exact absurd rfl (ha _)|exact absurd rfl (ht _)|rfl
   rw[e p];cases hc:p.cell? a with
   |none=>
    rcases h.DZ P a v (m== .atomic)with⟨x,e,hx⟩|⟨p',l,e3,⟨u',vp,mv,mu⟩,hl,_⟩
    .simp only[e];exact lK hx
    .simp only[e3];refine Alike.after (s1:=k) (u1:=u') (ev:=l.toArray.map (⟨.cell ·,true,m== .atomic⟩)) ?_ (fun e he=>?_) (ih p' u' _ mu)
     .rw[e u];simp only[vp,mv]
     .simp only[Array.mem_map,List.mem_toArray]at he;obtain⟨x,hx,rfl⟩:=he;exact⟨fun b e=>by cases e;exact(hl x hx).1,fun m e=>by cases e⟩
   |some x=>
    have hs:=h.off hc;simp only;cases hf:p.frozen? a with
    |true=>simp only[if_true];trivial
    |false=>
     simp only[Bool.false_eq_true,if_false,Array.push_eq_append];refine Alike.after (s1:=k) (u1:=u.setCell a v) (ev:=#[⟨.cell a,true,m== .atomic⟩]) ?_ (fun e he=>?_) (ih _ _ _ (h.setCell a v hs))
     .rw[e u];simp only[h.cell hs,hc,h.frozen hs,hf,Bool.false_eq_true,if_false,Array.push_eq_append]
     .simp at he;subst he;exact⟨fun b e=>by cases e;exact hs,fun m e=>by cases e⟩
  cases v<;>first|(simp only[Sem.runT];trivial)|exact key (fun _ e=>by cases e) (fun _ e=>by cases e)
 |@new o k ho _ ih=>
  intro p u es h;simp only[Sem.runT];have:=ih p.heap.size _ _ es (h.new (fun b hb=>h.lt hb) ho);refine Alike.after (s1:=k p.heap.size) (u1:= {u with heap:=u.heap.push o}) (ev:=#[]) ?_ Fa (by simpa using this);simp only[Sem.runT,Array.append_empty,h.size]
 |@shape r k hk _ ih=>
  intro p u es h;simp only[Sem.runT];have e:k (u.shape? r)=k (p.shape? r):=by
   refine hk _ _ ?_;by_cases hs:Sh r
   .obtain⟨e,fz,xD,c,h1,h2⟩:=h.rows r hs;simp[World.shape?,h1,h2]
   .simp[World.shape?,h.same r hs]
  refine Alike.after (s1:=k (p.shape? r)) (u1:=u) (ev:=#[]) ?_ Fa (by simpa using ih _ p u es h);simp only[Sem.runT,Array.append_empty,e]
 |@nI r k hd _ ih=>
  intro p u es h;simp only[Sem.runT];by_cases hs:Sh r
  .obtain⟨e,fz,xD,c,h1,_⟩:=h.rows r hs;have hp:p.shape? r=some (e,0):=by simp[World.shape?,h1]
   obtain⟨x,w',k1,k2⟩:=hd e p;rw[hp];cases hr:(k (some (e,0))).runT P p es with
   |mk res es1=>
    have:res=(k (some (e,0))).run P p:=by
     have e:=congrArg Prod.fst hr;rw[Sem.runT_fst]at e;exact e.symm
    rw[this,k1];exact lK k2
  .have e:u.shape? r=p.shape? r:=by simp[World.shape?,h.same r hs]
   refine Alike.after (s1:=k (p.shape? r)) (u1:=u) (ev:=#[]) ?_ Fa (by simpa using ih _ p u es h);simp only[Sem.runT,Array.append_empty,e]
 |@jQ o k ho _ ih=>
  intro p u es h;simp only[Sem.runT];have hn:=h.new (fun b hb=>h.lt hb) ho;have e:World.shape? {u with heap:=u.heap.push o} p.heap.size=World.shape? {p with heap:=p.heap.push o} p.heap.size:=by
   have:=hn.same p.heap.size (fun hs=>Nat.lt_irrefl _ (h.lt hs));simp only[World.shape?,this]
  have:=ih p.heap.size (World.shape? {p with heap:=p.heap.push o} p.heap.size) _ _ es hn;refine Alike.after (s1:=k p.heap.size (World.shape? {p with heap:=p.heap.push o} p.heap.size)) (u1:= {u with heap:=u.heap.push o}) (ev:=#[]) ?_ Fa (by simpa using this);simp only[Sem.runT,Array.append_empty,h.size,e]
 |@freeze a n k _ ih=>
  intro p u es h;simp only[Sem.runT];refine Alike.after (s1:=k) (u1:=u.freeze a n) (ev:=#[]) ?_ Fa (by simpa using ih _ _ es (h.freeze a n));simp only[Sem.runT,Array.append_empty]
 |@stringish r k k' he _ _ ih ih'=>
  intro p u es h;simp only[Sem.runT];by_cases hs:Sh r
  .obtain⟨e,fz,xD,c,h1,h2⟩:=h.rows r hs;have hp:p.shape? r=some (e,0):=by simp[World.shape?,h1]
   have hu:u.shape? r=some (e,c.size):=by simp[World.shape?,h2]
   rw[hp,he];simp only[Sem.runT];refine Alike.after (s1:=k') (u1:=u.freeze ⟨r,c.size,none⟩ 1) (ev:=#[]) ?_ Fa (by simpa using ih _ _ es (h.Ou (a:=⟨r,0,none⟩) (b:=⟨r,c.size,none⟩) 1 rfl fun hn=>absurd hs hn));simp only[Sem.runT,hu,he,Array.append_empty]
  .have e:u.shape? r=p.shape? r:=by simp[World.shape?,h.same r hs]
   cases hp:p.shape? r with
   |none=>
    refine Alike.after (s1:=k none) (u1:=u) (ev:=#[]) ?_ Fa (by simpa using ih' p u es h);simp only[Sem.runT,e,hp,Array.append_empty]
   |some x=>
    obtain⟨x,n⟩:=x;rw[he];simp only[Sem.runT];refine Alike.after (s1:=k') (u1:=u.freeze ⟨r,n,none⟩ 1) (ev:=#[]) ?_ Fa (by simpa using ih _ _ es (h.freeze _ 1));simp only[Sem.runT,e,hp,he,Array.append_empty]
 |@getObj r k _ ih=>
  intro p u es h;simp only[Sem.runT];split
  .trivial
  .rename_i o bd ho;have hs:¬Sh r:=fun hs=>by
    obtain⟨e,fz,xD,c,h1,_⟩:=h.rows r hs;rw[h1]at ho;obtain rfl:=Option.some.inj ho;exact bd _ _ _ rfl
   refine Alike.after (s1:=k o) (u1:=u) (ev:=#[⟨.obj r,false,o.isChan⟩]) ?_ (fun e he=>?_) (by simpa using ih o p u _ h)
   .simp only[Sem.runT,h.same r hs,ho];cases o<;>first|exact absurd rfl (fun e=>bd _ _ _ e)|simp
   .simp at he;subst he;exact⟨fun b e=>(by cases e),fun m e=>(by cases e)⟩
  .trivial
 |@setObj r o k AI _ ih=>
  intro p u es h;simp only[Sem.runT];split
  .trivial
  .rename_i x bd ho;have hs:¬Sh r:=fun hs=>by
    obtain⟨e,fz,xD,c,h1,_⟩:=h.rows r hs;rw[h1]at ho;obtain rfl:=Option.some.inj ho;exact bd _ _ _ rfl
   refine Alike.after (s1:=k) (u1:= {u with heap:=u.heap.setIfInBounds r o}) (ev:=#[⟨.obj r,true,o.isChan⟩]) ?_ (fun e he=>?_) (by simpa using ih _ _ _ (h.set hs AI))
   .simp only[Sem.runT,h.same r hs,ho];cases x<;>first|exact absurd rfl (fun e=>bd _ _ _ e)|simp
   .simp at he;subst he;exact⟨fun b e=>(by cases e),fun m e=>(by cases e)⟩
  .trivial
 |@choose q k _ ih=>
  intro p u es h;simp only[Sem.runT];cases hq:q.forced with
  |true=>
   simp only[if_true];exact Alike.after (s1:=k 0) (u1:=u) (ev:=#[]) (by simp only[Sem.runT,hq,if_true,Array.append_empty]) Fa (by simpa using ih 0 p u es h)
  |false=>
   simp only[Bool.false_eq_true,if_false];have h':PS Sh {p with drawn:=p.drawn+1} {u with drawn:=u.drawn+1}:=⟨h.size,h.same,h.rows,h.views,h.tape,by simp[h.drawn],h.os,h.output⟩;refine Alike.after (s1:=k (q.cut (p.tape p.drawn q))) (u1:= {u with drawn:=u.drawn+1}) (ev:=#[]) ?_ Fa (by simpa using ih _ _ _ es h');simp only[Sem.runT,hq,Bool.false_eq_true,if_false,Array.append_empty,h.tape,h.drawn]
 |@env k _ ih=>
  intro p u es h;have hs:∀w:World,w.sys .env=(.strings w.os.env,w):=fun _=>rfl;simp only[Sem.runT,hs];refine Alike.after (s1:=k (.strings p.os.env)) (u1:=u) (ev:=#[⟨.output,true,false⟩]) (by simp only[Sem.runT,hs,Array.push_eq_append,h.os]) (fun e he=>?_) (by simpa using ih _ p u _ h);simp at he;subst he;exact⟨fun b e=>(by cases e),fun m e=>(by cases e)⟩
 |@program k _ ih=>
  intro p u es h;simp only[Sem.runT];exact Alike.after (s1:=k P) (u1:=u) (ev:=#[]) (by simp only[Sem.runT,Array.append_empty]) Fa (by simpa using ih p u es h)
 |@mark m k hm _ ih=>
  intro p u es h;simp only[Sem.runT];refine Alike.after (s1:=k) (u1:=u) (ev:=#[⟨.mark m,false,true⟩]) (by simp only[Sem.runT,Array.push_eq_append]) (fun e he=>?_) (by simpa using ih p u _ h);simp at he;subst he;exact⟨fun b e=>(by cases e),fun m' e=>(by cases e;exact hm)⟩
 |halt x hx=>
  intro p u es h;simp only[Sem.runT];rcases hx with⟨v,rfl⟩|⟨y,rfl⟩|⟨y,rfl,hy⟩
  .exact⟨u,#[],by simp,by simp[Sem.runT],h,Fa⟩
  .trivial
  .refine lK ?_;cases y<;>first|exact absurd rfl (hy _)|trivial
 |@dK s hb=>
  intro p u es h;obtain⟨x,w',h1,h2⟩:=hb p;cases hr:s.runT P p es with
  |mk r es1=>
   have:r=s.run P p:=by
    have e:=congrArg Prod.fst hr;rw[Sem.runT_fst]at e;exact e.symm
   rw[this,h1];exact lK h2
theorem Tm.pl{P:Program}{α:Type}{s:Sem α}(h:Tm P s):Go.bn.Pl P s:=by
 induction h with
 |pure a=>exact .pure a
 |load m a _ ih=>exact .load m a ih
 |store m a v _ ih=>exact .store m a v ih
 |new o _ _ ih=>exact .new o ih
 |shape r _ _ ih=>exact .shape r ih
 |nI r _ _ ih=>exact .shape r ih
 |jQ o _ _ ih=>exact .new o fun n=>.shape n (ih n)
 |freeze a n _ ih=>exact .freeze a n ih
 |@stringish r k k' he _ _ ih ih'=>
  refine .shape r fun x=>?_;cases x with
  |none=>exact ih'
  |some x=>obtain⟨x,n⟩:=x;rw[he];exact .freeze _ _ ih
 |getObj r _ ih=>exact .getObj r ih
 |setObj r o _ _ ih=>exact .setObj r o ih
 |choose q _ ih=>exact .choose q ih
 |env _ ih=>exact .env ih
 |program _ ih=>exact .program ih
 |mark m _ _ ih=>exact .mark m ih
 |halt h _=>exact .halt h
 |dK hb=>exact .dK fun w a w' e=>by obtain⟨x,w1,h1,_⟩:=hb w;rw[h1]at e;cases e
