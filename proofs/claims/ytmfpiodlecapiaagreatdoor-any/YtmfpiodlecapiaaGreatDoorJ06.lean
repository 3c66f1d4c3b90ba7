import Derived.Test.YtmfpiodlecapiaaGreatDoorJ05
import Derived.StepT
import Derived.Laws.World
namespace Go.Proofs.YtmfpiodlecapiaaGreatDoor
open Go.RowKit Go.Deep
def Alpha(w:World):Prop:=∀i,i<64->w.cell? ⟨0,i,none⟩=some (.int .i32 (Tx.rn i:Nat))
theorem Alpha.size{w:World}(h:Alpha w):0<w.heap.size:=World.block_lt_of_cell? w _ (h 0 (by omega))
theorem Alpha.below{w w':World}{B:Nat}(h:Alpha w)(hb:Below B w w')(hB:0<B):Alpha w':=fun i hi=>by
 have e:=hb.block 0 hB;have:=h i hi;unfold World.cell? at this⊢;rw[e];exact this
theorem Rh(x c:Nat)(hx:x<1048576)(hc:c<=13):bits .and .i64 (x:Int) (wrap64 (wrap64 ((2:Int)^c)-1))=((x%2^c:Nat):Int):=by
 have hp:2^c<=2^13:=Nat.pow_le_pow_right (by decide) hc;have hp0:0<2^c:=Nat.two_pow_pos c;have e1:wrap64 ((2:Int)^c)=((2^c:Nat):Int):=by
  have:((2:Int)^c)=((2^c:Nat):Int):=by simp
  rw[this];unfold wrap64;omega
 have e2:wrap64 (((2^c:Nat):Int)-1)=((2^c-1:Nat):Int):=by
  rw[show((2^c:Nat):Int)-1=((2^c-1:Nat):Int) by omega];unfold wrap64;omega
 rw[e1,e2,K_ x (2^c-1) (by omega) (by omega),Nat.and_two_pow_sub_one_eq_mod]
set_option maxRecDepth 20000 in
theorem uY(x c:Nat)(hx:x<1048576)(hc:c<=13)(w:World):
  Calls Tryz.prog 71 #[.int .i64 x,.int .i64 c] w fun e w'=>e= .returned (.int .i64 ((x%2^c:Nat):Int))/\w'=w:=by
 have hb:=Rh x c hx hc;go_enter Tryz.func71,Tryz.ntmps71;go_wp2;go_ret;exact⟨by show Ending.returned (.int .i64 ((x:Int)%2^c))=_;simp,rfl⟩
end Go.Proofs.YtmfpiodlecapiaaGreatDoor
namespace Go.Ren
def Ext(ρ ρ':Array Nat):Prop:=∀b c:Nat,ρ[b]? =some c->ρ'[b]? =some c
theorem Ext.refl(ρ:Array Nat):Ext ρ ρ:=fun _ _ h=>h
theorem Ext.trans{ρ ρ' He:Array Nat}(h:Ext ρ ρ')(h':Ext ρ' He):Ext ρ He:=fun b c x=>h' b c (h b c x)
theorem lt_of_some{ρ:Array Nat}{b c:Nat}(h:ρ[b]? =some c):b<ρ.size:=by
 rcases Nat.lt_or_ge b ρ.size with h'|h'
 ·exact h'
 ·rw[Array.getElem?_eq_none h']at h;cases h
theorem EY{ρ:Array Nat}{b c:Nat}(n:Nat)(h:ρ[b]? =some c):(ρ.push n)[b]? =some c:=by
 have:=lt_of_some h;rw[Array.getElem?_push,if_neg (by omega)];exact h
theorem xM(ρ:Array Nat)(n:Nat):(ρ.push n)[ρ.size]? =some n:=by simp
theorem jU{ρ:Array Nat}{n b c:Nat}(h:(ρ.push n)[b]? =some c):ρ[b]? =some c\/(b=ρ.size/\c=n):=by
 rw[Array.getElem?_push]at h;split at h
 ·rename_i e;exact .inr ⟨e,(Option.some.inj h).symm⟩
 ·exact .inl h
theorem Ext.push(ρ:Array Nat)(n:Nat):Ext ρ (ρ.push n):=fun _ _ h=>EY n h
def AR(ρ:Array Nat)(a a':Addr):Prop:=ρ[a.block]? =some a'.block/\a'.off=a.off/\a'.spot=a.spot
theorem AR.mono{ρ ρ':Array Nat}{a a':Addr}(h:AR ρ a a')(e:Ext ρ ρ'):AR ρ' a a':=⟨e _ _ h.1,h.2⟩
theorem AR.add{ρ:Array Nat}{a a':Addr}(h:AR ρ a a')(n:Nat):AR ρ (a.add n) (a'.add n):=by
 unfold Addr.add;by_cases hn:n=0
 ·simpa[hn]using h
 ·simp only[hn,if_false];exact⟨h.1,by simp[h.2.1],rfl⟩
inductive VR(ρ:Array Nat):Value->Value->Prop
 |bool (b:Bool):VR ρ (.bool b) (.bool b)
 |int (k:IntKind) (n:Int):VR ρ (.int k n) (.int k n)
 |float (k:FloatKind) (n:Nat):VR ρ (.float k n) (.float k n)
 |complex (k:FloatKind) (n m:Nat):VR ρ (.complex k n m) (.complex k n m)
 |string (s:ByteArray):VR ρ (.string s) (.string s)
 |XM:VR ρ (.pointer none) (.pointer none)
 |ptr {a a':Addr}:AR ρ a a'->VR ρ (.pointer (some a)) (.pointer (some a'))
 |Dy (l c:Nat):VR ρ (.slice none l c) (.slice none l c)
 |sl {a a':Addr} (l c:Nat):AR ρ a a'->VR ρ (.slice (some a) l c) (.slice (some a') l c)
 |ZB:VR ρ (.map none) (.map none)
 |map {r r':Nat}:ρ[r]? =some r'->VR ρ (.map (some r)) (.map (some r'))
 |mX:VR ρ (.chan none) (.chan none)
 |chan {r r':Nat}:ρ[r]? =some r'->VR ρ (.chan (some r)) (.chan (some r'))
 |func (fn:Fn) {f f' c c':Array Value}:f.size=f'.size->(∀(i:Nat) v v',f[i]? =some v->f'[i]? =some v'->VR ρ v v')->
  c.size=c'.size->(∀(i:Nat) v v',c[i]? =some v->c'[i]? =some v'->VR ρ v v')->VR ρ (.func fn f c) (.func fn f' c')
 |nilFunc:VR ρ .nilFunc .nilFunc
 |nilIface:VR ρ .nilIface .nilIface
 |iface (t:TypeId) {v v':Value}:VR ρ v v'->VR ρ (.iface t v) (.iface t v')
 |agg {c c':Array Value}:c.size=c'.size->(∀(i:Nat) v v',c[i]? =some v->c'[i]? =some v'->VR ρ v v')->VR ρ (.agg c) (.agg c')
 |tuple {c c':Array Value}:c.size=c'.size->(∀(i:Nat) v v',c[i]? =some v->c'[i]? =some v'->VR ρ v v')->VR ρ (.tuple c) (.tuple c')
theorem VR.mono{ρ ρ':Array Nat}(e:Ext ρ ρ'){v v':Value}(h:VR ρ v v'):VR ρ' v v':=by
 induction h with
 |bool b=>exact .bool b
 |int k n=>exact .int k n
 |float k n=>exact .float k n
 |complex k n m=>exact .complex k n m
 |string s=>exact .string s
 |XM=>exact .XM
 |ptr h=>exact .ptr (h.mono e)
 |Dy l c=>exact .Dy l c
 |sl l c h=>exact .sl l c (h.mono e)
 |ZB=>exact .ZB
 |map h=>exact .map (e _ _ h)
 |mX=>exact .mX
 |chan h=>exact .chan (e _ _ h)
 |func fn h1 _ h2 _ ih1 ih2=>exact .func fn h1 (fun i v v' a b=>ih1 i v v' a b) h2 (fun i v v' a b=>ih2 i v v' a b)
 |nilFunc=>exact .nilFunc
 |nilIface=>exact .nilIface
 |iface t _ ih=>exact .iface t ih
 |agg h _ ih=>exact .agg h (fun i v v' a b=>ih i v v' a b)
 |tuple h _ ih=>exact .tuple h (fun i v v' a b=>ih i v v' a b)
inductive SV(ρ:Array Nat):Value->Value->Prop
 |bool (b:Bool):SV ρ (.bool b) (.bool b)
 |int (k:IntKind) (n:Int):SV ρ (.int k n) (.int k n)
 |Dy (l c:Nat):SV ρ (.slice none l c) (.slice none l c)
 |sl {a a':Addr} (l c:Nat):AR ρ a a'->SV ρ (.slice (some a) l c) (.slice (some a') l c)
 |mX:SV ρ (.chan none) (.chan none)
 |chan {r r':Nat}:ρ[r]? =some r'->SV ρ (.chan (some r)) (.chan (some r'))
 |undef:SV ρ (.tuple #[]) (.tuple #[])
theorem SV.mono{ρ ρ':Array Nat}(e:Ext ρ ρ'){v v':Value}(h:SV ρ v v'):SV ρ' v v':=by
 cases h with
 |bool b=>exact .bool b
 |int k n=>exact .int k n
 |Dy l c=>exact .Dy l c
 |sl l c h=>exact .sl l c (h.mono e)
 |mX=>exact .mX
 |chan h=>exact .chan (e _ _ h)
 |undef=>exact .undef
theorem SV.val{ρ:Array Nat}{v v':Value}(h:SV ρ v v'):VR ρ v v':=by
 cases h with
 |bool b=>exact .bool b
 |int k n=>exact .int k n
 |Dy l c=>exact .Dy l c
 |sl l c h=>exact .sl l c h
 |mX=>exact .mX
 |chan h=>exact .chan h
 |undef=>exact .tuple rfl (fun i v v' h=>by simp at h)
theorem SV.cells{ρ:Array Nat}{v v':Value}(h:SV ρ v v'):v.cells=#[v]/\v'.cells=#[v']:=by cases h<;>exact⟨rfl,rfl⟩
def bF(ρ:Array Nat)(c c':Array Value):Prop:=c.size=c'.size/\∀(i:Nat) v v',c[i]? =some v->c'[i]? =some v'->SV ρ v v'
theorem bF.mono{ρ ρ':Array Nat}(e:Ext ρ ρ'){c c':Array Value}(h:bF ρ c c'):bF ρ' c c':=⟨h.1,fun i v v' a b=>(h.2 i v v' a b).mono e⟩
theorem bF.get{ρ:Array Nat}{c c':Array Value}(h:bF ρ c c'){i:Nat}{v:Value}(hv:c[i]? =some v):∃v',c'[i]? =some v'/\SV ρ v v':=by
 have hlt:i<c.size:=by
  rcases Nat.lt_or_ge i c.size with h'|h'
  ·exact h'
  ·rw[Array.getElem?_eq_none h']at hv;cases hv
 have e:c'[i]? =some (c'[i]'(h.1▸hlt)):=Array.getElem?_eq_getElem _;exact⟨_,e,h.2 i _ _ hv e⟩
def Wv(ρ:Array Nat)(p:World)(e:Event):Prop:=
 (∃b c i wr,e=⟨.cell ⟨c,i,none⟩,wr,false⟩/\ρ[b]? =some c/\(p.cell? ⟨b,i,none⟩).isSome=true/\(wr=true->p.frozen? ⟨b,i,none⟩=false))\/
 e=⟨.mark .noRoom,false,true⟩\/∃f,e=⟨.mark (.extern f),false,true⟩
structure WR(ρ:Array Nat)(p u:World):Prop where
 size:ρ.size=p.heap.size
 rows:∀b:Nat,b<p.heap.size->∃c e fz,p.heap[b]? =some (.cells c e fz)
 inj:∀b b' c:Nat,ρ[b]? =some c->ρ[b']? =some c->b=b'
 low:∀b c:Nat,ρ[b]? =some c->c<u.heap.size
 cell:∀b i v,p.cell? ⟨b,i,none⟩=some v->∃c v',ρ[b]? =some c/\u.cell? ⟨c,i,none⟩=some v'/\SV ρ v v'
 free:∀b i c,(p.cell? ⟨b,i,none⟩).isSome=true->p.frozen? ⟨b,i,none⟩=false->ρ[b]? =some c->u.frozen? ⟨c,i,none⟩=false
 tape:u.tape=p.tape
 drawn:u.drawn=p.drawn
def Wr(p:World)(b:Nat):Prop:=∃i,(p.cell? ⟨b,i,none⟩).isSome=true/\p.frozen? ⟨b,i,none⟩=false
def plainO:Obj->Prop
 | .view ..| .pending .. =>False
 |_=>True
def xR(b:Nat):Obj->Prop
 | .pending .. =>4<=b
 |_=>True
theorem U8{o:Obj}(h:plainO o)(b:Nat):xR b o:=by cases o<;>first|exact trivial|exact h.elim
def NV(u:World):Prop:=∀(b:Nat) o,u.heap[b]? =some o->xR b o
structure Grow(ρ:Array Nat)(p u:World)(ρ':Array Nat)(p' u':World):Prop where
 ext:Ext ρ ρ'
 KH:p.heap.size<=p'.heap.size
 vJ:∀b i,b<p.heap.size->(p'.cell? ⟨b,i,none⟩).isSome=(p.cell? ⟨b,i,none⟩).isSome/\p'.frozen? ⟨b,i,none⟩=p.frozen? ⟨b,i,none⟩
 fresh:∀b c:Nat,p.heap.size<=b->ρ'[b]? =some c->u.heap.size<=c
 GL:u.heap.size<=u'.heap.size
 keep:∀c:Nat,c<u.heap.size->(∀b:Nat,ρ[b]? =some c->¬Wr p b)->u'.heap[c]? =u.heap[c]?
 ours:∀c:Nat,u.heap.size<=c->c<u'.heap.size->∃b:Nat,ρ'[b]? =some c
 WE:∀b:Nat,b<p.heap.size->¬Wr p b->p'.heap[b]? =p.heap[b]?
 os:u'.os=u.os
 output:u'.output=u.output
 tape:u'.tape=u.tape
 pos:p'.os=p.os
 KL:p'.output=p.output
 nv:NV u->NV u'
theorem Jf{u:World}{o:Obj}(h:NV u)(ho:plainO o):NV (u.alloc o):=by
 intro b o' hb;simp only[World.alloc,Array.getElem?_push]at hb;split at hb
 ·obtain rfl:=Option.some.inj hb;exact U8 ho _
 ·exact h b o' hb
theorem tY{u:World}{a:Addr}{v:Value}(h:NV u):NV (u.setCell a v):=by
 intro b o' hb;simp only[World.setCell,Array.getElem?_modify]at hb;split at hb
 ·cases ho:u.heap[b]? with
  |none=>rw[ho]at hb;cases hb
  |some o=>
   rw[ho]at hb;have hp:=h b o ho;simp only[Option.map_some,Option.some.injEq]at hb;subst hb;cases o<;>first|exact hp|exact trivial
 ·exact h b o' hb
theorem Grow.refl{ρ:Array Nat}{p u:World}(h:WR ρ p u):Grow ρ p u ρ p u:=
 ⟨.refl _,Nat.le_refl _,fun _ _ _=>⟨rfl,rfl⟩,fun b c hb hc=>by have:=lt_of_some hc;have:=h.size;omega,Nat.le_refl _,fun _ _ _=>rfl,fun c h1 h2=>by omega,fun _ _ _=>rfl,rfl,rfl,rfl,rfl,rfl,id⟩
theorem Grow.wr{ρ ρ':Array Nat}{p u p' u':World}(g:Grow ρ p u ρ' p' u'){b:Nat}(hb:b<p.heap.size):Wr p' b↔Wr p b:=by
 unfold Wr;constructor
 ·rintro⟨i,h1,h2⟩;exact⟨i,(g.vJ b i hb).1▸h1,(g.vJ b i hb).2▸h2⟩
 ·rintro⟨i,h1,h2⟩;exact⟨i,(g.vJ b i hb).1.symm▸h1,(g.vJ b i hb).2.symm▸h2⟩
theorem Grow.trans{ρ ρ' He:Array Nat}{p u p' u' p'' u'':World}(h0:WR ρ p u)(h1:WR ρ' p' u')(g:Grow ρ p u ρ' p' u')(g':Grow ρ' p' u' He p'' u''):Grow ρ p u He p'' u'':=by
 refine⟨g.ext.trans g'.ext,Nat.le_trans g.KH g'.KH,fun b i hb=>?_,fun b c hb hc=>?_,Nat.le_trans g.GL g'.GL,fun c hc hn=>?_,fun c h1' h2'=>?_,fun b hb hn=>?_,g'.os.trans g.os,g'.output.trans g.output,g'.tape.trans g.tape,g'.pos.trans g.pos,g'.KL.trans g.KL,g'.nv∘g.nv⟩
 ·have hb':b<p'.heap.size:=Nat.lt_of_lt_of_le hb g.KH;exact⟨(g'.vJ b i hb').1.trans (g.vJ b i hb).1,(g'.vJ b i hb').2.trans (g.vJ b i hb).2⟩
 ·rcases Nat.lt_or_ge b p'.heap.size with hlt|hge
  ·have hx:b<ρ'.size:=by rw[h1.size];exact hlt
   have e:ρ'[b]? =some ρ'[b]:=Array.getElem?_eq_getElem hx;have:=g'.ext _ _ e;rw[hc]at this;obtain rfl:=Option.some.inj this;exact g.fresh b _ hb e
  ·exact Nat.le_trans g.GL (g'.fresh b c hge hc)
 ·have e1:=g.keep c hc hn;have e2:=g'.keep c (Nat.lt_of_lt_of_le hc g.GL) (fun b hb hw=>by
   rcases Nat.lt_or_ge b p.heap.size with hlt|hge
   ·have hx:b<ρ.size:=by rw[h0.size];exact hlt
    have e:ρ[b]? =some ρ[b]:=Array.getElem?_eq_getElem hx;have:=g.ext _ _ e;rw[hb]at this;obtain rfl:=Option.some.inj this;exact hn b e ((g.wr hlt).1 hw)
   ·have:=g.fresh b c hge hb;omega)
  exact e2.trans e1
 ·rcases Nat.lt_or_ge c u'.heap.size with hlt|hge
  ·obtain⟨b,hb⟩:=g.ours c h1' hlt;exact⟨b,g'.ext _ _ hb⟩
  ·exact g'.ours c hge h2'
 ·exact(g'.WE b (Nat.lt_of_lt_of_le hb g.KH) (fun hw=>hn ((g.wr hb).1 hw))).trans (g.WE b hb hn)
theorem Wv.mono{ρ ρ':Array Nat}{p u p' u':World}(h:WR ρ p u)(g:Grow ρ p u ρ' p' u'){e:Event}(he:Wv ρ p e):Wv ρ' p' e:=by
 rcases he with⟨b,c,i,wr,h1,h2,h3,h4⟩|h1|h1
 ·have hb:b<p.heap.size:=h.size▸lt_of_some h2;exact .inl ⟨b,c,i,wr,h1,g.ext _ _ h2,(g.vJ b i hb).1.symm▸h3,fun hw=>(g.vJ b i hb).2.symm▸h4 hw⟩
 ·exact .inr (.inl h1)
 ·exact .inr (.inr h1)
def Bare:Mark->Prop
 | .noRoom| .extern _=>True
 |_=>False
def Bad{α:Type}:Result α->Prop
 | .halt (.stuck _) _=>True
 | .halt (.unsupported (.initOrder _)) _=>False
 | .halt (.unsupported _) _=>True
 |_=>False
theorem run_bind{P:Program}{α β:Type}(s:Sem α)(f:α->Sem β)(w:World):(s.bind f).run P w=match s.run P w with| .ok a w'=>(f a).run P w'| .halt h w'=>.halt h w':=by
 induction s generalizing w with
 |pure a=>simp[Sem.bind,Sem.run]
 |load m a k ih=>simp only[Sem.bind,Sem.run];(repeat' split)<;>simp_all
 |store m a v k ih=>cases v<;>simp only[Sem.bind,Sem.run]<;>(try ((repeat' split)<;>simp_all))
 |new o k ih=>simp[Sem.bind,Sem.run,ih]
 |shape r k ih=>simp[Sem.bind,Sem.run,ih]
 |freeze a n k ih=>simp[Sem.bind,Sem.run,ih]
 |frozen a k ih=>simp[Sem.bind,Sem.run,ih]
 |getObj r k ih=>simp only[Sem.bind,Sem.run];(repeat' split)<;>simp_all
 |setObj r o k ih=>simp only[Sem.bind,Sem.run];(repeat' split)<;>simp_all
 |choose q k ih=>simp only[Sem.bind,Sem.run];(repeat' split)<;>simp_all
 |sys c k ih=>simp[Sem.bind,Sem.run,ih]
 |program k ih=>simp[Sem.bind,Sem.run,ih]
 |mark m k ih=>simp[Sem.bind,Sem.run,ih]
 |halt h=>simp[Sem.bind,Sem.run]
theorem Bad.bind{P:Program}{α β:Type}{s:Sem α}{f:α->Sem β}{w:World}(h:Bad (s.run P w)):Bad ((s.bind f).run P w):=by
 rw[run_bind];cases hr:s.run P w with
 |ok a w'=>rw[hr]at h;exact h.elim
 |halt x w'=>
  rw[hr]at h;cases x<;>first|exact h|(rename_i y;cases y<;>exact h)
inductive SR(P:Program){α β:Type}(A:Array Nat->α->β->Prop):Array Nat->Sem α->Sem β->Prop
 |pure {ρ:Array Nat} {a:α} {b:β}:A ρ a b->SR P A ρ (.pure a) (.pure b)
 |load {ρ:Array Nat} {a a':Addr} {k:Value->Sem α} {k':Value->Sem β}:AR ρ a a'->(∀v v',SV ρ v v'->SR P A ρ (k v) (k' v'))->SR P A ρ (.load .plain a k) (.load .plain a' k')
 |store {ρ:Array Nat} {a a':Addr} {v v':Value} {k:Sem α} {k':Sem β}:AR ρ a a'->SV ρ v v'->SR P A ρ k k'->SR P A ρ (.store .plain a v k) (.store .plain a' v' k')
 |new {ρ:Array Nat} {c c':Array Value} {e:TypeId} {k:Nat->Sem α} {k':Nat->Sem β}:bF ρ c c'->(∀n,SR P A (ρ.push n) (k ρ.size) (k' n))->SR P A ρ (.new (.cells c e) k) (.new (.cells c' e) k')
 |choose {ρ:Array Nat} {q:Question} {k:Nat->Sem α} {k':Nat->Sem β}:(∀n,SR P A ρ (k n) (k' n))->SR P A ρ (.choose q k) (.choose q k')
 |program {ρ:Array Nat} {k:Program->Sem α} {k':Program->Sem β}:SR P A ρ (k P) (k' P)->SR P A ρ (.program k) (.program k')
 |mark {ρ:Array Nat} {m:Mark} {k:Sem α} {k':Sem β}:Bare m->SR P A ρ k k'->SR P A ρ (.mark m k) (.mark m k')
 |dB {ρ:Array Nat} {s:Sem α} {s':Sem β}:(∀p,Bad (s.run P p))->SR P A ρ s s'
 |panic {ρ:Array Nat} {v v':Value}:VR ρ v v'->SR P A ρ (.halt (.panic v)) (.halt (.panic v'))
theorem SR.bind{P:Program}{α β γ δ:Type}{A:Array Nat->α->β->Prop}{B:Array Nat->γ->δ->Prop}{ρ:Array Nat}{s:Sem α}{s':Sem β}{f:α->Sem γ}{f':β->Sem δ}
  (h:SR P A ρ s s')(hk:∀ρ' a b,Ext ρ ρ'->A ρ' a b->SR P B ρ' (f a) (f' b)):SR P B ρ (s.bind f) (s'.bind f'):=by
 induction h with
 |pure ha=>exact hk _ _ _ (.refl _) ha
 |load ha _ ih=>exact .load ha (fun v v' hv=>ih v v' hv hk)
 |store ha hv _ ih=>exact .store ha hv (ih hk)
 |new hc _ ih=>exact .new hc (fun n=>ih n (fun ρ' a b e hA=>hk ρ' a b ((Ext.push _ _).trans e) hA))
 |choose _ ih=>exact .choose (fun n=>ih n hk)
 |program _ ih=>exact .program (ih hk)
 |mark hm _ ih=>exact .mark hm (ih hk)
 |dB hb=>exact .dB fun p=>(hb p).bind
 |panic hv=>exact .panic hv
theorem SR.mono{P:Program}{α β:Type}{A B:Array Nat->α->β->Prop}{ρ:Array Nat}{s:Sem α}{s':Sem β}(h:SR P A ρ s s')(hk:∀ρ' a b,Ext ρ ρ'->A ρ' a b->B ρ' a b):SR P B ρ s s':=by
 induction h with
 |pure ha=>exact .pure (hk _ _ _ (.refl _) ha)
 |load ha _ ih=>exact .load ha (fun v v' hv=>ih v v' hv hk)
 |store ha hv _ ih=>exact .store ha hv (ih hk)
 |new hc _ ih=>exact .new hc (fun n=>ih n (fun ρ' a b e hA=>hk ρ' a b ((Ext.push _ _).trans e) hA))
 |choose _ ih=>exact .choose (fun n=>ih n hk)
 |program _ ih=>exact .program (ih hk)
 |mark hm _ ih=>exact .mark hm (ih hk)
 |dB hb=>exact .dB hb
 |panic hv=>exact .panic hv
theorem WR.KQ{P:Program}{ρ:Array Nat}{p u:World}(h:WR ρ p u)(a:Addr)(m:Bool):∃why,p.farLoad P a m= .error (.stuck why):=by
 unfold World.farLoad World.noCell;rcases Nat.lt_or_ge a.block p.heap.size with hlt|hge
 ·obtain⟨c,e,fz,hr⟩:=h.rows _ hlt;rw[hr];exact⟨_,rfl⟩
 ·rw[Array.getElem?_eq_none hge];exact⟨_,rfl⟩
theorem WR.FE{P:Program}{ρ:Array Nat}{p u:World}(h:WR ρ p u)(a:Addr)(v:Value)(m:Bool):∃why,p.farStore P a v m= .error (.stuck why):=by
 unfold World.farStore World.noCell;rcases Nat.lt_or_ge a.block p.heap.size with hlt|hge
 ·obtain⟨c,e,fz,hr⟩:=h.rows _ hlt;rw[hr];exact⟨_,rfl⟩
 ·rw[Array.getElem?_eq_none hge];exact⟨_,rfl⟩
theorem jI{w:World}{a:Addr}{v:Value}(h:w.cell? a=some v):a.spot=none:=by
 unfold World.cell? at h;split at h
 ·split at h
  ·cases h
  ·rename_i hs;simpa using hs
 ·cases h
theorem wI{w:World}{b i:Nat}{v:Value}(h:w.cell? ⟨b,i,none⟩=some v):b<w.heap.size:=by
 unfold World.cell? at h;rcases Nat.lt_or_ge b w.heap.size with hlt|hge
 ·exact hlt
 ·rw[show w.heap[(⟨b,i,none⟩:Addr).block]? =none from Array.getElem?_eq_none hge]at h;cases h
theorem heap_setCell_other{w:World}{a:Addr}{v:Value}{b:Nat}(h:b≠a.block):(w.setCell a v).heap[b]? =w.heap[b]? :=by
 unfold World.setCell;simp only[Array.getElem?_modify];rw[if_neg (fun e=>h e.symm)]
theorem size_setCell{w:World}{a:Addr}{v:Value}:(w.setCell a v).heap.size=w.heap.size:=by simp[World.setCell]
theorem jX{w:World}{a b:Addr}{v:Value}:((w.setCell a v).cell? b).isSome=(w.cell? b).isSome:=by
 by_cases h:a=b
 ·subst h;cases hc:w.cell? a with
  |some x=>rw[World.cell?_setCell_same _ _ _ hc];rfl
  |none=>
   unfold World.cell? World.setCell at*;simp only[Array.getElem?_modify,if_true]at*;cases hb:w.heap[a.block]? with
   |none=>simp
   |some o=>
    rw[hb]at hc;cases o with
    |cells c e fz=>
     simp only[Option.map_some]at hc⊢;split
     ·simp
     ·rename_i hs;simp only[hs]at hc;simp only[Option.isSome_none,Bool.false_eq_true,if_false]at*;rw[Array.getElem?_eq_none_iff]at hc;simp[hc]
    |_=>simp
 ·rw[World.cell?_setCell_other _ _ _ _ h]
theorem WR.store{ρ:Array Nat}{p u:World}(h:WR ρ p u){a a':Addr}{v v' x:Value}(ha:AR ρ a a')(hx:p.cell? a=some x)(hf:p.frozen? a=false)(hv:SV ρ v v'):
  u.frozen? a'=false/\(∃x',u.cell? a'=some x')/\WR ρ (p.setCell a v) (u.setCell a' v')/\Grow ρ p u ρ (p.setCell a v) (u.setCell a' v'):=by
 obtain⟨b,i,sp⟩:=a;obtain⟨c,i',sp'⟩:=a';obtain rfl:sp=none:=jI hx;obtain⟨ha1,ha2,WV⟩:=ha;simp only at ha1 ha2 WV;subst ha2 WV;obtain⟨c1,x',hc1,hx',_⟩:=h.cell b i' x hx;obtain rfl:c1=c:=Option.some.inj (hc1.symm.trans ha1);have hfu:=h.free b i' c1 (by rw[hx];rfl) hf ha1;refine⟨hfu,⟨x',hx'⟩,?_,?_⟩
 ·refine⟨by rw[size_setCell];exact h.size,fun b' hb'=>?_,h.inj,fun b' c' hc'=>by rw[size_setCell];exact h.low b' c' hc',fun b' j y hy=>?_,fun b' j c' hs hfr hc'=>?_,h.tape,h.drawn⟩
  ·rw[size_setCell]at hb';obtain⟨cs,e,fz,hr⟩:=h.rows b' hb';by_cases e':b'=b
   ·subst e';refine⟨cs.setIfInBounds i' v,e,fz,?_⟩;simp[World.setCell,Array.getElem?_modify,hr]
   ·exact⟨cs,e,fz,by rw[heap_setCell_other (by exact e')];exact hr⟩
  ·by_cases e':(⟨b,i',none⟩:Addr)=⟨b',j,none⟩
   ·simp only[Addr.mk.injEq,and_true]at e';obtain⟨rfl,rfl⟩:=e';rw[World.cell?_setCell_same _ _ _ hx]at hy;obtain rfl:=Option.some.inj hy;exact⟨c1,v',ha1,World.cell?_setCell_same _ _ _ hx',hv⟩
   ·rw[World.cell?_setCell_other _ _ _ _ e']at hy;obtain⟨c',y',hc',hy',hvr⟩:=h.cell b' j y hy;refine⟨c',y',hc',?_,hvr⟩;rw[World.cell?_setCell_other]
    ·exact hy'
    ·intro e2;simp only[Addr.mk.injEq,and_true]at e2;obtain⟨rfl,rfl⟩:=e2;exact e' (by rw[h.inj b b' _ ha1 hc'])
  ·rw[jX]at hs;rw[World.frozen?_setCell]at hfr⊢;exact h.free b' j c' hs hfr hc'
 ·refine⟨.refl _,by rw[size_setCell];exact Nat.le_refl _,fun b' j _=>⟨jX,World.frozen?_setCell ..⟩,fun b' c' hb' hc'=>by have:=lt_of_some hc';have:=h.size;omega,by rw[size_setCell];exact Nat.le_refl _,
   fun c' _ hn=>?_,fun c' h1 h2=>by rw[size_setCell]at h2;omega,fun b' _ hn=>?_,rfl,rfl,rfl,rfl,rfl,fun h=>tY h⟩
  ·refine heap_setCell_other fun e'=>hn b (e'▸ha1) ⟨i',by rw[hx];rfl,hf⟩
  ·refine heap_setCell_other fun e'=>hn (e'▸⟨i',by rw[hx];rfl,hf⟩)
theorem mY{w:World}{c:Array Value}{e:TypeId}{i:Nat}:(w.alloc (.cells c e)).cell? ⟨w.heap.size,i,none⟩=c[i]? :=World.cell?_alloc_new w c e i
theorem fU{w:World}{o:Obj}{b i:Nat}(h:b<w.heap.size):(w.alloc o).cell? ⟨b,i,none⟩=w.cell? ⟨b,i,none⟩:=World.cell?_alloc_old w o _ (by show b≠_;omega)
theorem iH{w:World}{o:Obj}{b i:Nat}(h:b<w.heap.size):(w.alloc o).frozen? ⟨b,i,none⟩=w.frozen? ⟨b,i,none⟩:=World.frozen?_alloc_old w o _ (by show b≠_;omega)
theorem heap_alloc_old{w:World}{o:Obj}{b:Nat}(h:b<w.heap.size):(w.alloc o).heap[b]? =w.heap[b]? :=by
 simp only[World.alloc,Array.getElem?_push];rw[if_neg (by omega)]
theorem size_alloc{w:World}{o:Obj}:(w.alloc o).heap.size=w.heap.size+1:=Array.size_push _
theorem heap_alloc_new{w:World}{o:Obj}:(w.alloc o).heap[w.heap.size]? =some o:=Array.getElem?_push_size
theorem WR.new{ρ:Array Nat}{p u:World}(h:WR ρ p u){c c':Array Value}(e:TypeId)(hc:bF ρ c c'):
  WR (ρ.push u.heap.size) (p.alloc (.cells c e)) (u.alloc (.cells c' e))/\Grow ρ p u (ρ.push u.heap.size) (p.alloc (.cells c e)) (u.alloc (.cells c' e)):=by
 have hs:=h.size;refine⟨⟨by rw[size_alloc,Array.size_push,hs],fun b hb=>?_,fun b b' x h1 h2=>?_,fun b x h1=>?_,fun b i v hv=>?_,fun b i x h1 h2 h3=>?_,h.tape,h.drawn⟩,?_⟩
 ·rw[size_alloc]at hb;rcases Nat.lt_or_ge b p.heap.size with hlt|hge
  ·rw[heap_alloc_old hlt];exact h.rows b hlt
  ·obtain rfl:b=p.heap.size:=by omega
   exact⟨c,e,(0,0),heap_alloc_new⟩
 ·rcases jU h1 with h1|⟨e1,e2⟩<;>rcases jU h2 with h2|⟨e3,e4⟩
  ·exact h.inj b b' x h1 h2
  ·have:=h.low b _ h1;omega
  ·have:=h.low b' _ h2;omega
  ·omega
 ·rw[size_alloc];rcases jU h1 with h1|⟨rfl,rfl⟩
  ·have:=h.low b x h1;omega
  ·omega
 ·have hb:=wI hv;rw[size_alloc]at hb;rcases Nat.lt_or_ge b p.heap.size with hlt|hge
  ·rw[fU hlt]at hv;obtain⟨x,v',h1,h2,h3⟩:=h.cell b i v hv;exact⟨x,v',EY _ h1,by rw[fU (h.low b x h1)];exact h2,h3.mono (.push _ _)⟩
  ·obtain rfl:b=p.heap.size:=by omega
   rw[mY]at hv;obtain⟨v',h1,h2⟩:=hc.get hv;exact⟨u.heap.size,v',by rw[<-hs];exact xM _ _,by rw[mY];exact h1,h2.mono (.push _ _)⟩
 ·rcases jU h3 with h3|⟨rfl,rfl⟩
  ·have hlt:b<p.heap.size:=hs▸lt_of_some h3;rw[fU hlt]at h1;rw[iH hlt]at h2;rw[iH (h.low b x h3)];exact h.free b i x h1 h2 h3
  ·exact World.frozen?_alloc_new u c' e i
 ·refine⟨.push _ _,by rw[size_alloc];omega,fun b i hb=>⟨by rw[fU hb],iH hb⟩,fun b x hb hx=>?_,by rw[size_alloc];omega,fun x hx _=>heap_alloc_old hx,fun x h1 h2=>?_,fun b hb _=>heap_alloc_old hb,rfl,rfl,rfl,rfl,rfl,fun h=>Jf h trivial⟩
  ·rcases jU hx with hx|⟨rfl,rfl⟩
   ·have:=lt_of_some hx;omega
   ·exact Nat.le_refl _
  ·rw[size_alloc]at h2;obtain rfl:x=u.heap.size:=by omega
   exact⟨ρ.size,xM _ _⟩
def O9(P:Program){α β:Type}(A:Array Nat->α->β->Prop)(ρ:Array Nat)(p u:World)(s':Sem β):Result α->Prop
 | .ok a p'=>∀es,∃ρ' b u' es',s'.runT P u es=(.ok b u',es++es')/\A ρ' a b/\WR ρ' p' u'/\Grow ρ p u ρ' p' u'/\∀e∈es',Wv ρ' p' e
 | .halt (.panic v) p'=>∀es,∃ρ' v' u' es',s'.runT P u es=(.halt (.panic v') u',es++es')/\VR ρ' v v'/\WR ρ' p' u'/\Grow ρ p u ρ' p' u'/\∀e∈es',Wv ρ' p' e
 |r=>Bad r
theorem O9.after{P:Program}{α β:Type}{A:Array Nat->α->β->Prop}{ρ J5:Array Nat}{p u p₁ u₁:World}{s' s₁:Sem β}{r:Result α}{ev:Array Event}
  (h0:WR ρ p u)(h1:WR J5 p₁ u₁)(g:Grow ρ p u J5 p₁ u₁)(hev:∀e∈ev,Wv J5 p₁ e)(hs:∀es,s'.runT P u es=s₁.runT P u₁ (es++ev))(h:O9 P A J5 p₁ u₁ s₁ r):O9 P A ρ p u s' r:=by
 match r,h with
 |.ok a p',h=>
  intro es;obtain⟨ρ',b,u',es',e1,hA,hW,hG,hE⟩:=h (es++ev);refine⟨ρ',b,u',ev++es',by rw[hs,e1,Array.append_assoc],hA,hW,g.trans h0 h1 hG,fun e he=>?_⟩;rcases Array.mem_append.1 he with he|he
  ·exact(hev e he).mono h1 hG
  ·exact hE e he
 |.halt (.panic v) p',h=>
  intro es;obtain⟨ρ',b,u',es',e1,hA,hW,hG,hE⟩:=h (es++ev);refine⟨ρ',b,u',ev++es',by rw[hs,e1,Array.append_assoc],hA,hW,g.trans h0 h1 hG,fun e he=>?_⟩;rcases Array.mem_append.1 he with he|he
  ·exact(hev e he).mono h1 hG
  ·exact hE e he
 | .halt .blocked _,h| .halt .waiting _,h| .halt (.exit _) _,h| .halt (.fatal _) _,h| .halt (.throw _) _,h| .halt .goexit _,h| .halt (.unsupported _) _,h| .halt (.stuck _) _,h=>exact h
theorem SR.run{P:Program}{α β:Type}{A:Array Nat->α->β->Prop}{ρ:Array Nat}{s:Sem α}{s':Sem β}(h:SR P A ρ s s'):∀p u,WR ρ p u->O9 P A ρ p u s' (s.run P p):=by
 induction h with
 |pure ha=>exact fun p u hw es=>⟨_,_,u,#[],by simp only[Sem.runT,Array.append_empty],ha,hw,.refl hw,fun e he=>by simp at he⟩
 |@load ρ a a' k k' ha _ ih=>
  intro p u hw;simp only[Sem.run];cases hc:p.cell? a with
  |none=>
   obtain⟨why,e⟩:=hw.KQ (P:=P) a (Mode.plain== .atomic);simp only[e];trivial
  |some v=>
   simp only;obtain⟨b,i,sp⟩:=a;obtain⟨c,i',sp'⟩:=a';obtain rfl:sp=none:=jI hc;obtain⟨ha1,ha2,WV⟩:=ha;simp only at ha1 ha2 WV;subst ha2 WV;obtain⟨c1,v',h1,h2,h3⟩:=hw.cell b i' v hc;obtain rfl:c1=c:=Option.some.inj (h1.symm.trans ha1);refine O9.after hw hw (.refl hw) (ev:=#[⟨.cell ⟨c1,i',none⟩,false,false⟩]) (fun e he=>?_) (fun es=>?_) (ih v v' h3 p u hw)
   ·simp at he;subst he;exact .inl ⟨b,c1,i',false,rfl,ha1,by rw[hc];rfl,fun x=>by cases x⟩
   ·simp only[Sem.runT,h2];rfl
 |@store ρ a a' v v' k k' ha hv _ ih=>
  intro p u hw;have key:v≠.tuple #[]->O9 P A ρ p u (Sem.store .plain a' v' k') (match p.cell? a with
    |some _=>if p.frozen? a=true then .halt (.unsupported (.unsafePointer "a write to bytes that a string shares")) p else k.run P (p.setCell a v)
    |none=>match p.farStore P a v (Mode.plain== .atomic)with
     | .ok (w,_)=>k.run P w
     | .error h=>.halt h p):=by
   intro hnt;cases hc:p.cell? a with
   |none=>
    obtain⟨why,e⟩:=hw.FE (P:=P) a v (Mode.plain== .atomic);simp only[e];trivial
   |some x=>
    simp only;cases hf:p.frozen? a with
    |true=>simp only[if_true];trivial
    |false=>
     simp only[Bool.false_eq_true,if_false];obtain⟨f1,⟨x',f2⟩,f3,f4⟩:=hw.store ha hc hf hv;have sp:=jI hc;refine O9.after hw f3 f4 (ev:=#[⟨.cell a',true,false⟩]) (fun e he=>?_) (fun es=>?_) (ih _ _ f3)
     ·simp at he;subst he;obtain⟨b,i,sp0⟩:=a;obtain⟨c,i',sp'⟩:=a';obtain⟨ha1,ha2,WV⟩:=ha;simp only at ha1 ha2 WV sp;subst sp ha2 WV;exact .inl ⟨b,c,i',true,rfl,ha1,by rw[jX,hc];rfl,fun _=>by rw[World.frozen?_setCell];exact hf⟩
     ·cases hv<;>first|exact absurd rfl hnt|(simp only[Sem.runT,f2,f1];rfl)
  cases hv<;>first|exact key (fun e=>by cases e)|(simp only[Sem.run];trivial)
 |@new ρ c c' e k k' hc _ ih=>
  intro p u hw;simp only[Sem.run];obtain⟨f1,f2⟩:=hw.new e hc;have:=ih u.heap.size _ _ f1;rw[hw.size]at this;refine O9.after hw f1 f2 (ev:=#[]) (fun e he=>by simp at he) (fun es=>?_) this;simp only[Sem.runT,Array.append_empty];rfl
 |@choose ρ q k k' _ ih=>
  intro p u hw;simp only[Sem.run];cases hq:q.forced with
  |true=>
   simp only[if_true];exact O9.after hw hw (.refl hw) (ev:=#[]) (fun e he=>by simp at he) (fun es=>by simp only[Sem.runT,hq,if_true,Array.append_empty]) (ih 0 p u hw)
  |false=>
   simp only[Bool.false_eq_true,if_false];have hw':WR ρ {p with drawn:=p.drawn+1} {u with drawn:=u.drawn+1}:=⟨hw.size,hw.rows,hw.inj,hw.low,hw.cell,hw.free,hw.tape,by rw[hw.drawn]⟩;have hg:Grow ρ p u ρ {p with drawn:=p.drawn+1} {u with drawn:=u.drawn+1}:=
    ⟨.refl _,Nat.le_refl _,fun _ _ _=>⟨rfl,rfl⟩,fun b c hb hc=>by have:=lt_of_some hc;have:=hw.size;omega,Nat.le_refl _,fun _ _ _=>rfl,fun c h1 h2=>by simp only at h2;omega,fun _ _ _=>rfl,rfl,rfl,rfl,rfl,rfl,id⟩
   refine O9.after hw hw' hg (ev:=#[]) (fun e he=>by simp at he) (fun es=>?_) (ih _ _ _ hw');simp only[Sem.runT,hq,Bool.false_eq_true,if_false,Array.append_empty,hw.tape,hw.drawn]
 |program _ ih=>
  intro p u hw;simp only[Sem.run];exact O9.after hw hw (.refl hw) (ev:=#[]) (fun e he=>by simp at he) (fun es=>by simp only[Sem.runT,Array.append_empty]) (ih p u hw)
 |@mark ρ m k k' hm _ ih=>
  intro p u hw;simp only[Sem.run];refine O9.after hw hw (.refl hw) (ev:=#[⟨.mark m,false,true⟩]) (fun e he=>?_) (fun es=>by simp only[Sem.runT];rfl) (ih p u hw);simp at he;subst he;cases m<;>first|exact hm.elim|exact .inr (.inl rfl)|exact .inr (.inr ⟨_,rfl⟩)
 |@dB ρ s s' hb=>
  intro p u hw;have:=hb p;cases hr:s.run P p with
  |ok a p'=>rw[hr]at this;exact this.elim
  |halt x p'=>rw[hr]at this;cases x<;>first|exact this.elim|exact this
 |panic hv=>exact fun p u hw es=>⟨_,_,u,#[],by simp only[Sem.runT,Array.append_empty],hv,hw,.refl hw,fun e he=>by simp at he⟩
end Go.Ren
namespace Go.bB
def _root_.Go.World.re(w:World)(τ:Nat->Question->Nat)(d:Nat):World:= {w with tape:=τ,drawn:=d}
theorem kF(w:World):w.re w.tape w.drawn=w:=rfl
theorem KG(w:World)(τ sP:Nat->Question->Nat)(d d':Nat):(w.re τ d).re sP d'=w.re sP d':=rfl
theorem JE(P:Program)(w:World)(τ:Nat->Question->Nat)(d:Nat)(a:Addr)(m:Bool):(w.re τ d).farLoad P a m=w.farLoad P a m:=rfl
theorem map_bind{α β γ:Type}(f:β->γ)(x:Except String α)(g:α->Except String β):(x >>= g).map f=x >>= fun a=>(g a).map f:=by cases x<;>rfl
theorem BF(P:Program)(w:World)(τ:Nat->Question->Nat)(d:Nat)(at_:Addr)(u:TypeId)(k:Addr)(v:Value)(m:Bool):
  (w.re τ d).viewStore P at_ u k v m=(w.viewStore P at_ u k v m).map fun x=>(x.1.re τ d,x.2):=by
 have hs:(w.re τ d).seen P at_ u k m=w.seen P at_ u k m:=rfl;unfold World.viewStore;rw[hs];dsimp only;split
 ·rfl
 ·rw[map_bind];congr 1
  funext x;obtain⟨c,e,frozen,first,like,cells⟩:=x;dsimp only;split
  ·split
   ·rfl
   ·rw[map_bind];rfl
  ·rfl
theorem vo(P:Program)(w:World)(τ:Nat->Question->Nat)(d:Nat)(a:Addr)(v:Value)(m:Bool):(w.re τ d).farStore P a v m=(w.farStore P a v m).map fun x=>(x.1.re τ d,x.2):=by
 unfold World.farStore;have hh:(w.re τ d).heap=w.heap:=rfl;rw[hh];split
 ·rename_i at_ u _;rw[BF];cases w.viewStore P at_ u a v m<;>rfl
 ·rfl
theorem yL{P:Program}{w w':World}{a:Addr}{v:Value}{m:Bool}{l:List Addr}(h:w.farStore P a v m= .ok (w',l)):w'.tape=w.tape/\w'.drawn=w.drawn:=by
 have:=vo P w w.tape w.drawn a v m;rw[kF,h]at this;simp only[Except.map,Except.ok.injEq,Prod.mk.injEq,and_true]at this;rw[this];exact⟨rfl,rfl⟩
inductive Pl(P:Program){α:Type}:Sem α->Prop
 |pure (a:α):Pl P (.pure a)
 |load (m:Mode) (a:Addr) {k:Value->Sem α}:(∀v,Pl P (k v))->Pl P (.load m a k)
 |store (m:Mode) (a:Addr) (v:Value) {k:Sem α}:Pl P k->Pl P (.store m a v k)
 |new (o:Obj) {k:Nat->Sem α}:(∀n,Pl P (k n))->Pl P (.new o k)
 |shape (r:Nat) {k:Option (TypeId×Nat)->Sem α}:(∀x,Pl P (k x))->Pl P (.shape r k)
 |freeze (a:Addr) (n:Nat) {k:Sem α}:Pl P k->Pl P (.freeze a n k)
 |frozen (a:Addr) {k:Bool->Sem α}:(∀x,Pl P (k x))->Pl P (.frozen a k)
 |getObj (r:Nat) {k:Obj->Sem α}:(∀x,Pl P (k x))->Pl P (.getObj r k)
 |setObj (r:Nat) (o:Obj) {k:Sem α}:Pl P k->Pl P (.setObj r o k)
 |choose (q:Question) {k:Nat->Sem α}:(∀n,Pl P (k n))->Pl P (.choose q k)
 |program {k:Program->Sem α}:Pl P (k P)->Pl P (.program k)
 |mark (m:Mark) {k:Sem α}:Pl P k->Pl P (.mark m k)
 |halt (h:Halt):Pl P (.halt h)
 |dB {s:Sem α}:(∀w a w',s.run P w≠.ok a w')->Pl P s
theorem Pl.again{P:Program}{α:Type}{s:Sem α}(h:Pl P s):∀(w:World) (es:Array Event) (a:α) (w':World) (es':Array Event),s.runT P w es=(.ok a w',es')->
  w'.tape=w.tape/\∃m,w'.drawn=w.drawn+m/\∀τ d,(∀i,i<m->τ (d+i)=w.tape (w.drawn+i))->s.runT P (w.re τ d) es=(.ok a (w'.re τ (d+m)),es'):=by
 induction h with
 |pure a=>
  intro w es a' w' es' h;simp only[Sem.runT,Prod.mk.injEq,Result.ok.injEq]at h;obtain⟨⟨rfl,rfl⟩,rfl⟩:=h;exact⟨rfl,0,rfl,fun τ d _=>rfl⟩
 |@load m a k _ ih=>
  intro w es a' w' es' h;simp only[Sem.runT]at h;have hc:∀τ d,(w.re τ d).cell? a=w.cell? a:=fun _ _=>rfl;cases hcell:w.cell? a with
  |some v=>
   simp only[hcell]at h;obtain⟨h1,n,h2,h3⟩:=ih v w _ a' w' es' h;refine⟨h1,n,h2,fun τ d hd=>?_⟩;simp only[Sem.runT,hc,hcell];exact h3 τ d hd
  |none=>
   simp only[hcell]at h;cases FY:w.farLoad P a (m== .atomic)with
   |error e=>simp only[FY]at h;cases h
   |ok x=>
    obtain⟨v,t⟩:=x;simp only[FY]at h;obtain⟨h1,n,h2,h3⟩:=ih v w _ a' w' es' h;refine⟨h1,n,h2,fun τ d hd=>?_⟩;simp only[Sem.runT,hc,hcell,JE,FY];exact h3 τ d hd
 |@store m a v k _ ih=>
  intro w es a' w' es' h;have hc:∀τ d,(w.re τ d).cell? a=w.cell? a:=fun _ _=>rfl;have hz:∀τ d,(w.re τ d).frozen? a=w.frozen? a:=fun _ _=>rfl;have hs:∀τ d,(w.re τ d).setCell a v=(w.setCell a v).re τ d:=fun _ _=>rfl;have key:(∀c,v≠.agg c)->(∀c,v≠.tuple c)->w'.tape=w.tape/\∃m,w'.drawn=w.drawn+m/\∀τ d,(∀i,i<m->τ (d+i)=w.tape (w.drawn+i))->(Sem.store ‹Mode› a v k).runT P (w.re τ d) es=(.ok a' (w'.re τ (d+m)),es'):=by
   intro ha ht;have e:∀u:World,(Sem.store m a v k).runT P u es=(match u.cell? a with
    |some _=>if u.frozen? a then(.halt (.unsupported (.unsafePointer "a write to bytes that a string shares")) u,es)else k.runT P (u.setCell a v) (es.push ⟨.cell a,true,m== .atomic⟩)
    |none=>match u.farStore P a v (m== .atomic)with
     | .ok (w,touched)=>k.runT P w (es++touched.toArray.map (⟨.cell ·,true,m== .atomic⟩))
     | .error h=>(.halt h u,es)):=by
    intro u;cases v<;>first|exact absurd rfl (ha _)|exact absurd rfl (ht _)|rfl
   rw[e]at h;cases hcell:w.cell? a with
   |some x=>
    simp only[hcell]at h;cases hfz:w.frozen? a with
    |true=>simp only[hfz,if_true]at h;cases h
    |false=>
     simp only[hfz,Bool.false_eq_true,if_false]at h;obtain⟨h1,n,h2,h3⟩:=ih _ _ a' w' es' h;refine⟨h1,n,h2,fun τ d hd=>?_⟩;rw[e];simp only[hc,hcell,hz,hfz,hs,Bool.false_eq_true,if_false];exact h3 τ d hd
   |none=>
    simp only[hcell]at h;cases FY:w.farStore P a v (m== .atomic)with
    |error x=>simp only[FY]at h;cases h
    |ok x=>
     obtain⟨w1,t⟩:=x;simp only[FY]at h;obtain⟨k1,k2⟩:=yL FY;obtain⟨h1,n,h2,h3⟩:=ih _ _ a' w' es' h;refine⟨h1.trans k1,n,by rw[h2,k2],fun τ d hd=>?_⟩;rw[e];simp only[hc,hcell,vo,FY,Except.map];exact h3 τ d (fun i hi=>by rw[hd i hi,k1,k2])
  cases v<;>first|(simp only[Sem.runT]at h;cases h;done)|exact key (fun _ e=>by cases e) (fun _ e=>by cases e)
 |@new o k _ ih=>
  intro w es a' w' es' h;simp only[Sem.runT]at h;obtain⟨h1,n,h2,h3⟩:=ih _ _ _ a' w' es' h;exact⟨h1,n,h2,fun τ d hd=>by simp only[Sem.runT];exact h3 τ d hd⟩
 |@shape r k _ ih=>
  intro w es a' w' es' h;simp only[Sem.runT]at h;obtain⟨h1,n,h2,h3⟩:=ih _ _ _ a' w' es' h;exact⟨h1,n,h2,fun τ d hd=>by simp only[Sem.runT];exact h3 τ d hd⟩
 |@freeze a n k _ ih=>
  intro w es a' w' es' h;simp only[Sem.runT]at h;obtain⟨h1,m,h2,h3⟩:=ih _ _ a' w' es' h;have k1:(w.freeze a n).tape=w.tape/\(w.freeze a n).drawn=w.drawn:=by unfold World.freeze;split<;>exact⟨rfl,rfl⟩
  have k2:∀τ d,(w.re τ d).freeze a n=(w.freeze a n).re τ d:=by intro τ d;unfold World.freeze;split<;>rfl
  refine⟨h1.trans k1.1,m,by rw[h2,k1.2],fun τ d hd=>?_⟩;simp only[Sem.runT,k2];exact h3 τ d (fun i hi=>by rw[hd i hi,k1.1,k1.2])
 |@frozen a k _ ih=>
  intro w es a' w' es' h;simp only[Sem.runT]at h;obtain⟨h1,n,h2,h3⟩:=ih _ _ _ a' w' es' h;exact⟨h1,n,h2,fun τ d hd=>by simp only[Sem.runT];exact h3 τ d hd⟩
 |@getObj r k _ ih=>
  intro w es a' w' es' h;have hh:∀τ d,(w.re τ d).heap=w.heap:=fun _ _=>rfl;simp only[Sem.runT]at h;split at h
  ·cases h
  ·rename_i o hne ho;obtain⟨h1,n,h2,h3⟩:=ih _ _ _ a' w' es' h;refine⟨h1,n,h2,fun τ d hd=>?_⟩;simp only[Sem.runT,hh,ho];cases o<;>first|exact absurd ho (hne _ _ _)|exact h3 τ d hd
  ·cases h
 |@setObj r o k _ ih=>
  intro w es a' w' es' h;have hh:∀τ d,(w.re τ d).heap=w.heap:=fun _ _=>rfl;simp only[Sem.runT]at h;split at h
  ·cases h
  ·rename_i x hne ho;obtain⟨h1,n,h2,h3⟩:=ih _ _ a' w' es' h;refine⟨h1,n,h2,fun τ d hd=>?_⟩;simp only[Sem.runT,hh,ho];cases x<;>first|exact absurd ho (hne _ _ _)|exact h3 τ d hd
  ·cases h
 |@choose q k _ ih=>
  intro w es a' w' es' h;simp only[Sem.runT]at h;cases hq:q.forced with
  |true=>
   simp only[hq,if_true]at h;obtain⟨h1,n,h2,h3⟩:=ih _ _ _ a' w' es' h;exact⟨h1,n,h2,fun τ d hd=>by simp only[Sem.runT,hq,if_true];exact h3 τ d hd⟩
  |false=>
   simp only[hq,Bool.false_eq_true,if_false]at h;obtain⟨h1,n,h2,h3⟩:=ih _ _ _ a' w' es' h;refine⟨h1,n+1,by rw[h2];simp only;omega,fun τ d hd=>?_⟩;have e0:τ d=w.tape w.drawn:=by simpa using hd 0 (by omega)
   simp only[Sem.runT,hq,Bool.false_eq_true,if_false];have:=h3 τ (d+1) (fun i hi=>by
    have:=hd (i+1) (by omega);simpa[Nat.add_assoc,Nat.add_comm 1]using this)
   show(k (q.cut (τ d q))).runT P ({w with drawn:=w.drawn+1}.re τ (d+1)) es=_;rw[e0,show d+(n+1)=d+1+n by omega];exact this
 |program _ ih=>
  intro w es a' w' es' h;simp only[Sem.runT]at h;obtain⟨h1,n,h2,h3⟩:=ih _ _ a' w' es' h;exact⟨h1,n,h2,fun τ d hd=>by simp only[Sem.runT];exact h3 τ d hd⟩
 |mark m _ ih=>
  intro w es a' w' es' h;simp only[Sem.runT]at h;obtain⟨h1,n,h2,h3⟩:=ih _ _ a' w' es' h;exact⟨h1,n,h2,fun τ d hd=>by simp only[Sem.runT];exact h3 τ d hd⟩
 |halt x=>
  intro w es a' w' es' h;simp only[Sem.runT]at h;cases h
 |dB hb=>
  intro w es a' w' es' h;have:=congrArg Prod.fst h;rw[Sem.runT_fst]at this;exact absurd this (hb _ _ _)
end Go.bB
