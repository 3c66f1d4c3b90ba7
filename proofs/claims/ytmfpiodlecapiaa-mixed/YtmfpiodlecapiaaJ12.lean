import Derived.Test.YtmfpiodlecapiaaJ09
import GoSem.Dispatch
import Derived.Calls
namespace Go.Ren
variable {P:Program} {ρ:Array Nat}
def EqR{α:Type}:Array Nat->α->α->Prop:=fun _ a b=>a=b
theorem SR.seq{α β γ δ:Type}{A:Array Nat->α->β->Prop}{B:Array Nat->γ->δ->Prop}{s:Sem α}{s':Sem β}{f:α->Sem γ}{f':β->Sem δ}
 (h:SR P A ρ s s')(hk:∀ρ' a b,Ext ρ ρ'->A ρ' a b->SR P B ρ' (f a) (f' b)):SR P B ρ (s >>= f) (s' >>= f'):=SR.bind h hk
theorem SR.ret{α β:Type}{A:Array Nat->α->β->Prop}{a:α}{b:β}(h:A ρ a b):SR P A ρ (Pure.pure a) (Pure.pure b):=SR.pure h
theorem qF{α β:Type}{A:Array Nat->α->β->Prop}{why:String}{s:Sem β}:SR P A ρ (stuck why) s:=.doomed fun _=>trivial
theorem sr_unsupported{α β:Type}{A:Array Nat->α->β->Prop}{u:Unsupported}{s:Sem β}(hu:∀g,u≠.initOrder g:=by intro g e;cases e):SR P A ρ (unsupported u) s:=.doomed fun _=>by
 cases u<;>first|trivial|exact absurd rfl (hu _)
theorem sr_program{γ δ:Type}{B:Array Nat->γ->δ->Prop}{f:Program->Sem γ}{f':Program->Sem δ}(h:SR P B ρ (f P) (f' P)):SR P B ρ (program >>= f) (program >>= f'):=SR.program h
theorem sr_choose{γ δ:Type}{B:Array Nat->γ->δ->Prop}{q:Question}{f:Nat->Sem γ}{f':Nat->Sem δ}(h:∀n,SR P B ρ (f n) (f' n)):SR P B ρ (choose q >>= f) (choose q >>= f'):=SR.choose h
theorem sr_ite{α β:Type}{A:Array Nat->α->β->Prop}{c:Prop}[Decidable c]{a b:Sem α}{a' b':Sem β}(h1:c->SR P A ρ a a')(h2:¬c->SR P A ρ b b'):SR P A ρ (if c then a else b) (if c then a' else b'):=by
 by_cases h:c
 ·simp only[h,if_true];exact h1 h
 ·simp only[h,if_false];exact h2 h
theorem sr_typeInfo(t:TypeId):SR P (fun _ a b=>a=b/\P.info? t=some a) ρ (typeInfo t) (typeInfo t):=by
 unfold typeInfo;refine sr_program ?_;cases h:P.info? t with
 |none=>exact qF
 |some i=>exact SR.ret ⟨rfl,rfl⟩
theorem sr_underlying(t:TypeId):SR P (fun _ a b=>a=b/\P.underlying t=some a) ρ (underlying t) (underlying t):=by
 unfold underlying;refine sr_program ?_;cases h:P.underlying t with
 |none=>exact qF
 |some i=>exact SR.ret ⟨rfl,rfl⟩
theorem sr_sizeOf(t:TypeId):SR P EqR ρ (sizeOf t) (sizeOf t):=by
 unfold sizeOf;refine(sr_typeInfo t).seq fun ρ' a b _ ⟨h,_⟩=>?_;subst h;exact SR.ret rfl
def ZOk(P:Program)(t:TypeId):Prop:=∀i v,P.info? t=some i->i.zero=some v->∀ρ,AllR ρ v.cells v.cells
theorem sr_zeroValue{t:TypeId}:SR P (fun _ a b=>a=b/\∃i,P.info? t=some i/\i.zero=some a) ρ (zeroValue t) (zeroValue t):=by
 unfold zeroValue;refine(sr_typeInfo t).seq fun ρ' a b _ ⟨h,hi⟩=>?_;subst h;cases hz:a.zero with
 |none=>exact sr_unsupported
 |some v=>exact SR.ret ⟨rfl,a,hi,hz⟩
theorem sr_rtError{α β:Type}{A:Array Nat->α->β->Prop}(m:String):SR P A ρ (runtimePanic (.error m)) (runtimePanic (.error m)):=by
 unfold runtimePanic;exact sr_program (.panic (.iface _ (.string _)))
theorem vr_bounds(ρ:Array Nat)(x y:Int)(s:Bool)(c:Nat):VR ρ (.agg #[.int .i64 x,.int .i64 y,.bool s,.int .u8 c]) (.agg #[.int .i64 x,.int .i64 y,.bool s,.int .u8 c]):=by
 refine .agg rfl fun i v v' h h'=>?_;rw[h]at h';obtain rfl:=Option.some.inj h';match i,h with
 |0,h=>obtain rfl:=Option.some.inj h;exact .int _ _
 |1,h=>obtain rfl:=Option.some.inj h;exact .int _ _
 |2,h=>obtain rfl:=Option.some.inj h;exact .bool _
 |3,h=>obtain rfl:=Option.some.inj h;exact .int _ _
 |n+4,h=>simp at h
theorem sr_bounds{α β:Type}{A:Array Nat->α->β->Prop}(k:IntKind)(x y:Int)(c:BoundsCode):SR P A ρ (boundsPanic k x y c) (boundsPanic k x y c):=by
 have jp:∀ρ' signed,SR P A ρ' (runtimePanic (.bounds (IntKind.i64.wrap x) y signed c)) (runtimePanic (.bounds (IntKind.i64.wrap x) y signed c)):=by
  intro ρ' signed;unfold runtimePanic;exact sr_program (.panic (.iface _ (vr_bounds _ _ _ _ _)))
 unfold boundsPanic;dsimp only;by_cases hc:(k != .u64&&decide (0<=x)&&decide (x<=31))=true
 ·simp only[hc,if_true];refine SR.seq (A:=EqR) (SR.choose fun n=>.pure rfl) fun ρ' a b _ h=>?_;obtain rfl:=h;exact jp ρ' a
 ·simp only[hc];refine SR.seq (A:=EqR) (SR.ret rfl) fun ρ' a b _ h=>?_;obtain rfl:=h;exact jp ρ' a
theorem sr_asIntOf{v v':Value}(h:SV ρ v v'):SR P EqR ρ (asIntOf v) (asIntOf v'):=by
 cases h<;>first|exact qF|exact SR.ret rfl
theorem sr_asInt{v v':Value}(h:SV ρ v v'):SR P EqR ρ (asInt v) (asInt v'):=by
 unfold asInt;refine(sr_asIntOf h).seq fun ρ' a b _ e=>?_;obtain rfl:=e;exact SR.ret rfl
theorem AllR.empty:AllR ρ #[] #[]:=⟨rfl,fun i v v' h=>by simp at h⟩
theorem AllR.push{c c':Array Value}(h:AllR ρ c c'){v v':Value}(hv:SV ρ v v'):AllR ρ (c.push v) (c'.push v'):=by
 refine⟨by simp[h.1],fun i x x' h1 h2=>?_⟩;rw[Array.getElem?_push]at h1 h2;rw[<-h.1]at h2;by_cases e:i=c.size
 ·simp only[e,if_true]at h1 h2;obtain rfl:=Option.some.inj h1;obtain rfl:=Option.some.inj h2;exact hv
 ·simp only[e,if_false]at h1 h2;exact h.2 i x x' h1 h2
theorem AllR.append{c c' d d':Array Value}(h:AllR ρ c c')(h':AllR ρ d d'):AllR ρ (c++d) (c'++d'):=by
 refine⟨by simp[h.1,h'.1],fun i x x' h1 h2=>?_⟩;rw[Array.getElem?_append]at h1 h2;rw[<-h.1]at h2;by_cases e:i<c.size
 ·simp only[e,if_true]at h1 h2;exact h.2 i x x' h1 h2
 ·simp only[e,if_false]at h1 h2;exact h'.2 _ x x' h1 h2
theorem AllR.one{v v':Value}(hv:SV ρ v v'):AllR ρ #[v] #[v']:=by
 have:=AllR.push (ρ:=ρ) AllR.empty hv;simpa using this
theorem AllR.map{α:Type}{f f':α->Value}(l:Array α)(h:∀x∈l,SV ρ (f x) (f' x)):AllR ρ (l.map f) (l.map f'):=by
 refine⟨by simp,fun i v v' h1 h2=>?_⟩;rw[Array.getElem?_map]at h1 h2;cases e:l[i]? with
 |none=>rw[e]at h1;cases h1
 |some x=>
  rw[e]at h1 h2;obtain rfl:=Option.some.inj h1;obtain rfl:=Option.some.inj h2;exact h x (Array.mem_of_getElem? e)
theorem AllR.get!{c:Array Value}(h:AllR ρ c c)(i:Nat):SV ρ c[i]! c[i]! :=by
 rw[Array.getElem!_eq_getD,Array.getD_eq_getD_getElem?];cases e:c[i]? with
 |none=>exact .bool _
 |some v=>exact h.2 i v v e e
theorem sr_loadCellsFrom:∀(n i:Nat) {a a':Addr} {acc acc':Array Value} {ρ:Array Nat},AR ρ a a'->AllR ρ acc acc'->SR P AllR ρ (loadCellsFrom a i n acc) (loadCellsFrom a' i n acc')
 |0,_,_,_,_,_,_,_,h=>SR.ret h
 |n+1,i,_,_,_,_,_,ha,h=>.load (ha.add i) fun _ _ hv=>sr_loadCellsFrom n (i+1) ha (h.push hv)
theorem sr_loadCells{a a':Addr}(h:AR ρ a a')(n:Nat):SR P AllR ρ (loadCells a n) (loadCells a' n):=sr_loadCellsFrom n 0 h AllR.empty
inductive LS(ρ:Array Nat):List Value->List Value->Prop
 |nil:LS ρ [] []
 |cons {v v':Value} {l l':List Value}:SV ρ v v'->LS ρ l l'->LS ρ (v::l) (v'::l')
theorem LS.of{l l':List Value}(hl:l.length=l'.length)(h:∀(i:Nat) v v',l[i]? =some v->l'[i]? =some v'->SV ρ v v'):LS ρ l l':=by
 induction l generalizing l' with
 |nil=>cases l' with
  |nil=>exact .nil
  |cons _ _=>simp at hl
 |cons x l ih=>cases l' with
  |nil=>simp at hl
  |cons y l'=>exact .cons (h 0 x y rfl rfl) (ih (by simpa using hl) fun i v v' h1 h2=>h (i+1) v v' (by simpa using h1) (by simpa using h2))
theorem AllR.toList{c c':Array Value}(h:AllR ρ c c'):LS ρ c.toList c'.toList:=LS.of (by simpa using h.1) fun i v v' h1 h2=>h.2 i v v' (by simpa using h1) (by simpa using h2)
theorem sr_storeCells{a a':Addr}(ha:AR ρ a a'){l l':List Value}(h:LS ρ l l'):∀i,SR P EqR ρ (storeCells a l i) (storeCells a' l' i):=by
 induction h with
 |nil=>exact fun i=>SR.ret rfl
 |cons hv _ ih=>exact fun i=>.store (ha.add i) hv (ih (i+1))
def CR(ρ:Array Nat):Nat->Value->Value->Prop
 |0,v,v'=>SV ρ v v'
 |1,v,v'=>∃c c',((v= .agg c/\v'= .agg c')\/(v= .tuple c/\v'= .tuple c'))/\AllR ρ c c'
 |3,v,v'=>(v= .tuple #[]/\v'= .tuple #[])\/∃t x x',v= .iface t x/\v'= .iface t x'/\VR ρ x x'
 |4,v,v'=>∃c c',v= .tuple c/\v'= .tuple c'/\c.size=c'.size/\(∀(i:Nat) x x',c[i]? =some x->c'[i]? =some x'->VR ρ x x')/\∀(i:Nat) x x',i<2->c[i]? =some x->c'[i]? =some x'->SV ρ x x'
 |_,v,v'=>VR ρ v v'
theorem AllR.vr{c c':Array Value}(h:AllR ρ c c'):∀(i:Nat) v v',c[i]? =some v->c'[i]? =some v'->VR ρ v v':=fun i v v' a b=>(h.2 i v v' a b).val
theorem CR.val{k:Nat}{v v':Value}(h:CR ρ k v v'):VR ρ v v':=by
 match k,h with
 |0,h=>exact SV.val h
 |1,⟨c,c',.inl ⟨e,e'⟩,hc⟩=>subst e e';exact .agg hc.1 hc.vr
 |1,⟨c,c',.inr ⟨e,e'⟩,hc⟩=>subst e e';exact .tuple hc.1 hc.vr
 |2,h=>exact h
 |3,.inl ⟨e,e'⟩=>subst e e';exact SV.undef.val
 |3,.inr ⟨t,x,x',e,e',hx⟩=>subst e e';exact .iface t hx
 |4,⟨c,c',e,e',h1,h2,_⟩=>subst e e';exact .tuple h1 h2
 |n+5,h=>exact h
theorem CR.mono{ρ':Array Nat}(e:Ext ρ ρ'){k:Nat}{v v':Value}(h:CR ρ k v v'):CR ρ' k v v':=by
 match k,h with
 |0,h=>exact SV.mono e h
 |1,⟨c,c',h1,hc⟩=>exact⟨c,c',h1,hc.mono e⟩
 |2,h=>exact VR.mono e h
 |3,.inl h=>exact .inl h
 |3,.inr ⟨t,x,x',e1,e2,hx⟩=>exact .inr ⟨t,x,x',e1,e2,hx.mono e⟩
 |4,⟨c,c',e1,e2,h1,h2,h3⟩=>exact⟨c,c',e1,e2,h1,fun i x x' a b=>(h2 i x x' a b).mono e,fun i x x' k a b=>(h3 i x x' k a b).mono e⟩
 |n+5,h=>exact VR.mono e h
def CRR(k:Nat):Array Nat->Value->Value->Prop:=fun ρ=>CR ρ k
theorem sr_sureAddr{v v':Value}(h:VR ρ v v'):SR P AR ρ (Instr.sureAddr v) (Instr.sureAddr v'):=by
 cases h<;>first|exact qF|(rename_i h;exact SR.ret h)
theorem sr_isAgg(t:TypeId):SR P (fun _ a b=>a=b/\(a=true->∃d,P.underlying t=some d/\((∃fs,d= .struct fs)\/∃n e,d= .array n e))) ρ (isAgg t) (isAgg t):=by
 unfold isAgg;refine(sr_underlying t).seq fun ρ' a b _ ⟨h,hu⟩=>?_;subst h;cases a<;>first|exact SR.ret ⟨rfl,fun _=>⟨_,hu,.inl ⟨_,rfl⟩⟩⟩|exact SR.ret ⟨rfl,fun _=>⟨_,hu,.inr ⟨_,_,rfl⟩⟩⟩|exact SR.ret ⟨rfl,fun e=>by cases e⟩
def NA(P:Program)(t:TypeId):Prop:=∀d,P.underlying t=some d->(∀fs,d≠.struct fs)/\∀n e,d≠.array n e
theorem sr_loadAt{t:TypeId}(ht:NA P t){v v':Value}(h:VR ρ v v'):SR P (CRR 0) ρ (Instr.loadAt t v) (Instr.loadAt t v'):=by
 unfold Instr.loadAt;refine(sr_sureAddr h).seq fun ρ' a b _ hab=>?_;unfold loadVar;refine(sr_isAgg t).seq fun ρ'' x y e ⟨hxy,hx⟩=>?_;subst hxy;cases x with
 |true=>
  obtain⟨d,hd,⟨fs,rfl⟩|⟨n,el,rfl⟩⟩:=hx rfl
  ·exact absurd rfl ((ht _ hd).1 fs)
  ·exact absurd rfl ((ht _ hd).2 n el)
 |false=>exact .load (hab.mono e) fun v v' hv=>.pure hv
theorem sr_storeAt{t:TypeId}{v v' x x':Value}(h:VR ρ v v')(hx:AllR ρ x.cells x'.cells):SR P EqR ρ (Instr.storeAt t v x) (Instr.storeAt t v' x'):=by
 unfold Instr.storeAt;refine(sr_sureAddr h).seq fun ρ' a b e hab=>?_;unfold storeVar;refine(sr_sizeOf t).seq fun ρ'' n m e' hnm=>?_;obtain rfl:=hnm;rw[<-hx.1];split
 ·exact qF
 ·exact sr_storeCells (hab.mono e') ((hx.mono (e.trans e')).toList) 0
theorem sr_newRow(t:TypeId){c c':Array Value}(h:AllR ρ c c'):SR P AR ρ (newRow t c) (newRow t c'):=by
 unfold newRow;exact .new h fun n=>.pure ⟨push_new _ _,rfl,rfl⟩
def IxR:Array Nat->Option Addr×Nat×TypeId->Option Addr×Nat×TypeId->Prop:=fun ρ a b=>a.2=b.2/\((a.1=none/\b.1=none)\/∃c c',a.1=some c/\b.1=some c'/\AR ρ c c')
theorem sr_indexAt{t:TypeId}{x x' i i':Value}(hx:SV ρ x x')(hi:SV ρ i i'):SR P (CRR 2) ρ (Instr.indexAt t x i) (Instr.indexAt t x' i'):=by
 unfold Instr.indexAt;refine(sr_asIntOf hi).seq fun ρ1 a b e1 h1=>?_;obtain rfl:=h1;obtain⟨k,j⟩:=a;have hx1:=hx.mono e1;dsimp only;refine(sr_underlying t).seq fun ρ2 d d' e2 h2=>?_;obtain⟨rfl,_⟩:=h2;have hx2:=hx1.mono e2;have q1:∀{why:String},SR P IxR ρ2 (stuck why) (stuck why):=qF;cases d<;>first
  |refine SR.seq q1 ?_
  |(refine SR.seq (sr_sureAddr hx2.val) fun ρ3 a b e3 h3=>?_;refine SR.seq (A:=IxR) (SR.ret ⟨rfl,.inr ⟨_,_,rfl,rfl,h3⟩⟩) ?_)
  |(cases hx2<;>first|refine SR.seq q1 ?_|refine SR.seq (A:=IxR) (SR.ret ⟨rfl,.inl ⟨rfl,rfl⟩⟩) ?_|(rename_i h;refine SR.seq (A:=IxR) (SR.ret ⟨rfl,.inr ⟨_,_,rfl,rfl,h⟩⟩) ?_))
 all_goals
  rintro ρ3 ⟨a1,n,el⟩ ⟨b1,n',el'⟩ e3 ⟨h2,h3⟩;simp only[Prod.mk.injEq]at h2;obtain⟨rfl,rfl⟩:=h2;dsimp only;refine(sr_underlying t).seq fun ρ4 d d' e4 h4=>?_;obtain⟨rfl,_⟩:=h4;rcases h3 with⟨ea,eb⟩|⟨c,c',ea,eb,hc⟩
  ·simp only at ea eb;subst ea eb;exact sr_bounds _ _ _ _
  ·simp only at ea eb;subst ea eb;simp only;refine sr_ite (fun _=>?_) (fun _=>sr_ite (fun _=>sr_unsupported) (fun _=>sr_bounds _ _ _ _));refine(sr_sizeOf el).seq fun ρ5 m m' e5 h5=>?_;obtain rfl:=h5;exact SR.ret (.ptr ((hc.mono (e4.trans e5)).add _))
inductive OS(ρ:Array Nat):Option Value->Option Value->Prop
 |none:OS ρ none none
 |some {v v':Value}:SV ρ v v'->OS ρ (some v) (some v')
theorem OS.mono{ρ':Array Nat}(e:Ext ρ ρ'){o o':Option Value}(h:OS ρ o o'):OS ρ' o o':=by cases h with|none=>exact .none|some h=>exact .some (h.mono e)
theorem sr_sliceBound{v v':Value}(h:SV ρ v v')(y:Nat)(c:BoundsCode):SR P EqR ρ (Instr.sliceBound v y c) (Instr.sliceBound v' y c):=by
 unfold Instr.sliceBound;refine(sr_asIntOf h).seq fun ρ1 a b e h1=>?_;obtain rfl:=h1;obtain⟨k,i⟩:=a;simp only;split
 ·exact SR.ret rfl
 ·exact sr_bounds _ _ _ _
theorem sr_sliceBounds(isS:Bool)(len cap:Nat){lo lo' hi hi' mx mx':Option Value}(h1:OS ρ lo lo')(h2:OS ρ hi hi')(h3:OS ρ mx mx'):SR P EqR ρ (Instr.sliceBounds isS len cap lo hi mx) (Instr.sliceBounds isS len cap lo' hi' mx'):=by
 have jl:∀(ρ2:Array Nat) (h m:Nat),Ext ρ ρ2->SR P EqR ρ2 (match(generalizing:=false) lo with|some v=>(do let l<-Instr.sliceBound v h (if mx.isSome=true then .slice3C else .sliceB);Pure.pure (l,h,m))|none=>(do let l<-Pure.pure 0;Pure.pure (l,h,m)))
   (match(generalizing:=false) lo' with|some v=>(do let l<-Instr.sliceBound v h (if mx'.isSome=true then .slice3C else .sliceB);Pure.pure (l,h,m))|none=>(do let l<-Pure.pure 0;Pure.pure (l,h,m))):=by
  intro ρ2 h m e;have em:mx.isSome=mx'.isSome:=by cases h3<;>rfl
  cases h1 with
  |none=>exact SR.seq (A:=EqR) (SR.ret rfl) fun ρ3 a b _ x=>by obtain rfl:=x;exact SR.ret rfl
  |some h1=>rw[em];exact SR.seq (sr_sliceBound (h1.mono e) _ _) fun ρ3 a b _ x=>by obtain rfl:=x;exact SR.ret rfl
 unfold Instr.sliceBounds;dsimp only;cases h3 with
 |none=>
  refine SR.seq (A:=EqR) (SR.ret rfl) fun ρ1 m m' e1 hm=>?_;obtain rfl:=hm;cases h2 with
  |none=>exact SR.seq (A:=EqR) (SR.ret rfl) fun ρ2 a b e2 x=>by obtain rfl:=x;exact jl ρ2 a m (e1.trans e2)
  |some h=>exact SR.seq (sr_sliceBound (h.mono e1) _ _) fun ρ2 a b e2 x=>by obtain rfl:=x;exact jl ρ2 a m (e1.trans e2)
 |some h3=>
  refine SR.seq (sr_sliceBound h3 _ _) fun ρ1 m m' e1 hm=>?_;obtain rfl:=hm;cases h2 with
  |none=>exact SR.seq (A:=EqR) qF fun ρ2 a b e2 x=>by obtain rfl:=x;exact jl ρ2 a m (e1.trans e2)
  |some h=>exact SR.seq (sr_sliceBound (h.mono e1) _ _) fun ρ2 a b e2 x=>by obtain rfl:=x;exact jl ρ2 a m (e1.trans e2)
theorem sr_sliceAt{t:TypeId}{x x':Value}(hx:SV ρ x x'){lo lo' hi hi' mx mx':Option Value}(h1:OS ρ lo lo')(h2:OS ρ hi hi')(h3:OS ρ mx mx'):SR P (CRR 0) ρ (Instr.sliceAt t x lo hi mx) (Instr.sliceAt t x' lo' hi' mx'):=by
 have key:∀ρ1,Ext ρ ρ1->SR P (CRR 0) ρ1 (Instr.slice t x lo hi mx) (Instr.slice t x' lo' hi' mx'):=by
  intro ρ1 e1;unfold Instr.slice;refine(sr_underlying t).seq fun ρ2 d d' e2 h=>?_;obtain⟨rfl,_⟩:=h;have hx2:=hx.mono (e1.trans e2);have g1:=h1.mono (e1.trans e2);have g2:=h2.mono (e1.trans e2);have g3:=h3.mono (e1.trans e2);cases d<;>first
   |exact qF
   |(cases hx2<;>exact qF)
   |(cases hx2 with
      |bool b=>exact qF
      |int k n=>exact qF
      |chanN=>exact qF
      |chan h=>exact qF
      |undef=>exact qF
      |slN l c=>
       refine(sr_sliceBounds true l c g1 g2 g3).seq fun ρ3 a b e3 h=>?_;obtain rfl:=h;obtain⟨l',h',m'⟩:=a;refine(sr_sizeOf _).seq fun ρ4 n n' e4 h=>?_;obtain rfl:=h;refine SR.ret ?_;simp only[Option.map_none,ite_self];exact SV.slN _ _
      |sl l c ha=>
       refine(sr_sliceBounds true l c g1 g2 g3).seq fun ρ3 a b e3 h=>?_;obtain rfl:=h;obtain⟨l',h',m'⟩:=a;refine(sr_sizeOf _).seq fun ρ4 n n' e4 h=>?_;obtain rfl:=h;refine SR.ret ?_;simp only[Option.map_some];split
       ·exact SV.sl _ _ (ha.mono (e3.trans e4))
       ·exact SV.sl _ _ ((ha.mono (e3.trans e4)).add _))
 unfold Instr.sliceAt;refine(sr_underlying t).seq fun ρ1 d d' e1 h=>?_;obtain⟨rfl,_⟩:=h;cases d<;>first
  |exact key ρ1 e1
  |(refine SR.seq (A:=AR) (by have:=hx.mono e1;cases this<;>exact qF) fun ρ2 a b e2 ha=>?_
    refine(sr_sliceBounds false _ _ (h1.mono (e1.trans e2)) (h2.mono (e1.trans e2)) (h3.mono (e1.trans e2))).seq fun ρ3 a' b' e3 h=>?_;obtain rfl:=h;obtain⟨l',h',m'⟩:=a';refine(sr_sizeOf _).seq fun ρ4 n n' e4 h=>?_;obtain rfl:=h;refine SR.ret ?_;split
    ·exact SV.sl _ _ (ha.mono (e3.trans e4))
    ·exact SV.sl _ _ ((ha.mono (e3.trans e4)).add _))
def BT(P:Program)(t:TypeId):Prop:=∀d,P.underlying t=some d->(∃k,d= .int k)\/d= .bool\/∃e,d= .slice e
theorem sr_equal{t:TypeId}(ht:BT P t){x x' y y':Value}(hx:SV ρ x x')(hy:SV ρ y y'):SR P EqR ρ (Op.equal t x y) (Op.equal t x' y'):=by
 unfold Op.equal Op.maxDepth;unfold Op.equalIn;refine(sr_underlying t).seq fun ρ1 d d' e h=>?_;obtain⟨rfl,hu⟩:=h;have hx:=hx.mono e;have hy:=hy.mono e;rcases ht _ hu with⟨k,rfl⟩|rfl|⟨el,rfl⟩
 ·cases hx<;>cases hy<;>first|exact qF|exact sr_ite (fun _=>SR.ret rfl) (fun _=>qF)
 ·cases hx<;>cases hy<;>first|exact qF|exact SR.ret rfl
 ·cases hx<;>cases hy<;>first|exact qF|exact SR.ret rfl
theorem sr_eqGuard(op:BinOp)(t:TypeId)(a b:Operand){x x' y y':Value}(hx:SV ρ x x')(hy:SV ρ y y'):SR P EqR ρ (eqGuard op t a b x y) (eqGuard op t a b x' y'):=by
 unfold eqGuard;refine sr_ite (fun _=>SR.ret rfl) (fun _=>?_);cases hx<;>cases hy<;>exact SR.ret rfl
theorem sr_binOp{op:BinOp}{t:TypeId}(ht:BT P t){x x' y y':Value}(hx:SV ρ x x')(hy:SV ρ y y'):SR P (CRR 0) ρ (binOp op t x y) (binOp op t x' y'):=by
 have eq:SR P (CRR 0) ρ (do Pure.pure (Value.bool (<-Op.equal t x y))) (do Pure.pure (Value.bool (<-Op.equal t x' y'))):=
  SR.seq (sr_equal ht hx hy) fun ρ1 a b _ h=>by obtain rfl:=h;exact SR.ret (SV.bool _)
 have ne:SR P (CRR 0) ρ (do Pure.pure (Value.bool (!(<-Op.equal t x y)))) (do Pure.pure (Value.bool (!(<-Op.equal t x' y')))):=
  SR.seq (sr_equal ht hx hy) fun ρ1 a b _ h=>by obtain rfl:=h;exact SR.ret (SV.bool _)
 unfold binOp;cases hx with
 |int k n=>
  cases hy with
  |int k' m=>
   cases op<;>dsimp only<;>first
    |(unfold Op.shift;refine sr_ite (fun _=>sr_rtError _) (fun _=>?_);exact SR.ret (SV.int _ _))
    |(refine sr_ite (fun _=>qF) (fun _=>?_)
      first
       |(unfold Op.intArith;exact SR.ret (SV.int _ _))
       |(unfold Op.intDiv;exact sr_ite (fun _=>sr_rtError _) (fun _=>SR.ret (SV.int _ _)))
       |(unfold Op.intBits;exact SR.ret (SV.int _ _))
       |(unfold Op.intCmp;first|exact SR.ret (SV.bool _)|exact qF))
  |_=>cases op<;>first|exact qF|exact eq|exact ne
 |bool b=>cases hy<;>cases op<;>first|exact qF|exact eq|exact ne
 |slN l c=>cases hy<;>cases op<;>first|exact qF|exact eq|exact ne
 |sl l c h=>cases hy<;>cases op<;>first|exact qF|exact eq|exact ne
 |chanN=>cases hy<;>cases op<;>first|exact qF|exact eq|exact ne
 |chan h=>cases hy<;>cases op<;>first|exact qF|exact eq|exact ne
 |undef=>cases hy<;>cases op<;>first|exact qF|exact eq|exact ne
theorem sr_unary{op:UnOp}{x x':Value}(hx:SV ρ x x'):SR P (CRR 0) ρ (Op.unary op x) (Op.unary op x'):=by
 unfold Op.unary;cases hx<;>cases op<;>first|exact qF|exact SR.ret (SV.bool _)|(unfold Op.intArith;exact SR.ret (SV.int _ _))|(unfold Op.intBits;exact SR.ret (SV.int _ _))
def IT(P:Program)(t:TypeId):Prop:=∀d,P.underlying t=some d->∃k,d= .int k
theorem sr_convert{src dst:TypeId}(h1:IT P src)(h2:IT P dst){x x':Value}(hx:SV ρ x x'):SR P (CRR 0) ρ (convert src dst x) (convert src dst x'):=by
 unfold convert;refine(sr_underlying src).seq fun ρ1 a b e1 h=>?_;obtain⟨rfl,ha⟩:=h;refine(sr_underlying dst).seq fun ρ2 c d e2 h=>?_;obtain⟨rfl,hc⟩:=h;obtain⟨k,rfl⟩:=h1 _ ha;obtain⟨k',rfl⟩:=h2 _ hc;have hx:=hx.mono (e1.trans e2);cases hx<;>first|exact sr_unsupported|(unfold Conv.intToInt;exact SR.ret (SV.int _ _))
theorem sr_extract{x x':Value}(hx:CR ρ 1 x x')(i:Nat):SR P (CRR 0) ρ (Instr.extract x i) (Instr.extract x' i):=by
 obtain⟨c,c',⟨e,e'⟩|⟨e,e'⟩,hc⟩:=hx
 ·subst e e';exact qF
 ·subst e e';unfold Instr.extract;dsimp only;cases h:c[i]? with
  |none=>exact qF
  |some v=>
   obtain⟨v',h1,h2⟩:=hc.get h;simp only[h1];exact SR.ret h2
theorem sr_extract4{x x':Value}(hx:CR ρ 4 x x'){i:Nat}(hi:i<2):SR P (CRR 0) ρ (Instr.extract x i) (Instr.extract x' i):=by
 obtain⟨c,c',e,e',h1,_,h3⟩:=hx;subst e e';unfold Instr.extract;dsimp only;cases h:c[i]? with
 |none=>exact qF
 |some v=>
  have hlt:i<c.size:=(Array.getElem?_eq_some_iff.1 h).1;have e1:c'[i]? =some (c'[i]'(h1▸hlt)):=Array.getElem?_eq_getElem _;simp only[e1];exact SR.ret (h3 i _ _ hi h e1)
theorem zeros_all{z:Array Value}(h:AllR ρ z z)(n:Nat):AllR ρ ((Array.range n).map (z[· %z.size]!)) ((Array.range n).map (z[· %z.size]!)):=AllR.map _ fun _ _=>AllR.get! h _
def ST(P:Program)(t:TypeId):Prop:=∃e,P.underlying t=some (.slice e)/\ZOk P e
theorem SR.die{α β γ δ:Type}{B:Array Nat->γ->δ->Prop}{s:Sem α}{s':Sem β}{f:α->Sem γ}{f':β->Sem δ}(h:SR P (fun _ _ _=>False) ρ s s'):SR P B ρ (s >>= f) (s' >>= f'):=SR.seq h fun _ _ _ _ x=>x.elim
theorem sr_askRoom(n:Nat):SR P EqR ρ (askRoom n) (askRoom n):=by
 unfold askRoom;exact sr_ite (fun _=>.mark trivial (.pure rfl)) (fun _=>SR.ret rfl)
theorem sr_makeSlice{t:TypeId}(ht:ST P t){l l' c c':Value}(hl:SV ρ l l')(hc:SV ρ c c'):SR P (CRR 0) ρ (Instr.makeSlice t l c) (Instr.makeSlice t l' c'):=by
 obtain⟨el,hu,hz⟩:=ht;unfold Instr.makeSlice;refine(sr_underlying t).seq fun ρ1 a b e1 h=>?_;obtain⟨rfl,ha⟩:=h;rw[hu]at ha;obtain rfl:=Option.some.inj ha;dsimp only;refine(sr_asInt (hl.mono e1)).seq fun ρ2 a b e2 h=>?_;obtain rfl:=h;refine(sr_asInt (hc.mono (e1.trans e2))).seq fun ρ3 d d' e3 h=>?_;obtain rfl:=h;refine(sr_typeInfo el).seq fun ρ4 i i' e4 h=>?_;obtain⟨rfl,_⟩:=h;refine sr_ite (fun _=>sr_ite (fun _=>SR.die (sr_rtError _)) (fun _=>sr_ite (fun _=>SR.die (sr_rtError _)) (fun _=>sr_choose fun n=>SR.die (sr_rtError _)))) (fun _=>?_);refine(sr_askRoom _).seq fun ρ5 _ _ e5 _=>?_;refine(sr_sizeOf el).seq fun ρ6 n n' e6 h=>?_;obtain rfl:=h;refine sr_ite (fun _=>?_) (fun _=>?_)
 ·refine SR.seq (A:=fun ρ a b=>a=b/\AllR ρ a a) (SR.ret ⟨rfl,AllR.empty⟩) fun ρ7 z z' e7 h=>?_;obtain⟨rfl,hz⟩:=h;refine(sr_newRow el (zeros_all hz _)).seq fun ρ8 x y e8 hx=>?_;exact SR.ret (SV.sl _ _ hx)
 ·refine sr_zeroValue.seq fun ρ7 v v' e7 h=>?_;obtain⟨rfl,i',hi,hv⟩:=h;refine SR.seq (A:=fun ρ a b=>a=b/\AllR ρ a a) (SR.ret ⟨rfl,hz _ _ hi hv _⟩) fun ρ8 z z' e8 h=>?_;obtain⟨rfl,hz⟩:=h;refine(sr_newRow el (zeros_all hz _)).seq fun ρ9 x y e9 hx=>?_;exact SR.ret (SV.sl _ _ hx)
inductive PS(ρ:Array Nat):List (Nat×Value)->List (Nat×Value)->Prop
 |nil:PS ρ [] []
 |cons (i:Nat) {v v':Value} {l l':List (Nat×Value)}:SV ρ v v'->PS ρ l l'->PS ρ ((i,v)::l) ((i,v')::l')
theorem PS.mono{ρ':Array Nat}(e:Ext ρ ρ'){l l':List (Nat×Value)}(h:PS ρ l l'):PS ρ' l l':=by
 induction h with
 |nil=>exact .nil
 |cons i hv _ ih=>exact .cons i (hv.mono e) ih
theorem AllR.set{c c':Array Value}(h:AllR ρ c c')(i:Nat){v v':Value}(hv:SV ρ v v'):AllR ρ (c.setIfInBounds i v) (c'.setIfInBounds i v'):=by
 refine⟨by simp[h.1],fun j x x' h1 h2=>?_⟩;rw[Array.getElem?_setIfInBounds]at h1 h2;rw[<-h.1]at h2;by_cases e:i=j
 ·simp only[e,if_true]at h1 h2;by_cases hj:j<c.size
  ·simp only[hj,if_true]at h1 h2;obtain rfl:=Option.some.inj h1;obtain rfl:=Option.some.inj h2;exact hv
  ·simp only[hj,if_false]at h1;cases h1
 ·simp only[e,if_false]at h1 h2;exact h.2 j x x' h1 h2
def FR(ρ:Array Nat):Option (Array Value)->Option (Array Value)->Prop
 |none,none=>True
 |some c,some c'=>AllR ρ c c'
 |_,_=>False
theorem fill_alike{place:Nat->Option (Nat×Nat)}{l l':List (Nat×Value)}(h:PS ρ l l'):∀{c c':Array Value},AllR ρ c c'->FR ρ (Instr.fill place c l) (Instr.fill place c' l'):=by
 induction h with
 |nil=>exact fun h=>h
 |@cons i v v' l l' hv _ ih=>
  intro c c' hc;obtain⟨e,e'⟩:=hv.cells;unfold Instr.fill;cases hp:place i with
  |none=>trivial
  |some q=>
   obtain⟨off,size⟩:=q;simp only[e,e',<-hc.1,List.size_toArray,List.length_cons,List.length_nil];split
   ·trivial
   ·refine ih ?_;simp;exact hc.set _ hv
theorem sr_buildSlice{t:TypeId}(ht:ST P t)(len:Nat){ps ps':Array (Nat×Value)}(hp:PS ρ ps.toList ps'.toList):SR P (CRR 0) ρ (Instr.buildSlice t len ps) (Instr.buildSlice t len ps'):=by
 obtain⟨el,hu,hz⟩:=ht;unfold Instr.buildSlice;refine(sr_underlying t).seq fun ρ1 a b e1 h=>?_;obtain⟨rfl,ha⟩:=h;rw[hu]at ha;obtain rfl:=Option.some.inj ha;dsimp only;refine(sr_sizeOf el).seq fun ρ2 n n' e2 h=>?_;obtain rfl:=h;have key:∀(ρ3:Array Nat) (z:Array Value),Ext ρ ρ3->AllR ρ3 z z->SR P (CRR 0) ρ3
   (match Instr.fill (fun i=>some (i*n,n)) ((Array.range (len*n)).map (z[· %z.size]!)) ps.toList with|some cells=>(do let a<-newRow el cells;Pure.pure (Value.slice (some a) len len))|x=>stuck "buildSlice: a part of the wrong size")
   (match Instr.fill (fun i=>some (i*n,n)) ((Array.range (len*n)).map (z[· %z.size]!)) ps'.toList with|some cells=>(do let a<-newRow el cells;Pure.pure (Value.slice (some a) len len))|x=>stuck "buildSlice: a part of the wrong size"):=by
  intro ρ3 z e3 hz;have:=fill_alike (place:=fun i=>some (i*n,n)) (hp.mono e3) (zeros_all hz (len*n));revert this;cases Instr.fill (fun i=>some (i*n,n)) ((Array.range (len*n)).map (z[· %z.size]!)) ps.toList with
  |none=>exact fun _=>qF
  |some c=>
   cases Instr.fill (fun i=>some (i*n,n)) ((Array.range (len*n)).map (z[· %z.size]!)) ps'.toList with
   |none=>exact fun h=>h.elim
   |some c'=>exact fun h=>(sr_newRow el h).seq fun ρ4 x y e4 hx=>SR.ret (SV.sl _ _ hx)
 refine sr_ite (fun _=>SR.die sr_unsupported) (fun _=>?_);refine sr_ite (fun _=>?_) (fun _=>?_)
 ·refine SR.seq (A:=fun ρ a b=>a=b/\AllR ρ a a) (SR.ret ⟨rfl,AllR.empty⟩) fun ρ4 z z' e4 h=>?_;obtain⟨rfl,hz⟩:=h;exact key ρ4 z ((e1.trans e2).trans e4) hz
 ·refine sr_zeroValue.seq fun ρ4 v v' e4 h=>?_;obtain⟨rfl,i',hi,hv⟩:=h;refine SR.seq (A:=fun ρ a b=>a=b/\AllR ρ a a) (SR.ret ⟨rfl,hz _ _ hi hv _⟩) fun ρ5 z z' e5 h=>?_;obtain⟨rfl,hz⟩:=h;exact key ρ5 z (((e1.trans e2).trans e4).trans e5) hz
theorem sr_len{t ty:TypeId}(ht:ST P t){x x':Value}(hx:SV ρ x x'):SR P (CRR 0) ρ (Builtin.len_ #[t] ty #[x]) (Builtin.len_ #[t] ty #[x']):=by
 obtain⟨el,hu,_⟩:=ht;unfold Builtin.len_;refine(sr_underlying t).seq fun ρ1 a b e1 h=>?_;obtain⟨rfl,ha⟩:=h;rw[hu]at ha;obtain rfl:=Option.some.inj ha;have hx:=hx.mono e1;cases hx<;>first|exact qF|exact SR.ret (SV.int _ _)
theorem sr_lenOf{x x':Value}(hx:SV ρ x x'):SR P EqR ρ (Builtin.lenOf x) (Builtin.lenOf x'):=by
 cases hx<;>first|exact qF|exact SR.ret rfl
theorem sr_firstCells(size n:Nat){x x':Value}(hx:SV ρ x x'):SR P AllR ρ (Builtin.firstCells size n x) (Builtin.firstCells size n x'):=by
 cases hx<;>first|exact qF|exact SR.ret AllR.empty|(rename_i h;exact sr_loadCells h _)
theorem zeroCells_all{z:Array Value}(h:AllR ρ z z)(n:Nat):AllR ρ (Builtin.zeroCells z n) (Builtin.zeroCells z n):=AllR.map _ fun _ _=>AllR.get! h _
theorem sr_copy{t t' ty:TypeId}{x x' y y':Value}(hx:SV ρ x x')(hy:SV ρ y y'):SR P (CRR 0) ρ (Builtin.copy_ #[t,t'] ty #[x,y]) (Builtin.copy_ #[t,t'] ty #[x',y']):=by
 unfold Builtin.copy_;dsimp only[List.getElem?_toArray,List.getElem?_cons_zero,List.getElem?_cons_succ];refine(sr_underlying t).seq fun ρ1 a b e1 h=>?_;obtain⟨rfl,ha⟩:=h;have hx:=hx.mono e1;have hy:=hy.mono e1;cases a<;>first
  |exact qF
  |(cases hx<;>first
   |exact qF
   |(refine(sr_lenOf hy).seq fun ρ2 n n' e2 h=>?_
     obtain rfl:=h;refine(sr_sizeOf _).seq fun ρ3 s s' e3 h=>?_;obtain rfl:=h;refine(sr_firstCells _ _ (hy.mono (e2.trans e3))).seq fun ρ4 c c' e4 h=>?_
     first
      |exact SR.ret (SV.int _ _)
      |(rename_i hb;refine(sr_storeCells (hb.mono ((e2.trans e3).trans e4)) h.toList 0).seq fun ρ5 _ _ e5 _=>?_;exact SR.ret (SV.int _ _))))
inductive OA(ρ:Array Nat):Option Addr->Option Addr->Prop
 |none:OA ρ none none
 |some {a a':Addr}:AR ρ a a'->OA ρ (some a) (some a')
theorem OA.mono{ρ':Array Nat}(e:Ext ρ ρ'){a a':Option Addr}(h:OA ρ a a'):OA ρ' a a':=by cases h with|none=>exact .none|some h=>exact .some (h.mono e)
theorem OA.slice{a a':Option Addr}(h:OA ρ a a')(l c:Nat):SV ρ (.slice a l c) (.slice a' l c):=by cases h with|none=>exact .slN l c|some h=>exact .sl l c h
def Tot(P:Program){α:Type}(s:Sem α):Prop:=∀p,∃a p',s.run P p= .ok a p'
theorem Tot.ret{α:Type}(a:α):Tot P (Pure.pure a:Sem α):=fun p=>⟨a,p,rfl⟩
theorem Tot.seq{α β:Type}{s:Sem α}{f:α->Sem β}(h:Tot P s)(hf:∀a,Tot P (f a)):Tot P (s >>= f):=by
 intro p;obtain⟨a,p',h⟩:=h p;obtain⟨b,p'',h'⟩:=hf a p';exact⟨b,p'',by show(s.bind f).run P p=_;rw[run_bind,h];exact h'⟩
theorem tot_shape(r:Nat):Tot P (shape r):=fun p=>⟨_,p,rfl⟩
theorem tot_frozen(a:Addr):Tot P (frozen a):=fun p=>⟨_,p,rfl⟩
theorem tot_holds(a:Addr)(m:Nat):Tot P (Builtin.holdsCells a m):=by
 unfold Builtin.holdsCells;refine(tot_shape _).seq fun s=>?_;cases s<;>exact Tot.ret _
theorem tot_mayShare(size sLen n:Nat)(base:Option Addr)(x:Value):Tot P (Builtin.mayShare size sLen n base x):=by
 have tail:∀(base:Option Addr) (there:Bool),Tot P (if(!there)=true then(Pure.pure true:Sem Bool)else match x with| .slice (some b) _ _=>do Pure.pure (!(<-Builtin.holdsCells b (n*size))||base.any (·.block==b.block))|_=>Pure.pure false):=by
  intro base there;cases there with
  |false=>exact Tot.ret _
  |true=>
   simp only[Bool.not_true,Bool.false_eq_true,if_false];split
   ·exact(tot_holds _ _).seq fun _=>Tot.ret _
   ·exact Tot.ret _
 unfold Builtin.mayShare;cases base with
 |none=>exact(Tot.ret true).seq fun b=>tail none b
 |some a=>exact(tot_holds _ _).seq fun b=>(tot_frozen _).seq fun c=>(Tot.ret _).seq fun d=>tail (some a) d
theorem sr_append_base{t t' ty:TypeId}(ht:ST P t)(ht':ST P t'){b b':Option Addr}(l c:Nat)(hb:OA ρ b b'){y y':Value}(hy:SV ρ y y'):SR P (CRR 0) ρ (Builtin.append_ #[t,t'] ty #[.slice b l c,y]) (Builtin.append_ #[t,t'] ty #[.slice b' l c,y']):=by
 obtain⟨el,hu,hz⟩:=ht;obtain⟨el',hu',_⟩:=ht';unfold Builtin.append_;dsimp only[List.getElem?_toArray,List.getElem?_cons_zero,List.getElem?_cons_succ];refine(sr_underlying t).seq fun ρ1 a a' e1 h=>?_;obtain⟨rfl,ha⟩:=h;rw[hu]at ha;obtain rfl:=Option.some.inj ha;refine(sr_sizeOf el).seq fun ρ2 size size' e2 h=>?_;obtain rfl:=h;refine(sr_underlying t').seq fun ρ3 d d' e3 h=>?_;obtain⟨rfl,hd⟩:=h;rw[hu']at hd;obtain rfl:=Option.some.inj hd;refine SR.seq (A:=fun _ a b=>a=false/\b=false) (SR.ret ⟨rfl,rfl⟩) fun ρ4 z z' e4 h=>?_;obtain⟨rfl,rfl⟩:=h;have e14:=((e1.trans e2).trans e3).trans e4;refine(sr_lenOf (hy.mono e14)).seq fun ρ5 n n' e5 h=>?_;obtain rfl:=h;have e15:=e14.trans e5;refine sr_ite (fun _=>?_) (fun _=>?_)
 ·refine(sr_firstCells _ _ (hy.mono e15)).seq fun ρ6 cs cs' e6 hc=>?_;have hb6:=hb.mono (e15.trans e6);cases hb6 with
  |none=>exact SR.ret (SV.slN _ _)
  |some h=>exact(sr_storeCells (h.add _) hc.toList 0).seq fun ρ7 _ _ e7 _=>SR.ret (SV.sl _ _ (h.mono e7))
 ·refine(sr_typeInfo el).seq fun ρ6 i i' e6 h=>?_;obtain⟨rfl,_⟩:=h;refine sr_ite (fun _=>SR.die (sr_rtError _)) (fun _=>?_);refine(sr_typeInfo el).seq fun ρ7 i i' e7 h=>?_;obtain⟨rfl,_⟩:=h;refine sr_ite (fun _=>SR.die (.doomed fun p=>?_)) (fun _=>?_)
  ·simp only[Bool.false_eq_true,if_false];obtain⟨r,p',hr⟩:=tot_mayShare (P:=P) size l n b y p;show Bad (((Builtin.mayShare size l n b y).bind _).run P p);rw[run_bind,hr];cases r<;>trivial
  refine sr_choose fun nc=>?_;refine(sr_typeInfo el).seq fun ρ8 i i' e8 h=>?_;obtain⟨rfl,_⟩:=h;refine(sr_askRoom _).seq fun ρ9 _ _ e9 _=>?_;have e09:=(((e15.trans e6).trans e7).trans e8).trans e9;refine(sr_firstCells size l ((hb.mono e09).slice l c)).seq fun ρ10 old old' e10 ho=>?_;refine(sr_firstCells size n (hy.mono (e09.trans e10))).seq fun ρ11 new new' e11 hn=>?_;refine sr_zeroValue.seq fun ρ12 v v' e12 h=>?_;obtain⟨rfl,i',hi,hv⟩:=h;refine(sr_newRow el (((ho.mono (e11.trans e12)).append (hn.mono e12)).append (zeroCells_all (hz _ _ hi hv _) _))).seq fun ρ13 x x' e13 hx=>?_;exact SR.ret (SV.sl _ _ hx)
theorem sr_append{t t' ty:TypeId}(ht:ST P t)(ht':ST P t'){x x' y y':Value}(hx:SV ρ x x')(hy:SV ρ y y'):SR P (CRR 0) ρ (Builtin.append_ #[t,t'] ty #[x,y]) (Builtin.append_ #[t,t'] ty #[x',y']):=by
 have bad:∀v,(∀b l c,v≠.slice b l c)->∀s',SR P (CRR 0) ρ (Builtin.append_ #[t,t'] ty #[v,y]) s':=by
  intro v hv s';obtain⟨el,hu,hz⟩:=ht;refine .doomed fun p=>?_;unfold Builtin.append_;dsimp only[List.getElem?_toArray,List.getElem?_cons_zero,List.getElem?_cons_succ];show Bad (((underlying t).bind _).run P p);have hr:(underlying t).run P p= .ok (.slice el) p:=by
   unfold underlying;show(Sem.program fun q=>_).run P p=_;simp only[Sem.run,Sem.bind,hu];rfl
  rw[run_bind,hr];cases v<;>first|exact absurd rfl (hv _ _ _)|trivial
 cases hx with
 |bool b=>exact bad _ (fun _ _ _ e=>by cases e) _
 |int k n=>exact bad _ (fun _ _ _ e=>by cases e) _
 |chanN=>exact bad _ (fun _ _ _ e=>by cases e) _
 |chan h=>exact bad _ (fun _ _ _ e=>by cases e) _
 |undef=>exact bad _ (fun _ _ _ e=>by cases e) _
 |slN l c=>exact sr_append_base ht ht' l c .none hy
 |sl l c h=>exact sr_append_base ht ht' l c (.some h) hy
def flatB:Value->Bool
 | .bool _| .int _ _| .slice none _ _| .chan none=>true
 |_=>false
def bareB:Value->Bool
 | .bool _| .int _ _| .slice none _ _| .chan none| .string _| .float _ _| .pointer none| .nilIface| .nilFunc=>true
 | .tuple c| .agg c=>c.all flatB
 |_=>false
theorem flat_sv{v:Value}(h:flatB v=true):SV ρ v v:=by
 match v,h with
 | .bool b,_=>exact .bool b
 | .int k n,_=>exact .int k n
 | .slice none l c,_=>exact .slN l c
 | .chan none,_=>exact .chanN
theorem flats_all{c:Array Value}(h:c.all flatB=true):AllR ρ c c:=by
 refine⟨rfl,fun i v v' h1 h2=>?_⟩;rw[h1]at h2;obtain rfl:=Option.some.inj h2;exact flat_sv (Array.all_eq_true_iff_forall_mem.1 h _ (Array.mem_of_getElem? h1))
theorem bare_vr{v:Value}(h:bareB v=true):VR ρ v v:=by
 match v,h with
 | .bool b,_=>exact .bool b
 | .int k n,_=>exact .int k n
 | .float k n,_=>exact .float k n
 | .string s,_=>exact .string s
 | .pointer none,_=>exact .ptrN
 | .slice none l c,_=>exact .slN l c
 | .chan none,_=>exact .chanN
 | .nilIface,_=>exact .nilIface
 | .nilFunc,_=>exact .nilFunc
 | .tuple c,h=>have:=flats_all (ρ:=ρ) (c:=c) h;exact .tuple rfl this.vr
 | .agg c,h=>have:=flats_all (ρ:=ρ) (c:=c) h;exact .agg rfl this.vr
def TR(ρ:Array Nat)(K:Nat->Nat)(a a':Array Value):Prop:=a.size=a'.size/\∀(i:Nat) v v',a[i]? =some v->a'[i]? =some v'->CR ρ (K i) v v'
theorem TR.mono{ρ':Array Nat}(e:Ext ρ ρ'){K:Nat->Nat}{a a':Array Value}(h:TR ρ K a a'):TR ρ' K a a':=⟨h.1,fun i v v' h1 h2=>(h.2 i v v' h1 h2).mono e⟩
theorem TR.set{K:Nat->Nat}{a a':Array Value}(h:TR ρ K a a')(i:Nat){v v':Value}(hv:CR ρ (K i) v v'):TR ρ K (a.setIfInBounds i v) (a'.setIfInBounds i v'):=by
 refine⟨by simp[h.1],fun j x x' h1 h2=>?_⟩;rw[Array.getElem?_setIfInBounds]at h1 h2;rw[<-h.1]at h2;by_cases e:i=j
 ·subst e;simp only[if_true]at h1 h2;by_cases hj:i<a.size
  ·simp only[hj,if_true]at h1 h2;obtain rfl:=Option.some.inj h1;obtain rfl:=Option.some.inj h2;exact hv
  ·simp only[hj,if_false]at h1;cases h1
 ·simp only[e,if_false]at h1 h2;exact h.2 j x x' h1 h2
def opCls(K:Nat->Nat):Operand->Option Nat
 | .tmp t=>some (K t)
 | .const v=>if flatB v then some 0 else if bareB v then some 2 else none
 | .func _=>some 2
 | .global _=>none
theorem CR.undef(k:Nat):CR ρ k undef undef:=by
 match k with
 |0=>exact SV.undef
 |1=>exact⟨#[],#[],.inr ⟨rfl,rfl⟩,AllR.empty⟩
 |2=>exact SV.undef.val
 |3=>exact .inl ⟨rfl,rfl⟩
 |4=>exact⟨#[],#[],rfl,rfl,rfl,fun i x x' h=>by simp at h,fun i x x' _ h=>by simp at h⟩
 |n+5=>exact SV.undef.val
theorem TR.eval{K:Nat->Nat}{a a':Act}(h:TR ρ K a.tmps a'.tmps){x:Operand}{k:Nat}(hx:opCls K x=some k):CR ρ k (a.eval x) (a'.eval x):=by
 cases x with
 |tmp t=>
  obtain rfl:K t=k:=Option.some.inj hx;show CR ρ (K t) (a.tmps.getD t undef) (a'.tmps.getD t undef);rw[Array.getD_eq_getD_getElem?,Array.getD_eq_getD_getElem?];cases e:a.tmps[t]? with
  |none=>
   have:a'.tmps[t]? =none:=by rw[Array.getElem?_eq_none_iff]at e⊢;rw[<-h.1];exact e
   rw[this];exact CR.undef _
  |some v=>
   have hlt:t<a.tmps.size:=by
    rcases Nat.lt_or_ge t a.tmps.size with h'|h'
    ·exact h'
    ·rw[Array.getElem?_eq_none h']at e;cases e
   have e':a'.tmps[t]? =some (a'.tmps[t]'(h.1▸hlt)):=Array.getElem?_eq_getElem _;rw[e'];exact h.2 t v _ e e'
 |const v=>
  show CR ρ k v v;unfold opCls at hx;by_cases hf:flatB v=true
  ·simp only[hf,if_true,Option.some.injEq]at hx;subst hx;exact flat_sv hf
  ·simp only[hf]at hx;by_cases hb:bareB v=true
   ·simp only[hb,if_true]at hx;obtain rfl:=Option.some.inj hx;exact bare_vr hb
   ·simp only[hb]at hx;cases hx
 |func f=>
  obtain rfl:2=k:=Option.some.inj hx;exact VR.func _ rfl (fun i v v' h=>by simp at h) rfl (fun i v v' h=>by simp at h)
 |global g=>cases hx
end Go.Ren
