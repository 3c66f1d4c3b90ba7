import Derived.Test.YtmfpiodlecapiaaJ29
namespace Go.Proofs.Ytmfpiodlecapiaa
open Go.Ren Go.Frag Go.Poi
def qH(f:FuncId):Bool:= [17,20,21,18,27,22,23,29,52,72,71,91,68,50,51,69,70,53,73,88,89,90,44,45,46,47,61,62,63,64,65,66,78,79,80,81,94,93,31,32,33,54,55,10,11].contains f
theorem okT_0:funT Try.prog qG qH Try.f17=true:=by kernel_rfl
theorem okT_1:funT Try.prog qG qH Try.f20=true:=by kernel_rfl
theorem okT_2:funT Try.prog qG qH Try.f21=true:=by kernel_rfl
theorem okT_3:funT Try.prog qG qH Try.f18=true:=by kernel_rfl
theorem okT_4:funT Try.prog qG qH Try.f27=true:=by kernel_rfl
theorem okT_5:funT Try.prog qG qH Try.f22=true:=by kernel_rfl
theorem okT_6:funT Try.prog qG qH Try.f23=true:=by kernel_rfl
theorem okT_7:funT Try.prog qG qH Try.f29=true:=by kernel_rfl
theorem okT_8:funT Try.prog qG qH Try.f52=true:=by kernel_rfl
theorem okT_9:funT Try.prog qG qH Try.f72=true:=by kernel_rfl
theorem okT_10:funT Try.prog qG qH Try.f71=true:=by kernel_rfl
theorem okT_11:funT Try.prog qG qH Try.f91=true:=by kernel_rfl
theorem okT_12:funT Try.prog qG qH Try.f68=true:=by kernel_rfl
theorem okT_13:funT Try.prog qG qH Try.f50=true:=by kernel_rfl
theorem okT_14:funT Try.prog qG qH Try.f51=true:=by kernel_rfl
theorem okT_15:funT Try.prog qG qH Try.f69=true:=by kernel_rfl
theorem okT_16:funT Try.prog qG qH Try.f70=true:=by kernel_rfl
theorem okT_17:funT Try.prog qG qH Try.f53=true:=by kernel_rfl
theorem okT_18:funT Try.prog qG qH Try.f73=true:=by kernel_rfl
theorem okT_19:funT Try.prog qG qH Try.f88=true:=by kernel_rfl
theorem okT_20:funT Try.prog qG qH Try.f89=true:=by kernel_rfl
theorem okT_21:funT Try.prog qG qH Try.f90=true:=by kernel_rfl
theorem okT_22:funT Try.prog qG qH Try.f44=true:=by kernel_rfl
theorem okT_23:funT Try.prog qG qH Try.f45=true:=by kernel_rfl
theorem okT_24:funT Try.prog qG qH Try.f46=true:=by kernel_rfl
theorem okT_25:funT Try.prog qG qH Try.f47=true:=by kernel_rfl
theorem okT_26:funT Try.prog qG qH Try.f61=true:=by kernel_rfl
theorem okT_27:funT Try.prog qG qH Try.f62=true:=by kernel_rfl
theorem okT_28:funT Try.prog qG qH Try.f63=true:=by kernel_rfl
theorem okT_29:funT Try.prog qG qH Try.f64=true:=by kernel_rfl
theorem okT_30:funT Try.prog qG qH Try.f65=true:=by kernel_rfl
theorem okT_31:funT Try.prog qG qH Try.f66=true:=by kernel_rfl
theorem okT_32:funT Try.prog qG qH Try.f78=true:=by kernel_rfl
theorem okT_33:funT Try.prog qG qH Try.f79=true:=by kernel_rfl
theorem okT_34:funT Try.prog qG qH Try.f80=true:=by kernel_rfl
theorem okT_35:funT Try.prog qG qH Try.f81=true:=by kernel_rfl
theorem okT_36:funT Try.prog qG qH Try.f94=true:=by kernel_rfl
theorem okT_37:funT Try.prog qG qH Try.f93=true:=by kernel_rfl
theorem okT_38:funT Try.prog qG qH Try.f31=true:=by kernel_rfl
theorem okT_39:funT Try.prog qG qH Try.f32=true:=by kernel_rfl
theorem okT_40:funT Try.prog qG qH Try.f33=true:=by kernel_rfl
theorem okT_41:funT Try.prog qG qH Try.f54=true:=by kernel_rfl
theorem okT_42:funT Try.prog qG qH Try.f55=true:=by kernel_rfl
theorem okT_43:funT Try.prog qG qH Try.f10=true:=by kernel_rfl
theorem okT_44:funT Try.prog qG qH Try.f11=true:=by kernel_rfl
theorem prog_run{α:Type}{P:Program}{f:Program->Sem α}{w:World}:(program >>= f).run P w=(f P).run P w:=rfl
theorem mark_run{α:Type}{P:Program}{m:Mark}{f:Unit->Sem α}{w:World}:(mark m >>= f).run P w=(f ()).run P w:=rfl
theorem ext_next{P:Program}{f:FuncId}{fn:Func}(hfn:P.funcs[f]? =some fn)(h1:(fn.name== "runtime.NumGoroutine")=false)(h2:fn.body.isNone=true)(h3:Extern.findNext fn=none){e:Array Value->Sem Value}(h4:Extern.find fn=some e){xs:Array Value}{w w':World}{n:Next}(hr:(callFunc f xs).run P w= .ok n w'):∃v,n= .value v:=by
 unfold callFunc at hr;rw[prog_run,hfn]at hr;simp only[h1,h2,h3,h4,Bool.false_eq_true,if_false,if_true,mark_run]at hr;exact val_next (g:=fun x=>x) hr
theorem stepOf_late(g:Nat)(hg:1<=g):Try.prog.stepOf g=none:=by
 have h:Try.prog.funcs.toList.all (fun f=>(f.body.map readies).all fun l=>l.all fun x=>decide (x<1))=true:=by kernel_rfl
 unfold Program.stepOf;rw[Array.findIdx?_eq_none_iff];intro f hf;have h1:=List.all_eq_true.1 h f (by simpa using hf);cases hb:f.body with
 |none=>rfl
 |some c=>
  rw[hb]at h1;simp only[Option.map_some,Option.any_some,Option.all_some,List.all_eq_true,decide_eq_true_eq]at h1⊢;cases hc:(readies c).contains g with
  |false=>rfl
  |true=>
   have:=h1 g (by simpa using hc);omega
theorem qJ:ClosedT Try.prog qG qH:=by
 refine⟨fun f hf xs=>?_,fun f hf xs w n w' hr=>?_,fun f hf fn hfn=>?_,fun f hf=>?_,by kernel_rfl,stepOf_late⟩
 ·obtain rfl:f=117:=by simpa[qG]using hf
  unfold callFunc;refine tm_prog ?_;rw[Try.func117];have h1:(Try.f117.name== "runtime.NumGoroutine")=false:=by kernel_rfl
  have h2:Try.f117.body.isNone=true:=by kernel_rfl
  simp only[h1,h2,Bool.false_eq_true,if_false,if_true,find_none,find_some];refine .mark _ trivial ?_;exact tm_value (tm_makeNoZero _ _ _)
 ·obtain rfl:f=117:=by simpa[qG]using hf
  exact ext_next (fn:=Try.f117) Try.func117 (by kernel_rfl) (by kernel_rfl) find_none find_some hr
 ·simp only[qH,List.contains_eq_mem,List.mem_cons,List.not_mem_nil,or_false,decide_eq_true_eq]at hf;rcases hf with rfl|rfl|rfl|rfl|rfl|rfl|rfl|rfl|rfl|rfl|rfl|rfl|rfl|rfl|rfl|rfl|rfl|rfl|rfl|rfl|rfl|rfl|rfl|rfl|rfl|rfl|rfl|rfl|rfl|rfl|rfl|rfl|rfl|rfl|rfl|rfl|rfl|rfl|rfl|rfl|rfl|rfl|rfl|rfl|rfl
  ·rw[Try.func17]at hfn;obtain rfl:=Option.some.inj hfn;exact okT_0
  ·rw[Try.func20]at hfn;obtain rfl:=Option.some.inj hfn;exact okT_1
  ·rw[Try.func21]at hfn;obtain rfl:=Option.some.inj hfn;exact okT_2
  ·rw[Try.func18]at hfn;obtain rfl:=Option.some.inj hfn;exact okT_3
  ·rw[Try.func27]at hfn;obtain rfl:=Option.some.inj hfn;exact okT_4
  ·rw[Try.func22]at hfn;obtain rfl:=Option.some.inj hfn;exact okT_5
  ·rw[Try.func23]at hfn;obtain rfl:=Option.some.inj hfn;exact okT_6
  ·rw[Try.func29]at hfn;obtain rfl:=Option.some.inj hfn;exact okT_7
  ·rw[Try.func52]at hfn;obtain rfl:=Option.some.inj hfn;exact okT_8
  ·rw[Try.func72]at hfn;obtain rfl:=Option.some.inj hfn;exact okT_9
  ·rw[Try.func71]at hfn;obtain rfl:=Option.some.inj hfn;exact okT_10
  ·rw[Try.func91]at hfn;obtain rfl:=Option.some.inj hfn;exact okT_11
  ·rw[Try.func68]at hfn;obtain rfl:=Option.some.inj hfn;exact okT_12
  ·rw[Try.func50]at hfn;obtain rfl:=Option.some.inj hfn;exact okT_13
  ·rw[Try.func51]at hfn;obtain rfl:=Option.some.inj hfn;exact okT_14
  ·rw[Try.func69]at hfn;obtain rfl:=Option.some.inj hfn;exact okT_15
  ·rw[Try.func70]at hfn;obtain rfl:=Option.some.inj hfn;exact okT_16
  ·rw[Try.func53]at hfn;obtain rfl:=Option.some.inj hfn;exact okT_17
  ·rw[Try.func73]at hfn;obtain rfl:=Option.some.inj hfn;exact okT_18
  ·rw[Try.func88]at hfn;obtain rfl:=Option.some.inj hfn;exact okT_19
  ·rw[Try.func89]at hfn;obtain rfl:=Option.some.inj hfn;exact okT_20
  ·rw[Try.func90]at hfn;obtain rfl:=Option.some.inj hfn;exact okT_21
  ·rw[Try.func44]at hfn;obtain rfl:=Option.some.inj hfn;exact okT_22
  ·rw[Try.func45]at hfn;obtain rfl:=Option.some.inj hfn;exact okT_23
  ·rw[Try.func46]at hfn;obtain rfl:=Option.some.inj hfn;exact okT_24
  ·rw[Try.func47]at hfn;obtain rfl:=Option.some.inj hfn;exact okT_25
  ·rw[Try.func61]at hfn;obtain rfl:=Option.some.inj hfn;exact okT_26
  ·rw[Try.func62]at hfn;obtain rfl:=Option.some.inj hfn;exact okT_27
  ·rw[Try.func63]at hfn;obtain rfl:=Option.some.inj hfn;exact okT_28
  ·rw[Try.func64]at hfn;obtain rfl:=Option.some.inj hfn;exact okT_29
  ·rw[Try.func65]at hfn;obtain rfl:=Option.some.inj hfn;exact okT_30
  ·rw[Try.func66]at hfn;obtain rfl:=Option.some.inj hfn;exact okT_31
  ·rw[Try.func78]at hfn;obtain rfl:=Option.some.inj hfn;exact okT_32
  ·rw[Try.func79]at hfn;obtain rfl:=Option.some.inj hfn;exact okT_33
  ·rw[Try.func80]at hfn;obtain rfl:=Option.some.inj hfn;exact okT_34
  ·rw[Try.func81]at hfn;obtain rfl:=Option.some.inj hfn;exact okT_35
  ·rw[Try.func94]at hfn;obtain rfl:=Option.some.inj hfn;exact okT_36
  ·rw[Try.func93]at hfn;obtain rfl:=Option.some.inj hfn;exact okT_37
  ·rw[Try.func31]at hfn;obtain rfl:=Option.some.inj hfn;exact okT_38
  ·rw[Try.func32]at hfn;obtain rfl:=Option.some.inj hfn;exact okT_39
  ·rw[Try.func33]at hfn;obtain rfl:=Option.some.inj hfn;exact okT_40
  ·rw[Try.func54]at hfn;obtain rfl:=Option.some.inj hfn;exact okT_41
  ·rw[Try.func55]at hfn;obtain rfl:=Option.some.inj hfn;exact okT_42
  ·rw[Try.func10]at hfn;obtain rfl:=Option.some.inj hfn;exact okT_43
  ·rw[Try.func11]at hfn;obtain rfl:=Option.some.inj hfn;exact okT_44
 ·simp only[qH,List.contains_eq_mem,List.mem_cons,List.not_mem_nil,or_false,decide_eq_true_eq]at hf;rcases hf with rfl|rfl|rfl|rfl|rfl|rfl|rfl|rfl|rfl|rfl|rfl|rfl|rfl|rfl|rfl|rfl|rfl|rfl|rfl|rfl|rfl|rfl|rfl|rfl|rfl|rfl|rfl|rfl|rfl|rfl|rfl|rfl|rfl|rfl|rfl|rfl|rfl|rfl|rfl|rfl|rfl|rfl|rfl|rfl|rfl
  ·exact⟨_,Try.func17⟩
  ·exact⟨_,Try.func20⟩
  ·exact⟨_,Try.func21⟩
  ·exact⟨_,Try.func18⟩
  ·exact⟨_,Try.func27⟩
  ·exact⟨_,Try.func22⟩
  ·exact⟨_,Try.func23⟩
  ·exact⟨_,Try.func29⟩
  ·exact⟨_,Try.func52⟩
  ·exact⟨_,Try.func72⟩
  ·exact⟨_,Try.func71⟩
  ·exact⟨_,Try.func91⟩
  ·exact⟨_,Try.func68⟩
  ·exact⟨_,Try.func50⟩
  ·exact⟨_,Try.func51⟩
  ·exact⟨_,Try.func69⟩
  ·exact⟨_,Try.func70⟩
  ·exact⟨_,Try.func53⟩
  ·exact⟨_,Try.func73⟩
  ·exact⟨_,Try.func88⟩
  ·exact⟨_,Try.func89⟩
  ·exact⟨_,Try.func90⟩
  ·exact⟨_,Try.func44⟩
  ·exact⟨_,Try.func45⟩
  ·exact⟨_,Try.func46⟩
  ·exact⟨_,Try.func47⟩
  ·exact⟨_,Try.func61⟩
  ·exact⟨_,Try.func62⟩
  ·exact⟨_,Try.func63⟩
  ·exact⟨_,Try.func64⟩
  ·exact⟨_,Try.func65⟩
  ·exact⟨_,Try.func66⟩
  ·exact⟨_,Try.func78⟩
  ·exact⟨_,Try.func79⟩
  ·exact⟨_,Try.func80⟩
  ·exact⟨_,Try.func81⟩
  ·exact⟨_,Try.func94⟩
  ·exact⟨_,Try.func93⟩
  ·exact⟨_,Try.func31⟩
  ·exact⟨_,Try.func32⟩
  ·exact⟨_,Try.func33⟩
  ·exact⟨_,Try.func54⟩
  ·exact⟨_,Try.func55⟩
  ·exact⟨_,Try.func10⟩
  ·exact⟨_,Try.func11⟩
end Go.Proofs.Ytmfpiodlecapiaa
namespace Go.Poi
open Go.Ren Go.Frag Go.Conc
theorem poison_ex{Sh:Nat->Prop}{u:World}(hr:∀b,Sh b->∃c e fz,u.heap[b]? =some (.cells c e fz))(hv:NV u):∃p,PS Sh p u:=by
 classical
 let emp:Obj->Obj:=fun o=>match o with| .cells _ e fz=>.cells #[] e fz|o=>o
 refine⟨{u with heap:=u.heap.mapIdx fun b o=>if Sh b then emp o else o},by simp,fun b hb=>?_,fun b hb=>?_,fun b o hb=>?_,rfl,rfl,rfl,rfl⟩
 ·simp[hb]
 ·obtain⟨c,e,fz,h⟩:=hr b hb;exact⟨e,fz,fz,c,by simp[h,hb,emp],h⟩
 ·simp only[Array.getElem?_mapIdx]at hb;cases ho:u.heap[b]? with
  |none=>rw[ho]at hb;cases hb
  |some o'=>
   rw[ho]at hb;have hp:=hv b o' ho;simp only[Option.map_some,Option.some.injEq]at hb;subst hb;split
   ·cases o'<;>first|exact hp|exact trivial
   ·exact hp
def Live(o:Obj):Prop:=∀e fz,o≠.cells #[] e fz
theorem PS.live{Sh:Nat->Prop}{p u:World}(h:PS Sh p u){b:Nat}{o:Obj}(hb:p.heap[b]? =some o)(hl:Live o):¬Sh b:=fun hs=>by
 obtain⟨e,fz,_,_,h1,_⟩:=h.rows b hs;rw[h1]at hb;exact hl e fz (Option.some.inj hb).symm
theorem PS.nv{Sh:Nat->Prop}{p u:World}(h:PS Sh p u):NV u:=fun b o hb=>by
 by_cases hs:Sh b
 ·obtain⟨e,fz,fz',c,_,h2⟩:=h.rows b hs;rw[h2]at hb;obtain rfl:=Option.some.inj hb;exact trivial
 ·rw[h.same b hs]at hb;exact h.views b o hb
theorem cell_live{p:World}{b i:Nat}{v:Value}(h:p.cell? ⟨b,i,none⟩=some v):∃c e fz,p.heap[b]? =some (.cells c e fz)/\c[i]? =some v/\Live (.cells c e fz):=by
 simp only[World.cell?]at h;cases ho:p.heap[b]? with
 |none=>rw[ho]at h;cases h
 |some o=>
  rw[ho]at h;cases o with
  |cells c e fz=>
   have hv:c[i]? =some v:=by simpa using h
   refine⟨c,e,fz,rfl,hv,fun e' fz' he=>?_⟩;simp only[Obj.cells.injEq]at he;rw[he.1]at hv;simp at hv
  |_=>simp at h
end Go.Poi
namespace Go.Proofs.Ytmfpiodlecapiaa
open Go.Conc Go.ConcN Go.RowKit Go.Conc.Lib Go.ConcR.Gen Go.ConcN.Gen Go.Grp Go.Frag Go.Ren Go.Poi
open Go.ConcR (KK wgBlock WgAt stA smA rd wr mk Payload Aside2 DC0)
def ResQ(B0:Nat)(Dz:Nat->List Nat)(z:Nat)(v:Value)(p:World):Prop:=
 ∃da dl dc,v= .slice da dl dc/\dl=(Dz z).length/\(dl≠0->∃b o,da=some ⟨b,o,none⟩/\B0<=b/\∀j,j<dl->p.cell? ⟨b,o+j,none⟩=some (.int .u8 ((Dz z)[j]?.getD 0:Nat)))
structure AfterB(Sh:Nat->Prop)(p:World)(R Dn N:Nat)(wz:Nat->Bool)(Dz:Nat->List Nat)(ok:Bool)(T:Array Value)(p':World):Prop where
 size:T.size=37
 flag:T[12]? =some (.bool ok)
 grown:p.heap.size<p'.heap.size
 views:∀(b:Nat) o,p'.heap[b]? =some o->Go.Ren.okAt b o
 keep:∀b o,p.heap[b]? =some o->Live o->b≠R->b≠Dn->p'.heap[b]? =some o
 old:∀b,b<p.heap.size->¬Sh b->b≠R->b≠Dn->p'.heap[b]? =p.heap[b]?
 os:p'.os=p.os
 output:p'.output=p.output
 no:ok=false->T[11]? =some (.slice none 0 0)/\∃z,z<N/\wz z=false
 yes:ok=true->(∀z,z<N->wz z=true)/\∃cP,T[11]? =some (.slice (some ⟨cP,0,none⟩) N N)/\∃parts:Array Value,p'.heap[cP]? =some (.cells parts 36)/\parts.size=N/\∀z,z<N->∃v,parts[z]? =some v/\ResQ (p.heap.size+1) Dz z v p'
set_option maxRecDepth 100000 in
set_option maxHeartbeats 4000000 in
theorem phase_bto{Sh:Nat->Prop}{Post:(Nat->Prop)->Goroutine->World->Prop}{p:World}{cs:List Frame}{N bb bo cap cR cD R Dn sR rR sD rD:Nat}{tR tD:Bool}{cS:Addr}{pa:Nat->Option Addr}{pl pc:Nat->Nat}{j1 j2 j4 j5 j8 j9 j10 j11 j12 j13 j14 j15 j16 j17 j18 j19 j20 j21 j22 j23 j24 j25 j26 j27 j28 j29 j30 j31 j32 j33 j34 j35 j36:Value}{wz:Nat->Bool}{Dz:Nat->List Nat}
  (hN:0<N/\N<2147483648)(hSh:∀b,Sh b->b<p.heap.size)(hR:p.heap[R]? =some (.chan 0 #[] false sR rR tR))(hD:p.heap[Dn]? =some (.chan 0 #[] false sD rD tD))(hne:R≠Dn)
  (hcR:p.cell? ⟨cR,0,none⟩=some (.chan (some R)))(hcD:p.cell? ⟨cD,0,none⟩=some (.chan (some Dn)))(hbb:∀z,z<N->p.cell? ⟨bb,bo+z,none⟩=some (.slice (pa z) (pl z) (pc z)))(hcS:cS.block<p.heap.size)
  (htree:∀(z cz cp:Nat) (w:World),z<N->(∀b i v,p.cell? ⟨b,i,none⟩=some v->w.heap[b]? =p.heap[b]?)->p.heap.size+1<=w.heap.size->w.heap[cz]? =some (.cells #[.int .i64 z] 3)->w.heap[cp]? =some (.cells #[.slice (pa z) (pl z) (pc z)] 33)->p.heap.size+1<=cz->p.heap.size+1<=cp->cz≠cp->
   ∃Keep:Nat->Bool,Keep cz=true/\(∀b i v,Keep b=true->w.cell? ⟨b,i,none⟩=some v->SV (Array.range w.heap.size) v v)/\(∀b,Keep b=true->b<w.heap.size->∃c e fz,w.heap[b]? =some (.cells c e fz))/\(∀b,Keep b=true->(∃i v,p.cell? ⟨b,i,none⟩=some v)\/b=cz\/b=cp)/\
    WT Try.prog (PollAt Dn (qV (qT 2 (Try.f122.body.getD .skip)))) (SelStop R Dn (qV (selOf Try.f83)) (tailOf Try.f83) (ResP (p.heap.size+1) wz Dz) z) ⟨0,⟨wFn,wTmps ⟨p.heap.size,0,none⟩ ⟨cp,0,none⟩ cS ⟨cD,0,none⟩ ⟨cR,0,none⟩ ⟨cz,0,none⟩,[.code (restOf Try.f83)],false⟩,[],priv Keep w⟩)
  (hpost:∀(ok:Bool) (T:Array Value) (p':World),AfterB Sh p R Dn N wz Dz ok T p'->qR Try.prog (fun b=>Sh b\/b=p.heap.size) (G ((base 67).at ⟨T,[]⟩ [.inRegion (qV (qT 6 (Try.f67.body.getD .skip))) [],.code (dropC 7 (Try.f67.body.getD .skip))]) cs) p' Post):
  qR Try.prog Sh (G ((base 67).at ⟨#[.slice (some ⟨bb,bo,none⟩) N cap,j1,j2,.pointer (some cS),j4,j5,.pointer (some ⟨cR,0,none⟩),.pointer (some ⟨cD,0,none⟩),j8,j9,j10,j11,j12,j13,j14,j15,j16,j17,j18,j19,j20,j21,j22,j23,j24,j25,j26,j27,j28,j29,j30,j31,j32,j33,j34,j35,j36],[]⟩ [.inRegion (qV (qT 3 (Try.f67.body.getD .skip))) [0],.code (dropC 4 (Try.f67.body.getD .skip))]) cs) p Post:=by
 refine .stepC rfl fun u hps=>?_;have hz:u.heap.size=p.heap.size:=hps.size;have hal:stepG Try.prog true (G ((base 67).at ⟨#[.slice (some ⟨bb,bo,none⟩) N cap,j1,j2,.pointer (some cS),j4,j5,.pointer (some ⟨cR,0,none⟩),.pointer (some ⟨cD,0,none⟩),j8,j9,j10,j11,j12,j13,j14,j15,j16,j17,j18,j19,j20,j21,j22,j23,j24,j25,j26,j27,j28,j29,j30,j31,j32,j33,j34,j35,j36],[]⟩ [.inRegion (qV (qT 3 (Try.f67.body.getD .skip))) [0],.code (dropC 4 (Try.f67.body.getD .skip))]) cs) u= .go (G ((base 67).at ⟨#[.slice (some ⟨bb,bo,none⟩) N cap,j1,j2,.pointer (some cS),j4,j5,.pointer (some ⟨cR,0,none⟩),.pointer (some ⟨cD,0,none⟩),.pointer (some ⟨p.heap.size,0,none⟩),j9,j10,j11,j12,j13,j14,j15,j16,j17,j18,j19,j20,j21,j22,j23,j24,j25,j26,j27,j28,j29,j30,j31,j32,j33,j34,j35,j36],[]⟩ [.inRegion (qV (qT 3 (Try.f67.body.getD .skip))) [],.code (dropC 4 (Try.f67.body.getD .skip))]) cs) (u.alloc (wgBlock link.tWg 0 0)) #[]:=by
  simp only[Try.f67,Option.getD_some,qT,dropC,qV];have:=goes_oper_k (P:=Try.prog) (main:=true) (w:=u) (cs:=cs) (k:= [.code (dropC 4 (Try.f67.body.getD .skip))]) (b:=base 67) (a:=⟨#[.slice (some ⟨bb,bo,none⟩) N cap,j1,j2,.pointer (some cS),j4,j5,.pointer (some ⟨cR,0,none⟩),.pointer (some ⟨cD,0,none⟩),j8,j9,j10,j11,j12,j13,j14,j15,j16,j17,j18,j19,j20,j21,j22,j23,j24,j25,j26,j27,j28,j29,j30,j31,j32,j33,j34,j35,j36],[]⟩) (ops:=qV (qT 3 (Try.f67.body.getD .skip))) (i:=0) (rest:= []) (o:=(qV (qT 3 (Try.f67.body.getD .skip)))[0]) (K:=fun g' w' es=>g'=G ((base 67).at ⟨#[.slice (some ⟨bb,bo,none⟩) N cap,j1,j2,.pointer (some cS),j4,j5,.pointer (some ⟨cR,0,none⟩),.pointer (some ⟨cD,0,none⟩),.pointer (some ⟨p.heap.size,0,none⟩),j9,j10,j11,j12,j13,j14,j15,j16,j17,j18,j19,j20,j21,j22,j23,j24,j25,j26,j27,j28,j29,j30,j31,j32,j33,j34,j35,j36],[]⟩ [.inRegion (qV (qT 3 (Try.f67.body.getD .skip))) [],.code (dropC 4 (Try.f67.body.getD .skip))]) cs/\w'=u.alloc (wgBlock link.tWg 0 0)/\es=#[]) rfl rfl (by decide) (fun K hK=>by
    simp only[Try.f67,Option.getD_some,qT,qV];go_simp;refine hK _ _ ⟨?_,?_,?_⟩
    ·first|rfl|(rw[hz];rfl)
    ·rfl
    ·exact listed_nil (by simp[go_sem,qV,qT,Try.f67]))
  simp only[Try.f67,Option.getD_some,qT,dropC,qV]at this;revert this;cases stepG Try.prog true _ u with
  |go g' w' es=>rintro⟨rfl,rfl,rfl⟩;rfl
  |_=>exact fun h=>h.elim
 let blk:=wgBlock link.tWg 0 0
 have hps1:PS Sh ((p.alloc blk).re (u.alloc blk).tape (u.alloc blk).drawn) (u.alloc blk):=hps.new (fun b hb=>hSh b hb) (o:=blk) trivial;refine⟨_,p.alloc blk,u.alloc blk,#[],hal,hps1,by rw[Go.Ren.size_alloc];omega,fun e he=>by simp at he,fun gs1 sl1 t1 q1 hb hpast=>?_⟩;have hpast:=hpast rfl;rw[hz]at hpast;have sz1:(u.alloc blk).heap.size=p.heap.size+1:=by rw[Go.Ren.size_alloc,hz]
 have rowU:∀b o,p.heap[b]? =some o->Live o->(u.alloc blk).heap[b]? =some o/\¬Sh b/\b<p.heap.size:=fun b o h1 h2=>by
  have hn:¬Sh b:=PS.live (p:=p.re u.tape u.drawn) hps h1 h2;have hlt:b<p.heap.size:=(Array.getElem?_eq_some_iff.1 h1).1;have e:=hps.same b hn;refine⟨?_,hn,hlt⟩;rw[Go.Ren.heap_alloc_old (by rw[hz];exact hlt),e];exact h1
 have oldU:∀b,b<p.heap.size->¬Sh b->(u.alloc blk).heap[b]? =p.heap[b]? :=fun b hlt hn=>by
  rw[Go.Ren.heap_alloc_old (by rw[hz];exact hlt)];exact hps.same b hn
 obtain⟨hRu,hRn,hRl⟩:=rowU R _ hR (fun _ _ h=>by cases h);obtain⟨hDu,hDn,hDl⟩:=rowU Dn _ hD (fun _ _ h=>by cases h);have cellU:∀b i v,p.cell? ⟨b,i,none⟩=some v->(u.alloc blk).heap[b]? =p.heap[b]?/\(u.alloc blk).cell? ⟨b,i,none⟩=some v/\¬Sh b/\b<p.heap.size/\b≠R/\b≠Dn:=fun b i v h=>by
  obtain⟨c,e,fz,h1,h2,h3⟩:=cell_live h;obtain⟨k1,k2,k3⟩:=rowU b _ h1 h3;refine⟨k1.trans h1.symm,?_,k2,k3,fun hh=>?_,fun hh=>?_⟩
  ·simp[World.cell?,k1,h2]
  ·subst hh;rw[hR]at h1;cases h1
  ·subst hh;rw[hD]at h1;cases h1
 let H:Ph:= {P:=Try.prog,X:=outside2,A:=inside2,K:=kls,ty:=link.tWg,Wg:=p.heap.size,R:=R,Dn:=Dn,o:=gs1.size,N:=N,B0:=p.heap.size+1,Shun:=ShL Sh,old:=(fun b=>b<p.heap.size/\¬Sh b/\b≠R/\b≠Dn),aux:=Sh,row0:=(fun b=>(u.alloc blk).heap[b]?),w0:=u,Cx:=wCtx Try.prog.funcs.size [] ⟨p.heap.size,0,none⟩,Node:=(fun _=>PollAt Dn (qV (qT 2 (Try.f122.body.getD .skip)))),Stop:=SelStop R Dn (qV (selOf Try.f83)) (tailOf Try.f83) (ResP (p.heap.size+1) wz Dz),Res:=ResT (p.heap.size+1) wz Dz,Shp:=ShpC,Anch:=AnchK p.heap.size,Fin:=FinB N [.inRegion (qV (qT 6 (Try.f67.body.getD .skip))) [],.code (dropC 7 (Try.f67.body.getD .skip))] cs}
 have I:IsB H wz Dz cs:=⟨rfl,rfl,rfl,rfl,rfl,rfl,rfl,rfl,rfl,rfl,rfl,rfl,hN,⟨show Dn<p.heap.size+1 by omega,show R<p.heap.size+1 by omega⟩⟩;letI:Payload:=⟨3⟩
 have hwgA:WgAt link.tWg p.heap.size (u.alloc blk) 0 0:=by
  have:=Go.Ren.heap_alloc_new (w:=u) (o:=blk);rw[hz]at this;exact this
 have hbas:Bas H (u.alloc blk):=by
  refine⟨⟨fun b _=>rfl,rfl,rfl⟩,nv_new (PS.nv hps) trivial,fun b hs=>?_⟩;obtain⟨e,fz,fz',c,_,h2⟩:=hps.rows b hs;have hlt:=hSh b hs;have hrow:(u.alloc blk).heap[b]? =some (.cells c e fz'):=by rw[Go.Ren.heap_alloc_old (by rw[hz];exact hlt)];exact h2
  exact⟨⟨by show b≠p.heap.size;omega,fun e=>hRn (by rw[<-show b=R from e];exact hs),fun e=>hDn (by rw[<-show b=Dn from e];exact hs),hs⟩,_,hrow,hrow⟩
 have hFS:FS H bb bo N pa pl pc cR cD (u.alloc blk):=by
  obtain⟨_,r2,r3,r4,r5,r6⟩:=cellU cR 0 _ hcR;obtain⟨_,d2,d3,d4,d5,d6⟩:=cellU cD 0 _ hcD;obtain⟨_,_,b3,b4,b5,b6⟩:=cellU bb (bo+0) _ (hbb 0 hN.1);refine⟨⟨0,0,hwgA⟩,fun z hz=>(cellU bb _ _ (hbb z hz)).2.1,r2,d2,⟨b4,b3,b5,b6⟩,⟨r4,r3,r5,r6⟩,⟨d4,d3,d5,d6⟩,?_,?_,fun b hb=>⟨?_,rfl⟩⟩
  ·rw[sz1];show bb<p.heap.size+1/\cR<p.heap.size+1/\cD<p.heap.size+1/\p.heap.size<p.heap.size+1;omega
  ·rw[sz1];exact Nat.le_refl _
  ·have:b<p.heap.size:=hb.1;rw[sz1];omega
 obtain⟨k,m',t',hrun,htgt⟩:=blocks_phase (H:=H) (sl:=sl1) (cS:=cS) (cap:=cap) I rfl hb.zero hb.leave hpast
  (fun b hb=>by
   obtain⟨o1,o2,o3,o4⟩:=hb;exact⟨by rw[sz1];omega,by show b≠p.heap.size;omega,o3,o4,fun _ h=>o2 h⟩)
  ⟨by rw[sz1];show p.heap.size<_;omega,by rw[sz1];show R<_;omega,by rw[sz1];show Dn<_;omega,by show p.heap.size≠R;omega,by show p.heap.size≠Dn;omega,hne⟩
  (fun b k hb h=>by
   have:=hSh b h;rw[sz1]at hb;omega)
  ⟨⟨_,_,_,hRu⟩,⟨_,_,_,hDu⟩,hbas⟩ hwgA hFS
  (fun z cz cp w hzN hF hZ=>by
   obtain⟨Keep,k1,k2,k3,k4,k5⟩:=htree z cz cp w hzN (fun b i v h=>by
     obtain⟨c1,_,c3,c4,c5,c6⟩:=cellU b i v h;exact((hF.bas b ⟨c4,c3,c5,c6⟩).2).trans c1) hF.b0 hZ.z hZ.p hZ.zo.2 hZ.po.2 hZ.zp
   refine born_of (H:=H) rfl rfl rfl rfl rfl rfl Keep hF.b0 hZ.z k1 ⟨hF.lo.2.2.2,(Array.getElem?_eq_some_iff.1 hZ.p).1,?_,hF.lo.2.2.1,hF.lo.2.1⟩ k2 k3 (fun b hb=>?_) k5
   ·have:=hF.b0;have:p.heap.size+1<=w.heap.size:=this;omega
   ·rcases k4 b hb with⟨i,v,h⟩|h|h
    ·obtain⟨_,_,c3,c4,c5,c6⟩:=cellU b i v h;exact .inl ⟨c4,c3,c5,c6⟩
    ·exact .inr (.inl h)
    ·exact .inr (.inr h))
 obtain⟨gs2,w2,sl2,got,κ,mine,ok,q2,rfl,hsz2,hz2,hquit,hdeaf,hpast2,hfin,⟨hbas2,⟨st2,sm2,hlive2⟩,hms⟩,hfull,hres⟩:=htgt;obtain⟨T,hT37,rfl,hT12,hno,hyes⟩:=(show FinB N [.inRegion (qV (qT 6 (Try.f67.body.getD .skip))) [],.code (dropC 7 (Try.f67.body.getD .skip))] cs ok got mine κ w2 from hfin);have hW2:w2.heap[p.heap.size]? =some (wgBlock link.tWg st2 sm2):=hlive2;have hW2l:p.heap.size<w2.heap.size:=(Array.getElem?_eq_some_iff.1 hW2).1;obtain⟨p2,hps2⟩:=poison_ex (Sh:=fun b=>Sh b\/b=p.heap.size) (u:=w2) (fun b hb=>by
   rcases hb with hb|rfl
   ·obtain⟨_,o,h1,h2⟩:=hbas2.2.2 b hb;obtain⟨e,fz,fz',c,_,h3⟩:=hps.rows b hb;have hlt:=hSh b hb;have hrow:(u.alloc blk).heap[b]? =some (.cells c e fz'):=by rw[Go.Ren.heap_alloc_old (by rw[hz];exact hlt)];exact h3
    have:(some o:Option Obj)=some (.cells c e fz'):=h1.symm.trans hrow;exact⟨c,e,fz',h2.trans this⟩
   ·exact⟨_,_,_,hW2⟩) hbas2.2.1
 have hsz:w2.heap.size=p2.heap.size:=hps2.size;have hbst:Bst Try.prog (fun b=>Sh b\/b=p.heap.size) (G ((base 67).at ⟨T,[]⟩ [.inRegion (qV (qT 6 (Try.f67.body.getD .skip))) [],.code (dropC 7 (Try.f67.body.getD .skip))]) cs) p2 gs2 w2 t' q2:=by
  refine⟨hz2,by rw[hps2.same_re];exact hps2,⟨hquit,hdeaf⟩,⟨hpast2.clean,fun i a h1 h2=>(hpast2.known i a h1 h2).imp id fun x=>⟨?_,x.2⟩,hpast2.over,hpast2.hears,hpast2.seen⟩⟩;rcases x.1 with h|⟨c,h,hc⟩
  ·revert h;show ShL Sh a.loc->ShL _ a.loc;cases a.loc with
   |cell c=>exact fun h=>.inl h
   |_=>exact id
  ·rw[h];exact .inr hc
 have hkeep:∀b o,p.heap[b]? =some o->Live o->b≠R->b≠Dn->p2.heap[b]? =some o:=fun b o h1 h2 h3 h4=>by
  obtain⟨k1,k2,k3⟩:=rowU b o h1 h2;have e:=hps2.same b (by rintro(h|h);exact k2 h;omega);rw[<-e];exact(hbas2.1.1 b ⟨k3,k2,h3,h4⟩).trans k1
 have hold2:∀b,b<p.heap.size->¬Sh b->b≠R->b≠Dn->p2.heap[b]? =p.heap[b]? :=fun b h1 h2 h3 h4=>by
  have e:=hps2.same b (by rintro(h|h);exact h2 h;omega);rw[<-e];exact(hbas2.1.1 b ⟨h1,h2,h3,h4⟩).trans (oldU b h1 h2)
 have hA:AfterB Sh p R Dn N wz Dz ok T p2:=by
  refine⟨hT37,hT12,by omega,hps2.views,hkeep,hold2,?_,?_,fun h=>?_,fun h=>?_⟩
  ·rw[<-hps2.os,hbas2.1.2.1];exact hps.os
  ·rw[<-hps2.output,hbas2.1.2.2];exact hps.output
  ·obtain⟨h1,i,da,dl,dc,hi,hg⟩:=hno h;refine⟨h1,i,hi,?_⟩;obtain⟨da',dl',dc',e,_⟩:=hres i _ hg;simp only[Value.agg.injEq,Array.mk.injEq,List.cons.injEq,Value.bool.injEq]at e;exact e.2.2.1.symm
  ·obtain⟨cP,h1,h2,parts,h3,h4,h5⟩:=hyes h;have hall:=hfull h;have hz1:∀z,z<N->∃da dl dc,got z=some (.agg #[.int .i64 z,.slice da dl dc,.bool true])/\parts[z]? =some (.slice da dl dc)/\wz z=true/\dl=(Dz z).length/\(dl≠0->∃b o,da=some ⟨b,o,none⟩/\p.heap.size+1<=b/\∀j,j<dl->w2.cell? ⟨b,o+j,none⟩=some (.int .u8 ((Dz z)[j]?.getD 0:Nat))):=by
    intro z hzN;cases hg:got z with
    |none=>exact absurd hg (hall z hzN)
    |some v=>
     obtain⟨da,dl,dc,rfl,h6⟩:=h5 z v hg;obtain⟨da',dl',dc',e,h7⟩:=hres z _ hg;simp only[Value.agg.injEq,Array.mk.injEq,List.cons.injEq,Value.bool.injEq,Value.slice.injEq]at e;obtain⟨_,⟨rfl,rfl,rfl⟩,e,_⟩:=e;obtain⟨k1,k2⟩:=h7 e.symm;exact⟨da,dl,dc,rfl,h6,e.symm,k1,k2⟩
   refine⟨fun z hzN=>(hz1 z hzN).choose_spec.choose_spec.choose_spec.2.2.1,cP,h1,parts,?_,h4,fun z hzN=>?_⟩
   ·have hm:=hms cP h2;rw[<-hps2.same cP (by rintro(h|h);exact hm.2.2.2.2 0 h;exact hm.2.1 h)];exact h3
   ·obtain⟨da,dl,dc,_,h6,_,h7,h8⟩:=hz1 z hzN;refine⟨_,h6,da,dl,dc,rfl,h7,fun hd=>?_⟩;obtain⟨b,o,rfl,hB,hc⟩:=h8 hd;refine⟨b,o,rfl,hB,fun j hj=>?_⟩;have hn:¬(Sh b\/b=p.heap.size):=by
     rintro(h|h)
     ·have:=hSh b h;omega
     ·omega
    have e:=hps2.same b hn;have:=hc j hj;simp only[World.cell?,e]at this;exact this
 obtain⟨M,Sh3,g3,p3,gs3,u3,sl3,t3,q3,hr3,hb3,hp3⟩:=hpost ok T p2 hA gs2 w2 sl2 t' q2 hbst;exact⟨k+M,Sh3,g3,p3,gs3,u3,sl3,t3,q3,by rw[runNT_add,hrun];exact hr3,hb3,hp3⟩
end Go.Proofs.Ytmfpiodlecapiaa
namespace Go.Frag
variable {P:Program}
def liftF(k:List Item)(f:Fr):List Fr->Fr
 | []=> {f with todo:=f.todo++k}
 |_::_=>f
def liftS(k:List Item)(gs:List Fr):List Fr->List Fr
 | []=>gs
 |c::r=>liftF k c r::liftS k gs r
theorem liftF_fn(k:List Item)(f:Fr)(fs:List Fr):(liftF k f fs).fn=f.fn:=by cases fs<;>rfl
theorem liftF_ret(k:List Item)(f:Fr)(fs:List Fr):(liftF k f fs).ret=f.ret:=by cases fs<;>rfl
theorem liftF_tmps(k:List Item)(f:Fr)(fs:List Fr):(liftF k f fs).tmps=f.tmps:=by cases fs<;>rfl
theorem liftF_act(k:List Item)(f:Fr)(fs:List Fr):(liftF k f fs).act=f.act:=by simp[Fr.act,liftF_tmps]
theorem liftF_todo(k:List Item)(f:Fr)(fs:List Fr):∃r,(liftF k f fs).todo=f.todo++r/\∀g:Fr,(liftF k g fs).todo=g.todo++r:=by
 cases fs with
 |nil=>exact⟨k,rfl,fun _=>rfl⟩
 |cons c r=>exact⟨[],by simp[liftF],fun g=>by simp[liftF]⟩
theorem liftF_with(k:List Item)(f:Fr)(fs:List Fr)(r:List Item)(hr:(liftF k f fs).todo=f.todo++r)(hr':∀g:Fr,(liftF k g fs).todo=g.todo++r)(td:List Item)(b:Bool):({liftF k f fs with todo:=td++r,ret:=b}:Fr)=liftF k {f with todo:=td,ret:=b} fs:=by
 have h:=hr' {f with todo:=td,ret:=b};cases fs with
 |nil=>
  simp only[liftF]at h⊢;simp only[Fr.mk.injEq,true_and,and_true];exact h.symm
 |cons c rs=>
  simp only[liftF]at h⊢;simp only[Fr.mk.injEq,true_and,and_true];exact h.symm
theorem liftF_finish(k:List Item)(f:Fr)(fs:List Fr)(v:Value)(h:AtOp f):(liftF k f fs).finish v=liftF k (f.finish v) fs:=by
 obtain⟨ops,i,rest,t,ht⟩:=h;cases fs with
 |nil=>simp[liftF,Fr.finish,ht]
 |cons c r=>rfl
theorem fstep_lift(k:List Item)(gs:List Fr){f f':Fr}{fs fs':List Fr}{w w':World}{es:Array Event}(hwf:Wf fs)(h:fstep P f fs w= .go f' fs' w' es):
  fstep P (liftF k f fs) (liftS k gs fs) w= .go (liftF k f' fs') (liftS k gs fs') w' es:=by
 unfold fstep at h;cases hr:f.ret with
 |true=>
  simp only[hr,if_true]at h;unfold fret at h;cases fs with
  |nil=>cases h
  |cons c rest=>
   simp only at h;cases hf:P.funcs[f.fn]? with
   |none=>rw[hf]at h;cases h
   |some fn=>
    rw[hf]at h;simp only at h;cases hres:(results fn f.tmps).run P w with
    |halt x w1=>rw[hres]at h;cases h
    |ok v w1=>
     rw[hres]at h;simp only[FO.go.injEq]at h;obtain⟨rfl,rfl,rfl,rfl⟩:=h;rw[<-liftF_finish k c rest v (hwf c (by simp)).1];simp[fstep,liftF,hr,fret,liftS,hf,hres]
 |false=>
  simp only[hr,Bool.false_eq_true,if_false]at h;obtain⟨r,hr1,hr2⟩:=liftF_todo k f fs;have hret:(liftF k f fs).ret=false:=(liftF_ret k f fs).trans hr;have e0:fstep P (liftF k f fs) (liftS k gs fs) w=qU P (liftF k f fs) (liftS k gs fs) w:=by simp[fstep,hret]
  rw[e0];have wt:∀(td:List Item) (b:Bool),({liftF k f fs with todo:=td++r,ret:=b}:Fr)=liftF k {f with todo:=td,ret:=b} fs:=liftF_with k f fs r hr1 hr2;have wt':∀(td:List Item),({liftF k f fs with todo:=td++r}:Fr)=liftF k {f with todo:=td} fs:=by
   intro td;have:=wt td f.ret;rw[hr]at this;have e1:({liftF k f fs with todo:=td++r}:Fr)= {liftF k f fs with todo:=td++r,ret:=false}:=by simp[hret]
   have e2:({f with todo:=td}:Fr)= {f with todo:=td,ret:=false}:=by simp[hr]
   rw[e1,e2];exact this
  unfold qU at h;split at h
  ·rename_i htd;cases fs with
   |nil=>cases h
   |cons c rest=>
    simp only[FO.go.injEq]at h;obtain⟨rfl,rfl,rfl,rfl⟩:=h;simp[qU,liftF,htd,liftS]
  ·rename_i tl htd;simp only[FO.go.injEq]at h;obtain⟨rfl,rfl,rfl,rfl⟩:=h;have e1:(liftF k f fs).todo= .code .ret::(tl++r):=by rw[hr1,htd];rfl
   have:=wt f.todo true;rw[<-hr1]at this;simp only[qU,e1];rw[<-this];simp[e1]
  ·rename_i tl htd;simp only[FO.go.injEq]at h;obtain⟨rfl,rfl,rfl,rfl⟩:=h;have e1:(liftF k f fs).todo= .code .skip::(tl++r):=by rw[hr1,htd];rfl
   simp only[qU,e1,wt' tl]
  ·rename_i l tl htd;simp only[FO.go.injEq]at h;obtain⟨rfl,rfl,rfl,rfl⟩:=h;have e1:(liftF k f fs).todo= .code (.label l)::(tl++r):=by rw[hr1,htd];rfl
   simp only[qU,e1,wt' tl]
  ·rename_i id tl htd;simp only[FO.go.injEq]at h;obtain⟨rfl,rfl,rfl,rfl⟩:=h;have e1:(liftF k f fs).todo= .inBlock id::(tl++r):=by rw[hr1,htd];rfl
   simp only[qU,e1,wt' tl]
  ·rename_i a b tl htd;simp only[FO.go.injEq]at h;obtain⟨rfl,rfl,rfl,rfl⟩:=h;have e1:(liftF k f fs).todo= .code (.seq a b)::(tl++r):=by rw[hr1,htd];rfl
   have:=wt' (.code a:: .code b::tl);simp only[List.cons_append]at this;simp only[qU,e1,this]
  ·rename_i c thn els tl htd;split at h
   ·rename_i b hb;simp only[FO.go.injEq]at h;obtain⟨rfl,rfl,rfl,rfl⟩:=h;have e1:(liftF k f fs).todo= .code (.cond c thn els)::(tl++r):=by rw[hr1,htd];rfl
    have:=wt' (.code (if b then thn else els)::tl);simp only[List.cons_append]at this;simp only[qU,e1,liftF_act,hb,this]
   ·cases h
  ·rename_i id body tl htd;simp only[FO.go.injEq]at h;obtain⟨rfl,rfl,rfl,rfl⟩:=h;have e1:(liftF k f fs).todo= .code (.block id body)::(tl++r):=by rw[hr1,htd];rfl
   have:=wt' (.code body:: .inBlock id::tl);simp only[List.cons_append]at this;simp only[qU,e1,this]
  ·rename_i body tl htd;simp only[FO.go.injEq]at h;obtain⟨rfl,rfl,rfl,rfl⟩:=h;have e1:(liftF k f fs).todo= .code (.loop body)::(tl++r):=by rw[hr1,htd];rfl
   have:=wt' (.code body:: .inLoop body::tl);simp only[List.cons_append]at this;simp only[qU,e1,this]
  ·rename_i body tl htd;simp only[FO.go.injEq]at h;obtain⟨rfl,rfl,rfl,rfl⟩:=h;have e1:(liftF k f fs).todo= .inLoop body::(tl++r):=by rw[hr1,htd];rfl
   have:=wt' (.code body:: .inLoop body::tl);simp only[List.cons_append]at this;simp only[qU,e1,this]
  ·rename_i id tl htd;split at h
   ·rename_i k' hk';simp only[FO.go.injEq]at h;obtain⟨rfl,rfl,rfl,rfl⟩:=h;have e1:(liftF k f fs).todo= .code (.exit id)::(tl++r):=by rw[hr1,htd];rfl
    simp only[qU,e1,exitTo_app r hk',wt' k']
   ·cases h
  ·rename_i id ops draw tl htd;have e1:(liftF k f fs).todo= .code (.region id ops draw)::(tl++r):=by rw[hr1,htd];rfl
   cases draw with
   |true=>
    simp only[if_true,FO.go.injEq]at h;obtain⟨rfl,rfl,rfl,rfl⟩:=h;have:=wt' (.inRegion ops (Region.schedule (P.follows .mixedOrders) ops (w.tape w.drawn (.order f.fn id)))::tl);simp only[List.cons_append]at this;simp only[qU,e1,if_true];rw[liftF_fn]at this⊢;rw[this]
   |false=>
    simp only[Bool.false_eq_true,if_false,FO.go.injEq]at h;obtain⟨rfl,rfl,rfl,rfl⟩:=h;have:=wt' (.inRegion ops (List.range ops.size)::tl);simp only[List.cons_append]at this;simp only[qU,e1,Bool.false_eq_true,if_false,this]
  ·rename_i ops tl htd;simp only[FO.go.injEq]at h;obtain⟨rfl,rfl,rfl,rfl⟩:=h;have e1:(liftF k f fs).todo= .inRegion ops []::(tl++r):=by rw[hr1,htd];rfl
   simp only[qU,e1,wt' tl]
  ·rename_i ops i rest tl htd;have e1:(liftF k f fs).todo= .inRegion ops (i::rest)::(tl++r):=by rw[hr1,htd];rfl
   have hat:AtOp f:=⟨ops,i,rest,tl,htd⟩;split at h
   ·rename_i ho;simp only[FO.go.injEq]at h;obtain⟨rfl,rfl,rfl,rfl⟩:=h;simp only[qU,e1,ho,liftF_finish k f fs undef hat]
   ·rename_i o ho;by_cases hwt:Region.wanted o (yielded ops f.tmps)=true
    ·simp only[hwt,if_true]at h;simp only[qU,e1,ho,liftF_tmps,hwt,if_true];unfold foper at h⊢;rw[liftF_act,liftF_fn];cases hrun:(execOp f.act.eval o).run P w with
     |halt x w1=>rw[hrun]at h;cases x<;>cases h
     |ok n w1=>
      rw[hrun]at h;cases n with
      |value v=>
       simp only[FO.go.injEq]at h;obtain⟨rfl,rfl,rfl,rfl⟩:=h;simp only[liftF_finish k f fs v hat]
      |skip=>
       simp only[FO.go.injEq]at h;obtain⟨rfl,rfl,rfl,rfl⟩:=h;simp only[liftF_finish k f fs undef hat]
      |enter g args=>
       simp only[FO.go.injEq]at h;obtain⟨rfl,rfl,rfl,rfl⟩:=h;simp only[liftS];rfl
      |_=>cases h
    ·simp only[hwt]at h;simp only[Bool.false_eq_true,if_false,FO.go.injEq]at h;obtain⟨rfl,rfl,rfl,rfl⟩:=h;simp only[qU,e1,ho,liftF_tmps,hwt,liftF_finish k f fs undef hat];rfl
  ·cases h
theorem Tr.lift(k:List Item)(gs:List Fr){Stop:Fr->List Fr->World->Prop}{f:Fr}{fs:List Fr}{w:World}(h:Tr P Stop f fs w)(hwf:Wf fs):
  Tr P (fun f' fs' w'=>∃g,∃gs',Stop g gs' w'/\f'=liftF k g gs'/\fs'=liftS k gs gs') (liftF k f fs) (liftS k gs fs) w:=by
 induction h with
 |stop h=>exact .stop ⟨_,_,h,rfl,rfl⟩
 |@step f fs w h1 h2 ih=>
  have key:∀τ d,∃f' fs' w' es,fstep P f fs (w.re τ d)= .go f' fs' w' es/\fstep P (liftF k f fs) (liftS k gs fs) (w.re τ d)= .go (liftF k f' fs') (liftS k gs fs') w' es:=by
   intro τ d;obtain⟨f',fs',w',es,e⟩:=h1 τ d;exact⟨f',fs',w',es,e,fstep_lift k gs hwf e⟩
  refine .step (fun τ d=>?_) (fun τ d f2 fs2 w2 es2 e2=>?_)
  ·obtain⟨f',fs',w',es,_,e⟩:=key τ d;exact⟨_,_,_,_,e⟩
  ·obtain⟨f',fs',w',es,e,e'⟩:=key τ d;rw[e']at e2;simp only[FO.go.injEq]at e2;obtain⟨rfl,rfl,rfl,rfl⟩:=e2;exact ih τ d f' fs' w' es e (fstep_wf hwf e)
end Go.Frag
