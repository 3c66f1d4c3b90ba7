import Derived.Test.YtmfpiodlecapiaaJ36
import Derived.Laws.ResultCell
namespace Go.Poi
open Go.Ren Go.Frag Go.Conc
theorem qR.callT{P:Program}{Sh:Nat->Prop}{Post:(Nat->Prop)->Goroutine->World->Prop}{b:Frame}{a:Act}{k:List Item}{cs:List Frame}{ops:Array Oper}{i:Nat}{rest:List Nat}{o:Oper}{p:World}{f:FuncId}{fn:Func}{args:Array Operand}{ats:Array TypeId}{T':Array Value}(ho:ops[i]? =some o)(hw:Region.wanted o (yielded ops a.tmps)=true)(hk:b.kind≠.early)(hop:o.op= .call {callee:=.value (.func f),args,argTypes:=ats})
  (hf:P.funcs[f]? =some fn)(hname:(fn.name== "runtime.NumGoroutine")=false)(hb:fn.body.isSome=true)(hT:args.map a.eval++Array.replicate (fn.ntmps-(args.map a.eval).size) undef=T')
  (hn:qR P Sh (G ((base f).at ⟨T',[]⟩ [.code (fn.body.getD .skip)]) (b.at a (.inRegion ops (i::rest)::k)::cs)) p Post):
  qR P Sh (G (b.at a (.inRegion ops (i::rest)::k)) cs) p Post:=by
 obtain⟨c,hc⟩:=Option.isSome_iff_exists.1 hb;rw[hc,Option.getD_some]at hn;exact qR.call ho hw hk hop hf hname hc (by rw[hT];exact hn)
end Go.Poi
namespace Go.Proofs.Ytmfpiodlecapiaa
open Go.Conc Go.ConcN Go.RowKit Go.Frag Go.Ren Go.Poi Go.Deep Go.Grp
attribute [local go_sem↓] Go.wp_at_zero Go.wp_at_succ
set_option maxRecDepth 100000 in
set_option maxHeartbeats 8000000 in
theorem object_bto{Sh:Nat->Prop}{Post:(Nat->Prop)->Goroutine->World->Prop}{p:World}{cfn:FuncId}{ca:Act}{cops:Array Oper}{ci:Nat}{crest:List Nat}{ck:List Item}{cs:List Frame}{o:Oper}(ho:cops[ci]? =some o){lb mr ob id len sz ms bb N V s cap clock:Nat}{es:Array MapEntry}{l:List (Nat×Nat)}{Kz:Nat->Nat}{pb:Nat->Nat}{pa:Nat->Nat->Option Addr}{pl pc:Nat->Nat->Nat}{blk:Nat->List Nat}
  (hlis:p.heap[lb]? =some (.cells #[.map (some mr)] 91))(hmap:p.heap[mr]? =some (.map es clock))(hm:MapIs es.toList l)(hg:getM l id=some ob)(hobj:p.heap[ob]? =some (.cells #[.int .i64 len,.int .i64 sz,.int .i64 ms,.int .i64 V,.slice (some ⟨bb,0,none⟩) N cap] 109))(hO:ObjB p bb N V s Kz pb pa pl pc blk)(hlen:len<=((List.range N).map blk).flatten.length)
  (hend:∀(S:Nat->Prop) (q:World) (v v2:Value) (ok:Bool) (e:Int),AfterO Sh S p q N V Kz pa blk v ok->(ok=false->v2= .slice none 0 0/\e=7)->(ok=true->e=0/\∃g c,v2= .slice (some ⟨g,0,none⟩) len c/\len<=c/\∀j,j<len->q.cell? ⟨g,j,none⟩=some (.int .u8 ((((List.range N).map blk).flatten[j]?.getD 0:Nat):Int)))->
   qR Try.prog S (G ((base cfn).at (ca.put o.dst (.tuple #[v2,.int .i64 e])) (.inRegion cops crest::ck)) cs) q Post):
  qR Try.prog Sh (G ((base 48).at ⟨#[.pointer (some ⟨lb,0,none⟩),.int .i64 id,undef,undef,undef,undef,undef,undef,undef,undef,undef,undef,undef,undef,undef,undef,undef,undef,undef,undef,undef,undef,undef,undef,undef,undef,undef,undef,undef,undef,undef,undef,undef,undef,undef,undef,undef,undef],[]⟩ [.code (Try.f48.body.getD .skip)]) ((base cfn).at ca (.inRegion cops (ci::crest)::ck)::cs)) p Post:=by
 have HO:=hide hO;have Hend:=hide hend
 clear hO hend;have hcl:p.cell? ⟨lb,0,none⟩=some (.map (some mr)):=by simp[World.cell?,hlis]
 have hc0:p.cell? ⟨ob,0,none⟩=some (.int .i64 len):=by simp[World.cell?,hobj]
 have hc3:p.cell? ⟨ob,3,none⟩=some (.int .i64 V):=by simp[World.cell?,hobj]
 have hc4:p.cell? ⟨ob,4,none⟩=some (.slice (some ⟨bb,0,none⟩) N cap):=by simp[World.cell?,hobj]
 conv=>arg 3;simp only[Try.f48,Option.getD_some]
 refine qR.seq (qR.runV qJ (by kernel_rfl) fun τ d=>?_);go_wp2;refine qR.re ?_ _ _;refine qR.seq (qR.runV qJ (by kernel_rfl) fun τ d=>?_);have q1:(p.re τ d).cell? ⟨lb,0,none⟩=some (.map (some mr)):=hcl;have q2:(Instr.lookup 89 (.map (some mr)) (.int .i64 (id:Int)) false).run Try.prog (p.re τ d)= .ok (.pointer (some ⟨ob,0,none⟩)) (p.re τ d):=by
  have:=run_look (p.re τ d) (r:=mr) (es:=es) (clock:=clock) (id:=id) (l:=l) hmap hm;rw[hg]at this;exact this
 go_wp2;refine qR.re ?_ _ _;clear q1 q2;refine qR.seq (qR.runV qJ (by kernel_rfl) fun τ d=>?_);go_wp2;refine qR.re ?_ _ _;refine qR.seq ?_;refine qR.draw (Inv:=ObSt ob bb N cap V (fun S q v ok=>AfterO Sh S p q N V Kz pa blk v ok) Sh p (.pointer (some ⟨lb,0,none⟩)) (.int .i64 id) undef undef (.slice none 0 0) (.int .i64 0) undef undef (.pointer (some ⟨lb,0,none⟩)) (.pointer (some ⟨lb,0,none⟩)) (.pointer (some ⟨lb,0,none⟩)) (.map (some mr)) (.int .i64 id) (.pointer (some ⟨ob,0,none⟩)) (.pointer (some ⟨ob,0,none⟩)) (.bool false) undef undef undef undef undef undef undef undef undef undef undef undef undef undef undef undef undef undef undef undef undef) (by kernel_rfl) .s000000000000000 ?_;refine ob_next hc3 hc4 (fun rest hr=>?_) (fun S q v ok hA=>?_)
 ·refine qR.callT rfl rfl (by decide) rfl Try.func67 rfl rfl (T':=#[.slice (some ⟨bb,0,none⟩) N cap,.int .i64 V,undef,undef,undef,undef,undef,undef,undef,undef,undef,undef,undef,undef,undef,undef,undef,undef,undef,undef,undef,undef,undef,undef,undef,undef,undef,undef,undef,undef,undef,undef,undef,undef,undef,undef,undef]) (by simp[Act.eval,Try.f67]) ?_;refine blocks_bto (o:=?o) ?ho HO.out (fun S q v ok hA=>?hend)
  case ho=>rfl
  case hend=>exact hr _ _ _ (.s111111111100000 S q v ok hA)
 ·have hq0:q.cell? ⟨ob,0,none⟩=some (.int .i64 len):=by
   have:=hA.keep ob _ hobj (fun e fz h=>by simp at h);simp[World.cell?,this]
  conv=>arg 3;simp only[Try.f48,Option.getD_some,pth,qV]
  refine qR.regEnd (qR.seq ?_);cases ok with
  |false=>
   refine qR.runV qJ (by kernel_rfl) fun τ d=>?_;go_wp2;intro todo;refine qR.re ?_ _ _;exact qR.back ho Try.func48 (v:=.tuple #[.slice none 0 0,.int .i64 7]) (by simp[results,Try.f48,go_sem]) (by simp[results,Try.f48]) (Hend.out S q v _ false 7 hA (fun _=>⟨rfl,rfl⟩) (fun h=>by cases h))
  |true=>
   obtain⟨g,c,rfl,k1,k2,k3,k4⟩:=hA.bytes rfl;generalize hL:((List.range N).map blk).flatten.length=LL at hlen k2 k4;replace hL:=hide hL;have hA':AfterO Sh S p q N V Kz pa blk (.slice (some ⟨g,0,none⟩) LL c) true:=by rw[<-hL.out];exact hA
   have HA:=hide hA';clear hA hA';simp only[maxLen]at k3;refine qR.runV qJ (by kernel_rfl) fun τ d=>?_;go_wp2;refine qR.re ?_ _ _;refine qR.runV qJ (by kernel_rfl) fun τ d=>?_;have q1:(q.re τ d).cell? ⟨ob,0,none⟩=some (.int .i64 len):=hq0;have hl0:(0:Int)<=(len:Int):=by omega
   have hl1:(len:Int)<=(c:Int):=by omega
   go_wp2;intro todo;refine qR.re ?_ _ _;exact qR.back ho Try.func48 (v:=.tuple #[.slice (some ⟨g,0,none⟩) len c,.int .i64 0]) (by simp[results,Try.f48,go_sem]) (by simp[results,Try.f48]) (Hend.out S q _ _ true 0 HA.out (fun h=>by cases h) (fun _=>⟨rfl,g,c,rfl,by omega,fun j hj=>k4 j (by omega)⟩))
end Go.Proofs.Ytmfpiodlecapiaa
namespace Go.Conc
variable {P:Program} {main:Bool} {b:Frame} {a:Act} {k:List Item} {cs:List Frame} {w:World}
def dclos(f:FuncId)(caps:Array Value):Deferred:= {target:=.fn (.func f) caps,args:=#[]}
theorem stepG_deferC{ops:Array Oper}{i:Nat}{rest:List Nat}{o:Oper}{f:FuncId}{x:Operand}{caps:Array Value}{ats:Array TypeId}(ho:ops[i]? =some o)(hw:Region.wanted o (yielded ops a.tmps)=true)(hk:b.kind≠.early)
  (hop:o.op= .defer {callee:=.value x,args:=#[],argTypes:=ats})(hx:a.eval x= .func (.func f) #[] caps):
  stepG P main (G (b.at a (.inRegion ops (i::rest)::k)) cs) w= .go (G (b.at (Act.put ⟨a.tmps,dclos f caps::a.defers⟩ o.dst undef) (.inRegion ops rest::k)) cs) w #[]:=by
 have hr:(execOp a.eval o).run P w= .ok (.defer (dclos f caps)) w:=by
  unfold execOp;simp[hop,resolve,Deferred.ofValue,hx,dclos]
 have he:(execOp a.eval o).events P w #[]=#[]:=by
  unfold execOp;simp[hop,resolve,Deferred.ofValue,hx]
 have hfin:(b.at ⟨a.tmps,dclos f caps::a.defers⟩ (.inRegion ops (i::rest)::k)).finish undef=b.at (Act.put ⟨a.tmps,dclos f caps::a.defers⟩ o.dst undef) (.inRegion ops rest::k):=by rw[Frame.finish_at,ho];rfl
 have hk':(b.kind==CallKind.early)=false:=by simpa using hk
 rw[stepG_oper ho hw,<-hfin];simp[stepG.apply,hr,he,G,Frame.at,hk',GStep.after,seen_none]
theorem stepG_unwindC{todo:List Item}{ds:List Deferred}{f:FuncId}{fn:Func}{caps:Array Value}{c:Code}(hd:a.defers=dclos f caps::ds)(hf:P.funcs[f]? =some fn)(hname:(fn.name== "runtime.NumGoroutine")=false)(hb:fn.body=some c):
  stepG P main (G {b.at a todo with mode:=.returning} cs) w=
   .go (G ((baseD f).at {tmps:=caps++Array.replicate (fn.ntmps-caps.size) undef,defers:= []} [.code c]) ({b.at ⟨a.tmps,ds⟩ todo with mode:=.returning}::cs)) w #[]:=by
 have h1:¬fn.name= "runtime.NumGoroutine" :=by simpa using hname
 rw[<-enter_atD caps hf hb];simp[G,stepG,unwind,callDeferred,Frame.at,hd,dclos,invoke,callFunc,hf,h1,hb,GStep.after,seen_none]
theorem stepG_recoverN{ops:Array Oper}{i:Nat}{rest:List Nat}{o:Oper}{f:FuncId}{ats:Array TypeId}{c:Frame}(ho:ops[i]? =some o)(hw:Region.wanted o (yielded ops a.tmps)=true)
  (hop:o.op= .call {callee:=.builtin .recover,args:=#[],argTypes:=ats})(hc:c.mode= .returning):
  stepG P main (G ((baseD f).at a (.inRegion ops (i::rest)::k)) (c::cs)) w= .go (G ((baseD f).at (a.put o.dst .nilIface) (.inRegion ops rest::k)) (c::cs)) w #[]:=by
 have hr:(execOp a.eval o).run P w= .ok .recover w:=by
  unfold execOp;simp[hop,resolve,invoke,builtin]
 have he:(execOp a.eval o).events P w #[]=#[]:=by
  unfold execOp;simp[hop,resolve,invoke,builtin]
 have hfin:((baseD f).at a (.inRegion ops (i::rest)::k)).finish .nilIface=(baseD f).at (a.put o.dst .nilIface) (.inRegion ops rest::k):=by rw[Frame.finish_at,ho];rfl
 rw[stepG_oper ho hw,<-hfin];simp[stepG.apply,hr,he,G,Frame.at,baseD,GStep.after,seen_none,tryRecover,hc]
end Go.Conc
namespace Go.Poi
open Go.Ren Go.Frag Go.Conc
variable {P:Program} {Sh:Nat->Prop} {Post:(Nat->Prop)->Goroutine->World->Prop}
theorem qR.backR{f:FuncId}{fn:Func}{T:Array Value}{todo:List Item}{b:FuncId}{a:Act}{ops:Array Oper}{i:Nat}{rest:List Nat}{k:List Item}{cs:List Frame}{p:World}{v:Value}{o:Oper}(ho:ops[i]? =some o)
  (hf:P.funcs[f]? =some fn)(hv:∀τ d,(results fn T).run P (p.re τ d)= .ok v (p.re τ d))
  (hn:qR P Sh (G ((base b).at (a.put o.dst v) (.inRegion ops rest::k)) cs) p Post):qR P Sh (Gr f T todo ((base b).at a (.inRegion ops (i::rest)::k)::cs)) p Post:=by
 refine .step rfl fun u hps=>?_;have hT:Tm P (results fn T):=tm_results fn T;have hal:=hT.run _ u #[] hps;have hlow:=hT.low _ #[] hps.self;rw[Sem.runT_eq]at hal hlow;have hr:=hv u.tape u.drawn;rw[hr]at hal hlow;obtain⟨u',es2,e1,e2,e3,e4⟩:=hal;obtain⟨l1,es3,l2,l3⟩:=hlow;rw[Sem.runT_eq]at e2;simp only[Prod.mk.injEq]at e2;have e:fstep P ⟨f,T,todo,true⟩ [⟨b,a.tmps,.inRegion ops (i::rest)::k,false⟩] u= .go ((⟨b,a.tmps,.inRegion ops (i::rest)::k,false⟩:Fr).finish v) [] u' (seen P f ((results fn T).events P u #[])):=by
  simp only[fstep,if_true,fret,hf,e2.1]
 have:=step_go (P:=P) (main:=true) (C:=⟨[],a.defers,.normal,cs⟩) (by simp) (fun c hc=>by rw[List.mem_singleton.1 hc];exact⟨⟨ops,i,rest,k,rfl⟩,rfl⟩) e;have k1:conc ⟨[],a.defers,.normal,cs⟩ ⟨f,T,todo,true⟩ [⟨b,a.tmps,.inRegion ops (i::rest)::k,false⟩]=Gr f T todo ((base b).at a (.inRegion ops (i::rest)::k)::cs):=by
  simp[conc,Gr,Fr.top,below,Fr.base,Fr.mode,Frame.at,base]
 have k2:conc ⟨[],a.defers,.normal,cs⟩ ((⟨b,a.tmps,.inRegion ops (i::rest)::k,false⟩:Fr).finish v) []=G ((base b).at (a.put o.dst v) (.inRegion ops rest::k)) cs:=by
  cases hd:o.dst<;>simp[conc,Fr.base,Fr.mode,Frame.at,base,Fr.finish,ho,Act.put,hd]
 rw[k1,k2]at this;have hs:=e3.size;have hs0:=hps.size;refine⟨_,p,u',_,this,?_,?_,fun x hx=>?_,hn⟩
 ·have h3:=e3;refine⟨h3.size,h3.same,h3.rows,h3.views,rfl,rfl,h3.os,h3.output⟩
 ·have:(p.re u.tape u.drawn).heap.size=p.heap.size:=rfl;omega
 ·have hx:=Go.Frag.mem_seen hx;rw[e2.2]at hx;refine evL_of (e4 x ?_) ?_
  ·rw[e1]at hx;simpa using hx
  ·rw[hs];exact l3 x (by rw[l2]at hx;simpa using hx)
theorem qR.finish{b:Frame}{a:Act}{cs:List Frame}{p:World}(hn:qR P Sh (G {b.at a []with mode:=.returning} cs) p Post):qR P Sh (G (b.at a []) cs) p Post:=.ctl rfl (fun _=>stepG_end) hn
end Go.Poi
namespace Go.Conc
variable {P:Program} {main:Bool} {b:Frame} {a:Act} {k:List Item} {cs:List Frame} {w:World}
theorem stepG_makeF{ops:Array Oper}{i:Nat}{rest:List Nat}{o:Oper}{f:FuncId}{x:Operand}(ho:ops[i]? =some o)(hw:Region.wanted o (yielded ops a.tmps)=true)(hk:b.kind≠.early)(hop:o.op= .makeFunc (.func f) #[] #[x]):
  stepG P main (G (b.at a (.inRegion ops (i::rest)::k)) cs) w= .go (G (b.at (a.put o.dst (.func (.func f) #[] #[a.eval x])) (.inRegion ops rest::k)) cs) w #[]:=by
 have hr:(execOp a.eval o).run P w= .ok (.value (.func (.func f) #[] #[a.eval x])) w:=by
  unfold execOp;simp[hop,Instr.makeFunc]
 have he:(execOp a.eval o).events P w #[]=#[]:=by
  unfold execOp;simp[hop,Instr.makeFunc]
 have hfin:(b.at a (.inRegion ops (i::rest)::k)).finish (.func (.func f) #[] #[a.eval x])=b.at (a.put o.dst (.func (.func f) #[] #[a.eval x])) (.inRegion ops rest::k):=by rw[Frame.finish_at,ho];rfl
 have hk':(b.kind==CallKind.early)=false:=by simpa using hk
 rw[stepG_oper ho hw,<-hfin];simp[stepG.apply,hr,he,G,Frame.at,hk',GStep.after,seen_none]
end Go.Conc
namespace Go.Proofs.Ytmfpiodlecapiaa
open Go.Conc Go.ConcN Go.RowKit Go.Frag Go.Ren Go.Poi Go.Deep Go.Grp
attribute [local go_sem↓] Go.wp_at_zero Go.wp_at_succ
set_option linter.unusedSimpArgs false in
theorem results_hear{w:World}{T:Array Value}{g:Nat}{e:Int}(h5:T.getD 5 undef= .pointer (some ⟨g,0,none⟩))(hc:w.cell? ⟨g,0,none⟩=some (.int .i64 e)):(results Try.f28 T).run Try.prog w= .ok (.tuple #[T.getD 4 undef,.int .i64 e]) w:=by
 have hr:Try.f28.results=#[.tmp 4,.cell 5 22]:=rfl;have h5':T[5]?.getD undef= .pointer (some ⟨g,0,none⟩):=by simpa using h5
 simp only[results,hr];simp[Sem.run_bind,Result.andThen,h5',asAddr];go_simp
set_option linter.unusedSimpArgs false in
set_option maxRecDepth 100000 in
set_option maxHeartbeats 4000000 in
theorem hear_bto{R:Bool->World->Prop}{Sh:Nat->Prop}{Post:(Nat->Prop)->Goroutine->World->Prop}{p:World}{cfn:FuncId}{ca:Act}{cops:Array Oper}{ci:Nat}{crest:List Nat}{ck:List Item}{cs:List Frame}{o:Oper}(ho:cops[ci]? =some o){lb mr pk pcap gb go n cap:Nat}{hd:Value}
  (hpk:p.cell? ⟨pk,0,none⟩=some (.slice (some ⟨gb,go,none⟩) n cap))(hlb:p.cell? ⟨lb,0,none⟩=some (.map (some mr)))
  (hun:∀w1,(∀k,k<p.heap.size->w1.heap[k]? =p.heap[k]?)->Calls Try.prog 52 #[.slice (some ⟨gb,go,none⟩) n cap] w1 fun r w'=>r= .returned (.tuple #[hd,.slice (some ⟨gb,go+10,none⟩) (n-10) (cap-10)])/\Below w1.heap.size w1 w')
  (hadd:∀w1,(∀k,k<p.heap.size->w1.heap[k]? =p.heap[k]?)->p.heap.size<=w1.heap.size->w1.os=p.os->w1.output=p.output->qS w1 p.heap.size 22 [.int .i64 0]->Calls Try.prog 51 #[.map (some mr),hd,.slice (some ⟨gb,go+10,none⟩) (n-10) (cap-10)] w1 fun e w'=>∃b,e= .returned (.bool b)/\R b w')
  (hRl:∀b w',R b w'->w'.cell? ⟨lb,0,none⟩=some (.map (some mr))/\qS w' p.heap.size 22 [.int .i64 0])
  (hend:∀b w',R b w'->qR Try.prog Sh (G ((base cfn).at (ca.put o.dst (.tuple #[.int .i64 (if b then 1 else 0),.int .i64 0])) (.inRegion cops crest::ck)) cs) (w'.setCell ⟨p.heap.size,0,none⟩ (.int .i64 0)) Post):
  qR Try.prog Sh (G ((base 28).at ⟨#[.pointer (some ⟨lb,0,none⟩),.slice (some ⟨pk,0,none⟩) 1 pcap,undef,undef,undef,undef,undef,undef,undef,undef,undef,undef,undef,undef,undef,undef,undef,undef,undef,undef,undef,undef,undef,undef,undef,undef,undef,undef],[]⟩ [.code (Try.f28.body.getD .skip)]) ((base cfn).at ca (.inRegion cops (ci::crest)::ck)::cs)) p Post:=by
 have HU:=hide hun;have HA:=hide hadd;have HR:=hide hRl;have HE:=hide hend
 clear hun hadd hRl hend;have hLoop:=@hear_loop R;conv=>arg 3;simp only[Try.f28,Option.getD_some]
 refine qR.seq (qR.runV qJ (by kernel_rfl) fun τ d=>?_);go_wp2;refine qR.world (fun q=>(∀k,k<p.heap.size->q.heap[k]? =p.heap[k]?)/\q.heap.size=p.heap.size+1/\q.os=p.os/\q.output=p.output/\qS q p.heap.size 22 [.int .i64 0]) ⟨fun k hk=>blk_alloc_lt _ _ _ hk,by simp;rfl,rfl,rfl,rowL_alloc' _ _ _⟩ fun p1 hp1=>?_;rw[show(p.re τ d).heap.size=p.heap.size from rfl];clear τ d;refine qR.seq (qR.reg (todo:= [0,1]) rfl ?_);refine qR.ctl rfl (fun _=>stepG_makeF rfl rfl (by decide) rfl) ?_;try simp only[Act.put,List.getElem_toArray,List.getElem_cons_zero,List.getElem_cons_succ,List.setIfInBounds_toArray,List.set_cons_zero,List.set_cons_succ]
 refine qR.ctl rfl (fun _=>stepG_deferC (f:=49) (caps:=#[.pointer (some ⟨p.heap.size,0,none⟩)]) rfl rfl (by decide) rfl rfl) ?_;try simp only[Act.put,List.getElem_toArray,List.getElem_cons_zero,List.getElem_cons_succ,List.setIfInBounds_toArray,List.set_cons_zero,List.set_cons_succ]
 refine qR.regEnd ?_;simp only[Act.eval];clear hLoop;obtain⟨hp2,hp3,hp4,hp5,hp6⟩:=hp1;refine qR.seq (qR.runP qJ (by kernel_rfl) fun τ d=>?_);refine hear_loop (R:=R) lb mr pk pcap gb go n cap p.heap.size hd (p1.re τ d) ?_ ?_ (fun w1 e1 _ _=>HU.out w1 fun k hk=>by rw[e1];exact hp2 k hk) (fun w1 hb=>HA.out w1 (fun k hk=>by rw[hb.block k (by show k<p1.heap.size;omega)];exact hp2 k hk) (by have:=hb.size;have e:(p1.re τ d).heap.size=p1.heap.size:=rfl;omega) (hb.os.trans hp4) (hb.output.trans hp5) (hp6.of_block (hb.block _ (by show p.heap.size<p1.heap.size;omega)))) (fun b w' h=>(HR.out b w' h).1) ?_
 ·rw[<-hpk];exact World.cell?_of_block (w:=p) (hp2 pk (cellLt hpk))
 ·rw[<-hlb];exact World.cell?_of_block (w:=p) (hp2 lb (cellLt hlb))
 intro b w' h7 h9 h10 h11 h12 h13 h14 h15 h16 h17 h18 h19 h20 h21 h22 h23 h24 h25 h26 h27 hR;have r5:=(HR.out b w' hR).2;have c5:∀τ d,(w'.re τ d).cell? ⟨p.heap.size,0,none⟩=some (.int .i64 0):=fun τ d=>r5.cell 0 _ rfl;have f5:∀τ d,(w'.re τ d).frozen? ⟨p.heap.size,0,none⟩=false:=fun τ d=>r5.frozen 0;have hRb:=hide hR;clear hR r5 hpk hlb hp2 hp3 hp4 hp5 hp6;obtain⟨cv,hcv⟩:∃cv:Int,cv=if b then 1 else 0:=⟨_,rfl⟩
 rw[<-hcv];have hEn:=hide (HE.out b w' hRb.out);rw[<-hcv]at hEn;clear HE hcv;refine qR.seq (qR.runV qJ (by kernel_rfl) fun τ d=>?_);have c6:=c5 τ d;have f6:=f5 τ d;go_wp2;have hcq:(w'.setCell ⟨p.heap.size,0,none⟩ (.int .i64 0)).cell? ⟨p.heap.size,0,none⟩=some (.int .i64 0):=((HR.out b w' hRb.out).2.set 0 (.int .i64 0)).cell 0 _ rfl;refine qR.re (p:=w'.setCell ⟨p.heap.size,0,none⟩ (.int .i64 0)) ?_ τ d;clear c5 f5 c6 f6 τ d;generalize w'.setCell ⟨p.heap.size,0,none⟩ (.int .i64 0)=q at hEn hcq⊢;refine qR.ctl rfl (fun _=>stepG_ret') ?_;refine qR.ctl rfl (fun _=>stepG_unwindC rfl Try.func49 rfl rfl) ?_;simp only[Try.f49,List.size_toArray,List.length_cons,List.length_nil,Nat.reduceAdd,Nat.reduceSub,Array.replicate_succ,Array.replicate_zero,List.push_toArray,List.append_toArray,List.nil_append,List.cons_append];refine qR.seq (qR.reg (todo:= [0,1]) rfl ?_);refine qR.ctl rfl (fun _=>stepG_recoverN rfl rfl rfl rfl) ?_;try simp only[Act.put,List.getElem_toArray,List.getElem_cons_zero,List.getElem_cons_succ,List.setIfInBounds_toArray,List.set_cons_zero,List.set_cons_succ]
 refine qR.op (tm_act qJ (by kernel_rfl)) rfl rfl (by decide) (fun τ d K hK=>?_);go_simp;refine hK _ _ ?_;clear hK;refine qR.re ?_ _ _;try simp only[Act.put,List.getElem_toArray,List.getElem_cons_zero,List.getElem_cons_succ,List.setIfInBounds_toArray,List.set_cons_zero,List.set_cons_succ]
 refine qR.regEnd ?_;refine qR.seq (qR.reg (todo:= [0,1]) rfl ?_);refine qR.op (tm_act qJ (by kernel_rfl)) rfl rfl (by decide) (fun τ d K hK=>?_);go_simp;refine hK _ _ ?_;clear hK;refine qR.re ?_ _ _;try simp only[Act.put,List.getElem_toArray,List.getElem_cons_zero,List.getElem_cons_succ,List.setIfInBounds_toArray,List.set_cons_zero,List.set_cons_succ]
 refine qR.op (tm_act qJ (by kernel_rfl)) rfl rfl (by decide) (fun τ d K hK=>?_);go_simp;refine hK _ _ ?_;clear hK;refine qR.re ?_ _ _;try simp only[Act.put,List.getElem_toArray,List.getElem_cons_zero,List.getElem_cons_succ,List.setIfInBounds_toArray,List.set_cons_zero,List.set_cons_succ]
 refine qR.regEnd ?_;refine qR.no rfl (qR.skip (qR.finish ?_));refine qR.ctl rfl (fun _=>stepG_leave_deferred rfl rfl Try.func49 (v:=.tuple #[]) (results_none rfl _ _ _) (by simp[results,Try.f49]) rfl) ?_;refine qR.backR ho Try.func28 (fun τ d=>results_hear (e:=0) (g:=p.heap.size) rfl (show(q.re τ d).cell? _=_ from hcq)) ?_;exact hEn.out
end Go.Proofs.Ytmfpiodlecapiaa
namespace Go.Proofs.Ytmfpiodlecapiaa
open Go.Conc Go.ConcN Go.RowKit Go.Frag Go.Ren Go.Poi Go.Deep Go.Grp
set_option maxHeartbeats 2000000 in
theorem hear_lst{Sh:Nat->Prop}{Post:(Nat->Prop)->Goroutine->World->Prop}{p:World}{cfn:FuncId}{ca:Act}{cops:Array Oper}{ci:Nat}{crest:List Nat}{ck:List Item}{cs:List Frame}{o:Oper}(ho:cops[ci]? =some o){B lb mr pk pcap gb cap i z q:Nat}{D:List Nat}{S:Nat->Oj}{hd:Nat->Nat->Bool}{l:List (Nat×Nat)}{A:Nat->OD}
  (hL:LSt p B lb mr D S hd l A)(ok:(S i).Ok)(hn8:D.length<=8)(hi:i∈D)(hid:i<65536)(hz:z<(S i).N)(hq:q<(S i).K z+(S i).V)(hB:B<=p.heap.size)
  (hpk:p.cell? ⟨pk,0,none⟩=some (.slice (some ⟨gb,0,none⟩) (10+(S i).sz) cap))(hcap:10+(S i).sz<=cap)(hrow:∀j,j<10+(S i).sz->p.cell? ⟨gb,j,none⟩=some (.int .u8 ((((S i).pkt i z q)[j]?.getD 0:Nat):Int)))
  (hend:∀(b:Bool) p' l' A',b=(!hd i ((S i).off z+q))->LSt p' B lb mr D S (upd2 hd i ((S i).off z+q)) l' A'->(∀b,b<B->b≠mr->p'.heap[b]? =p.heap[b]?)->p.heap.size<=p'.heap.size->p'.os=p.os->p'.output=p.output->
   qR Try.prog Sh (G ((base cfn).at (ca.put o.dst (.tuple #[.int .i64 (if b then 1 else 0),.int .i64 0])) (.inRegion cops crest::ck)) cs) p' Post):
  qR Try.prog Sh (G ((base 28).at ⟨#[.pointer (some ⟨lb,0,none⟩),.slice (some ⟨pk,0,none⟩) 1 pcap,undef,undef,undef,undef,undef,undef,undef,undef,undef,undef,undef,undef,undef,undef,undef,undef,undef,undef,undef,undef,undef,undef,undef,undef,undef,undef],[]⟩ [.code (Try.f28.body.getD .skip)]) ((base cfn).at ca (.inRegion cops (ci::crest)::ck)::cs)) p Post:=by
 obtain⟨es,clock,hmap,hm⟩:=hL.map;have hplen:=ok.pkt_length (id:=i) (n:=q) hz;have hlb:p.cell? ⟨lb,0,none⟩=some (.map (some mr)):=hL.lis.cell 0 _ rfl;have hmr:=(Array.getElem?_eq_some_iff.1 hmap).1;refine hear_bto (R:=fun b w'=>b=(!hd i ((S i).off z+q))/\(∃l' A',LSt w' B lb mr D S (upd2 hd i ((S i).off z+q)) l' A')/\(∀b,b<B->b≠mr->w'.heap[b]? =p.heap[b]?)/\p.heap.size<=w'.heap.size/\w'.os=p.os/\w'.output=p.output/\qS w' p.heap.size 22 [.int .i64 0]) ho (hd:=headV i (S i).len (S i).sz (S i).ms (S i).V z q) hpk hlb (fun w1 h1=>?_) (fun w1 h1 h2 h3 h4 h5=>?_) (fun b w' hR=>⟨?_,hR.2.2.2.2.2.2⟩) (fun b w' hR=>?_)
 ·have hr1:∀j,j<10+(S i).sz->w1.cell? ⟨gb,j,none⟩=some (.int .u8 ((((S i).pkt i z q)[j]?.getD 0:Nat):Int)):=fun j hj=>by
   rw[<-hrow j hj];exact World.cell?_of_block (h1 gb (cellLt (hrow j hj)))
  have:=unpack_packet gb 0 (10+(S i).sz) cap ((S i).pkt i z q) w1 ⟨hplen,ok.pkt_lt (by omega) hz hq,fun _=>⟨gb,0,rfl,fun j hj=>?_⟩⟩ hcap (ok.isPacket hz hq)
  ·rw[Oj.pkt_head]at this;exact this
  ·rw[Nat.zero_add];exact hr1 j hj
 ·have hck:CK (fun _=>False) p w1:=fun b L e k1 _ _ _=>k1.of_block (h1 b k1.lt);have hL1:=hL.keep hck (h1 mr hmr);have hr1:∀j,j<10+(S i).sz->w1.cell? ⟨gb,j,none⟩=some (.int .u8 ((((S i).pkt i z q)[j]?.getD 0:Nat):Int)):=fun j hj=>by
   rw[<-hrow j hj];exact World.cell?_of_block (h1 gb (cellLt (hrow j hj)))
  have hadd:=add_LSt (gb:=gb) (go:=0+10) (pcap:=cap-10) hL1 ok hn8 hi hz hq (by omega) (fun j hj=>by
   have e:((S i).pkt i z q)[10+j]? =((S i).pc z q)[j]? :=by
    unfold Oj.pkt Pk.packet;rw[List.getElem?_append_right (by simp[Pk.head])];simp[Pk.head]
   rw[Nat.zero_add,hr1 (10+j) (by omega),e])
  have e10:10+(S i).sz-10=(S i).sz:=by omega
  rw[e10];refine hadd.mono ?_;rintro e w' ⟨b,rfl,hbb,hl,hs⟩;refine⟨b,rfl,hbb,hl,fun k hk1 hk2=>?_,?_,hs.os.trans h3,hs.output.trans h4,hs.err _ _ h5⟩
  ·rw[hs.low k hk1 hk2,h1 k (by omega)]
  ·have:=hs.size;omega
 ·obtain⟨_,⟨l',A',hl⟩,_⟩:=hR;exact hl.lis.cell 0 _ rfl
 ·obtain⟨hbb,⟨l',A',hl⟩,h1,h2,h3,h4,h5⟩:=hR;have hb:∀k,k≠p.heap.size->(w'.setCell ⟨p.heap.size,0,none⟩ (.int .i64 0)).heap[k]? =w'.heap[k]? :=fun k hk=>by
   simp[World.setCell,Array.getElem?_modify,Ne.symm hk]
  refine hend b _ l' A' hbb (hl.keep (CK.set h5 _) (hb _ (by omega))) (fun k hk1 hk2=>?_) ?_ h3 h4
  ·rw[hb k (by omega)];exact h1 k hk1 hk2
  ·simpa[World.setCell]using h2
end Go.Proofs.Ytmfpiodlecapiaa
namespace Go.Proofs.Ytmfpiodlecapiaa
open Go.RowKit Go.Deep
attribute [local go_sem↓] Go.wp_at_zero Go.wp_at_succ
theorem results_look{w:World}{g:Nat}{L:List Value}{tmps:Array Value}(hr:qS w g 64 L)(hl:(tmps.getD 4 undef,L.length)=(Value.pointer (some ⟨g,0,none⟩),7)):
  (results Try.f29 tmps).run Try.prog w= .ok (.tuple #[.agg L.toArray,tmps.getD 5 undef]) w:=by
 simp only[Prod.mk.injEq]at hl;have hi:(Try.prog.info? 64).map (·.size)=some L.toArray.size:=by
  have:(Try.prog.info? 64).map (·.size)=some 7:=by kernel_rfl
  rw[this];simp[hl.2]
 have h2:(loadVar 64 ⟨g,0,none⟩).run Try.prog w= .ok (.agg L.toArray) w:=run_loadVar_row w g 64 64 L.toArray _ _ hr Try.underlying64 rfl hi;rw[results_cell_tmp rfl,hl.1];simp[asAddr,h2]
set_option linter.unusedSimpArgs false in
set_option maxRecDepth 100000 in
set_option maxHeartbeats 4000000 in
theorem llook_none(mr lb id clock:Nat)(es:Array MapEntry)(l:List (Nat×Nat))(w:World)(hlb:w.cell? ⟨lb,0,none⟩=some (.map (some mr)))(hmap:w.heap[mr]? =some (.map es clock))(hm:MapIs es.toList l)(hg:getM l id=none):
  Calls Try.prog 29 #[.pointer (some ⟨lb,0,none⟩),.int .i64 id] w fun e w'=>
   e= .returned (.tuple #[.agg #[.int .i64 0,.int .i64 0,.int .i64 0,.int .i64 0,.int .i64 0,.int .i64 0,.int .i64 0],.int .i64 6])/\Below w.heap.size w w':=by
 have hmr:mr<w.heap.size:=(Array.getElem?_eq_some_iff.1 hmap).1;have hlbl:lb<w.heap.size:=cellLt hlb;have hLk:Hid (∀wz:World,wz.heap[mr]? =some (.map es clock)->(Instr.lookup 89 (.map (some mr)) (.int .i64 (id:Int)) false).run Try.prog wz= .ok (.pointer none) wz):=fun wz hz=>by
  have:=run_look wz (r:=mr) (es:=es) (clock:=clock) (id:=id) (l:=l) hz hm;rw[hg]at this;exact this
 have hS:((w.alloc (.cells #[.int .i64 0,.int .i64 0,.int .i64 0,.int .i64 0,.int .i64 0,.int .i64 0,.int .i64 0] 64)).cell? ⟨lb,0,none⟩=some (.map (some mr))/\(w.alloc (.cells #[.int .i64 0,.int .i64 0,.int .i64 0,.int .i64 0,.int .i64 0,.int .i64 0,.int .i64 0] 64)).heap[mr]? =some (.map es clock)):=⟨by show(w.alloc (.cells #[.int .i64 0,.int .i64 0,.int .i64 0,.int .i64 0,.int .i64 0,.int .i64 0,.int .i64 0] 64)).cell? _=_;rw[World.cell?_alloc_old _ _ _ (show lb≠w.heap.size by omega)];exact hlb,by show(w.alloc (.cells #[.int .i64 0,.int .i64 0,.int .i64 0,.int .i64 0,.int .i64 0,.int .i64 0,.int .i64 0] 64)).heap[mr]? =_;rw[blk_alloc_lt _ _ _ hmr];exact hmap⟩;have hB0:Below w.heap.size w (w.alloc (.cells #[.int .i64 0,.int .i64 0,.int .i64 0,.int .i64 0,.int .i64 0,.int .i64 0,.int .i64 0] 64)):=((Below.refl _ _).alloc (Nat.le_refl _) _);have hZ0:qS (w.alloc (.cells #[.int .i64 0,.int .i64 0,.int .i64 0,.int .i64 0,.int .i64 0,.int .i64 0,.int .i64 0] 64)) w.heap.size 64 [.int .i64 0,.int .i64 0,.int .i64 0,.int .i64 0,.int .i64 0,.int .i64 0,.int .i64 0]:=(rowL_alloc' w #[.int .i64 0,.int .i64 0,.int .i64 0,.int .i64 0,.int .i64 0,.int .i64 0,.int .i64 0] 64);have hB0:=hide hB0;have hZ0:=hide hZ0
 clear hmap hm hg;obtain⟨q1,q2⟩:=hS;have q3:=hLk.out _ q2;clear q2;go_enter Try.func29,Try.ntmps29;go_wp2;refine bodyPost_ret (results_look hZ0.out rfl) rfl ?_;exact⟨rfl,hB0.out⟩
set_option linter.unusedSimpArgs false in
set_option maxRecDepth 100000 in
set_option maxHeartbeats 4000000 in
theorem llook_some(mr lb id clock:Nat)(es:Array MapEntry)(l:List (Nat×Nat))(w:World)(hlb:w.cell? ⟨lb,0,none⟩=some (.map (some mr)))(hmap:w.heap[mr]? =some (.map es clock))(hm:MapIs es.toList l)(ob len sz ms V N sm wh:Nat)(hg:getM l id=some ob)
  (hlook:∀w1,Below w.heap.size w w1->Calls Try.prog 53 #[.pointer (some ⟨ob,0,none⟩)] w1 fun e w'=>e= .returned (.agg #[.int .i64 ((len:Nat)),.int .i64 ((sz:Nat)),.int .i64 ((ms:Nat)),.int .i64 ((V:Nat)),.int .i64 ((sm:Nat)),.int .i64 ((N:Nat)),.int .i64 ((wh:Nat))])/\Below w1.heap.size w1 w'):
  Calls Try.prog 29 #[.pointer (some ⟨lb,0,none⟩),.int .i64 id] w fun e w'=>
   e= .returned (.tuple #[.agg #[.int .i64 ((len:Nat)),.int .i64 ((sz:Nat)),.int .i64 ((ms:Nat)),.int .i64 ((V:Nat)),.int .i64 ((sm:Nat)),.int .i64 ((N:Nat)),.int .i64 ((wh:Nat))],.int .i64 0])/\Below w.heap.size w w':=by
 have HL:=hide hlook;clear hlook;have hmr:mr<w.heap.size:=(Array.getElem?_eq_some_iff.1 hmap).1;have hlbl:lb<w.heap.size:=cellLt hlb;have hLk:Hid (∀wz:World,wz.heap[mr]? =some (.map es clock)->(Instr.lookup 89 (.map (some mr)) (.int .i64 (id:Int)) false).run Try.prog wz= .ok (.pointer (some ⟨ob,0,none⟩)) wz):=fun wz hz=>by
  have:=run_look wz (r:=mr) (es:=es) (clock:=clock) (id:=id) (l:=l) hz hm;rw[hg]at this;exact this
 have hS:((w.alloc (.cells #[.int .i64 0,.int .i64 0,.int .i64 0,.int .i64 0,.int .i64 0,.int .i64 0,.int .i64 0] 64)).cell? ⟨lb,0,none⟩=some (.map (some mr))/\(w.alloc (.cells #[.int .i64 0,.int .i64 0,.int .i64 0,.int .i64 0,.int .i64 0,.int .i64 0,.int .i64 0] 64)).heap[mr]? =some (.map es clock)):=⟨by show(w.alloc (.cells #[.int .i64 0,.int .i64 0,.int .i64 0,.int .i64 0,.int .i64 0,.int .i64 0,.int .i64 0] 64)).cell? _=_;rw[World.cell?_alloc_old _ _ _ (show lb≠w.heap.size by omega)];exact hlb,by show(w.alloc (.cells #[.int .i64 0,.int .i64 0,.int .i64 0,.int .i64 0,.int .i64 0,.int .i64 0,.int .i64 0] 64)).heap[mr]? =_;rw[blk_alloc_lt _ _ _ hmr];exact hmap⟩;have hB0:Below w.heap.size w (w.alloc (.cells #[.int .i64 0,.int .i64 0,.int .i64 0,.int .i64 0,.int .i64 0,.int .i64 0,.int .i64 0] 64)):=((Below.refl _ _).alloc (Nat.le_refl _) _);have hZ0:qS (w.alloc (.cells #[.int .i64 0,.int .i64 0,.int .i64 0,.int .i64 0,.int .i64 0,.int .i64 0,.int .i64 0] 64)) w.heap.size 64 [.int .i64 0,.int .i64 0,.int .i64 0,.int .i64 0,.int .i64 0,.int .i64 0,.int .i64 0]:=(rowL_alloc' w #[.int .i64 0,.int .i64 0,.int .i64 0,.int .i64 0,.int .i64 0,.int .i64 0,.int .i64 0] 64);have hB0:=hide hB0;have hZ0:=hide hZ0
 clear hmap hm hg;obtain⟨q1,q2⟩:=hS;have q3:=hLk.out _ q2;clear q2;have hLo:Hid (Calls Try.prog 53 #[.pointer (some ⟨ob,0,none⟩)] (w.alloc (.cells #[.int .i64 0,.int .i64 0,.int .i64 0,.int .i64 0,.int .i64 0,.int .i64 0,.int .i64 0] 64)) fun e w'=>e= .returned (.agg #[.int .i64 ((len:Nat)),.int .i64 ((sz:Nat)),.int .i64 ((ms:Nat)),.int .i64 ((V:Nat)),.int .i64 ((sm:Nat)),.int .i64 ((N:Nat)),.int .i64 ((wh:Nat))])/\Below w.heap.size w w'/\qS w' w.heap.size 64 [.int .i64 0,.int .i64 0,.int .i64 0,.int .i64 0,.int .i64 0,.int .i64 0,.int .i64 0]):=(HL.out _ hB0.out).mono fun e w' ⟨h1,h2⟩=>⟨h1,hB0.out.trans (h2.mono hB0.out.size),hZ0.out.later h2⟩;go_enter Try.func29,Try.ntmps29;go_wp2_with (go_at_call 53;refine hLo.out.mono ?_;rintro _ w3 ⟨rfl,hbb,r0⟩;replace hbb:=hide hbb;have z0:w3.cell? ⟨w.heap.size,0,none⟩=some (.int .i64 0):=r0.cell 0 _ rfl;have f0:w3.frozen? ⟨w.heap.size,0,none⟩=false:=r0.frozen 0;have r1:=r0.set 0 (.int .i64 ((len:Nat)));have z1:(w3.setCell ⟨w.heap.size,0,none⟩ (.int .i64 ((len:Nat)))).cell? ⟨w.heap.size,1,none⟩=some (.int .i64 0):=r1.cell 1 _ rfl;have f1:(w3.setCell ⟨w.heap.size,0,none⟩ (.int .i64 ((len:Nat)))).frozen? ⟨w.heap.size,1,none⟩=false:=r1.frozen 1;have r2:=r1.set 1 (.int .i64 ((sz:Nat)));have z2:((w3.setCell ⟨w.heap.size,0,none⟩ (.int .i64 ((len:Nat)))).setCell ⟨w.heap.size,1,none⟩ (.int .i64 ((sz:Nat)))).cell? ⟨w.heap.size,2,none⟩=some (.int .i64 0):=r2.cell 2 _ rfl;have f2:((w3.setCell ⟨w.heap.size,0,none⟩ (.int .i64 ((len:Nat)))).setCell ⟨w.heap.size,1,none⟩ (.int .i64 ((sz:Nat)))).frozen? ⟨w.heap.size,2,none⟩=false:=r2.frozen 2;have r3:=r2.set 2 (.int .i64 ((ms:Nat)));have z3:(((w3.setCell ⟨w.heap.size,0,none⟩ (.int .i64 ((len:Nat)))).setCell ⟨w.heap.size,1,none⟩ (.int .i64 ((sz:Nat)))).setCell ⟨w.heap.size,2,none⟩ (.int .i64 ((ms:Nat)))).cell? ⟨w.heap.size,3,none⟩=some (.int .i64 0):=r3.cell 3 _ rfl;have f3:(((w3.setCell ⟨w.heap.size,0,none⟩ (.int .i64 ((len:Nat)))).setCell ⟨w.heap.size,1,none⟩ (.int .i64 ((sz:Nat)))).setCell ⟨w.heap.size,2,none⟩ (.int .i64 ((ms:Nat)))).frozen? ⟨w.heap.size,3,none⟩=false:=r3.frozen 3;have r4:=r3.set 3 (.int .i64 ((V:Nat)));have z4:((((w3.setCell ⟨w.heap.size,0,none⟩ (.int .i64 ((len:Nat)))).setCell ⟨w.heap.size,1,none⟩ (.int .i64 ((sz:Nat)))).setCell ⟨w.heap.size,2,none⟩ (.int .i64 ((ms:Nat)))).setCell ⟨w.heap.size,3,none⟩ (.int .i64 ((V:Nat)))).cell? ⟨w.heap.size,4,none⟩=some (.int .i64 0):=r4.cell 4 _ rfl;have f4:((((w3.setCell ⟨w.heap.size,0,none⟩ (.int .i64 ((len:Nat)))).setCell ⟨w.heap.size,1,none⟩ (.int .i64 ((sz:Nat)))).setCell ⟨w.heap.size,2,none⟩ (.int .i64 ((ms:Nat)))).setCell ⟨w.heap.size,3,none⟩ (.int .i64 ((V:Nat)))).frozen? ⟨w.heap.size,4,none⟩=false:=r4.frozen 4;have r5:=r4.set 4 (.int .i64 ((sm:Nat)));have z5:(((((w3.setCell ⟨w.heap.size,0,none⟩ (.int .i64 ((len:Nat)))).setCell ⟨w.heap.size,1,none⟩ (.int .i64 ((sz:Nat)))).setCell ⟨w.heap.size,2,none⟩ (.int .i64 ((ms:Nat)))).setCell ⟨w.heap.size,3,none⟩ (.int .i64 ((V:Nat)))).setCell ⟨w.heap.size,4,none⟩ (.int .i64 ((sm:Nat)))).cell? ⟨w.heap.size,5,none⟩=some (.int .i64 0):=r5.cell 5 _ rfl;have f5:(((((w3.setCell ⟨w.heap.size,0,none⟩ (.int .i64 ((len:Nat)))).setCell ⟨w.heap.size,1,none⟩ (.int .i64 ((sz:Nat)))).setCell ⟨w.heap.size,2,none⟩ (.int .i64 ((ms:Nat)))).setCell ⟨w.heap.size,3,none⟩ (.int .i64 ((V:Nat)))).setCell ⟨w.heap.size,4,none⟩ (.int .i64 ((sm:Nat)))).frozen? ⟨w.heap.size,5,none⟩=false:=r5.frozen 5;have r6:=r5.set 5 (.int .i64 ((N:Nat)));have z6:((((((w3.setCell ⟨w.heap.size,0,none⟩ (.int .i64 ((len:Nat)))).setCell ⟨w.heap.size,1,none⟩ (.int .i64 ((sz:Nat)))).setCell ⟨w.heap.size,2,none⟩ (.int .i64 ((ms:Nat)))).setCell ⟨w.heap.size,3,none⟩ (.int .i64 ((V:Nat)))).setCell ⟨w.heap.size,4,none⟩ (.int .i64 ((sm:Nat)))).setCell ⟨w.heap.size,5,none⟩ (.int .i64 ((N:Nat)))).cell? ⟨w.heap.size,6,none⟩=some (.int .i64 0):=r6.cell 6 _ rfl;have f6:((((((w3.setCell ⟨w.heap.size,0,none⟩ (.int .i64 ((len:Nat)))).setCell ⟨w.heap.size,1,none⟩ (.int .i64 ((sz:Nat)))).setCell ⟨w.heap.size,2,none⟩ (.int .i64 ((ms:Nat)))).setCell ⟨w.heap.size,3,none⟩ (.int .i64 ((V:Nat)))).setCell ⟨w.heap.size,4,none⟩ (.int .i64 ((sm:Nat)))).setCell ⟨w.heap.size,5,none⟩ (.int .i64 ((N:Nat)))).frozen? ⟨w.heap.size,6,none⟩=false:=r6.frozen 6;have r7:=r6.set 6 (.int .i64 ((wh:Nat)));have Hr7:Hid (qS (((((((w3.setCell ⟨w.heap.size,0,none⟩ (.int .i64 ((len:Nat)))).setCell ⟨w.heap.size,1,none⟩ (.int .i64 ((sz:Nat)))).setCell ⟨w.heap.size,2,none⟩ (.int .i64 ((ms:Nat)))).setCell ⟨w.heap.size,3,none⟩ (.int .i64 ((V:Nat)))).setCell ⟨w.heap.size,4,none⟩ (.int .i64 ((sm:Nat)))).setCell ⟨w.heap.size,5,none⟩ (.int .i64 ((N:Nat)))).setCell ⟨w.heap.size,6,none⟩ (.int .i64 ((wh:Nat)))) w.heap.size 64 [.int .i64 ((len:Nat)),.int .i64 ((sz:Nat)),.int .i64 ((ms:Nat)),.int .i64 ((V:Nat)),.int .i64 ((sm:Nat)),.int .i64 ((N:Nat)),.int .i64 ((wh:Nat))]):=r7;have Hb7:Hid (Below w.heap.size w (((((((w3.setCell ⟨w.heap.size,0,none⟩ (.int .i64 ((len:Nat)))).setCell ⟨w.heap.size,1,none⟩ (.int .i64 ((sz:Nat)))).setCell ⟨w.heap.size,2,none⟩ (.int .i64 ((ms:Nat)))).setCell ⟨w.heap.size,3,none⟩ (.int .i64 ((V:Nat)))).setCell ⟨w.heap.size,4,none⟩ (.int .i64 ((sm:Nat)))).setCell ⟨w.heap.size,5,none⟩ (.int .i64 ((N:Nat)))).setCell ⟨w.heap.size,6,none⟩ (.int .i64 ((wh:Nat))))):=(((((((hbb.out.setCell (Nat.le_refl w.heap.size) _).setCell (Nat.le_refl w.heap.size) _).setCell (Nat.le_refl w.heap.size) _).setCell (Nat.le_refl w.heap.size) _).setCell (Nat.le_refl w.heap.size) _).setCell (Nat.le_refl w.heap.size) _).setCell (Nat.le_refl w.heap.size) _);clear r0 r1 r2 r3 r4 r5 r6 r7 hbb)
 refine bodyPost_ret (results_look Hr7.out rfl) rfl ?_;exact⟨rfl,Hb7.out⟩
end Go.Proofs.Ytmfpiodlecapiaa
