import Derived.Maps.RangeWalk
import Derived.Test.YtmfpiodlecapiaaGreatDoorJ36
import Derived.Laws.ResultCell
set_option linter.unusedSimpArgs false
set_option maxHeartbeats 8000000
set_option maxRecDepth 100000
namespace Go.eO
open Go.Ren Go.bB Go.Conc
theorem aj.dM{P:Program}{Sh:Nat->Prop}{Post:(Nat->Prop)->Goroutine->World->Prop}{b:Frame}{a:Act}{k:List Item}{cs:List Frame}{ops:Array Oper}{i:Nat}{rest:List Nat}{o:Oper}{p:World}{f:FuncId}{fn:Func}{args:Array Operand}{ats:Array TypeId}{T':Array Value}(ho:ops[i]? =some o)(hw:Region.wanted o (yielded ops a.tmps)=true)(hk:b.kind≠.early)(hop:o.op= .call {callee:=.value (.func f),args,argTypes:=ats})
  (hf:P.funcs[f]? =some fn)(hname:(fn.name== "runtime.NumGoroutine")=false)(hb:fn.body.isSome=true)(hT:args.map a.eval++Array.replicate (fn.ntmps-(args.map a.eval).size) undef=T')
  (hn:aj P Sh (G ((base f).at ⟨T',[]⟩ [.code (fn.body.getD .skip)]) (b.at a (.inRegion ops (i::rest)::k)::cs)) p Post):
  aj P Sh (G (b.at a (.inRegion ops (i::rest)::k)) cs) p Post:=by
 obtain⟨c,hc⟩:=Option.isSome_iff_exists.1 hb;rw[hc,Option.getD_some]at hn;exact aj.call ho hw hk hop hf hname hc (by rw[hT];exact hn)
end Go.eO
namespace Go.Proofs.YtmfpiodlecapiaaGreatDoor
open Go.Conc Go.ConcN Go.RowKit Go.bB Go.Ren Go.eO Go.Deep Go.iw
attribute [local go_sem↓] Go.wp_at_zero Go.wp_at_succ
theorem xV{Sh:Nat->Prop}{Post:(Nat->Prop)->Goroutine->World->Prop}{p:World}{cfn:FuncId}{ca:Act}{bg:Array Oper}{ci:Nat}{aT:List Nat}{ck:List Item}{cs:List Frame}{o:Oper}(ho:bg[ci]? =some o){lb mr ob id len sz ms bb N V s cap clock:Nat}{es:Array MapEntry}{l:List (Nat×Nat)}{Kz:Nat->Nat}{pb:Nat->Nat}{pa:Nat->Nat->Option Addr}{pl pc:Nat->Nat->Nat}{blk:Nat->List Nat}
  (zQ:p.heap[lb]? =some (.cells #[.map (some mr)] 82))(hmap:p.heap[mr]? =some (.map es clock))(hm:iA es.toList l)(hg:getM l id=some ob)(lG:p.heap[ob]? =some (.cells #[.int .i64 len,.int .i64 sz,.int .i64 ms,.int .i64 V,.slice (some ⟨bb,0,none⟩) N cap] 101))(hO:Wp p bb N V s Kz pb pa pl pc blk)(hlen:len<=((List.range N).map blk).flatten.length)
  (hend:∀(S:Nat->Prop) (q:World) (v v2:Value) (ok:Bool) (e:Int),zm Sh S p q N V Kz pa blk v ok->(ok=false->v2= .slice none 0 0/\e=7)->(ok=true->e=0/\∃g c,v2= .slice (some ⟨g,0,none⟩) len c/\len<=c/\∀j,j<len->q.cell? ⟨g,j,none⟩=some (.int .u8 ((((List.range N).map blk).flatten[j]?.getD 0:Nat):Int)))->
   aj Tryz.prog S (G ((base cfn).at (ca.put o.dst (.tuple #[v2,.int .i64 e])) (.inRegion bg aT::ck)) cs) q Post):
  aj Tryz.prog Sh (G ((base 24).at ⟨#[.pointer (some ⟨lb,0,none⟩),.int .i64 id,undef,undef,undef,undef,undef,undef,undef,undef,undef,undef,undef,undef,undef,undef,undef,undef,undef,undef,undef,undef,undef,undef,undef,undef,undef,undef,undef,undef,undef,undef,undef,undef,undef,undef,undef,undef],[]⟩ [.code (Tryz.f24.body.getD .skip)]) ((base cfn).at ca (.inRegion bg (ci::aT)::ck)::cs)) p Post:=by
 have HO:=hide hO;have vU:=hide hend
 clear hO hend;have hcl:p.cell? ⟨lb,0,none⟩=some (.map (some mr)):=by simp[World.cell?,zQ]
 have hc0:p.cell? ⟨ob,0,none⟩=some (.int .i64 len):=by simp[World.cell?,lG]
 have hc3:p.cell? ⟨ob,3,none⟩=some (.int .i64 V):=by simp[World.cell?,lG]
 have hc4:p.cell? ⟨ob,4,none⟩=some (.slice (some ⟨bb,0,none⟩) N cap):=by simp[World.cell?,lG]
 conv=>arg 3;simp only[Tryz.f24,Option.getD_some]
 refine aj.seq (aj.bC ak (by kernel_rfl) fun τ d=>?_);go_wp2;refine aj.re ?_ _ _;refine aj.seq (aj.bC ak (by kernel_rfl) fun τ d=>?_);have q1:(p.re τ d).cell? ⟨lb,0,none⟩=some (.map (some mr)):=hcl;have q2:(Instr.lookup 80 (.map (some mr)) (.int .i64 (id:Int)) false).run Tryz.prog (p.re τ d)= .ok (.pointer (some ⟨ob,0,none⟩)) (p.re τ d):=by
  have:=nQ (p.re τ d) (r:=mr) (es:=es) (clock:=clock) (id:=id) (l:=l) hmap hm;rw[hg]at this;exact this
 go_wp2;refine aj.re ?_ _ _;clear q1 q2;refine aj.seq (aj.bC ak (by kernel_rfl) fun τ d=>?_);go_wp2;refine aj.re ?_ _ _;refine aj.seq ?_;refine XU (F:=fun S q v ok=>zm Sh S p q N V Kz pa blk v ok) (ob:=ob) (bb:=bb) (N:=N) (cap:=cap) (V:=V) rfl rfl hc3 hc4 (by kernel_rfl) (fun T rest hsT g3 g8 hr=>?_) (fun S q v ok hA=>?_)
 ·refine aj.dM rfl rfl (by decide) rfl Tryz.func46 rfl rfl (T':=#[.slice (some ⟨bb,0,none⟩) N cap,.int .i64 V,undef,undef,undef,undef,undef,undef,undef,undef,undef,undef,undef,undef,undef,undef,undef,undef,undef,undef,undef,undef,undef,undef,undef,undef,undef,undef,undef,undef,undef,undef,undef,undef,undef,undef,undef]) (by simp[Act.eval,Tryz.f46,g3,g8]) ?_;refine JV (o:=?o) ?ho HO.out (fun S q v ok hA=>?hend)
  case ho=>rfl
  case hend=>exact hr S q v ok hA
 ·have hq0:q.cell? ⟨ob,0,none⟩=some (.int .i64 len):=by
   have:=hA.keep ob _ lG (fun e fz h=>by simp at h);simp[World.cell?,this]
  simp only[jy,DF,J9,if_true,List.setIfInBounds_toArray,List.set_cons_zero,List.set_cons_succ];refine aj.seq ?_;cases ok with
  |false=>
   refine aj.bC ak (by kernel_rfl) fun τ d=>?_;go_wp2;intro todo;refine aj.re ?_ _ _;exact aj.back ho Tryz.func24 (v:=.tuple #[.slice none 0 0,.int .i64 7]) (by simp[results,Tryz.f24,go_sem]) (by simp[results,Tryz.f24]) (vU.out S q v _ false 7 hA (fun _=>⟨rfl,rfl⟩) (fun h=>by cases h))
  |true=>
   obtain⟨g,c,rfl,k1,k2,k3,k4⟩:=hA.bytes rfl;generalize hL:((List.range N).map blk).flatten.length=LL at hlen k2 k4;replace hL:=hide hL;have hA':zm Sh S p q N V Kz pa blk (.slice (some ⟨g,0,none⟩) LL c) true:=by rw[<-hL.out];exact hA
   have HA:=hide hA';clear hA hA';simp only[maxLen]at k3;refine aj.bC ak (by kernel_rfl) fun τ d=>?_;go_wp2;refine aj.re ?_ _ _;refine aj.bC ak (by kernel_rfl) fun τ d=>?_;have q1:(q.re τ d).cell? ⟨ob,0,none⟩=some (.int .i64 len):=hq0;have hl0:(0:Int)<=(len:Int):=by omega
   have hl1:(len:Int)<=(c:Int):=by omega
   go_wp2;intro todo;refine aj.re ?_ _ _;exact aj.back ho Tryz.func24 (v:=.tuple #[.slice (some ⟨g,0,none⟩) len c,.int .i64 0]) (by simp[results,Tryz.f24,go_sem]) (by simp[results,Tryz.f24]) (vU.out S q _ _ true 0 HA.out (fun h=>by cases h) (fun _=>⟨rfl,g,c,rfl,by omega,fun j hj=>k4 j (by omega)⟩))
end Go.Proofs.YtmfpiodlecapiaaGreatDoor
namespace Go.Conc
variable {P:Program} {main:Bool} {b:Frame} {a:Act} {k:List Item} {cs:List Frame} {w:World}
def yS(f:FuncId)(caps:Array Value):Deferred:= {target:=.fn (.func f) caps,args:=#[]}
theorem lT{ops:Array Oper}{i:Nat}{rest:List Nat}{o:Oper}{f:FuncId}{x:Operand}{caps:Array Value}{ats:Array TypeId}(ho:ops[i]? =some o)(hw:Region.wanted o (yielded ops a.tmps)=true)(hk:b.kind≠.early)
  (hop:o.op= .defer {callee:=.value x,args:=#[],argTypes:=ats})(hx:a.eval x= .func (.func f) #[] caps):
  stepG P main (G (b.at a (.inRegion ops (i::rest)::k)) cs) w= .go (G (b.at (Act.put ⟨a.tmps,yS f caps::a.defers⟩ o.dst undef) (.inRegion ops rest::k)) cs) w #[]:=by
 have hr:(execOp a.eval o).run P w= .ok (.defer (yS f caps)) w:=by
  unfold execOp;simp[hop,resolve,Deferred.ofValue,hx,yS]
 have he:(execOp a.eval o).events P w #[]=#[]:=by
  unfold execOp;simp[hop,resolve,Deferred.ofValue,hx]
 have hfin:(b.at ⟨a.tmps,yS f caps::a.defers⟩ (.inRegion ops (i::rest)::k)).finish undef=b.at (Act.put ⟨a.tmps,yS f caps::a.defers⟩ o.dst undef) (.inRegion ops rest::k):=by rw[Frame.finish_at,ho];rfl
 have hk':(b.kind==CallKind.early)=false:=by simpa using hk
 rw[stepG_oper ho hw,<-hfin];simp[stepG.apply,hr,he,G,Frame.at,hk',GStep.after,seen_none]
theorem kP{todo:List Item}{ds:List Deferred}{f:FuncId}{fn:Func}{caps:Array Value}{c:Code}(hd:a.defers=yS f caps::ds)(hf:P.funcs[f]? =some fn)(hname:(fn.name== "runtime.NumGoroutine")=false)(hb:fn.body=some c):
  stepG P main (G {b.at a todo with mode:=.returning} cs) w=
   .go (G ((baseD f).at {tmps:=caps++Array.replicate (fn.ntmps-caps.size) undef,defers:= []} [.code c]) ({b.at ⟨a.tmps,ds⟩ todo with mode:=.returning}::cs)) w #[]:=by
 have h1:¬fn.name= "runtime.NumGoroutine" :=by simpa using hname
 rw[<-enter_atD caps hf hb];simp[G,stepG,unwind,callDeferred,Frame.at,hd,yS,invoke,callFunc,hf,h1,hb,GStep.after,seen_none]
theorem jR{ops:Array Oper}{i:Nat}{rest:List Nat}{o:Oper}{f:FuncId}{ats:Array TypeId}{c:Frame}(ho:ops[i]? =some o)(hw:Region.wanted o (yielded ops a.tmps)=true)
  (hop:o.op= .call {callee:=.builtin .recover,args:=#[],argTypes:=ats})(hc:c.mode= .returning):
  stepG P main (G ((baseD f).at a (.inRegion ops (i::rest)::k)) (c::cs)) w= .go (G ((baseD f).at (a.put o.dst .nilIface) (.inRegion ops rest::k)) (c::cs)) w #[]:=by
 have hr:(execOp a.eval o).run P w= .ok .recover w:=by
  unfold execOp;simp[hop,resolve,invoke,builtin]
 have he:(execOp a.eval o).events P w #[]=#[]:=by
  unfold execOp;simp[hop,resolve,invoke,builtin]
 have hfin:((baseD f).at a (.inRegion ops (i::rest)::k)).finish .nilIface=(baseD f).at (a.put o.dst .nilIface) (.inRegion ops rest::k):=by rw[Frame.finish_at,ho];rfl
 rw[stepG_oper ho hw,<-hfin];simp[stepG.apply,hr,he,G,Frame.at,baseD,GStep.after,seen_none,tryRecover,hc]
end Go.Conc
namespace Go.eO
open Go.Ren Go.bB Go.Conc
variable {P:Program} {Sh:Nat->Prop} {Post:(Nat->Prop)->Goroutine->World->Prop}
theorem aj.TV{f:FuncId}{fn:Func}{T:Array Value}{todo:List Item}{b:FuncId}{a:Act}{ops:Array Oper}{i:Nat}{rest:List Nat}{k:List Item}{cs:List Frame}{p:World}{v:Value}{o:Oper}(ho:ops[i]? =some o)
  (hf:P.funcs[f]? =some fn)(hv:∀τ d,(results fn T).run P (p.re τ d)= .ok v (p.re τ d))
  (hn:aj P Sh (G ((base b).at (a.put o.dst v) (.inRegion ops rest::k)) cs) p Post):aj P Sh (Gr f T todo ((base b).at a (.inRegion ops (i::rest)::k)::cs)) p Post:=by
 refine .step rfl fun u hps=>?_;have hT:Tm P (results fn T):=jM fn T;have hal:=hT.run _ u #[] hps;have hlow:=hT.low _ #[] hps.self;rw[Sem.runT_eq]at hal hlow;have hr:=hv u.tape u.drawn;rw[hr]at hal hlow;obtain⟨u',es2,e1,e2,e3,e4⟩:=hal;obtain⟨l1,es3,l2,l3⟩:=hlow;rw[Sem.runT_eq]at e2;simp only[Prod.mk.injEq]at e2;have e:aG P ⟨f,T,todo,true⟩ [⟨b,a.tmps,.inRegion ops (i::rest)::k,false⟩] u= .go ((⟨b,a.tmps,.inRegion ops (i::rest)::k,false⟩:Fr).finish v) [] u' (seen P f ((results fn T).events P u #[])):=by
  simp only[aG,if_true,jY,hf,e2.1]
 have:=rJ (P:=P) (main:=true) (C:=⟨[],a.defers,.normal,cs⟩) (by simp) (fun c hc=>by rw[List.mem_singleton.1 hc];exact⟨⟨ops,i,rest,k,rfl⟩,rfl⟩) e;have k1:bP ⟨[],a.defers,.normal,cs⟩ ⟨f,T,todo,true⟩ [⟨b,a.tmps,.inRegion ops (i::rest)::k,false⟩]=Gr f T todo ((base b).at a (.inRegion ops (i::rest)::k)::cs):=by
  simp[bP,Gr,Fr.top,below,Fr.base,Fr.mode,Frame.at,base]
 have k2:bP ⟨[],a.defers,.normal,cs⟩ ((⟨b,a.tmps,.inRegion ops (i::rest)::k,false⟩:Fr).finish v) []=G ((base b).at (a.put o.dst v) (.inRegion ops rest::k)) cs:=by
  cases hd:o.dst<;>simp[bP,Fr.base,Fr.mode,Frame.at,base,Fr.finish,ho,Act.put,hd]
 rw[k1,k2]at this;have hs:=e3.size;have hs0:=hps.size;refine⟨_,p,u',_,this,?_,?_,fun x hx=>?_,hn⟩
 ·have h3:=e3;refine⟨h3.size,h3.same,h3.rows,h3.views,rfl,rfl,h3.os,h3.output⟩
 ·have:(p.re u.tape u.drawn).heap.size=p.heap.size:=rfl;omega
 ·have hx:=Go.bB.mem_seen hx;rw[e2.2]at hx;refine JJ (e4 x ?_) ?_
  ·rw[e1]at hx;simpa using hx
  ·rw[hs];exact l3 x (by rw[l2]at hx;simpa using hx)
theorem aj.finish{b:Frame}{a:Act}{cs:List Frame}{p:World}(hn:aj P Sh (G {b.at a []with mode:=.returning} cs) p Post):aj P Sh (G (b.at a []) cs) p Post:=.ctl rfl (fun _=>stepG_end) hn
end Go.eO
namespace Go.Conc
variable {P:Program} {main:Bool} {b:Frame} {a:Act} {k:List Item} {cs:List Frame} {w:World}
theorem EG{ops:Array Oper}{i:Nat}{rest:List Nat}{o:Oper}{f:FuncId}{x:Operand}(ho:ops[i]? =some o)(hw:Region.wanted o (yielded ops a.tmps)=true)(hk:b.kind≠.early)(hop:o.op= .makeFunc (.func f) #[] #[x]):
  stepG P main (G (b.at a (.inRegion ops (i::rest)::k)) cs) w= .go (G (b.at (a.put o.dst (.func (.func f) #[] #[a.eval x])) (.inRegion ops rest::k)) cs) w #[]:=by
 have hr:(execOp a.eval o).run P w= .ok (.value (.func (.func f) #[] #[a.eval x])) w:=by
  unfold execOp;simp[hop,Instr.makeFunc]
 have he:(execOp a.eval o).events P w #[]=#[]:=by
  unfold execOp;simp[hop,Instr.makeFunc]
 have hfin:(b.at a (.inRegion ops (i::rest)::k)).finish (.func (.func f) #[] #[a.eval x])=b.at (a.put o.dst (.func (.func f) #[] #[a.eval x])) (.inRegion ops rest::k):=by rw[Frame.finish_at,ho];rfl
 have hk':(b.kind==CallKind.early)=false:=by simpa using hk
 rw[stepG_oper ho hw,<-hfin];simp[stepG.apply,hr,he,G,Frame.at,hk',GStep.after,seen_none]
end Go.Conc
namespace Go.Proofs.YtmfpiodlecapiaaGreatDoor
open Go.Conc Go.ConcN Go.RowKit Go.bB Go.Ren Go.eO Go.Deep Go.iw
attribute [local go_sem↓] Go.wp_at_zero Go.wp_at_succ
theorem Ci{w:World}{T:Array Value}{g:Nat}{e:Int}(h5:T.getD 5 undef= .pointer (some ⟨g,0,none⟩))(hc:w.cell? ⟨g,0,none⟩=some (.int .i64 e)):(results Tryz.f20 T).run Tryz.prog w= .ok (.tuple #[T.getD 4 undef,.int .i64 e]) w:=by
 have hr:Tryz.f20.results=#[.tmp 4,.cell 5 39]:=rfl;have h5':T[5]?.getD undef= .pointer (some ⟨g,0,none⟩):=by simpa using h5
 simp only[results,hr];simp[Sem.run_bind,Result.andThen,h5',asAddr];go_simp
theorem R5{R:Bool->World->Prop}{Sh:Nat->Prop}{Post:(Nat->Prop)->Goroutine->World->Prop}{p:World}{cfn:FuncId}{ca:Act}{bg:Array Oper}{ci:Nat}{aT:List Nat}{ck:List Item}{cs:List Frame}{o:Oper}(ho:bg[ci]? =some o){lb mr pk eH gb go n cap:Nat}{hd:Value}
  (hpk:p.cell? ⟨pk,0,none⟩=some (.slice (some ⟨gb,go,none⟩) n cap))(hlb:p.cell? ⟨lb,0,none⟩=some (.map (some mr)))
  (hun:∀w1,(∀k,k<p.heap.size->w1.heap[k]? =p.heap[k]?)->Calls Tryz.prog 35 #[.slice (some ⟨gb,go,none⟩) n cap] w1 fun r w'=>r= .returned (.tuple #[hd,.slice (some ⟨gb,go+10,none⟩) (n-10) (cap-10)])/\Below w1.heap.size w1 w')
  (hadd:∀w1,(∀k,k<p.heap.size->w1.heap[k]? =p.heap[k]?)->p.heap.size<=w1.heap.size->w1.os=p.os->w1.output=p.output->aB w1 p.heap.size 39 [.int .i64 0]->Calls Tryz.prog 41 #[.map (some mr),hd,.slice (some ⟨gb,go+10,none⟩) (n-10) (cap-10)] w1 fun e w'=>∃b,e= .returned (.bool b)/\R b w')
  (hRl:∀b w',R b w'->w'.cell? ⟨lb,0,none⟩=some (.map (some mr))/\aB w' p.heap.size 39 [.int .i64 0])
  (hend:∀b w',R b w'->aj Tryz.prog Sh (G ((base cfn).at (ca.put o.dst (.tuple #[.int .i64 (if b then 1 else 0),.int .i64 0])) (.inRegion bg aT::ck)) cs) (w'.setCell ⟨p.heap.size,0,none⟩ (.int .i64 0)) Post):
  aj Tryz.prog Sh (G ((base 20).at ⟨#[.pointer (some ⟨lb,0,none⟩),.slice (some ⟨pk,0,none⟩) 1 eH,undef,undef,undef,undef,undef,undef,undef,undef,undef,undef,undef,undef,undef,undef,undef,undef,undef,undef,undef,undef,undef,undef,undef,undef,undef,undef],[]⟩ [.code (Tryz.f20.body.getD .skip)]) ((base cfn).at ca (.inRegion bg (ci::aT)::ck)::cs)) p Post:=by
 have HU:=hide hun;have HA:=hide hadd;have HR:=hide hRl;have HE:=hide hend
 clear hun hadd hRl hend;have hLoop:=@Bc R;conv=>arg 3;simp only[Tryz.f20,Option.getD_some]
 refine aj.seq (aj.bC ak (by kernel_rfl) fun τ d=>?_);go_wp2;refine aj.world (fun q=>(∀k,k<p.heap.size->q.heap[k]? =p.heap[k]?)/\q.heap.size=p.heap.size+1/\q.os=p.os/\q.output=p.output/\aB q p.heap.size 39 [.int .i64 0]) ⟨fun k hk=>blk_alloc_lt _ _ _ hk,by simp;rfl,rfl,rfl,aP _ _ _⟩ fun p1 hp1=>?_;rw[show(p.re τ d).heap.size=p.heap.size from rfl];clear τ d;refine aj.seq (aj.reg (todo:= [0,1]) rfl ?_);refine aj.ctl rfl (fun _=>EG rfl rfl (by decide) rfl) ?_;try go_frame
 refine aj.ctl rfl (fun _=>lT (f:=40) (caps:=#[.pointer (some ⟨p.heap.size,0,none⟩)]) rfl rfl (by decide) rfl rfl) ?_;try go_frame
 refine aj.aR ?_;simp only[Act.eval];clear hLoop;obtain⟨hp2,hp3,hp4,hp5,hp6⟩:=hp1;refine aj.seq (aj.XH ak (by kernel_rfl) fun τ d=>?_);refine Bc (R:=R) lb mr pk eH gb go n cap p.heap.size hd (p1.re τ d) ?_ ?_ (fun w1 e1 _ _=>HU.out w1 fun k hk=>by rw[e1];exact hp2 k hk) (fun w1 hb=>HA.out w1 (fun k hk=>by rw[hb.block k (by show k<p1.heap.size;omega)];exact hp2 k hk) (by have:=hb.size;have e:(p1.re τ d).heap.size=p1.heap.size:=rfl;omega) (hb.os.trans hp4) (hb.output.trans hp5) (hp6.of_block (hb.block _ (by show p.heap.size<p1.heap.size;omega)))) (fun b w' h=>(HR.out b w' h).1) ?_
 ·rw[<-hpk];exact World.cell?_of_block (w:=p) (hp2 pk (bG hpk))
 ·rw[<-hlb];exact World.cell?_of_block (w:=p) (hp2 lb (bG hlb))
 intro b w' h7 h9 h10 h11 h12 Zd Zc Uy h16 ny h18 h19 h20 h21 h22 h23 Lx Lu Ls h27 hR;have r5:=(HR.out b w' hR).2;have c5:∀τ d,(w'.re τ d).cell? ⟨p.heap.size,0,none⟩=some (.int .i64 0):=fun τ d=>r5.cell 0 _ rfl;have f5:∀τ d,(w'.re τ d).frozen? ⟨p.heap.size,0,none⟩=false:=fun τ d=>r5.frozen 0;have hRb:=hide hR;clear hR r5 hpk hlb hp2 hp3 hp4 hp5 hp6;obtain⟨cv,hcv⟩:∃cv:Int,cv=if b then 1 else 0:=⟨_,rfl⟩
 rw[<-hcv];have hEn:=hide (HE.out b w' hRb.out);rw[<-hcv]at hEn;clear HE hcv;refine aj.seq (aj.bC ak (by kernel_rfl) fun τ d=>?_);have c6:=c5 τ d;have f6:=f5 τ d;go_wp2;have hcq:(w'.setCell ⟨p.heap.size,0,none⟩ (.int .i64 0)).cell? ⟨p.heap.size,0,none⟩=some (.int .i64 0):=((HR.out b w' hRb.out).2.set 0 (.int .i64 0)).cell 0 _ rfl;refine aj.re (p:=w'.setCell ⟨p.heap.size,0,none⟩ (.int .i64 0)) ?_ τ d;clear c5 f5 c6 f6 τ d;generalize w'.setCell ⟨p.heap.size,0,none⟩ (.int .i64 0)=q at hEn hcq⊢;refine aj.ctl rfl (fun _=>stepG_ret') ?_;refine aj.ctl rfl (fun _=>kP rfl Tryz.func40 rfl rfl) ?_;simp only[Tryz.f40,List.size_toArray,List.length_cons,List.length_nil,Nat.reduceAdd,Nat.reduceSub,Array.replicate_succ,Array.replicate_zero,List.push_toArray,List.append_toArray,List.nil_append,List.cons_append];refine aj.seq (aj.reg (todo:= [0,1]) rfl ?_);refine aj.ctl rfl (fun _=>jR rfl rfl rfl rfl) ?_;try go_frame
 refine aj.op (fI ak (by kernel_rfl)) rfl rfl (by decide) (fun τ d K hK=>?_);go_simp;refine hK _ _ ?_;clear hK;refine aj.re ?_ _ _;try go_frame
 refine aj.aR ?_;refine aj.seq (aj.reg (todo:= [0,1]) rfl ?_);refine aj.op (fI ak (by kernel_rfl)) rfl rfl (by decide) (fun τ d K hK=>?_);go_simp;refine hK _ _ ?_;clear hK;refine aj.re ?_ _ _;try go_frame
 refine aj.op (fI ak (by kernel_rfl)) rfl rfl (by decide) (fun τ d K hK=>?_);go_simp;refine hK _ _ ?_;clear hK;refine aj.re ?_ _ _;try go_frame
 refine aj.aR ?_;refine aj.no rfl (aj.skip (aj.finish ?_));refine aj.ctl rfl (fun _=>stepG_leave_deferred rfl rfl Tryz.func40 (v:=.tuple #[]) (results_none rfl _ _ _) (by simp[results,Tryz.f40]) rfl) ?_;refine aj.TV ho Tryz.func20 (fun τ d=>Ci (e:=0) (g:=p.heap.size) rfl (show(q.re τ d).cell? _=_ from hcq)) ?_;exact hEn.out
end Go.Proofs.YtmfpiodlecapiaaGreatDoor
namespace Go.Proofs.YtmfpiodlecapiaaGreatDoor
open Go.Conc Go.ConcN Go.RowKit Go.bB Go.Ren Go.eO Go.Deep Go.iw
theorem yA{Sh:Nat->Prop}{Post:(Nat->Prop)->Goroutine->World->Prop}{p:World}{cfn:FuncId}{ca:Act}{bg:Array Oper}{ci:Nat}{aT:List Nat}{ck:List Item}{cs:List Frame}{o:Oper}(ho:bg[ci]? =some o){B lb mr pk eH gb cap i z q:Nat}{D:List Nat}{S:Nat->Oj}{hd:Nat->Nat->Bool}{l:List (Nat×Nat)}{A:Nat->OD}
  (hL:oZ p B lb mr D S hd l A)(ok:(S i).Ok)(Y6:D.length<=8)(hi:i∈D)(hid:i<65536)(hz:z<(S i).N)(hq:q<(S i).K z+(S i).V)(hB:B<=p.heap.size)
  (hpk:p.cell? ⟨pk,0,none⟩=some (.slice (some ⟨gb,0,none⟩) (10+(S i).sz) cap))(hcap:10+(S i).sz<=cap)(hrow:∀j,j<10+(S i).sz->p.cell? ⟨gb,j,none⟩=some (.int .u8 ((((S i).pkt i z q)[j]?.getD 0:Nat):Int)))
  (hend:∀(b:Bool) p' l' A',b=(!hd i ((S i).off z+q))->oZ p' B lb mr D S (qA hd i ((S i).off z+q)) l' A'->(∀b,b<B->b≠mr->p'.heap[b]? =p.heap[b]?)->p.heap.size<=p'.heap.size->p'.os=p.os->p'.output=p.output->(∀g t L,t≠28->aB p g t L->aB p' g t L)->
   aj Tryz.prog Sh (G ((base cfn).at (ca.put o.dst (.tuple #[.int .i64 (if b then 1 else 0),.int .i64 0])) (.inRegion bg aT::ck)) cs) p' Post):
  aj Tryz.prog Sh (G ((base 20).at ⟨#[.pointer (some ⟨lb,0,none⟩),.slice (some ⟨pk,0,none⟩) 1 eH,undef,undef,undef,undef,undef,undef,undef,undef,undef,undef,undef,undef,undef,undef,undef,undef,undef,undef,undef,undef,undef,undef,undef,undef,undef,undef],[]⟩ [.code (Tryz.f20.body.getD .skip)]) ((base cfn).at ca (.inRegion bg (ci::aT)::ck)::cs)) p Post:=by
 obtain⟨es,clock,hmap,hm⟩:=hL.map;have ZX:=ok.dX (id:=i) (n:=q) hz;have hlb:p.cell? ⟨lb,0,none⟩=some (.map (some mr)):=hL.Yb.cell 0 _ rfl;have hmr:=(Array.getElem?_eq_some_iff.1 hmap).1;refine R5 (R:=fun b w'=>b=(!hd i ((S i).off z+q))/\(∃l' A',oZ w' B lb mr D S (qA hd i ((S i).off z+q)) l' A')/\(∀b,b<B->b≠mr->w'.heap[b]? =p.heap[b]?)/\p.heap.size<=w'.heap.size/\w'.os=p.os/\w'.output=p.output/\aB w' p.heap.size 39 [.int .i64 0]/\∀g t L,t≠28->aB p g t L->aB w' g t L) ho (hd:=dS i (S i).len (S i).sz (S i).ms (S i).V z q) hpk hlb (fun w1 h1=>?_) (fun w1 h1 h2 h3 h4 h5=>?_) (fun b w' hR=>⟨?_,hR.2.2.2.2.2.2.1⟩) (fun b w' hR=>?_)
 ·have hr1:∀j,j<10+(S i).sz->w1.cell? ⟨gb,j,none⟩=some (.int .u8 ((((S i).pkt i z q)[j]?.getD 0:Nat):Int)):=fun j hj=>by
   rw[<-hrow j hj];exact World.cell?_of_block (h1 gb (bG (hrow j hj)))
  have:=qj gb 0 (10+(S i).sz) cap ((S i).pkt i z q) w1 ⟨ZX,ok.CG (by omega) hz hq,fun _=>⟨gb,0,rfl,fun j hj=>?_⟩⟩ hcap (ok.FN hz hq)
  ·rw[Oj.E8]at this;exact this
  ·rw[Nat.zero_add];exact hr1 j hj
 ·have hck:CK (fun _=>False) p w1:=fun b L e k1 _ _ _=>k1.of_block (h1 b k1.lt);have hL1:=hL.keep hck (h1 mr hmr);have hr1:∀j,j<10+(S i).sz->w1.cell? ⟨gb,j,none⟩=some (.int .u8 ((((S i).pkt i z q)[j]?.getD 0:Nat):Int)):=fun j hj=>by
   rw[<-hrow j hj];exact World.cell?_of_block (h1 gb (bG (hrow j hj)))
  have hadd:=Wm (gb:=gb) (go:=0+10) (eH:=cap-10) hL1 ok Y6 hi hz hq (by omega) (fun j hj=>by
   have e:((S i).pkt i z q)[10+j]? =((S i).pc z q)[j]? :=by
    unfold Oj.pkt Pk.packet;rw[List.getElem?_append_right (by simp[Pk.head])];simp[Pk.head]
   rw[Nat.zero_add,hr1 (10+j) (by omega),e])
  have e10:10+(S i).sz-10=(S i).sz:=by omega
  rw[e10];refine hadd.mono ?_;rintro e w' ⟨b,rfl,hbb,hl,hs⟩;refine⟨b,rfl,hbb,hl,fun k hk1 hk2=>?_,?_,hs.os.trans h3,hs.output.trans h4,hs.err _ _ _ (by decide) h5,fun g t L ht hr=>hs.err g t L ht (hr.of_block (h1 g hr.lt))⟩
  ·rw[hs.low k hk1 hk2,h1 k (by omega)]
  ·have:=hs.size;omega
 ·obtain⟨_,⟨l',A',hl⟩,_⟩:=hR;exact hl.Yb.cell 0 _ rfl
 ·obtain⟨hbb,⟨l',A',hl⟩,h1,h2,h3,h4,h5,h6⟩:=hR;have hb:∀k,k≠p.heap.size->(w'.setCell ⟨p.heap.size,0,none⟩ (.int .i64 0)).heap[k]? =w'.heap[k]? :=fun k hk=>by
   simp[World.setCell,Array.getElem?_modify,Ne.symm hk]
  refine hend b _ l' A' hbb (hl.keep (CK.set h5 _) (hb _ (by omega))) (fun k hk1 hk2=>?_) ?_ h3 h4 (fun g t L ht hr=>(h6 g t L ht hr).of_block (hb g (by have:=hr.lt;omega)))
  ·rw[hb k (by omega)];exact h1 k hk1 hk2
  ·simpa[World.setCell]using h2
open Go.RowKit Go.Deep
attribute [local go_sem↓] Go.wp_at_zero Go.wp_at_succ
theorem rT{w:World}{g:Nat}{L:List Value}{tmps:Array Value}(hr:aB w g 93 L)(hl:(tmps.getD 4 undef,L.length)=(Value.pointer (some ⟨g,0,none⟩),7)):
  (results Tryz.f42 tmps).run Tryz.prog w= .ok (.tuple #[.agg L.toArray,tmps.getD 5 undef]) w:=by
 simp only[Prod.mk.injEq]at hl;have hi:(Tryz.prog.info? 93).map (·.size)=some L.toArray.size:=by
  have:(Tryz.prog.info? 93).map (·.size)=some 7:=by kernel_rfl
  rw[this];simp[hl.2]
 have h2:(loadVar 93 ⟨g,0,none⟩).run Tryz.prog w= .ok (.agg L.toArray) w:=run_loadVar_row w g 93 93 L.toArray _ _ hr Tryz.underlying93 rfl hi;rw[results_cell_tmp rfl,hl.1];simp[asAddr,h2]
theorem Ya(mr lb id clock:Nat)(es:Array MapEntry)(l:List (Nat×Nat))(w:World)(hlb:w.cell? ⟨lb,0,none⟩=some (.map (some mr)))(hmap:w.heap[mr]? =some (.map es clock))(hm:iA es.toList l)(hg:getM l id=none):
  Calls Tryz.prog 42 #[.pointer (some ⟨lb,0,none⟩),.int .i64 id] w fun e w'=>
   e= .returned (.tuple #[.agg #[.int .i64 0,.int .i64 0,.int .i64 0,.int .i64 0,.int .i64 0,.int .i64 0,.int .i64 0],.int .i64 6])/\Below w.heap.size w w':=by
 have hmr:mr<w.heap.size:=(Array.getElem?_eq_some_iff.1 hmap).1;have Yr:lb<w.heap.size:=bG hlb;have hLk:Hid (∀wz:World,wz.heap[mr]? =some (.map es clock)->(Instr.lookup 80 (.map (some mr)) (.int .i64 (id:Int)) false).run Tryz.prog wz= .ok (.pointer none) wz):=fun wz hz=>by
  have:=nQ wz (r:=mr) (es:=es) (clock:=clock) (id:=id) (l:=l) hz hm;rw[hg]at this;exact this
 have hS:((w.alloc (.cells #[.int .i64 0,.int .i64 0,.int .i64 0,.int .i64 0,.int .i64 0,.int .i64 0,.int .i64 0] 93)).cell? ⟨lb,0,none⟩=some (.map (some mr))/\(w.alloc (.cells #[.int .i64 0,.int .i64 0,.int .i64 0,.int .i64 0,.int .i64 0,.int .i64 0,.int .i64 0] 93)).heap[mr]? =some (.map es clock)):=⟨by show(w.alloc (.cells #[.int .i64 0,.int .i64 0,.int .i64 0,.int .i64 0,.int .i64 0,.int .i64 0,.int .i64 0] 93)).cell? _=_;rw[World.cell?_alloc_old _ _ _ (show lb≠w.heap.size by omega)];exact hlb,by show(w.alloc (.cells #[.int .i64 0,.int .i64 0,.int .i64 0,.int .i64 0,.int .i64 0,.int .i64 0,.int .i64 0] 93)).heap[mr]? =_;rw[blk_alloc_lt _ _ _ hmr];exact hmap⟩;have hB0:Below w.heap.size w (w.alloc (.cells #[.int .i64 0,.int .i64 0,.int .i64 0,.int .i64 0,.int .i64 0,.int .i64 0,.int .i64 0] 93)):=((Below.refl _ _).alloc (Nat.le_refl _) _);have YD:aB (w.alloc (.cells #[.int .i64 0,.int .i64 0,.int .i64 0,.int .i64 0,.int .i64 0,.int .i64 0,.int .i64 0] 93)) w.heap.size 93 [.int .i64 0,.int .i64 0,.int .i64 0,.int .i64 0,.int .i64 0,.int .i64 0,.int .i64 0]:=(aP w #[.int .i64 0,.int .i64 0,.int .i64 0,.int .i64 0,.int .i64 0,.int .i64 0,.int .i64 0] 93);have hB0:=hide hB0;have YD:=hide YD
 clear hmap hm hg;obtain⟨q1,q2⟩:=hS;have q3:=hLk.out _ q2;clear q2;go_enter Tryz.func42,Tryz.ntmps42;go_wp2;refine bodyPost_ret (rT YD.out rfl) rfl ?_;exact⟨rfl,hB0.out⟩
theorem Jm(mr lb id clock:Nat)(es:Array MapEntry)(l:List (Nat×Nat))(w:World)(hlb:w.cell? ⟨lb,0,none⟩=some (.map (some mr)))(hmap:w.heap[mr]? =some (.map es clock))(hm:iA es.toList l)(ob len sz ms V N sm wh:Nat)(hg:getM l id=some ob)
  (oH:∀w1,Below w.heap.size w w1->Calls Tryz.prog 84 #[.pointer (some ⟨ob,0,none⟩)] w1 fun e w'=>e= .returned (.agg #[.int .i64 ((len:Nat)),.int .i64 ((sz:Nat)),.int .i64 ((ms:Nat)),.int .i64 ((V:Nat)),.int .i64 ((sm:Nat)),.int .i64 ((N:Nat)),.int .i64 ((wh:Nat))])/\Below w1.heap.size w1 w'):
  Calls Tryz.prog 42 #[.pointer (some ⟨lb,0,none⟩),.int .i64 id] w fun e w'=>
   e= .returned (.tuple #[.agg #[.int .i64 ((len:Nat)),.int .i64 ((sz:Nat)),.int .i64 ((ms:Nat)),.int .i64 ((V:Nat)),.int .i64 ((sm:Nat)),.int .i64 ((N:Nat)),.int .i64 ((wh:Nat))],.int .i64 0])/\Below w.heap.size w w':=by
 have HL:=hide oH;clear oH;have hmr:mr<w.heap.size:=(Array.getElem?_eq_some_iff.1 hmap).1;have Yr:lb<w.heap.size:=bG hlb;have hLk:Hid (∀wz:World,wz.heap[mr]? =some (.map es clock)->(Instr.lookup 80 (.map (some mr)) (.int .i64 (id:Int)) false).run Tryz.prog wz= .ok (.pointer (some ⟨ob,0,none⟩)) wz):=fun wz hz=>by
  have:=nQ wz (r:=mr) (es:=es) (clock:=clock) (id:=id) (l:=l) hz hm;rw[hg]at this;exact this
 have hS:((w.alloc (.cells #[.int .i64 0,.int .i64 0,.int .i64 0,.int .i64 0,.int .i64 0,.int .i64 0,.int .i64 0] 93)).cell? ⟨lb,0,none⟩=some (.map (some mr))/\(w.alloc (.cells #[.int .i64 0,.int .i64 0,.int .i64 0,.int .i64 0,.int .i64 0,.int .i64 0,.int .i64 0] 93)).heap[mr]? =some (.map es clock)):=⟨by show(w.alloc (.cells #[.int .i64 0,.int .i64 0,.int .i64 0,.int .i64 0,.int .i64 0,.int .i64 0,.int .i64 0] 93)).cell? _=_;rw[World.cell?_alloc_old _ _ _ (show lb≠w.heap.size by omega)];exact hlb,by show(w.alloc (.cells #[.int .i64 0,.int .i64 0,.int .i64 0,.int .i64 0,.int .i64 0,.int .i64 0,.int .i64 0] 93)).heap[mr]? =_;rw[blk_alloc_lt _ _ _ hmr];exact hmap⟩;have hB0:Below w.heap.size w (w.alloc (.cells #[.int .i64 0,.int .i64 0,.int .i64 0,.int .i64 0,.int .i64 0,.int .i64 0,.int .i64 0] 93)):=((Below.refl _ _).alloc (Nat.le_refl _) _);have YD:aB (w.alloc (.cells #[.int .i64 0,.int .i64 0,.int .i64 0,.int .i64 0,.int .i64 0,.int .i64 0,.int .i64 0] 93)) w.heap.size 93 [.int .i64 0,.int .i64 0,.int .i64 0,.int .i64 0,.int .i64 0,.int .i64 0,.int .i64 0]:=(aP w #[.int .i64 0,.int .i64 0,.int .i64 0,.int .i64 0,.int .i64 0,.int .i64 0,.int .i64 0] 93);have hB0:=hide hB0;have YD:=hide YD
 clear hmap hm hg;obtain⟨q1,q2⟩:=hS;have q3:=hLk.out _ q2;clear q2;have hLo:Hid (Calls Tryz.prog 84 #[.pointer (some ⟨ob,0,none⟩)] (w.alloc (.cells #[.int .i64 0,.int .i64 0,.int .i64 0,.int .i64 0,.int .i64 0,.int .i64 0,.int .i64 0] 93)) fun e w'=>e= .returned (.agg #[.int .i64 ((len:Nat)),.int .i64 ((sz:Nat)),.int .i64 ((ms:Nat)),.int .i64 ((V:Nat)),.int .i64 ((sm:Nat)),.int .i64 ((N:Nat)),.int .i64 ((wh:Nat))])/\Below w.heap.size w w'/\aB w' w.heap.size 93 [.int .i64 0,.int .i64 0,.int .i64 0,.int .i64 0,.int .i64 0,.int .i64 0,.int .i64 0]):=(HL.out _ hB0.out).mono fun e w' ⟨h1,h2⟩=>⟨h1,hB0.out.trans (h2.mono hB0.out.size),YD.out.later h2⟩;go_enter Tryz.func42,Tryz.ntmps42;go_wp2_with (go_at_call 84;refine hLo.out.mono ?_;rintro _ w3 ⟨rfl,hbb,r0⟩;replace hbb:=hide hbb;have z0:w3.cell? ⟨w.heap.size,0,none⟩=some (.int .i64 0):=r0.cell 0 _ rfl;have f0:w3.frozen? ⟨w.heap.size,0,none⟩=false:=r0.frozen 0;have r1:=r0.set 0 (.int .i64 ((len:Nat)));have z1:(w3.setCell ⟨w.heap.size,0,none⟩ (.int .i64 ((len:Nat)))).cell? ⟨w.heap.size,1,none⟩=some (.int .i64 0):=r1.cell 1 _ rfl;have f1:(w3.setCell ⟨w.heap.size,0,none⟩ (.int .i64 ((len:Nat)))).frozen? ⟨w.heap.size,1,none⟩=false:=r1.frozen 1;have r2:=r1.set 1 (.int .i64 ((sz:Nat)));have z2:((w3.setCell ⟨w.heap.size,0,none⟩ (.int .i64 ((len:Nat)))).setCell ⟨w.heap.size,1,none⟩ (.int .i64 ((sz:Nat)))).cell? ⟨w.heap.size,2,none⟩=some (.int .i64 0):=r2.cell 2 _ rfl;have f2:((w3.setCell ⟨w.heap.size,0,none⟩ (.int .i64 ((len:Nat)))).setCell ⟨w.heap.size,1,none⟩ (.int .i64 ((sz:Nat)))).frozen? ⟨w.heap.size,2,none⟩=false:=r2.frozen 2;have r3:=r2.set 2 (.int .i64 ((ms:Nat)));have z3:(((w3.setCell ⟨w.heap.size,0,none⟩ (.int .i64 ((len:Nat)))).setCell ⟨w.heap.size,1,none⟩ (.int .i64 ((sz:Nat)))).setCell ⟨w.heap.size,2,none⟩ (.int .i64 ((ms:Nat)))).cell? ⟨w.heap.size,3,none⟩=some (.int .i64 0):=r3.cell 3 _ rfl;have f3:(((w3.setCell ⟨w.heap.size,0,none⟩ (.int .i64 ((len:Nat)))).setCell ⟨w.heap.size,1,none⟩ (.int .i64 ((sz:Nat)))).setCell ⟨w.heap.size,2,none⟩ (.int .i64 ((ms:Nat)))).frozen? ⟨w.heap.size,3,none⟩=false:=r3.frozen 3;have r4:=r3.set 3 (.int .i64 ((V:Nat)));have z4:((((w3.setCell ⟨w.heap.size,0,none⟩ (.int .i64 ((len:Nat)))).setCell ⟨w.heap.size,1,none⟩ (.int .i64 ((sz:Nat)))).setCell ⟨w.heap.size,2,none⟩ (.int .i64 ((ms:Nat)))).setCell ⟨w.heap.size,3,none⟩ (.int .i64 ((V:Nat)))).cell? ⟨w.heap.size,4,none⟩=some (.int .i64 0):=r4.cell 4 _ rfl;have f4:((((w3.setCell ⟨w.heap.size,0,none⟩ (.int .i64 ((len:Nat)))).setCell ⟨w.heap.size,1,none⟩ (.int .i64 ((sz:Nat)))).setCell ⟨w.heap.size,2,none⟩ (.int .i64 ((ms:Nat)))).setCell ⟨w.heap.size,3,none⟩ (.int .i64 ((V:Nat)))).frozen? ⟨w.heap.size,4,none⟩=false:=r4.frozen 4;have r5:=r4.set 4 (.int .i64 ((sm:Nat)));have z5:(((((w3.setCell ⟨w.heap.size,0,none⟩ (.int .i64 ((len:Nat)))).setCell ⟨w.heap.size,1,none⟩ (.int .i64 ((sz:Nat)))).setCell ⟨w.heap.size,2,none⟩ (.int .i64 ((ms:Nat)))).setCell ⟨w.heap.size,3,none⟩ (.int .i64 ((V:Nat)))).setCell ⟨w.heap.size,4,none⟩ (.int .i64 ((sm:Nat)))).cell? ⟨w.heap.size,5,none⟩=some (.int .i64 0):=r5.cell 5 _ rfl;have f5:(((((w3.setCell ⟨w.heap.size,0,none⟩ (.int .i64 ((len:Nat)))).setCell ⟨w.heap.size,1,none⟩ (.int .i64 ((sz:Nat)))).setCell ⟨w.heap.size,2,none⟩ (.int .i64 ((ms:Nat)))).setCell ⟨w.heap.size,3,none⟩ (.int .i64 ((V:Nat)))).setCell ⟨w.heap.size,4,none⟩ (.int .i64 ((sm:Nat)))).frozen? ⟨w.heap.size,5,none⟩=false:=r5.frozen 5;have r6:=r5.set 5 (.int .i64 ((N:Nat)));have z6:((((((w3.setCell ⟨w.heap.size,0,none⟩ (.int .i64 ((len:Nat)))).setCell ⟨w.heap.size,1,none⟩ (.int .i64 ((sz:Nat)))).setCell ⟨w.heap.size,2,none⟩ (.int .i64 ((ms:Nat)))).setCell ⟨w.heap.size,3,none⟩ (.int .i64 ((V:Nat)))).setCell ⟨w.heap.size,4,none⟩ (.int .i64 ((sm:Nat)))).setCell ⟨w.heap.size,5,none⟩ (.int .i64 ((N:Nat)))).cell? ⟨w.heap.size,6,none⟩=some (.int .i64 0):=r6.cell 6 _ rfl;have f6:((((((w3.setCell ⟨w.heap.size,0,none⟩ (.int .i64 ((len:Nat)))).setCell ⟨w.heap.size,1,none⟩ (.int .i64 ((sz:Nat)))).setCell ⟨w.heap.size,2,none⟩ (.int .i64 ((ms:Nat)))).setCell ⟨w.heap.size,3,none⟩ (.int .i64 ((V:Nat)))).setCell ⟨w.heap.size,4,none⟩ (.int .i64 ((sm:Nat)))).setCell ⟨w.heap.size,5,none⟩ (.int .i64 ((N:Nat)))).frozen? ⟨w.heap.size,6,none⟩=false:=r6.frozen 6;have r7:=r6.set 6 (.int .i64 ((wh:Nat)));have Hr7:Hid (aB (((((((w3.setCell ⟨w.heap.size,0,none⟩ (.int .i64 ((len:Nat)))).setCell ⟨w.heap.size,1,none⟩ (.int .i64 ((sz:Nat)))).setCell ⟨w.heap.size,2,none⟩ (.int .i64 ((ms:Nat)))).setCell ⟨w.heap.size,3,none⟩ (.int .i64 ((V:Nat)))).setCell ⟨w.heap.size,4,none⟩ (.int .i64 ((sm:Nat)))).setCell ⟨w.heap.size,5,none⟩ (.int .i64 ((N:Nat)))).setCell ⟨w.heap.size,6,none⟩ (.int .i64 ((wh:Nat)))) w.heap.size 93 [.int .i64 ((len:Nat)),.int .i64 ((sz:Nat)),.int .i64 ((ms:Nat)),.int .i64 ((V:Nat)),.int .i64 ((sm:Nat)),.int .i64 ((N:Nat)),.int .i64 ((wh:Nat))]):=r7;have Hb7:Hid (Below w.heap.size w (((((((w3.setCell ⟨w.heap.size,0,none⟩ (.int .i64 ((len:Nat)))).setCell ⟨w.heap.size,1,none⟩ (.int .i64 ((sz:Nat)))).setCell ⟨w.heap.size,2,none⟩ (.int .i64 ((ms:Nat)))).setCell ⟨w.heap.size,3,none⟩ (.int .i64 ((V:Nat)))).setCell ⟨w.heap.size,4,none⟩ (.int .i64 ((sm:Nat)))).setCell ⟨w.heap.size,5,none⟩ (.int .i64 ((N:Nat)))).setCell ⟨w.heap.size,6,none⟩ (.int .i64 ((wh:Nat))))):=(((((((hbb.out.setCell (Nat.le_refl w.heap.size) _).setCell (Nat.le_refl w.heap.size) _).setCell (Nat.le_refl w.heap.size) _).setCell (Nat.le_refl w.heap.size) _).setCell (Nat.le_refl w.heap.size) _).setCell (Nat.le_refl w.heap.size) _).setCell (Nat.le_refl w.heap.size) _);clear r0 r1 r2 r3 r4 r5 r6 r7 hbb)
 refine bodyPost_ret (rT Hr7.out rfl) rfl ?_;exact⟨rfl,Hb7.out⟩
end Go.Proofs.YtmfpiodlecapiaaGreatDoor
