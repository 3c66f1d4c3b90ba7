import Derived.Test.YtmfpiodlecapiaaGreatDoorJ34
import Derived.Conc.SmallLaws
set_option maxHeartbeats 4000000
namespace Go.Proofs.YtmfpiodlecapiaaGreatDoor
open Go.Conc Go.ConcN Go.RowKit Go.Conc.Lib Go.ConcR.Gen Go.ConcN.Gen Go.iw Go.bB Go.Ren Go.eO Go.Deep
open Go.ConcR (KK wgBlock WgAt stA smA rd wr mk Payload Aside2 DC0)
attribute [local go_sem↓] Go.wp_at_zero Go.wp_at_succ
structure Wp(p:World)(bb N V s:Nat)(Kz:Nat->Nat)(pb:Nat->Nat)(pa:Nat->Nat->Option Addr)(pl pc:Nat->Nat->Nat)(blk:Nat->List Nat):Prop where
 N1:1<=N
 N2:N<=256
 V2:V<=20
 s1:1<=s
 s2:s<=16
 K1:∀z,z<N->1<=Kz z
 K2:∀z,z<N->Kz z<=20
 len:∀z,z<N->(blk z).length=Kz z*s
 lt:∀z,z<N->∀x∈blk z,x<256
 cell:∀z,z<N->p.cell? ⟨bb,z,none⟩=some (.slice (some ⟨pb z,0,none⟩) (Kz z+V) (Kz z+V))
 at_:∀z,z<N->BD p (Kz z) V s (Kz z+V) (pb z) (pa z) (pl z) (pc z) (blk z)
structure zm(Sh Sh':Nat->Prop)(p p':World)(N V:Nat)(Kz:Nat->Nat)(pa:Nat->Nat->Option Addr)(blk:Nat->List Nat)(v:Value)(ok:Bool):Prop where
 grown:p.heap.size<=p'.heap.size
 keep:∀(b:Nat) o,p.heap[b]? =some o->Live o->p'.heap[b]? =some o
 old:∀b,b<p.heap.size->¬Sh b->¬Sh' b/\p'.heap[b]? =p.heap[b]?
 os:p'.os=p.os
 output:p'.output=p.output
 whole:ok=true↔∀z,z<N->dV (pa z) (Kz z) V=true
 bytes:ok=true->∃g cap,v= .slice (some ⟨g,0,none⟩) ((List.range N).map blk).flatten.length cap/\p.heap.size<=g/\((List.range N).map blk).flatten.length<=cap/\cap<=maxLen/\∀j,j<((List.range N).map blk).flatten.length->p'.cell? ⟨g,j,none⟩=some (.int .u8 ((((List.range N).map blk).flatten[j]?.getD 0:Nat):Int))
theorem ZG(T:Array Value)(h:T.size=37):∃x0 x1 x2 x3 x4 x5 x6 x7 x8 x9 x10 Y4 Zq x13 x14 x15 x16 x17 x18 x19 x20 x21 x22 x23 x24 x25 x26 x27 x28 x29 x30 x31 x32 x33 x34 x35 x36,T=#[x0,x1,x2,x3,x4,x5,x6,x7,x8,x9,x10,Y4,Zq,x13,x14,x15,x16,x17,x18,x19,x20,x21,x22,x23,x24,x25,x26,x27,x28,x29,x30,x31,x32,x33,x34,x35,x36]:=by
 refine⟨T[0],T[1],T[2],T[3],T[4],T[5],T[6],T[7],T[8],T[9],T[10],T[11],T[12],T[13],T[14],T[15],T[16],T[17],T[18],T[19],T[20],T[21],T[22],T[23],T[24],T[25],T[26],T[27],T[28],T[29],T[30],T[31],T[32],T[33],T[34],T[35],T[36],?_⟩;apply Array.ext
 ·simp[h]
 ·intro i h1 h2;match i,h1 with
  |0,_=>rfl
  |1,_=>rfl
  |2,_=>rfl
  |3,_=>rfl
  |4,_=>rfl
  |5,_=>rfl
  |6,_=>rfl
  |7,_=>rfl
  |8,_=>rfl
  |9,_=>rfl
  |10,_=>rfl
  |11,_=>rfl
  |12,_=>rfl
  |13,_=>rfl
  |14,_=>rfl
  |15,_=>rfl
  |16,_=>rfl
  |17,_=>rfl
  |18,_=>rfl
  |19,_=>rfl
  |20,_=>rfl
  |21,_=>rfl
  |22,_=>rfl
  |23,_=>rfl
  |24,_=>rfl
  |25,_=>rfl
  |26,_=>rfl
  |27,_=>rfl
  |28,_=>rfl
  |29,_=>rfl
  |30,_=>rfl
  |31,_=>rfl
  |32,_=>rfl
  |33,_=>rfl
  |34,_=>rfl
  |35,_=>rfl
  |36,_=>rfl
  |n+37,h1=>omega
structure Hd(p:World)(L:List Obj)(q:World):Prop where
 size:q.heap.size=p.heap.size+L.length
 old:∀b,b<p.heap.size->q.heap[b]? =p.heap[b]?
 new:∀(i:Nat) o,L[i]? =some o->q.heap[p.heap.size+i]? =some o
 os:q.os=p.os
 output:q.output=p.output
theorem Hd.start(p:World)(τ:Nat->Question->Nat)(d:Nat):Hd p [] (p.re τ d):=⟨rfl,fun _ _=>rfl,fun i o h=>by simp at h,rfl,rfl⟩
theorem Hd.re{p q:World}{L:List Obj}(h:Hd p L q)(τ:Nat->Question->Nat)(d:Nat):Hd p L (q.re τ d):=⟨h.size,h.old,h.new,h.os,h.output⟩
theorem Hd.alloc{p q:World}{L:List Obj}(h:Hd p L q)(o:Obj):Hd p (L++ [o]) (q.alloc o):=by
 have hs:=h.size;refine⟨by rw[Go.Ren.size_alloc,hs,List.length_append];rfl,fun b hb=>by rw[Go.Ren.heap_alloc_old (by omega)];exact h.old b hb,fun i x hx=>?_,h.os,h.output⟩;rcases Nat.lt_or_ge i L.length with hi|hi
 ·rw[List.getElem?_append_left hi]at hx;rw[Go.Ren.heap_alloc_old (by omega)];exact h.new i x hx
 ·rw[List.getElem?_append_right hi]at hx;have:i-L.length=0:=by
   rcases Nat.eq_zero_or_pos (i-L.length)with h0|h0
   ·exact h0
   ·rw[List.getElem?_eq_none (by simp;omega)]at hx;cases hx
  rw[this]at hx;obtain rfl:=Option.some.inj hx;have e:p.heap.size+i=q.heap.size:=by omega
  rw[e];exact Go.Ren.heap_alloc_new
theorem Hd.set{p q:World}{L:List Obj}(h:Hd p L q){i j:Nat}{c:Array Value}{e:TypeId}{fz:Nat×Nat}(hi:L[i]? =some (.cells c e fz))(v:Value):Hd p (L.set i (.cells (c.setIfInBounds j v) e fz)) (q.setCell ⟨p.heap.size+i,j,none⟩ v):=by
 refine⟨by rw[List.length_set];have:=h.size;simpa[World.setCell]using this,fun b hb=>?_,fun k x hx=>?_,h.os,h.output⟩
 ·have:¬p.heap.size+i=b:=by omega
  simp only[World.setCell,Array.getElem?_modify,if_neg this];exact h.old b hb
 ·by_cases ek:i=k
  ·subst ek;rw[List.getElem?_set_self (List.getElem?_eq_some_iff.1 hi).1]at hx;obtain rfl:=Option.some.inj hx;simp[World.setCell,Array.getElem?_modify,h.new i _ hi]
  ·rw[List.getElem?_set_ne ek]at hx;have:¬p.heap.size+i=p.heap.size+k:=by omega
   simp only[World.setCell,Array.getElem?_modify,if_neg this];exact h.new k x hx
set_option maxRecDepth 100000 in
theorem JV{Sh:Nat->Prop}{Post:(Nat->Prop)->Goroutine->World->Prop}{p:World}{cfn:FuncId}{ca:Act}{bg:Array Oper}{ci:Nat}{aT:List Nat}{ck:List Item}{cs:List Frame}{o:Oper}(ho:bg[ci]? =some o){bb N V s cap:Nat}{Kz:Nat->Nat}{pb:Nat->Nat}{pa:Nat->Nat->Option Addr}{pl pc:Nat->Nat->Nat}{blk:Nat->List Nat}(hO:Wp p bb N V s Kz pb pa pl pc blk)
  (hend:∀(Sh':Nat->Prop) (p':World) (v:Value) (ok:Bool),zm Sh Sh' p p' N V Kz pa blk v ok->aj Tryz.prog Sh' (G ((base cfn).at (ca.put o.dst (.tuple #[v,.bool ok])) (.inRegion bg aT::ck)) cs) p' Post):
  aj Tryz.prog Sh (G ((base 46).at ⟨#[.slice (some ⟨bb,0,none⟩) N cap,.int .i64 V,undef,undef,undef,undef,undef,undef,undef,undef,undef,undef,undef,undef,undef,undef,undef,undef,undef,undef,undef,undef,undef,undef,undef,undef,undef,undef,undef,undef,undef,undef,undef,undef,undef,undef,undef],[]⟩ [.code (Tryz.f46.body.getD .skip)]) ((base cfn).at ca (.inRegion bg (ci::aT)::ck)::cs)) p Post:=by
 refine aj.with fun Ut _ _=>?_;have HO:=hide hO;have vU:=hide hend;have HSh:=hide Ut
 clear hO hend Ut;conv=>arg 3;simp only[Tryz.f46,Option.getD_some]
 refine .ctl rfl (fun _=>stepG_seq) ?_;refine aj.bC ak (by kernel_rfl) fun τ d=>?_;go_wp2;refine aj.world (Hd p [.cells #[.int .i64 V] 3]) ((Hd.start p τ d).alloc _) fun p1 h1=>?_;have ez:(p.re τ d).heap.size=p.heap.size:=rfl;rw[ez];clear ez;obtain⟨iR,hiR⟩:∃i,Tryz.prog.info? 161=some i:=Option.isSome_iff_exists.1 (by kernel_rfl);obtain⟨iD,hiD⟩:∃i,Tryz.prog.info? 148=some i:=Option.isSome_iff_exists.1 (by kernel_rfl);have hmR:∀w,(Instr.makeChan 146 (.int .i64 0)).run Tryz.prog w= .ok (.chan (some w.heap.size)) (w.alloc (.chan 0 #[] false 0 0 false)):=fun w=>run_makeChan (w:=w) Tryz.underlying146 hiR .i64 0 (by decide) (by simp);have hmD:∀w,(Instr.makeChan 147 (.int .i64 0)).run Tryz.prog w= .ok (.chan (some w.heap.size)) (w.alloc (.chan 0 #[] false 0 0 false)):=fun w=>run_makeChan (w:=w) Tryz.underlying147 hiD .i64 0 (by decide) (by simp);refine aj.seq (aj.reg (todo:= [0,1,2]) rfl ?_);refine aj.op (wY rfl) rfl rfl (by decide) (fun τ d K hK=>?_);go_simp;refine hK _ _ ?_;clear hK;try walk_nrm
 have ez:(p1.re τ d).heap.size=p.heap.size+1:=h1.size;rw[ez];refine aj.world (Hd p [.cells #[.int .i64 V] 3,.chan 0 #[] false 0 0 false]) ((h1.re τ d).alloc _) fun q1 g1=>?_;clear ez;refine aj.o ak (by kernel_rfl) rfl rfl (fun τ d K hK=>?_);go_simp;refine hK _ _ ?_;clear hK;try walk_nrm
 have ez:(q1.re τ d).heap.size=p.heap.size+2:=g1.size;rw[ez];refine aj.world (Hd p [.cells #[.int .i64 V] 3,.chan 0 #[] false 0 0 false,.cells #[.chan none] 146]) ((g1.re τ d).alloc _) fun r1 k1=>?_;clear ez;refine aj.o ak (by kernel_rfl) rfl rfl (fun τ d K hK=>?_);have hcell:(r1.re τ d).cell? ⟨p.heap.size+2,0,none⟩=some (.chan none):=by
  have:=k1.new 2 _ rfl;simp[World.cell?,World.re,this]
 have hfr:(r1.re τ d).frozen? ⟨p.heap.size+2,0,none⟩=false:=by
  have:=k1.new 2 _ rfl;simp[World.frozen?,World.re,this]
 go_simp;try (unfold stored;go_simp)
 refine hK _ _ ?_;clear hK hcell hfr;try walk_nrm
 refine aj.world (Hd p [.cells #[.int .i64 V] 3,.chan 0 #[] false 0 0 false,.cells #[.chan (some (p.heap.size+1))] 146]) ((k1.re τ d).set (i:=2) (j:=0) rfl _) fun p2 h2=>?_;refine aj.aR ?_;refine aj.seq (aj.reg (todo:= [0,1,2]) rfl ?_);refine aj.op (wY rfl) rfl rfl (by decide) (fun τ d K hK=>?_);go_simp;refine hK _ _ ?_;clear hK;try walk_nrm
 have ez:(p2.re τ d).heap.size=p.heap.size+3:=h2.size;rw[ez];refine aj.world (Hd p [.cells #[.int .i64 V] 3,.chan 0 #[] false 0 0 false,.cells #[.chan (some (p.heap.size+1))] 146,.chan 0 #[] false 0 0 false]) ((h2.re τ d).alloc _) fun q2 g2=>?_;clear ez;refine aj.o ak (by kernel_rfl) rfl rfl (fun τ d K hK=>?_);go_simp;refine hK _ _ ?_;clear hK;try walk_nrm
 have ez:(q2.re τ d).heap.size=p.heap.size+4:=g2.size;rw[ez];refine aj.world (Hd p [.cells #[.int .i64 V] 3,.chan 0 #[] false 0 0 false,.cells #[.chan (some (p.heap.size+1))] 146,.chan 0 #[] false 0 0 false,.cells #[.chan none] 147]) ((g2.re τ d).alloc _) fun r2 k2=>?_;clear ez;refine aj.o ak (by kernel_rfl) rfl rfl (fun τ d K hK=>?_);have hcell:(r2.re τ d).cell? ⟨p.heap.size+4,0,none⟩=some (.chan none):=by
  have:=k2.new 4 _ rfl;simp[World.cell?,World.re,this]
 have hfr:(r2.re τ d).frozen? ⟨p.heap.size+4,0,none⟩=false:=by
  have:=k2.new 4 _ rfl;simp[World.frozen?,World.re,this]
 go_simp;try (unfold stored;go_simp)
 refine hK _ _ ?_;clear hK hcell hfr;try walk_nrm
 refine aj.world (Hd p [.cells #[.int .i64 V] 3,.chan 0 #[] false 0 0 false,.cells #[.chan (some (p.heap.size+1))] 146,.chan 0 #[] false 0 0 false,.cells #[.chan (some (p.heap.size+3))] 147]) ((k2.re τ d).set (i:=4) (j:=0) rfl _) fun p3 h3=>?_;refine aj.aR ?_;refine aj.seq (aj.reg (todo:= [0]) rfl ?_);have hold:∀(b:Nat) (o:Obj),p.heap[b]? =some o->p3.heap[b]? =some o:=fun b o h=>by
  rw[h3.old b (Array.getElem?_eq_some_iff.1 h).1];exact h
 have hcold:∀(a:Addr) (v:Value),p.cell? a=some v->p3.cell? a=some v:=fun a v h=>by
  have hb:a.block<p.heap.size:=by
   unfold World.cell? at h;cases hb:p.heap[a.block]? with
   |none=>rw[hb]at h;simp at h
   |some o=>exact(Array.getElem?_eq_some_iff.1 hb).1
  have e:=h3.old a.block hb;unfold World.cell? at h⊢;rw[e];exact h
 have hblk3:∀z,z<N->BD p3 (Kz z) V s (Kz z+V) (pb z) (pa z) (pl z) (pc z) (blk z):=fun z hz=>by
  have hB:=HO.out.at_ z hz;refine⟨hB.num,hold _ _ hB.row,hB.nil,fun i hi hso=>?_⟩;obtain⟨g,l,e1,e2,e3⟩:=hB.has i hi hso;exact⟨g,l,e1,hold _ _ e2,e3⟩
 have Le:=h3.new 1 _ rfl;have hDw:=h3.new 3 _ rfl;have hcRw:=h3.new 2 _ rfl;have hcDw:=h3.new 4 _ rfl;have hcSw:=h3.new 0 _ rfl;rw[Nat.add_zero]at hcSw;have hs3:p3.heap.size=p.heap.size+5:=h3.size;refine NJ (p:=p3) (bo:=0) (cR:=p.heap.size+2) (cD:=p.heap.size+4) (R:=p.heap.size+1) (Dn:=p.heap.size+3) (cS:=⟨p.heap.size,0,none⟩) (wz:=fun z=>dV (pa z) (Kz z) V) (Dz:=blk) (pa:=fun z=>some ⟨pb z,0,none⟩) (pl:=fun z=>Kz z+V) (pc:=fun z=>Kz z+V) ⟨HO.out.N1,by have:=HO.out.N2;omega⟩ (fun b hb=>by have:=HSh.out b hb;omega) Le hDw (by omega)
  (by simp[World.cell?,hcRw]) (by simp[World.cell?,hcDw]) (fun z hz=>by rw[Nat.zero_add];exact hcold _ _ (HO.out.cell z hz)) (by show p.heap.size<_;omega) (fun z cz cp w hz hrows hsz hcz hcp hB1 hB2 hne=>?_) (fun ok T p' hA=>?_)
 ·exact OU (hblk3 z hz) (HO.out.K1 z hz) (HO.out.K2 z hz) HO.out.V2 HO.out.s1 HO.out.s2 (HO.out.len z hz) (HO.out.lt z hz) (by omega) (by omega) (by omega) hcRw hcDw hcSw rfl rfl hsz (by omega) hrows hcz hcp
 ·obtain⟨x0,x1,x2,x3,x4,x5,x6,x7,x8,x9,x10,Y4,Zq,x13,x14,x15,x16,x17,x18,x19,x20,x21,x22,x23,x24,x25,x26,x27,x28,x29,x30,x31,x32,x33,x34,x35,x36,rfl⟩:∃x0 x1 x2 x3 x4 x5 x6 x7 x8 x9 x10 Y4 Zq x13 x14 x15 x16 x17 x18 x19 x20 x21 x22 x23 x24 x25 x26 x27 x28 x29 x30 x31 x32 x33 x34 x35 x36,T=#[x0,x1,x2,x3,x4,x5,x6,x7,x8,x9,x10,Y4,Zq,x13,x14,x15,x16,x17,x18,x19,x20,x21,x22,x23,x24,x25,x26,x27,x28,x29,x30,x31,x32,x33,x34,x35,x36]:=ZG T hA.size;have hx12:Zq= .bool ok:=Option.some.inj hA.flag;subst hx12;have RU:∀(b:Nat) o,p.heap[b]? =some o->Live o->p'.heap[b]? =some o:=fun b o h1 h2=>by
   have hlt:=(Array.getElem?_eq_some_iff.1 h1).1;exact hA.keep b o (hold b o h1) h2 (by omega) (by omega)
  have La:∀b,b<p.heap.size->¬Sh b->¬(Sh b\/b=p.heap.size+5)/\p'.heap[b]? =p.heap[b]? :=fun b h1 h2=>⟨by rintro(h|h);exact h2 h;omega,(hA.old b (by omega) h2 (by omega) (by omega)).trans (h3.old b h1)⟩;have hg:=hA.grown;conv=>arg 3;simp only[Tryz.f46,Option.getD_some,aN,bI,aZ]
  refine aj.aR ?_;refine aj.bC ak (by kernel_rfl) fun τ d=>?_;cases ok with
  |false=>
   obtain⟨Jr,z,hz,hwz⟩:=hA.no rfl;have Jr:Y4= .slice none 0 0:=Option.some.inj Jr;subst Jr;have hJ:=hide (join_none (p'.re τ d));go_wp2_with (go_at_call 94;refine hJ.out.mono ?_;rintro _ wq ⟨rfl,hq⟩;have hq2:=hq.symm;clear hq;subst hq2)
   intro todo;refine aj.back ho Tryz.func46 (v:=.tuple #[.slice (some ⟨(p'.re τ d).heap.size,0,none⟩) 0 0,.bool false]) (by simp[results,Tryz.f46,go_sem]) (by simp[results,Tryz.f46]) (vU.out _ _ _ false ⟨?_,fun b o h1 h2=>?_,fun b h1 h2=>⟨(La b h1 h2).1,(Go.Ren.heap_alloc_old (w:=p'.re τ d) (by show b<p'.heap.size;omega)).trans (La b h1 h2).2⟩,hA.os.trans h3.os,hA.output.trans h3.output,⟨(fun h=>by cases h),fun h=>?_⟩,(fun h=>by cases h)⟩)
   ·rw[Go.Ren.size_alloc];have:(p'.re τ d).heap.size=p'.heap.size:=rfl;omega
   ·have:=RU b o h1 h2;rw[Go.Ren.heap_alloc_old (by exact(Array.getElem?_eq_some_iff.1 this).1)];exact this
   ·have:=h z hz;rw[show dV (pa z) (Kz z) V=false from hwz]at this;cases this
  |true=>
   obtain⟨hall,cP,Jr,parts,hp1,hp2,hp3⟩:=hA.yes rfl;have Jr:Y4= .slice (some ⟨cP,0,none⟩) N N:=Option.some.inj Jr;subst Jr;have hJ:Hid (Calls Tryz.prog 94 #[.slice (some ⟨cP,0,none⟩) N N,.slice none 0 0] (p'.re τ d) fun e w'=>∃g cap,e= .returned (.slice (some ⟨g,0,none⟩) ((List.range N).map blk).flatten.length cap)/\p'.heap.size<=g/\((List.range N).map blk).flatten.length<=cap/\cap<=maxLen/\(∀j,j<cap->w'.frozen? ⟨g,j,none⟩=false)/\
     (∀j,j<((List.range N).map blk).flatten.length->w'.cell? ⟨g,j,none⟩=some (.int .u8 ((((List.range N).map blk).flatten[j]?.getD 0:Nat):Int)))/\Below p'.heap.size (p'.re τ d) w'):=by
    refine yh cP 0 N N parts.toList ((List.range N).map blk) (p'.re τ d) (by simpa using hp2) (by simp) HO.out.N1 (by have:=HO.out.N2;omega) (Nat.le_refl _) (fun i v hv=>?_) (fun i v l hv hl=>?_) (fun l hl=>?_) (fun l hl x hx=>?_) ?_
    ·rw[Nat.zero_add];show p'.cell? _=_;simpa[World.cell?,hp1]using hv
    ·have hi:i<N:=by have:=(List.getElem?_eq_some_iff.1 hl).1;simpa using this
     have el:l=blk i:=by simpa[hi]using hl.symm
     subst el;obtain⟨v',hv',da,dl,dc,rfl,h4,h5⟩:=hp3 i hi;have:v= .slice da dl dc:=by
      have hv2:parts[i]? =some v:=by simpa using hv
      rw[hv']at hv2;exact(Option.some.inj hv2).symm
     subst this;have hl1:=HO.out.len i hi;have hK1:=HO.out.K1 i hi;have hs1:=HO.out.s1;have hpos:0<Kz i*s:=Nat.mul_pos hK1 hs1;obtain⟨b,o,rfl,_,h6⟩:=h5 (by omega);exact⟨b,o,dc,by rw[h4],HO.out.lt i hi,fun j hj=>h6 j (by omega)⟩
    ·obtain⟨z,hz,rfl⟩:=List.mem_map.1 hl;rw[List.mem_range]at hz;intro e;have hl1:=HO.out.len z hz;have hpos:0<Kz z*s:=Nat.mul_pos (HO.out.K1 z hz) HO.out.s1;rw[e]at hl1;simp at hl1;omega
    ·obtain⟨z,hz,rfl⟩:=List.mem_map.1 hl;exact HO.out.lt z (List.mem_range.1 hz) x hx
    ·have:∀k,k<=N->((List.range k).map blk).flatten.length<=k*320:=by
      intro k hk;induction k with
      |zero=>simp
      |succ k ih=>
       have:=ih (by omega);have h1:=HO.out.len k (by omega);have h2:=Nat.mul_le_mul (HO.out.K2 k (by omega)) HO.out.s2;rw[List.range_succ,List.map_append,List.flatten_append,List.length_append];simp only[List.map_cons,List.map_nil,List.flatten_cons,List.flatten_nil,List.append_nil];omega
     have h1:=this N (Nat.le_refl _);have:=HO.out.N2;omega
   go_wp2_with (go_at_call 94;refine hJ.out.mono ?_;rintro _ w6 ⟨g,cap6,rfl,k1,k2,k3,k4,k5,k6⟩;replace k1:=hide k1;replace k2:=hide k2;replace k3:=hide k3;replace k5:=hide k5;replace k6:=hide k6)
   intro todo;refine aj.back ho Tryz.func46 (v:=.tuple #[.slice (some ⟨g,0,none⟩) ((List.range N).map blk).flatten.length cap6,.bool true]) (by simp[results,Tryz.f46,go_sem]) (by simp[results,Tryz.f46]) (vU.out _ w6 _ true ⟨?_,fun b o h1 h2=>?_,fun b h1 h2=>⟨(La b h1 h2).1,(k6.out.block b (by omega)).trans (La b h1 h2).2⟩,k6.out.os.trans (hA.os.trans h3.os),k6.out.output.trans (hA.output.trans h3.output),⟨fun _=>hall,fun _=>rfl⟩,fun _=>⟨g,cap6,rfl,?_,k2.out,k3.out,k5.out⟩⟩)
   ·have:=k6.out.size;have:p'.heap.size<=w6.heap.size:=this;omega
   ·have:=RU b o h1 h2;rw[k6.out.block b (Array.getElem?_eq_some_iff.1 this).1];exact this
   ·have:=k1.out;omega
end Go.Proofs.YtmfpiodlecapiaaGreatDoor
namespace Go.Proofs.YtmfpiodlecapiaaGreatDoor
open Go.RowKit Go.Deep Go.eO
structure OD where
 bb:Nat
 cap:Nat
 pb:Nat->Nat
 pa:Nat->Nat->Option Addr
 pl:Nat->Nat->Nat
 pc:Nat->Nat->Nat
structure sO(w:World)(B ob:Nat)(s:Oj)(d:OD)(hd:Nat->Bool):Prop where
 row:iq w ob s.len s.sz s.ms s.V d.bb s.N d.cap
 bbr:∃L,aB w d.bb 25 L
 blocks:Wp w d.bb s.N s.V s.sz s.K d.pb d.pa d.pl d.pc s.blk
 heard:∀z,z<s.N->∀n,n<s.K z+s.V->(d.pa z n).isSome=hd (s.off z+n)
 inj:∀z z',z<s.N->z'<s.N->d.pb z=d.pb z'->z=z'
 new:∀z,z<s.N->B<=d.pb z
def CK(X:Nat->Prop)(w w':World):Prop:=∀(b:Nat) (L:List Value) (e:TypeId),aB w b e L->L≠ []->e≠39/\e≠4->¬X b->aB w' b e L
theorem CK.of_below{X:Nat->Prop}{w w':World}(h:Below w.heap.size w w'):CK X w w':=fun _ _ _ h1 _ _ _=>h1.later h
theorem CK.Vd{X:Nat->Prop}{w w':World}(h:∀(b:Nat) o,w.heap[b]? =some o->Live o->w'.heap[b]? =some o):CK X w w':=fun b L e h1 h2 _ _=>
 h b _ h1 (fun e' fz he=>by
  simp only[Obj.cells.injEq]at he;exact h2 (by simpa using he.1))
theorem CK.KP{X:Nat->Prop}{w w':World}(h:Kp X w w'):CK X w w':=fun b _ _ h1 _ _ h4=>h1.of_block (h.block b h1.lt h4)
theorem CK.set{X:Nat->Prop}{w:World}{g:Nat}{L0:List Value}(hg:aB w g 39 L0)(v:Value):CK X w (w.setCell ⟨g,0,none⟩ v):=fun b L e h1 _ h3 _=>
 h1.other (fun(eb:b=g)=>h3.1 (by subst eb;exact(h1.unique hg).1)) v
theorem CK.setB{X:Nat->Prop}{w:World}{g i:Nat}{L0:List Value}(hg:aB w g 4 L0)(v:Value):CK X w (w.setCell ⟨g,i,none⟩ v):=fun b L e h1 _ h3 _=>
 h1.other (fun(eb:b=g)=>h3.2 (by subst eb;exact(h1.unique hg).1)) v
theorem CK.trans{w w1 w2:World}(h:CK (fun _=>False) w w1)(h':CK (fun _=>False) w1 w2):CK (fun _=>False) w w2:=fun b L e h1 h2 h3 h4=>h' b L e (h b L e h1 h2 h3 h4) h2 h3 h4
theorem CK.laid{X:Nat->Prop}{w:World}{mr clock id ob:Nat}{es es0:Array MapEntry}{c0:Nat}(hm:w.heap[mr]? =some (.map es0 c0)):CK X w (fK w mr es clock id ob):=fun b L e h1 _ _ _=>by
 refine h1.of_block ?_;have hne:mr≠b:=fun e=>by subst e;rw[h1]at hm;cases hm
 simp[fK,hne]
theorem Qv{w:World}{g:Nat}{t:TypeId}{L:List Value}{i:Nat}{v:Value}(h:aB w g t L)(hv:w.cell? ⟨g,i,none⟩=some v):L≠ []:=fun e=>by
 subst e;unfold aB at h;simp[World.cell?,h]at hv
theorem xH{w:World}{g:Nat}{t:TypeId}{L:List Value}{i:Nat}{v:Value}(h:aB w g t L)(hv:w.cell? ⟨g,i,none⟩=some v):L[i]? =some v:=by
 unfold aB at h;simpa[World.cell?,h]using hv
theorem GK{w w':World}{K V s n pb:Nat}{pa:Nat->Option Addr}{pl pc:Nat->Nat}{blk:List Nat}(h:BD w K V s n pb pa pl pc blk)(hn:0<n)(hs:1<=s)
  (h1:∀L,aB w pb 28 L->L≠ []->aB w' pb 28 L)(h2:∀g L,aB w g 5 L->L≠ []->aB w' g 5 L):BD w' K V s n pb pa pl pc blk:=by
 refine⟨h.num,h1 _ h.row (fun e=>?_),h.nil,fun i hi hs'=>?_⟩
 ·have:=congrArg List.length e;simp at this;omega
 ·obtain⟨g,l,e1,e2,e3,e4,e5,e6⟩:=h.has i hi hs';refine⟨g,l,e1,h2 g _ e2 (fun e=>?_),e3,e4,e5,e6⟩;have:=congrArg List.length e;simp[bN]at this;rw[this]at e4;simp at e4;omega
theorem sO.keep{X:Nat->Prop}{w w':World}{B ob:Nat}{s:Oj}{d:OD}{hd:Nat->Bool}(h:sO w B ob s d hd)(hk:CK X w w')(hX:∀b,X b->∃L,aB w b 28 L)(hx:∀z,z<s.N->¬X (d.pb z)):sO w' B ob s d hd:=by
 have nX:∀{b:Nat} {e:TypeId} {L:List Value},aB w b e L->e≠28->¬X b:=fun h1 h2 h3=>by
  obtain⟨L',h4⟩:=hX _ h3;exact h2 (h1.unique h4).1
 obtain⟨L,hL⟩:=h.bbr;have hO:=h.blocks;have hne:L≠ []:=Qv hL (hO.cell 0 hO.N1);have hL':aB w' d.bb 25 L:=hk _ _ _ hL hne (by decide) (nX hL (by decide));have hrow:aB w ob 101 [.int .i64 s.len,.int .i64 s.sz,.int .i64 s.ms,.int .i64 s.V,.slice (some ⟨d.bb,0,none⟩) s.N d.cap]:=h.row;refine⟨hk _ _ _ hrow (by simp) (by decide) (nX hrow (by decide)),⟨L,hL'⟩,?_,h.heard,h.inj,h.new⟩;refine⟨hO.N1,hO.N2,hO.V2,hO.s1,hO.s2,hO.K1,hO.K2,hO.len,hO.lt,fun z hz=>hL'.cell _ _ (xH hL (hO.cell z hz)),fun z hz=>?_⟩;have:=hO.K1 z hz;exact GK (hO.at_ z hz) (by omega) hO.s1 (fun L h1 h2=>hk _ _ _ h1 h2 (by decide) (hx z hz)) (fun g L h1 h2=>hk _ _ _ h1 h2 (by decide) (nX h1 (by decide)))
theorem sO.fresh{w wB:World}{B g:Nat}{s:Oj}(ok:s.Ok){hdv L:List Value}{vB:Value}{pb:Nat->Nat}(hB:B<=w.heap.size)(h:mP w hdv s.len s.sz s.ms s.V g (fun i=>(Cut.sizes s.len s.sz s.ms)[i]?.getD 0) L wB s.N vB pb):
  ∃d,d.pb=pb/\sO wB B (w.heap.size+1) s d (fun _=>false):=by
 have hN1:=ok.N1;obtain⟨bb,cap,cur,rfl,hr,_,_,_,ht⟩:=h.own.open' (by simp;omega);have hlen:((List.range s.N).map fun i=>Value.slice (some ⟨pb i,0,none⟩) ((Cut.sizes s.len s.sz s.ms)[i]?.getD 0+s.V) ((Cut.sizes s.len s.sz s.ms)[i]?.getD 0+s.V)).length=s.N:=by simp
 refine⟨⟨bb,cap,pb,fun _ _=>none,fun _ _=>0,fun _ _=>0⟩,rfl,?_,⟨cur,hr⟩,?_,fun _ _ _ _=>rfl,h.inj,fun z hz=>by have:=(h.row z hz).1;show B<=pb z;omega⟩
 ·have:=h.obj;rw[hlen]at this;exact this
 ·refine⟨ok.N1,ok.N2,ok.v,ok.s1,ok.s2,fun z hz=>(ok.lK hz).1,fun z hz=>(ok.lK hz).2,fun z hz=>ok.mJ hz,fun z _=>ok.TS z,fun z hz=>hr.cell _ _ (take_at ht ?_),fun z hz=>⟨rfl,?_,fun _ _ _=>⟨rfl,rfl⟩,fun i _ h=>by cases h⟩⟩
  ·simp[hz,Oj.K,Oj.L]
  ·have:=(h.row z hz).2.1;have e:((List.range (s.K z+s.V)).map fun _=>Value.slice none 0 0)=List.replicate ((Cut.sizes s.len s.sz s.ms)[z]?.getD 0+s.V) (.slice none 0 0):=by
    rw[List.map_const',List.length_range];rfl
   show aB wB (pb z) _ ((List.range (s.K z+s.V)).map fun _=>Value.slice none 0 0);rw[e];exact this
def OD.upd(d:OD)(z n g s c:Nat):OD:= {d with pa:=fun z' n'=>if z'=z/\n'=n then some ⟨g,0,none⟩else d.pa z' n',pl:=fun z' n'=>if z'=z/\n'=n then s else d.pl z' n',pc:=fun z' n'=>if z'=z/\n'=n then c else d.pc z' n'}
def upd(hd:Nat->Bool)(k:Nat):Nat->Bool:=fun j=>if j=k then true else hd j
theorem sO.more{w w':World}{B ob:Nat}{s:Oj}(ok:s.Ok){d:OD}{hd:Nat->Bool}(h:sO w B ob s d hd){z n g c:Nat}(hz:z<s.N)(hn:n<s.K z+s.V)(hc:s.sz<=c)
  (hrow:aB w' g 5 (bN (s.pc z n++List.replicate (c-s.sz) 0)))(hpb:aB w' (d.pb z) 28 (((List.range (s.K z+s.V)).map fun i=>Value.slice (d.pa z i) (d.pl z i) (d.pc z i)).set n (.slice (some ⟨g,0,none⟩) s.sz c)))
  (hk:Kp (fun b=>b=d.pb z) w w'):sO w' B ob s (d.upd z n g s.sz c) (upd hd (s.off z+n)):=by
 have hO:=h.blocks;have hck:=CK.KP hk;have hpr:=(hO.at_ z hz).row;have nX:∀{b:Nat} {e:TypeId} {L:List Value},aB w b e L->e≠28->¬b=d.pb z:=fun h1 h2 h3=>by
  subst h3;exact h2 (h1.unique hpr).1
 obtain⟨L,hL⟩:=h.bbr;have hne:L≠ []:=Qv hL (hO.cell 0 hO.N1);have hL':aB w' d.bb 25 L:=hck _ _ _ hL hne (by decide) (nX hL (by decide));have jJ:aB w ob 101 [.int .i64 s.len,.int .i64 s.sz,.int .i64 s.ms,.int .i64 s.V,.slice (some ⟨d.bb,0,none⟩) s.N d.cap]:=h.row;refine⟨hck _ _ _ jJ (by simp) (by decide) (nX jJ (by decide)),⟨L,hL'⟩,?_,fun z' hz' n' hn'=>?_,h.inj,h.new⟩
 ·refine⟨hO.N1,hO.N2,hO.V2,hO.s1,hO.s2,hO.K1,hO.K2,hO.len,hO.lt,fun z hz=>hL'.cell _ _ (xH hL (hO.cell z hz)),fun z' hz'=>?_⟩;have hK1:=hO.K1 z' hz';by_cases e:z'=z
  ·subst e;have hB:=hO.at_ z' hz';refine⟨rfl,?_,fun i hi hno=>?_,fun i hi hso=>?_⟩
   ·refine Eq.trans hpb ?_;congr 2
    congr 1
    apply List.ext_getElem?;intro i;by_cases hi:n=i
    ·subst hi;rw[List.getElem?_set_self (by simpa using hn)];simp[hn,OD.upd]
    ·rw[List.getElem?_set_ne hi];by_cases hi2:i<s.K z'+s.V
     ·simp[hi2,OD.upd,Ne.symm hi]
     ·simp[hi2]
   ·by_cases hin:i=n
    ·subst hin;simp[OD.upd]at hno
    ·simp only[OD.upd,hin,and_false,if_false]at hno⊢;exact hB.nil i hi hno
   ·by_cases hin:i=n
    ·subst hin;have hl:=ok.pO (n:=i) hz';refine⟨g,_,by simp[OD.upd],hrow,by simp[OD.upd],?_,by simpa[OD.upd]using hc,?_,fun x hx=>?_⟩
     ·simp[OD.upd,hl];omega
     ·rw[List.take_append_of_le_length (by omega),List.take_of_length_le (by omega)];rfl
     ·rcases List.mem_append.1 hx with hx|hx
      ·exact ok.WG hz' hn x hx
      ·rw[(List.mem_replicate.1 hx).2];omega
    ·simp only[OD.upd,hin,and_false,if_false]at hso⊢;obtain⟨g',l,e1,e2,e3,e4,e5,e6⟩:=hB.has i hi hso;refine⟨g',l,e1,hck _ _ _ e2 (fun e=>?_) (by decide) (nX e2 (by decide)),e3,e4,e5,e6⟩;have:=congrArg List.length e;simp[bN]at this;rw[this]at e4;simp at e4;have:=hO.s1;omega
  ·have hB:=hO.at_ z' hz';have:=GK hB (by omega) hO.s1 (fun L h1 h2=>hck _ _ _ h1 h2 (by decide) (fun e2=>e (h.inj _ _ hz' hz e2))) (fun g L h1 h2=>hck _ _ _ h1 h2 (by decide) (nX h1 (by decide)));simpa[OD.upd,e]using this
 ·simp only[OD.upd,upd];by_cases e:z'=z/\n'=n
  ·obtain⟨rfl,rfl⟩:=e;simp
  ·have:¬s.off z'+n'=s.off z+n:=fun e2=>e (s.KO hz' hn' hz hn e2);rw[if_neg e,if_neg this];exact h.heard z' hz' n' hn'
theorem GV{w:World}{B ob:Nat}{s:Oj}(ok:s.Ok){d:OD}{hd:Nat->Bool}(h:sO w B ob s d hd){id z n gb go eH:Nat}(hz:z<s.N)(hn:n<s.K z+s.V)
  (hp:∀j,j<s.sz->w.cell? ⟨gb,go+j,none⟩=some (.int .u8 (((s.pc z n)[j]?.getD 0:Nat):Int))):
  Calls Tryz.prog 83 #[.pointer (some ⟨ob,0,none⟩),dS id s.len s.sz s.ms s.V z n,.slice (some ⟨gb,go,none⟩) s.sz eH] w fun e w'=>
   ∃b d',e= .returned (.bool b)/\b= !hd (s.off z+n)/\d'.pb=d.pb/\sO w' B ob s d' (upd hd (s.off z+n))/\Kp (fun b=>b=d.pb z) w w':=by
 have hO:=h.blocks;have hB:=hO.at_ z hz;cases hpa:d.pa z n with
 |none=>
  have hrn:((List.range (s.K z+s.V)).map fun i=>Value.slice (d.pa z i) (d.pl z i) (d.pc z i))[n]? =some (.slice none 0 0):=by
   obtain⟨h1,h2⟩:=hB.nil n hn hpa;simp[hn,hpa,h1,h2]
  refine(Wj ob s.len s.sz s.ms s.V d.bb s.N d.cap id z n (d.pb z) (s.K z+s.V) s.sz gb go eH _ (s.pc z n) hz hn ok.s1 (by have:=ok.s2;omega) (ok.pO hz) w h.row (hO.cell z hz) hB.row hrn hp).mono ?_;rintro e w' ⟨rfl,g,c,_,h2,_,h4,h5,h6⟩;exact⟨true,d.upd z n g s.sz c,rfl,by rw[<-h.heard z hz n hn,hpa];rfl,rfl,h.more ok hz hn h2 h4 h5 h6,h6⟩
 |some a=>
  obtain⟨g,l,e1,e2,e3,e4,e5,e6,_⟩:=hB.has n hn (by rw[hpa];rfl);have hrn:((List.range (s.K z+s.V)).map fun i=>Value.slice (d.pa z i) (d.pl z i) (d.pc z i))[n]? =some (.slice (some ⟨g,0,none⟩) s.sz (d.pc z n)):=by
   simp[hn,e1,e3]
  refine(O7 g (d.pc z n) ob s.len s.sz s.ms s.V d.bb s.N d.cap id z n (d.pb z) (s.K z+s.V) s.sz gb go eH _ (s.pc z n) hz hn (ok.pO hz) w h.row (hO.cell z hz) hB.row hrn (fun j hj=>?_) hp).mono ?_
  ·rw[Nat.zero_add];have e7:(s.pc z n)[j]?.getD 0=l[j]?.getD 0:=by
    rw[show s.pc z n=l.take s.sz from e6.symm,List.getElem?_take_of_lt hj]
   rw[e7];exact e2.cell _ _ (fV (by omega))
  ·rintro e w' ⟨rfl,hb⟩;have hh:=h.keep (X:=fun _=>False) (CK.of_below hb) (fun _ h=>h.elim) (fun _ _ h=>h);refine⟨false,d,rfl,by rw[<-h.heard z hz n hn,hpa];rfl,rfl,⟨hh.row,hh.bbr,hh.blocks,fun z' hz' n' hn'=>?_,hh.inj,hh.new⟩,⟨hb.os,hb.tape,hb.output,hb.size,fun k hk _=>hb.block k hk⟩⟩;rw[h.heard z' hz' n' hn'];unfold upd;split
   ·rename_i e;obtain⟨rfl,rfl⟩:=s.KO hz' hn' hz hn e;rw[<-h.heard z' hz' n' hn',hpa];rfl
   ·rfl
theorem getM_none{l:List (Nat×Nat)}{id:Nat}:getM l id=none↔∀x∈l,x.1≠id:=by
 simp[getM,List.find?_eq_none]
theorem OE{l:List (Nat×Nat)}{o b:Nat}(h:getM l o=none)(id:Nat):getM (l++ [(o,b)]) id=if id=o then some b else getM l id:=by
 unfold getM at*;rw[List.find?_append];by_cases e:id=o
 ·subst e;have h':l.find? (fun x=>x.1==id)=none:=by simpa using h
  simp[h']
 ·have h2:(o==id)=false:=by simpa using Ne.symm e
  cases hf:l.find? (fun x=>x.1==id)<;>simp[h2,e]
theorem AQ:∀(l D:List Nat),l.Nodup->(∀x∈l,x∈D)->l.length<=D.length
 | [],D,_,_=>by simp
 |a::t,D,hn,h=>by
  obtain⟨h1,h2⟩:=List.nodup_cons.1 hn;have ha:=h a (by simp);have h3:=AQ t (D.erase a) h2 (fun x hx=>by
   have hne:x≠a:=fun e=>h1 (e▸hx);exact(List.mem_erase_of_ne hne).2 (h x (by simp[hx])))
  rw[List.length_erase_of_mem ha]at h3;have:=List.length_pos_of_mem ha;simp;omega
structure oZ(w:World)(B lb mr:Nat)(D:List Nat)(S:Nat->Oj)(hd:Nat->Nat->Bool)(l:List (Nat×Nat))(A:Nat->OD):Prop where
 Yb:aB w lb 82 [.map (some mr)]
 map:∃es clock,w.heap[mr]? =some (.map es clock)/\iA es.toList l
 nd:(l.map (·.1)).Nodup
 small:∀x∈l,x.1∈D
 non:∀id,id∈D->getM l id=none->∀k,k<(S id).T->hd id k=false
 obj:∀id ob,getM l id=some ob->sO w B ob (S id) (A id) (hd id)
 any1:∀id ob,getM l id=some ob->∃k,k<(S id).T/\hd id k=true
 sep:∀id id' o o',id≠id'->getM l id=some o->getM l id'=some o'->∀z z',z<(S id).N->z'<(S id').N->(A id).pb z≠(A id').pb z'
theorem oZ.keep{w w':World}{B lb mr:Nat}{D:List Nat}{S:Nat->Oj}{hd:Nat->Nat->Bool}{l:List (Nat×Nat)}{A:Nat->OD}(h:oZ w B lb mr D S hd l A)(hk:CK (fun _=>False) w w')(hm:w'.heap[mr]? =w.heap[mr]?):oZ w' B lb mr D S hd l A:=
 ⟨hk _ _ _ h.Yb (by simp) (by decide) id,(by rw[hm];exact h.map),h.nd,h.small,h.non,fun id ob hg=>(h.obj id ob hg).keep hk (fun _ h=>h.elim) (fun _ _ h=>h),h.any1,h.sep⟩
def qA(hd:Nat->Nat->Bool)(o k:Nat):Nat->Nat->Bool:=fun i=>if i=o then upd (hd o) k else hd i
theorem pE(hd:Nat->Nat->Bool)(o k:Nat):qA hd o k o=upd (hd o) k:=by simp[qA]
theorem BH(hd:Nat->Nat->Bool){o i:Nat}(k:Nat)(h:i≠o):qA hd o k i=hd i:=by simp[qA,h]
structure Stood(B mr:Nat)(w w':World):Prop where
 low:∀b,b<B->b≠mr->w'.heap[b]? =w.heap[b]?
 size:w.heap.size<=w'.heap.size
 os:w'.os=w.os
 output:w'.output=w.output
 err:∀g t L,t≠28->aB w g t L->aB w' g t L
theorem C9{w:World}{mr clock:Nat}{es:Array MapEntry}(hm:w.heap[mr]? =some (.map es clock)){b:Nat}{t:TypeId}{L:List Value}(h:aB w b t L):b≠mr:=fun e=>by
 subst e;rw[h]at hm;cases hm
theorem oZ.after{w wL w':World}{B lb mr:Nat}{D:List Nat}{S:Nat->Oj}{hd:Nat->Nat->Bool}{l l':List (Nat×Nat)}{A:Nat->OD}(h:oZ w B lb mr D S hd l A){o z q ob clock:Nat}{es:Array MapEntry}{L0:List Value}{d d':OD}(ho:o∈D)(hz:z<(S o).N)(hq:q<(S o).K z+(S o).V)
  (hck:CK (fun _=>False) w wL)(hmL:wL.heap[mr]? =some (.map es clock))(hm:iA es.toList l')(hl:∀id,getM l' id=if id=o then some ob else getM l id)(hnd:(l'.map (·.1)).Nodup)(hsm:∀x∈l',x.1∈D)
  (hL:aB wL (d.pb z) 28 L0)(hd':d'.pb=d.pb)(hO:sO w' B ob (S o) d' (upd (hd o) ((S o).off z+q)))(hk:Kp (fun b=>b=d.pb z) wL w')
  (hsep:∀id oi,id≠o->getM l id=some oi->∀z1 z2,z1<(S id).N->z2<(S o).N->(A id).pb z1≠d.pb z2):oZ w' B lb mr D S (qA hd o ((S o).off z+q)) l' (fun i=>if i=o then d' else A i):=by
 have hmne:=C9 hmL hL;have zQ:=hck _ _ _ h.Yb (by simp) (by decide) id;refine⟨zQ.of_block (hk.block _ zQ.lt (fun e=>?_)),⟨es,clock,?_,hm⟩,hnd,hsm,fun id hid hg k hk=>?_,fun id oi hg=>?_,fun id oi hg=>?_,fun id id' oi oj hne hg hg' z1 z2 h1 h2=>?_⟩
 ·rw[e]at zQ;have:=(zQ.unique hL).1;exact absurd this (by decide)
 ·rw[hk.block _ (Array.getElem?_eq_some_iff.1 hmL).1 (Ne.symm hmne)];exact hmL
 ·rw[hl]at hg;by_cases e:id=o
  ·rw[if_pos e]at hg;cases hg
  ·rw[if_neg e]at hg;rw[BH _ _ e];exact h.non id hid hg k hk
 ·rw[hl]at hg;by_cases e:id=o
  ·subst e;rw[if_pos rfl]at hg;obtain rfl:=Option.some.inj hg;rw[pE];simpa using hO
  ·rw[if_neg e]at hg;rw[BH _ _ e];simp only[if_neg e];have h1:=(h.obj id oi hg).keep hck (fun _ h=>h.elim) (fun _ _ h=>h);exact h1.keep (CK.KP hk) (fun b hb=>⟨_,hb▸hL⟩) (fun z1 h1=>hsep id oi e hg z1 z h1 hz)
 ·rw[hl]at hg;by_cases e:id=o
  ·subst e;refine⟨(S id).off z+q,(S id).xS hz hq,?_⟩;rw[pE];simp[upd]
  ·rw[if_neg e]at hg;rw[BH _ _ e];exact h.any1 id oi hg
 ·rw[hl]at hg hg';by_cases e:id=o
  ·have e':id'≠o:=fun e'=>hne (e.trans e'.symm);rw[if_neg e']at hg';simp only[if_pos e,if_neg e',hd'];subst e;exact Ne.symm (hsep id' oj e' hg' z2 z1 h2 h1)
  ·rw[if_neg e]at hg;simp only[if_neg e];by_cases e':id'=o
   ·simp only[if_pos e',hd'];subst e';exact hsep id oi e hg z1 z2 h1 h2
   ·rw[if_neg e']at hg';simp only[if_neg e'];exact h.sep id id' oi oj hne hg hg' z1 z2 h1 h2
theorem Wm{w:World}{B lb mr:Nat}{D:List Nat}{S:Nat->Oj}{hd:Nat->Nat->Bool}{l:List (Nat×Nat)}{A:Nat->OD}(h:oZ w B lb mr D S hd l A){o z q gb go eH:Nat}(ok:(S o).Ok)(Y6:D.length<=8)(ho:o∈D)(hz:z<(S o).N)(hq:q<(S o).K z+(S o).V)(hB:B<=w.heap.size)
  (hp:∀j,j<(S o).sz->w.cell? ⟨gb,go+j,none⟩=some (.int .u8 ((((S o).pc z q)[j]?.getD 0:Nat):Int))):
  Calls Tryz.prog 41 #[.map (some mr),dS o (S o).len (S o).sz (S o).ms (S o).V z q,.slice (some ⟨gb,go,none⟩) (S o).sz eH] w fun e w'=>∃b,e= .returned (.bool b)/\((fun(b:Bool) w'=>b=(!hd o ((S o).off z+q))/\(∃l' A',oZ w' B lb mr D S (qA hd o ((S o).off z+q)) l' A')/\Stood B mr w w') b w'):=by
 obtain⟨es,clock,hmap,hm⟩:=h.map;cases hg:getM l o with
 |some ob=>
  refine Wx mr ob o (S o).len (S o).sz (S o).ms (S o).V z q (S o).sz gb go eH clock es l w hmap hm hg (fun w1 hb=>?_);have hO:=(h.obj o ob hg).keep (X:=fun _=>False) (CK.of_below hb) (fun _ h=>h.elim) (fun _ _ h=>h);refine(GV ok hO (id:=o) (eH:=eH) hz hq (fun j hj=>?_)).mono ?_
  ·have:=hp j hj;rw[<-this];exact hb.cell (bG this)
  rintro e w' ⟨b,d',rfl,hbb,hd',WY,hk⟩;have hpr:=(hO.blocks.at_ z hz).row;have hm1:w1.heap[mr]? =some (.map es clock):=by rw[hb.block mr (Array.getElem?_eq_some_iff.1 hmap).1];exact hmap
  have hsz:=hb.size;refine⟨b,rfl,hbb,⟨l,_,h.after ho hz hq (CK.of_below hb) hm1 hm (fun id=>?_) h.nd h.small hpr hd' WY hk (fun id oi hne hgi z1 z2 h1 h2=>h.sep id o oi ob hne hgi hg z1 z2 h1 h2)⟩,⟨fun b hb1 hb2=>?_,?_,hk.os.trans hb.os,hk.output.trans hb.output,fun g t L ht hr=>?_⟩⟩
  ·by_cases e:id=o
   ·rw[if_pos e,e];exact hg
   ·rw[if_neg e]
  ·have hnew:=hO.new z hz;rw[hk.block b (by omega) (by omega),hb.block b (by omega)]
  ·have:=hk.size;omega
  ·have hr1:=hr.later hb;refine hr1.of_block (hk.block _ hr1.lt (fun e=>?_));rw[e]at hr1;exact ht (hr1.unique hpr).1
 |none=>
  have hno:∀x∈l.map (·.1),x≠o:=fun x hx=>by
   obtain⟨y,hy,rfl⟩:=List.mem_map.1 hx;exact getM_none.1 hg y hy
  have hlen:l.length<8:=by
   have:=AQ (o::l.map (·.1)) D (List.nodup_cons.2 ⟨fun hx=>hno o hx rfl,h.nd⟩) (fun x hx=>by
    rcases List.mem_cons.1 hx with rfl|hx
    ·exact ho
    ·obtain⟨y,hy,rfl⟩:=List.mem_map.1 hx;exact h.small y hy)
   simp at this;omega
  refine Pn mr o (S o).len (S o).sz (S o).ms (S o).V z q (S o).sz gb go eH clock (S o).N ok.len ok.s1 ok.s2 ok.m1 ok.m2 ok.v (hide (S o).Wq.symm) ok.N2 es l w hmap hm hg hlen (fun wA wB g vB pb hb hnew hmB=>?_);have hsA:=hb.size;have hsB:=hnew.below.size;have hmr:mr<w.heap.size:=(Array.getElem?_eq_some_iff.1 hmap).1;obtain⟨d,hdp,hO⟩:=sO.fresh ok (B:=B) (by omega) hnew;have hckL:CK (fun _=>False) wB (fK wB mr es clock o (wA.heap.size+1)):=CK.laid hmB;have hOL:=hO.keep hckL (fun _ h=>h.elim) (fun _ _ h=>h);have YA:CK (fun _=>False) w (fK wB mr es clock o (wA.heap.size+1)):=((CK.of_below hb).trans (CK.of_below hnew.below)).trans hckL;have hmL:(fK wB mr es clock o (wA.heap.size+1)).heap[mr]? =some (.map (es.push ⟨.int .i64 (o:Int),.pointer (some ⟨wA.heap.size+1,0,none⟩),clock⟩) (clock+1)):=by
   simp[fK,show mr<wB.heap.size by omega]
  have hlow:∀b,b<w.heap.size->b≠mr->(fK wB mr es clock o (wA.heap.size+1)).heap[b]? =w.heap[b]? :=fun b h1 h2=>by
   have:(fK wB mr es clock o (wA.heap.size+1)).heap[b]? =wB.heap[b]? :=by simp[fK,Ne.symm h2]
   rw[this,hnew.below.block b (by omega),hb.block b h1]
  refine(GV ok hOL (id:=o) (eH:=eH) hz hq (fun j hj=>?_)).mono ?_
  ·have hc:=hp j hj;rw[<-hc];refine World.cell?_of_block (hlow gb (bG hc) (fun e=>?_));subst e;simp[World.cell?,hmap]at hc
  rintro e w' ⟨b,d',rfl,hbb,hd',WY,hk⟩;have hpr:=(hOL.blocks.at_ z hz).row;have hO2:sO w' B (wA.heap.size+1) (S o) d' (upd (hd o) ((S o).off z+q)):=⟨WY.row,WY.bbr,WY.blocks,fun z' hz' n' hn'=>by
   rw[WY.heard z' hz' n' hn'];unfold upd;split
   ·rfl
   ·exact(h.non o ho hg _ ((S o).xS hz' hn')).symm,WY.inj,WY.new⟩
  have hpbz:=(hnew.row z hz).1;rw[<-hdp]at hpbz;have hsL:(fK wB mr es clock o (wA.heap.size+1)).heap.size=wB.heap.size:=by simp[fK]
  refine⟨b,rfl,hbb.trans (by rw[h.non o ho hg _ ((S o).xS hz hq)]),⟨l++ [(o,wA.heap.size+1)],_,h.after ho hz hq YA hmL (Jk hm _ _ _) (OE hg) ?_ ?_ hpr hd' hO2 hk (fun id oi hne hgi z1 z2 h1 h2=>?_)⟩,⟨fun b hb1 hb2=>?_,?_,?_,?_,fun g t L ht hr=>?_⟩⟩
  ·rw[List.map_append];refine List.nodup_append.2 ⟨h.nd,by simp,fun a ha b hb=>?_⟩;simp at hb;subst hb;exact hno a ha
  ·intro x hx;rcases List.mem_append.1 hx with hx|hx
   ·exact h.small x hx
   ·simp at hx;subst hx;exact ho
  ·have hr1:=((h.obj id oi hgi).blocks.at_ z1 h1).row.lt;have hr2:=(hnew.row z2 h2).1;rw[hdp];omega
  ·rw[hk.block b (by omega) (by omega)];exact hlow b (by omega) hb2
  ·have:=hk.size;omega
  ·rw[hk.os];exact hnew.below.os.trans hb.os
  ·rw[hk.output];exact hnew.below.output.trans hb.output
  ·have hr1:aB (fK wB mr es clock o (wA.heap.size+1)) g _ L:=hr.of_block (hlow g hr.lt (C9 hmap hr));refine hr1.of_block (hk.block _ hr1.lt (fun e=>?_));have:=hr.lt;omega
end Go.Proofs.YtmfpiodlecapiaaGreatDoor
