import Derived.Test.YtmfpiodlecapiaaJ37
namespace Go.Proofs.Ytmfpiodlecapiaa
open Go.Conc Go.ConcN Go.RowKit Go.Frag Go.Ren Go.Poi Go.Deep Go.Grp
attribute [local go_sem↓] Go.wp_at_zero Go.wp_at_succ
set_option linter.unusedSimpArgs false in
set_option maxRecDepth 100000 in
set_option maxHeartbeats 4000000 in
theorem told_head{Sh:Nat->Prop}{Post:(Nat->Prop)->Goroutine->World->Prop}{p:World}{ds:List Frame}{gn N capn gh M caph sz ms V:Nat}{Kz:Nat->Nat}{pa:Nat->Nat->Option Addr}{v0 v1 v2:Value}(hN:N<=256)(hK:∀z,z<N->Kz z+V<=40)(hM:offK Kz V N=M)
  (hn:∀z,z<N->p.cell? ⟨gn,z,none⟩=some (.int .i64 (Kz z:Nat)))(hh:∀z,z<N->∀j,j<Kz z+V->p.cell? ⟨gh,offK Kz V z+j,none⟩=some (.bool (pa z j).isSome))
  (hend:∀h16 h17 h18 h23 h24 h25 h26 h27 h28 h29 h30 h31 h32 h33 h34 h35 h36 h37 h38 h39 h40 h41 h42 h43 h44 h45 h46 h47 h48 h49 h50 h51 h52 h53 h54 h55 h56 h57 h58 h59 h60 h61 h62 h63 h64 h65 h66 h67,qR Try.prog Sh (G ((base 30).at ⟨#[v0,v1,v2,.slice (some ⟨gn,0,none⟩) N capn,.agg #[.int .i64 sz,.int .i64 ms,.int .i64 V],.slice (some ⟨gh,0,none⟩) M caph,undef,undef,undef,undef,.pointer (some ⟨p.heap.size,0,none⟩),undef,.bool false,.int .i64 M,.int .i64 (whoH Kz V pa N:Nat),.int .i64 (sumH Kz V pa N:Nat),h16,h17,h18,undef,undef,undef,undef,h23,h24,h25,h26,h27,h28,h29,h30,h31,h32,h33,h34,h35,h36,h37,h38,h39,h40,h41,h42,h43,h44,h45,h46,h47,h48,h49,h50,h51,h52,h53,h54,h55,h56,h57,h58,h59,h60,h61,h62,h63,h64,h65,h66,h67,undef,undef,undef,undef,undef,undef,undef,undef,undef,undef,undef,undef,undef,undef,undef,undef,undef,undef,undef,undef,undef,undef,undef,undef,undef,undef,undef,undef,undef,undef,undef,undef,undef,undef,undef,undef,undef,undef,undef,undef,undef,undef,undef,undef,undef,undef,undef,undef,undef,undef,undef,undef,undef,undef,undef,undef,undef,undef,undef,undef,undef,undef,undef,undef,undef,undef],[]⟩ [.code (pth [1,1,1,1,1] (Try.f30.body.getD .skip))]) ds) (p.alloc (.cells #[.int .i64 sz,.int .i64 ms,.int .i64 V] 30)) Post):
  qR Try.prog Sh (G ((base 30).at ⟨#[v0,v1,v2,.slice (some ⟨gn,0,none⟩) N capn,.agg #[.int .i64 sz,.int .i64 ms,.int .i64 V],.slice (some ⟨gh,0,none⟩) M caph,undef,undef,undef,undef,undef,undef,undef,undef,undef,undef,undef,undef,undef,undef,undef,undef,undef,undef,undef,undef,undef,undef,undef,undef,undef,undef,undef,undef,undef,undef,undef,undef,undef,undef,undef,undef,undef,undef,undef,undef,undef,undef,undef,undef,undef,undef,undef,undef,undef,undef,undef,undef,undef,undef,undef,undef,undef,undef,undef,undef,undef,undef,undef,undef,undef,undef,undef,undef,undef,undef,undef,undef,undef,undef,undef,undef,undef,undef,undef,undef,undef,undef,undef,undef,undef,undef,undef,undef,undef,undef,undef,undef,undef,undef,undef,undef,undef,undef,undef,undef,undef,undef,undef,undef,undef,undef,undef,undef,undef,undef,undef,undef,undef,undef,undef,undef,undef,undef,undef,undef,undef,undef,undef,undef,undef,undef,undef,undef],[]⟩ [.code (Try.f30.body.getD .skip)]) ds) p Post:=by
 have HE:=hide hend;have Hn:=hide hn;have Hh:=hide hh;have HK:=hide hK;have HM:=hide hM
 clear hend hn hh hK hM;conv=>arg 3;simp only[Try.f30,Option.getD_some]
 refine qR.seq (qR.runV qJ (by kernel_rfl) fun τ d=>?_);go_wp2;rw[show(p.re τ d).heap.size=p.heap.size from rfl];refine qR.re (p:=p.alloc (.cells #[.int .i64 sz,.int .i64 ms,.int .i64 V] 30)) ?_ τ d;refine qR.seq (qR.runV qJ (by kernel_rfl) fun τ d=>?_);go_wp2;refine qR.re ?_ _ _;refine qR.seq (qR.runV qJ (by kernel_rfl) fun τ d=>?_);go_wp2;refine qR.re ?_ _ _;refine qR.seq (qR.runV qJ (by kernel_rfl) fun τ d=>?_);go_wp2;refine qR.re ?_ _ _;refine qR.seq (qR.runP qJ (by kernel_rfl) fun τ d=>?_);refine told_loops gn N capn gh M caph p.heap.size V Kz pa hN HK.out HM.out _ (fun z hz=>?_) (fun z hz j hj=>?_) ?_ (fun wz hz h16 h17 h18 h23 h24 h25 h26 h27 h28 h29 h30 h31 h32 h33 h34 h35 h36 h37 h38 h39 h40 h41 h42 h43 h44 h45 h46 h47 h48 h49 h50 h51 h52 h53 h54 h55 h56 h57 h58 h59 h60 h61 h62 h63 h64 h65 h66 h67=>?_)
 ·have:=Hn.out z hz;rw[<-this];exact World.cell?_of_block (w:=p) (blk_alloc_lt _ _ _ (cellLt this))
 ·have:=Hh.out z hz j hj;rw[<-this];exact World.cell?_of_block (w:=p) (blk_alloc_lt _ _ _ (cellLt this))
 ·exact(rowL_alloc' p #[.int .i64 sz,.int .i64 ms,.int .i64 V] 30).cell 2 _ rfl
 ·obtain⟨nq,rfl⟩:=hz;refine qR.re (p:=p.alloc (.cells #[.int .i64 sz,.int .i64 ms,.int .i64 V] 30)) ?_ τ (d+nq);exact HE.out h16 h17 h18 h23 h24 h25 h26 h27 h28 h29 h30 h31 h32 h33 h34 h35 h36 h37 h38 h39 h40 h41 h42 h43 h44 h45 h46 h47 h48 h49 h50 h51 h52 h53 h54 h55 h56 h57 h58 h59 h60 h61 h62 h63 h64 h65 h66 h67
set_option linter.unusedSimpArgs false in
set_option maxRecDepth 100000 in
set_option maxHeartbeats 4000000 in
theorem told_obj{Sh:Nat->Prop}{Post:(Nat->Prop)->Goroutine->World->Prop}{p:World}{ds:List Frame}{t2 t3 t4 t5 t6 t7 t8 t9 n6 g5 a6 d1 n5 n4 a8 f3 c3 n7 n8 e1 c8 c1 j2 d7 e3 k7 g2 b5 j4 f8 m1 g6 a5 m2 l1 i9 d4 d8 b9 l0 h8 k0 k6 f1 m0 e5 d5 l5 l7 m6 h9 i4 h7 e9 a9 g7 i5 h4 c9 k5 l2 e7 g8 k9 c7 j0 m8 m9 n0 n2 n3 n1 e4 i2 k4 h6 c0 i0 a4 a7 f4 i3 j1 e2 f7 f9 j5 e8 m7 d9 j8 i6 b6 g1 h5 l8 b4 j3 g0 l4 d2 l6 e0 k8 f5 d0 c6 b8 g3 i1 e6 f6 c5 b7 g4 l9 l3 f2 d3 d6 i7 c4 b3 i8 m5 f0 g9 j9 m4 m3 j7 j6:Value}{lb mr ob id len sz ms bb N V s cap clock:Nat}{es:Array MapEntry}{l:List (Nat×Nat)}{Kz:Nat->Nat}{pb:Nat->Nat}{pa:Nat->Nat->Option Addr}{pl pc:Nat->Nat->Nat}{blk:Nat->List Nat}
  (hlis:p.heap[lb]? =some (.cells #[.map (some mr)] 91))(hmap:p.heap[mr]? =some (.map es clock))(hm:MapIs es.toList l)(hg:getM l id=some ob)(hobj:p.heap[ob]? =some (.cells #[.int .i64 len,.int .i64 sz,.int .i64 ms,.int .i64 V,.slice (some ⟨bb,0,none⟩) N cap] 109))(hO:ObjB p bb N V s Kz pb pa pl pc blk)(hlen:len<=((List.range N).map blk).flatten.length)
  (hend:∀(S:Nat->Prop) (q:World) (v v2:Value) (ok:Bool) (e:Int),AfterO Sh S p q N V Kz pa blk v ok->(ok=false->v2= .slice none 0 0/\e=7)->(ok=true->e=0/\∃g c,v2= .slice (some ⟨g,0,none⟩) len c/\len<=c/\∀j,j<len->q.cell? ⟨g,j,none⟩=some (.int .u8 ((((List.range N).map blk).flatten[j]?.getD 0:Nat):Int)))->
   qR Try.prog S (G ((base 30).at ⟨#[.pointer (some ⟨lb,0,none⟩),.int .i64 id,t2,t3,t4,t5,t6,t7,t8,t9,n6,g5,a6,d1,n5,n4,a8,f3,c3,v2,.int .i64 e,e1,c8,c1,j2,d7,e3,k7,g2,b5,j4,f8,m1,g6,a5,m2,l1,i9,d4,d8,b9,l0,h8,k0,k6,f1,m0,e5,d5,l5,l7,m6,h9,i4,h7,e9,a9,g7,i5,h4,c9,k5,l2,e7,g8,k9,c7,j0,.tuple #[v2,.int .i64 e],.pointer (some ⟨lb,0,none⟩),.int .i64 id,.tuple #[v2,.int .i64 e],v2,.int .i64 e,e4,i2,k4,h6,c0,i0,a4,a7,f4,i3,j1,e2,f7,f9,j5,e8,m7,d9,j8,i6,b6,g1,h5,l8,b4,j3,g0,l4,d2,l6,e0,k8,f5,d0,c6,b8,g3,i1,e6,f6,c5,b7,g4,l9,l3,f2,d3,d6,i7,c4,b3,i8,m5,f0,g9,j9,m4,m3,j7,j6],[]⟩ [.code (pth [1,1,1,1,1,1] (Try.f30.body.getD .skip))]) ds) q Post):
  qR Try.prog Sh (G ((base 30).at ⟨#[.pointer (some ⟨lb,0,none⟩),.int .i64 id,t2,t3,t4,t5,t6,t7,t8,t9,n6,g5,a6,d1,n5,n4,a8,f3,c3,n7,n8,e1,c8,c1,j2,d7,e3,k7,g2,b5,j4,f8,m1,g6,a5,m2,l1,i9,d4,d8,b9,l0,h8,k0,k6,f1,m0,e5,d5,l5,l7,m6,h9,i4,h7,e9,a9,g7,i5,h4,c9,k5,l2,e7,g8,k9,c7,j0,m8,m9,n0,n2,n3,n1,e4,i2,k4,h6,c0,i0,a4,a7,f4,i3,j1,e2,f7,f9,j5,e8,m7,d9,j8,i6,b6,g1,h5,l8,b4,j3,g0,l4,d2,l6,e0,k8,f5,d0,c6,b8,g3,i1,e6,f6,c5,b7,g4,l9,l3,f2,d3,d6,i7,c4,b3,i8,m5,f0,g9,j9,m4,m3,j7,j6],[]⟩ [.code (pth [1,1,1,1,1] (Try.f30.body.getD .skip))]) ds) p Post:=by
 have HO:=hide hO;have HE:=hide hend
 clear hO hend;conv=>arg 3;simp only[Try.f30,Option.getD_some,pth]
 refine qR.seq (qR.reg (todo:= [0,1,2,3,4,5,6,7]) rfl ?_);refine qR.o qJ (by kernel_rfl) rfl rfl (fun τ d K hK=>?_);go_simp;refine hK _ _ ?_;clear hK;refine qR.re ?_ _ _;try walk_nrm
 refine qR.o qJ (by kernel_rfl) rfl rfl (fun τ d K hK=>?_);go_simp;refine hK _ _ ?_;clear hK;refine qR.re ?_ _ _;try walk_nrm
 refine qR.callT rfl rfl (by decide) rfl Try.func48 rfl rfl (T':=#[.pointer (some ⟨lb,0,none⟩),.int .i64 id,undef,undef,undef,undef,undef,undef,undef,undef,undef,undef,undef,undef,undef,undef,undef,undef,undef,undef,undef,undef,undef,undef,undef,undef,undef,undef,undef,undef,undef,undef,undef,undef,undef,undef,undef,undef]) (by simp[Act.eval,Try.f48]) ?_;refine object_bto (o:=?o) ?ho hlis hmap hm hg hobj HO.out hlen (fun S q v v2 ok e h1 h2 h3=>?hend)
 case ho=>rfl
 case hend=>
 try walk_nrm
 refine qR.o qJ (by kernel_rfl) rfl rfl (fun τ d K hK=>?_);go_simp;refine hK _ _ ?_;clear hK;refine qR.re ?_ _ _;try walk_nrm
 refine qR.o qJ (by kernel_rfl) rfl rfl (fun τ d K hK=>?_);go_simp;refine hK _ _ ?_;clear hK;refine qR.re ?_ _ _;try walk_nrm
 refine qR.o qJ (by kernel_rfl) rfl rfl (fun τ d K hK=>?_);go_simp;refine hK _ _ ?_;clear hK;refine qR.re ?_ _ _;try walk_nrm
 refine qR.o qJ (by kernel_rfl) rfl rfl (fun τ d K hK=>?_);go_simp;refine hK _ _ ?_;clear hK;refine qR.re ?_ _ _;try walk_nrm
 refine qR.o qJ (by kernel_rfl) rfl rfl (fun τ d K hK=>?_);go_simp;refine hK _ _ ?_;clear hK;refine qR.re ?_ _ _;try walk_nrm
 refine qR.regEnd ?_;exact HE.out S q v v2 ok e h1 h2 h3
set_option linter.unusedSimpArgs false in
set_option maxRecDepth 100000 in
set_option maxHeartbeats 4000000 in
theorem told_more{Sh:Nat->Prop}{Post:(Nat->Prop)->Goroutine->World->Prop}{q:World}{cfn:FuncId}{ca:Act}{cops:Array Oper}{ci:Nat}{crest:List Nat}{ck:List Item}{cs:List Frame}{o:Oper}(ho:cops[ci]? =some o){t4 t5 t6 t7 t8 t9 g5 a6 d1 a8 f3 c3 e1 c8 c1 j2 d7 e3 k7 g2 b5 j4 f8 m1 g6 a5 m2 l1 i9 d4 d8 b9 l0 h8 k0 k6 f1 m0 e5 d5 l5 l7 m6 h9 i4 h7 e9 a9 g7 i5 h4 c9 k5 l2 e7 g8 k9 c7 j0 m8 m9 n0 n2 n3 n1 e4 i2 k4 h6 c0 i0 a4 a7 f4 i3 j1 e2 f7 f9 j5 e8 m7 d9 j8 i6 b6 g1 h5 l8 b4 j3 g0 l4 d2 l6 e0 k8 f5 d0 c6 b8 g3 i1 e6 f6 c5 b7 g4 l9 l3 f2 d3 d6 i7 c4 b3 i8 m5 f0 g9 j9 m4 m3 j7 j6:Value}{lb id gb go len capb gn N capn pl sz ms V sm wh:Nat}(hw:wh<N)
  (hlook:∀τ d,Calls Try.prog 29 #[.pointer (some ⟨lb,0,none⟩),.int .i64 id] (q.re τ d) fun e w'=>e= .returned (.tuple #[.agg #[.int .i64 (len:Nat),.int .i64 (sz:Nat),.int .i64 (ms:Nat),.int .i64 (V:Nat),.int .i64 (sm:Nat),.int .i64 (N:Nat),.int .i64 (wh:Nat)],.int .i64 0])/\Below q.heap.size (q.re τ d) w')
  (h0:q.cell? ⟨pl,0,none⟩=some (.int .i64 sz))(h1:q.cell? ⟨pl,1,none⟩=some (.int .i64 ms))(h2:q.cell? ⟨pl,2,none⟩=some (.int .i64 V))
  (hend:∀τ d q',Below q.heap.size (q.re τ d) q'->qR Try.prog Sh (G ((base cfn).at (ca.put o.dst (.bool true)) (.inRegion cops crest::ck)) cs) q' Post):
  qR Try.prog Sh (G ((base 30).at ⟨#[.pointer (some ⟨lb,0,none⟩),.int .i64 id,.slice (some ⟨gb,go,none⟩) len capb,.slice (some ⟨gn,0,none⟩) N capn,t4,t5,t6,t7,t8,t9,.pointer (some ⟨pl,0,none⟩),g5,a6,d1,.int .i64 (wh:Nat),.int .i64 (sm:Nat),a8,f3,c3,.slice none 0 0,.int .i64 7,e1,c8,c1,j2,d7,e3,k7,g2,b5,j4,f8,m1,g6,a5,m2,l1,i9,d4,d8,b9,l0,h8,k0,k6,f1,m0,e5,d5,l5,l7,m6,h9,i4,h7,e9,a9,g7,i5,h4,c9,k5,l2,e7,g8,k9,c7,j0,m8,m9,n0,n2,n3,n1,e4,i2,k4,h6,c0,i0,a4,a7,f4,i3,j1,e2,f7,f9,j5,e8,m7,d9,j8,i6,b6,g1,h5,l8,b4,j3,g0,l4,d2,l6,e0,k8,f5,d0,c6,b8,g3,i1,e6,f6,c5,b7,g4,l9,l3,f2,d3,d6,i7,c4,b3,i8,m5,f0,g9,j9,m4,m3,j7,j6],[]⟩ [.code (pth [1,1,1,1,1,1] (Try.f30.body.getD .skip))]) ((base cfn).at ca (.inRegion cops (ci::crest)::ck)::cs)) q Post:=by
 have HE:=hide hend;have HL:=hide hlook
 clear hend hlook;conv=>arg 3;simp only[Try.f30,Option.getD_some,pth]
 refine qR.runV qJ (by kernel_rfl) fun τ d=>?_;have hLk:=hide (HL.out τ d);have hpl:pl<q.heap.size:=cellLt h0;have hKeep:Hid (∀w5:World,Below q.heap.size (q.re τ d) w5->w5.cell? ⟨pl,0,none⟩=some (.int .i64 sz)/\w5.cell? ⟨pl,1,none⟩=some (.int .i64 ms)/\w5.cell? ⟨pl,2,none⟩=some (.int .i64 V)/\pl<w5.heap.size):=fun w5 hb=>⟨by rw[hb.cell (show pl<q.heap.size from hpl)];exact h0,by rw[hb.cell (show pl<q.heap.size from hpl)];exact h1,by rw[hb.cell (show pl<q.heap.size from hpl)];exact h2,Nat.lt_of_lt_of_le hpl hb.size⟩;have hAl:Hid (∀w5:World,pl<w5.heap.size->∀o k,(w5.alloc o).cell? ⟨pl,k,none⟩=w5.cell? ⟨pl,k,none⟩):=fun w5 hl o k=>World.cell?_alloc_old _ _ _ (show pl≠w5.heap.size by omega);have hwi:(wh:Int)<(N:Int):=by omega
 go_wp2_with (go_at_call 29;refine hLk.out.mono ?_;rintro _ w5 ⟨rfl,hb5⟩;obtain⟨a0,a1,a2,a3⟩:=hKeep.out w5 hb5;have b0:=(hAl.out w5 a3 (.cells #[.int .i64 (len:Nat),.int .i64 (sz:Nat),.int .i64 (ms:Nat),.int .i64 (V:Nat),.int .i64 (sm:Nat),.int .i64 (N:Nat),.int .i64 (wh:Nat)] 64) 0).trans a0;have b1:=(hAl.out w5 a3 (.cells #[.int .i64 (len:Nat),.int .i64 (sz:Nat),.int .i64 (ms:Nat),.int .i64 (V:Nat),.int .i64 (sm:Nat),.int .i64 (N:Nat),.int .i64 (wh:Nat)] 64) 1).trans a1;have b2:=(hAl.out w5 a3 (.cells #[.int .i64 (len:Nat),.int .i64 (sz:Nat),.int .i64 (ms:Nat),.int .i64 (V:Nat),.int .i64 (sm:Nat),.int .i64 (N:Nat),.int .i64 (wh:Nat)] 64) 2).trans a2;replace hb5:=hide hb5)
 intro todo;exact qR.back ho Try.func30 (v:=.bool true) (by simp[results,Try.f30,go_sem]) (by simp[results,Try.f30]) (HE.out τ d _ (hb5.out.alloc hb5.out.size _))
set_option linter.unusedSimpArgs false in
set_option maxRecDepth 100000 in
set_option maxHeartbeats 4000000 in
theorem told_whole{Sh:Nat->Prop}{Post:(Nat->Prop)->Goroutine->World->Prop}{q:World}{cfn:FuncId}{ca:Act}{cops:Array Oper}{ci:Nat}{crest:List Nat}{ck:List Item}{cs:List Frame}{o:Oper}(ho:cops[ci]? =some o){t4 t5 t6 t7 t8 t9 g5 a6 d1 a8 f3 c3 e1 c8 c1 j2 d7 e3 k7 g2 b5 j4 f8 m1 g6 a5 m2 l1 i9 d4 d8 b9 l0 h8 k0 k6 f1 m0 e5 d5 l5 l7 m6 h9 i4 h7 e9 a9 g7 i5 h4 c9 k5 l2 e7 g8 k9 c7 j0 m8 m9 n0 n2 n3 n1 e4 i2 k4 h6 c0 i0 a4 a7 f4 i3 j1 e2 f7 f9 j5 e8 m7 d9 j8 i6 b6 g1 h5 l8 b4 j3 g0 l4 d2 l6 e0 k8 f5 d0 c6 b8 g3 i1 e6 f6 c5 b7 g4 l9 l3 f2 d3 d6 i7 c4 b3 i8 m5 f0 g9 j9 m4 m3 j7 j6:Value}{lb id gb go g c2 len capb gn N capn pl sz ms V sm wh:Nat}(hw:wh=N)(bs:List Nat)(hl:Hid (bs.length=len))(hg1:∀j,j<len->q.cell? ⟨g,j,none⟩=some (.int .u8 ((bs[j]?.getD 0:Nat):Int)))(hg2:∀j,j<len->q.cell? ⟨gb,go+j,none⟩=some (.int .u8 ((bs[j]?.getD 0:Nat):Int)))
  (hlook:∀τ d,Calls Try.prog 29 #[.pointer (some ⟨lb,0,none⟩),.int .i64 id] (q.re τ d) fun e w'=>e= .returned (.tuple #[.agg #[.int .i64 (len:Nat),.int .i64 (sz:Nat),.int .i64 (ms:Nat),.int .i64 (V:Nat),.int .i64 (sm:Nat),.int .i64 (N:Nat),.int .i64 (wh:Nat)],.int .i64 0])/\Below q.heap.size (q.re τ d) w')
  (h0:q.cell? ⟨pl,0,none⟩=some (.int .i64 sz))(h1:q.cell? ⟨pl,1,none⟩=some (.int .i64 ms))(h2:q.cell? ⟨pl,2,none⟩=some (.int .i64 V))
  (hend:∀τ d q',Below q.heap.size (q.re τ d) q'->qR Try.prog Sh (G ((base cfn).at (ca.put o.dst (.bool true)) (.inRegion cops crest::ck)) cs) q' Post):
  qR Try.prog Sh (G ((base 30).at ⟨#[.pointer (some ⟨lb,0,none⟩),.int .i64 id,.slice (some ⟨gb,go,none⟩) len capb,.slice (some ⟨gn,0,none⟩) N capn,t4,t5,t6,t7,t8,t9,.pointer (some ⟨pl,0,none⟩),g5,a6,d1,.int .i64 (wh:Nat),.int .i64 (sm:Nat),a8,f3,c3,.slice (some ⟨g,0,none⟩) len c2,.int .i64 0,e1,c8,c1,j2,d7,e3,k7,g2,b5,j4,f8,m1,g6,a5,m2,l1,i9,d4,d8,b9,l0,h8,k0,k6,f1,m0,e5,d5,l5,l7,m6,h9,i4,h7,e9,a9,g7,i5,h4,c9,k5,l2,e7,g8,k9,c7,j0,m8,m9,n0,n2,n3,n1,e4,i2,k4,h6,c0,i0,a4,a7,f4,i3,j1,e2,f7,f9,j5,e8,m7,d9,j8,i6,b6,g1,h5,l8,b4,j3,g0,l4,d2,l6,e0,k8,f5,d0,c6,b8,g3,i1,e6,f6,c5,b7,g4,l9,l3,f2,d3,d6,i7,c4,b3,i8,m5,f0,g9,j9,m4,m3,j7,j6],[]⟩ [.code (pth [1,1,1,1,1,1] (Try.f30.body.getD .skip))]) ((base cfn).at ca (.inRegion cops (ci::crest)::ck)::cs)) q Post:=by
 have HE:=hide hend;have HL:=hide hlook
 clear hend hlook;conv=>arg 3;simp only[Try.f30,Option.getD_some,pth]
 refine qR.runV qJ (by kernel_rfl) fun τ d=>?_;have hLk:=hide (HL.out τ d);have hpl:pl<q.heap.size:=cellLt h0;have hKeep:Hid (∀w5:World,Below q.heap.size (q.re τ d) w5->w5.cell? ⟨pl,0,none⟩=some (.int .i64 sz)/\w5.cell? ⟨pl,1,none⟩=some (.int .i64 ms)/\w5.cell? ⟨pl,2,none⟩=some (.int .i64 V)/\pl<w5.heap.size):=fun w5 hb=>⟨by rw[hb.cell (show pl<q.heap.size from hpl)];exact h0,by rw[hb.cell (show pl<q.heap.size from hpl)];exact h1,by rw[hb.cell (show pl<q.heap.size from hpl)];exact h2,Nat.lt_of_lt_of_le hpl hb.size⟩;have hAl:Hid (∀w5:World,pl<w5.heap.size->∀o k,(w5.alloc o).cell? ⟨pl,k,none⟩=w5.cell? ⟨pl,k,none⟩):=fun w5 hl o k=>World.cell?_alloc_old _ _ _ (show pl≠w5.heap.size by omega);have hwi:¬(wh:Int)<(N:Int):=by omega
 replace hw:=hide hw;have hCv:Hid (∀w5:World,Below q.heap.size (q.re τ d) w5->∀o,(convert 36 9 (.slice (some ⟨g,0,none⟩) len c2)).run Try.prog (w5.alloc o)= .ok (.string (strOfNums (bs.map (fun n:Nat=>(n:Int))))) (w5.alloc o)/\(convert 36 9 (.slice (some ⟨gb,go,none⟩) len capb)).run Try.prog (w5.alloc o)= .ok (.string (strOfNums (bs.map (fun n:Nat=>(n:Int))))) (w5.alloc o)):=fun w5 hb o=>by
  have kp:∀(a:Addr) (v:Value),q.cell? a=some v->(w5.alloc o).cell? a=some v:=fun a v h=>by
   have:=cellLt h;rw[World.cell?_alloc_old _ _ _ (by have:=hb.size;have e:(q.re τ d).heap.size=q.heap.size:=rfl;omega),hb.cell (show a.block<q.heap.size from this)];exact h
  exact⟨conv_bytes hl.out (fun j hj=>kp _ _ (by rw[Nat.zero_add];exact hg1 j hj)),conv_bytes hl.out (fun j hj=>kp _ _ (hg2 j hj))⟩
 generalize strOfNums (bs.map (fun n:Nat=>(n:Int)))=str at hCv;have Hl:=hide hg1;have Hl2:=hide hg2
 clear hg1 hg2;go_wp2_with (go_at_call 29;refine hLk.out.mono ?_;rintro _ w5 ⟨rfl,hb5⟩;obtain⟨a0,a1,a2,a3⟩:=hKeep.out w5 hb5;have b0:=(hAl.out w5 a3 (.cells #[.int .i64 (len:Nat),.int .i64 (sz:Nat),.int .i64 (ms:Nat),.int .i64 (V:Nat),.int .i64 (sm:Nat),.int .i64 (N:Nat),.int .i64 (wh:Nat)] 64) 0).trans a0;have b1:=(hAl.out w5 a3 (.cells #[.int .i64 (len:Nat),.int .i64 (sz:Nat),.int .i64 (ms:Nat),.int .i64 (V:Nat),.int .i64 (sm:Nat),.int .i64 (N:Nat),.int .i64 (wh:Nat)] 64) 1).trans a1;have b2:=(hAl.out w5 a3 (.cells #[.int .i64 (len:Nat),.int .i64 (sz:Nat),.int .i64 (ms:Nat),.int .i64 (V:Nat),.int .i64 (sm:Nat),.int .i64 (N:Nat),.int .i64 (wh:Nat)] 64) 2).trans a2;obtain⟨y1,y2⟩:=hCv.out w5 hb5 (.cells #[.int .i64 (len:Nat),.int .i64 (sz:Nat),.int .i64 (ms:Nat),.int .i64 (V:Nat),.int .i64 (sm:Nat),.int .i64 (N:Nat),.int .i64 (wh:Nat)] 64);replace hb5:=hide hb5)
 intro todo;exact qR.back ho Try.func30 (v:=.bool true) (by simp[results,Try.f30,go_sem]) (by simp[results,Try.f30]) (HE.out τ d _ (hb5.out.alloc hb5.out.size _))
end Go.Proofs.Ytmfpiodlecapiaa
namespace Go.Proofs.Ytmfpiodlecapiaa
theorem whoH_full(Kz:Nat->Nat)(V:Nat)(pa:Nat->Nat->Option Addr):∀N,whoH Kz V pa N=N↔∀z,z<N->Kz z<=cntH (pa z) (Kz z+V)
 |0=>⟨fun _ z h=>by omega,fun _=>rfl⟩
 |N+1=>by
  have ih:=whoH_full Kz V pa N;have hl:=whoH_le Kz V pa N;simp only[whoH];constructor
  ·intro h z hz;by_cases hc:Kz N<=cntH (pa N) (Kz N+V)
   ·rw[if_pos hc]at h;by_cases e:z=N
    ·subst e;exact hc
    ·exact ih.1 (by omega) z (by omega)
   ·rw[if_neg hc]at h;omega
  ·intro h;rw[if_pos (h N (by omega)),ih.2 (fun z hz=>h z (by omega))]
theorem cntH_split(pa:Nat->Option Addr)(K:Nat):∀V,cntH pa (K+V)=cntH pa K+cntH (fun j=>pa (K+j)) V
 |0=>rfl
 |V+1=>by
  rw[<-Nat.add_assoc];simp only[cntH,cntH_split pa K V];omega
theorem picks_true(pa:Nat->Option Addr):∀n,(picks pa true n).length=cntH pa n
 |0=>rfl
 |n+1=>by
  have:=picks_true pa n;simp only[cntH,<-this,picks_succ];cases pa n<;>simp
theorem picks_false(pa:Nat->Option Addr):∀n,(picks pa false n).length+cntH pa n=n
 |0=>rfl
 |n+1=>by
  have:=picks_false pa n;simp only[cntH,picks_succ];cases pa n<;>simp<;>omega
theorem wholeOf_cnt(pa:Nat->Option Addr)(K V:Nat):wholeOf pa K V=true↔K<=cntH pa (K+V):=by
 have h1:=picks_true (fun j=>pa (K+j)) V;have h2:=picks_false pa K;have h3:=cntH_split pa K V;simp only[wholeOf,decide_eq_true_eq];omega
open Go.Conc Go.ConcN Go.RowKit Go.Frag Go.Ren Go.Poi Go.Deep Go.Grp
structure AfterT(Sh Sh':Nat->Prop)(p p':World):Prop where
 grown:p.heap.size<=p'.heap.size
 keep:∀(b:Nat) o,p.heap[b]? =some o->Live o->p'.heap[b]? =some o
 old:∀b,b<p.heap.size->¬Sh b->¬Sh' b/\p'.heap[b]? =p.heap[b]?
 os:p'.os=p.os
 output:p'.output=p.output
theorem LSt.afterT{Sh Sh':Nat->Prop}{w w':World}{B lb mr:Nat}{D:List Nat}{S:Nat->Oj}{hd:Nat->Nat->Bool}{l:List (Nat×Nat)}{A:Nat->OD}(h:LSt w B lb mr D S hd l A)(ha:AfterT Sh Sh' w w'):LSt w' B lb mr D S hd l A:=by
 refine h.keep (CK.of_live ha.keep) ?_;obtain⟨es,clock,hm,_⟩:=h.map;rw[hm];exact ha.keep _ _ hm (fun _ _ e=>by cases e)
theorem whoH_congr{Kz:Nat->Nat}{V:Nat}{pa:Nat->Nat->Option Addr}{N:Nat}(ok:Bool)(h:ok=true↔∀z,z<N->wholeOf (pa z) (Kz z) V=true):ok=true↔whoH Kz V pa N=N:=by
 rw[h,whoH_full];constructor
 ·intro h1 z hz;exact(wholeOf_cnt _ _ _).1 (h1 z hz)
 ·intro h1 z hz;exact(wholeOf_cnt _ _ _).2 (h1 z hz)
theorem look_lst{w:World}{B lb mr:Nat}{D:List Nat}{S:Nat->Oj}{hd:Nat->Nat->Bool}{l:List (Nat×Nat)}{A:Nat->OD}(h:LSt w B lb mr D S hd l A){id ob:Nat}(hg:getM l id=some ob):
  Calls Try.prog 29 #[.pointer (some ⟨lb,0,none⟩),.int .i64 id] w fun e w'=>
   e= .returned (.tuple #[.agg #[.int .i64 (((S id).len:Nat)),.int .i64 (((S id).sz:Nat)),.int .i64 (((S id).ms:Nat)),.int .i64 (((S id).V:Nat)),.int .i64 ((sumH (S id).K (S id).V (A id).pa (S id).N:Nat)),.int .i64 (((S id).N:Nat)),.int .i64 ((whoH (S id).K (S id).V (A id).pa (S id).N:Nat))],.int .i64 0])/\Below w.heap.size w w':=by
 obtain⟨es,clock,hmap,hm⟩:=h.map;refine llook_some mr lb id clock es l w (h.lis.cell 0 _ rfl) hmap hm ob _ _ _ _ _ _ _ hg (fun w1 hb=>?_);have hO:=(h.obj id ob hg).keep (X:=fun _=>False) (CK.of_below hb) (fun _ h=>h.elim) (fun _ _ h=>h);have hB:=hO.blocks;exact olook_walk ob _ _ _ _ _ _ _ (S id).K (A id).pb (A id).pa (A id).pl (A id).pc hB.N2 (fun z hz=>by have:=hB.K2 z hz;have:=hB.V2;omega) w1 hO.row hB.cell (fun z hz j hj=>(hB.at_ z hz).row.cell _ _ (by simp[hj]))
set_option maxRecDepth 100000 in
set_option maxHeartbeats 4000000 in
theorem told_bto{Sh:Nat->Prop}{Post:(Nat->Prop)->Goroutine->World->Prop}{p:World}{cfn:FuncId}{ca:Act}{cops:Array Oper}{ci:Nat}{crest:List Nat}{ck:List Item}{cs:List Frame}{o:Oper}(ho:cops[ci]? =some o){B lb mr id ob gn capn gh caph gb capb:Nat}{D:List Nat}{S:Nat->Oj}{hd:Nat->Nat->Bool}{l:List (Nat×Nat)}{A:Nat->OD}
  (hL:LSt p B lb mr D S hd l A)(ok:(S id).Ok)(hg:getM l id=some ob)
  (hn:qS p gn 3 (i64s (S id).L))(hh:∀k,k<(S id).T->p.cell? ⟨gh,k,none⟩=some (.bool (hd id k)))(hb:∀j,j<(S id).len->p.cell? ⟨gb,0+j,none⟩=some (.int .u8 (((S id).obj[j]?.getD 0:Nat):Int)))
  (hend:∀(S':Nat->Prop) (p':World),AfterT Sh S' p p'->qR Try.prog S' (G ((base cfn).at (ca.put o.dst (.bool true)) (.inRegion cops crest::ck)) cs) p' Post):
  qR Try.prog Sh (G ((base 30).at ⟨#[.pointer (some ⟨lb,0,none⟩),.int .i64 id,.slice (some ⟨gb,0,none⟩) (S id).len capb,.slice (some ⟨gn,0,none⟩) (S id).N capn,.agg #[.int .i64 (S id).sz,.int .i64 (S id).ms,.int .i64 (S id).V],.slice (some ⟨gh,0,none⟩) (S id).T caph,undef,undef,undef,undef,undef,undef,undef,undef,undef,undef,undef,undef,undef,undef,undef,undef,undef,undef,undef,undef,undef,undef,undef,undef,undef,undef,undef,undef,undef,undef,undef,undef,undef,undef,undef,undef,undef,undef,undef,undef,undef,undef,undef,undef,undef,undef,undef,undef,undef,undef,undef,undef,undef,undef,undef,undef,undef,undef,undef,undef,undef,undef,undef,undef,undef,undef,undef,undef,undef,undef,undef,undef,undef,undef,undef,undef,undef,undef,undef,undef,undef,undef,undef,undef,undef,undef,undef,undef,undef,undef,undef,undef,undef,undef,undef,undef,undef,undef,undef,undef,undef,undef,undef,undef,undef,undef,undef,undef,undef,undef,undef,undef,undef,undef,undef,undef,undef,undef,undef,undef,undef,undef,undef,undef,undef,undef,undef,undef],[]⟩ [.code (Try.f30.body.getD .skip)]) ((base cfn).at ca (.inRegion cops (ci::crest)::ck)::cs)) p Post:=by
 have HE:=hide hend;clear hend;have hO:=hL.obj id ob hg;have hOB:=hO.blocks;have hK40:∀z,z<(S id).N->(S id).K z+(S id).V<=40:=fun z hz=>by have:=hOB.K2 z hz;have:=hOB.V2;omega
 obtain⟨es,clock,hmap,hm⟩:=hL.map;refine told_head (pa:=(A id).pa) hOB.N2 hK40 ((S id).offK_eq _ (Nat.le_refl _)) (fun z hz=>?_) (fun z hz j hj=>?_) ?_
 ·have hz':z<(S id).L.length:=hz;refine hn.cell _ _ ?_;simp[i64s,Oj.K,hz']
 ·rw[(S id).offK_eq z (Nat.le_of_lt hz),hO.heard z hz j hj];exact hh _ ((S id).off_lt hz hj)
 ·intros
  obtain⟨pl,hpl⟩:∃pl,pl=Obj.cells #[.int .i64 (S id).sz,.int .i64 (S id).ms,.int .i64 (S id).V] 30:=⟨_,rfl⟩;rw[<-hpl];have hb1:Below p.heap.size p (p.alloc pl):=(Below.refl _ _).alloc (Nat.le_refl _) _;have hL1:LSt (p.alloc pl) B lb mr D S hd l A:=hL.keep (CK.of_below hb1) (hb1.block _ (Array.getElem?_eq_some_iff.1 hmap).1);have hO1:=hL1.obj id ob hg;have hmap1:(p.alloc pl).heap[mr]? =some (.map es clock):=by rw[hb1.block _ (Array.getElem?_eq_some_iff.1 hmap).1];exact hmap
  have hplr:(p.alloc pl).heap[p.heap.size]? =some pl:=blk_alloc_new _ _;refine told_obj hL1.lis hmap1 hm hg hO1.row hO1.blocks ok.flat_len (fun S' q v v2 okb e hA hno hyes=>?_);have hA1:AfterT Sh S' p q:=by
   refine⟨?_,fun b o h1 h2=>?_,fun b h1 h2=>?_,hA.os.trans hb1.os,hA.output.trans hb1.output⟩
   ·have h1:=hA.grown;have h2:=hb1.size;omega
   ·exact hA.keep b o (by rw[hb1.block b (Array.getElem?_eq_some_iff.1 h1).1];exact h1) h2
   ·have:=hA.old b (by have:=hb1.size;omega) h2;exact⟨this.1,this.2.trans (hb1.block b h1)⟩
  have hLq:LSt q B lb mr D S hd l A:=hL.afterT hA1;have hq:q.heap[p.heap.size]? =some pl:=hA.keep _ _ hplr (fun e fz h=>by rw[hpl]at h;simp at h);rw[hpl]at hq;have hlook:∀τ d,Calls Try.prog 29 #[.pointer (some ⟨lb,0,none⟩),.int .i64 id] (q.re τ d) fun e w'=>
   e= .returned (.tuple #[.agg #[.int .i64 (((S id).len:Nat)),.int .i64 (((S id).sz:Nat)),.int .i64 (((S id).ms:Nat)),.int .i64 (((S id).V:Nat)),.int .i64 ((sumH (S id).K (S id).V (A id).pa (S id).N:Nat)),.int .i64 (((S id).N:Nat)),.int .i64 ((whoH (S id).K (S id).V (A id).pa (S id).N:Nat))],.int .i64 0])/\Below q.heap.size (q.re τ d) w':=fun τ d=>by
   have:LSt (q.re τ d) B lb mr D S hd l A:=hLq.keep (fun b L e h _ _ _=>h) rfl;exact look_lst this hg
  have h0:q.cell? ⟨p.heap.size,0,none⟩=some (.int .i64 (S id).sz):=by simp[World.cell?,hq]
  have h1:q.cell? ⟨p.heap.size,1,none⟩=some (.int .i64 (S id).ms):=by simp[World.cell?,hq]
  have h2:q.cell? ⟨p.heap.size,2,none⟩=some (.int .i64 (S id).V):=by simp[World.cell?,hq]
  have hwho:=whoH_congr okb hA.whole;have hle:=whoH_le (S id).K (S id).V (A id).pa (S id).N;have hend2:∀τ d q',Below q.heap.size (q.re τ d) q'->qR Try.prog S' (G ((base cfn).at (ca.put o.dst (.bool true)) (.inRegion cops crest::ck)) cs) q' Post:=fun τ d q' hbq=>by
   refine HE.out S' q' ⟨?_,fun b o h1 h2=>?_,fun b h1 h2=>?_,hbq.os.trans hA1.os,hbq.output.trans hA1.output⟩
   ·have h1:=hA1.grown;have h2:=hbq.size;have h3:(q.re τ d).heap.size=q.heap.size:=rfl;omega
   ·have:=hA1.keep b o h1 h2;rw[hbq.block b (Array.getElem?_eq_some_iff.1 this).1];exact this
   ·have:=hA1.old b h1 h2;refine⟨this.1,Eq.trans (hbq.block b (by have:=hA1.grown;omega)) this.2⟩
  clear HE;cases okb with
  |false=>
   obtain⟨rfl,rfl⟩:=hno rfl;have hne:whoH (S id).K (S id).V (A id).pa (S id).N≠(S id).N:=fun h=>by have:=hwho.2 h;cases this
   exact told_more ho (by omega) hlook h0 h1 h2 hend2
  |true=>
   obtain⟨rfl,g,c,rfl,hc,hcell⟩:=hyes rfl;have hbq:∀j,j<(S id).len->q.cell? ⟨gb,0+j,none⟩=some (.int .u8 (((S id).obj[j]?.getD 0:Nat):Int)):=fun j hj=>by
    obtain⟨c,e,fz,k1,k2,k3⟩:=cell_live (hb j hj);have:=hA1.keep _ _ k1 k3;simpa[World.cell?,this]using k2
   exact told_whole ho (hwho.1 rfl) (S id).obj (hide ok.obj) (fun j hj=>by rw[hcell j hj,ok.flat_at hj]) hbq hlook h0 h1 h2 hend2
end Go.Proofs.Ytmfpiodlecapiaa
namespace Go.Proofs.Ytmfpiodlecapiaa
open Go.RowKit Go.Deep
attribute [local go_sem↓] Go.wp_at_zero Go.wp_at_succ
set_option maxRecDepth 100000 in
theorem new_walk(w:World):Calls Try.prog 27 #[] w fun e w'=>e= .returned (.pointer (some ⟨w.heap.size+1,0,none⟩))/\w'=(w.alloc (.map #[] 0)).alloc (.cells #[.map (some w.heap.size)] 91):=by
 have hmk:(Instr.makeMap 89 none).run Try.prog w= .ok (.map (some w.heap.size)) (w.alloc (.map #[] 0)):=rfl;have hsz:(w.alloc (.map #[] 0)).heap.size=w.heap.size+1:=by simp
 go_enter Try.func27,Try.ntmps27;go_wp2;go_ret;exact⟨by simp,rfl⟩
end Go.Proofs.Ytmfpiodlecapiaa
