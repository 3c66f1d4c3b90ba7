import Derived.Test.YtmfpiodlecapiaaJ40
namespace Go.Poi
open Go.Ren Go.Frag Go.Conc Go.RowKit
variable {P:Program} {Sh:Nat->Prop} {Post:(Nat->Prop)->Goroutine->World->Prop} {b:Frame} {a:Act} {k:List Item} {cs:List Frame} {p:World} {ops:Array Oper}
theorem qR.make{i:Nat}{rest:List Nat}{o:Oper}(ho:ops[i]? =some o)(hgd:o.guard=none)(hk:b.kind≠.early)(hT:Tm P (execOp a.eval o)){l c:Operand}{t e:TypeId}(hop:o.op= .makeSlice t l c)
  {n:Nat}{ti:TypeInfo}{z:Value}(ht:P.underlying t=some (.slice e))(hi:P.info? e=some ti)(hz:ti.zero=some z)(hsize:ti.size=1)(hzs:z.cells=#[z])(hl:a.eval l= .int .i64 (n:Int))(hc:a.eval c= .int .i64 (n:Int))(hbytes:ti.bytes*n<=281474976710656)(h63:n<=9223372036854775807)
  (hn:∀p',Go.Proofs.Ytmfpiodlecapiaa.Grw p p'->p'.heap.size=p.heap.size+1->Go.Proofs.Ytmfpiodlecapiaa.qS p' p.heap.size e (List.replicate n z)->qR P Sh (G (b.at (a.put o.dst (.slice (some ⟨p.heap.size,0,none⟩) n n)) (.inRegion ops rest::k)) cs) p' Post):
  qR P Sh (G (b.at a (.inRegion ops (i::rest)::k)) cs) p Post:=by
 refine qR.op hT ho (by simp[Region.wanted,hgd]) hk (fun τ d K hK=>?_);have hb':(ti.bytes:Int)*(n:Int)<=281474976710656:=by
  have h:((ti.bytes*n:Nat):Int)<=281474976710656:=by omega
  rwa [Int.natCast_mul]at h
 have hr:=run_make (P:=P) (p.re τ d) t e ti z ht hi hz .i64 .i64 n n (by omega) (Int.le_refl _) hb' (by omega);simp only[Int.toNat_natCast,hsize,Nat.mul_one,hzs]at hr;have hrun:(execOp a.eval o).run P (p.re τ d)= .ok (.value (.slice (some ⟨p.heap.size,0,none⟩) n n)) ((p.re τ d).alloc (.cells (madeCells #[z] n) e)):=by
  unfold execOp;simp[hop,hl,hc,hr,Result.andThen];rfl
 rw[hrun];refine hK _ _ (hn _ (((Go.Proofs.Ytmfpiodlecapiaa.Grw.refl p).re τ d).alloc _) (by rw[Go.Ren.size_alloc];rfl) ?_);exact Go.Proofs.Ytmfpiodlecapiaa.rowL_made (p.re τ d) z n e
end Go.Poi
namespace Go.Proofs.Ytmfpiodlecapiaa
open Go.Conc Go.ConcN Go.RowKit Go.Frag Go.Ren Go.Poi Go.Deep Go.Grp
attribute [local go_sem↓] Go.wp_at_zero Go.wp_at_succ
theorem Try.infoBools:(Try.prog.info? 61).map (fun i=>(i.zero,i.size,i.bytes))=some (some (.slice none 0 0),1,24):=by kernel_rfl
theorem Try.infoBool:(Try.prog.info? 4).map (fun i=>(i.zero,i.size,i.bytes))=some (some (.bool false),1,1):=by kernel_rfl
theorem flat3{α:Type}(f:Nat->α×α×α):∀(k i:Nat),i<k->((List.range k).flatMap fun i=> [(f i).1,(f i).2.1,(f i).2.2])[i*3]? =some (f i).1/\((List.range k).flatMap fun i=> [(f i).1,(f i).2.1,(f i).2.2])[i*3+1]? =some (f i).2.1/\((List.range k).flatMap fun i=> [(f i).1,(f i).2.1,(f i).2.2])[i*3+2]? =some (f i).2.2
 |0,i,h=>by omega
 |k+1,i,h=>by
  have hlen:∀n,((List.range n).flatMap fun i=> [(f i).1,(f i).2.1,(f i).2.2]).length=n*3:=fun n=>by
   induction n with
   |zero=>rfl
   |succ n ih=>rw[List.range_succ,List.flatMap_append,List.length_append,ih];simp;omega
  rw[List.range_succ,List.flatMap_append];by_cases e:i=k
  ·subst e;refine⟨?_,?_,?_⟩;all_goals
    rw[List.getElem?_append_right (by rw[hlen];omega),hlen];simp
  ·have ih:=flat3 f k i (by omega);refine⟨?_,?_,?_⟩
   ·rw[List.getElem?_append_left (by rw[hlen];omega)];exact ih.1
   ·rw[List.getElem?_append_left (by rw[hlen];omega)];exact ih.2.1
   ·rw[List.getElem?_append_left (by rw[hlen];omega)];exact ih.2.2
theorem L1.opened{p0 q:World}{m:Nat}{S:Nat->Oj}{vA vP:Value}{gl cp:Nat->Nat}(h:L1 p0 q m S vA vP gl cp)(hm:1<=m)(ok:∀i,i<m->(S i).Ok):∃ga ca gp cq,vA= .slice (some ⟨ga,0,none⟩) m ca/\vP= .slice (some ⟨gp,0,none⟩) m cq/\MB q q.heap.size m S ga gp gl cp:=by
 rcases h.all.2 with⟨_,h0⟩|⟨ga,ca,curA,rfl,a1,a2,a3,a4,a5,a6⟩
 ·omega
 rcases h.pls.2 with⟨_,h0⟩|⟨gp,cq,curP,rfl,b1,b2,b3,b4,b5,b6⟩
 ·omega
 have hA:qS q ga 33 curA.toList:=by unfold qS;simpa using a2
 have hP:qS q gp 30 curP.toList:=by unfold qS;simpa using b2
 have hPl:∀j v,((List.range m).flatMap fun i=> [Value.int .i64 ((S i).sz:Int),.int .i64 ((S i).ms:Int),.int .i64 ((S i).V:Int)])[j]? =some v->q.cell? ⟨gp,j,none⟩=some v:=fun j v hv=>by
  refine hP.cell _ _ ?_;rw[<-b6]at hv;have hlt:j<m*3:=by
   have:=(List.getElem?_eq_some_iff.1 hv).1;simp at this;omega
  rw[List.getElem?_take_of_lt hlt]at hv;exact hv
 have h3:=fun i hi=>flat3 (fun i=>(Value.int .i64 ((S i).sz:Int),Value.int .i64 ((S i).ms:Int),Value.int .i64 ((S i).V:Int))) m i hi;refine⟨ga,ca,gp,cq,rfl,rfl,⟨hA.lt,hP.lt⟩,fun i hi=>hA.cell _ _ ?_,fun i hi=>hPl _ _ (h3 i hi).1,fun i hi=>hPl _ _ (h3 i hi).2.1,fun i hi=>hPl _ _ (h3 i hi).2.2,fun i hi=>?_,fun i hi z n hz hn=>?_⟩
 ·have hv:((List.range m).map fun i=>Value.slice (some ⟨gl i,0,none⟩) (S i).T (cp i))[i]? =some (.slice (some ⟨gl i,0,none⟩) (S i).T (cp i)):=by simp[hi]
  rw[<-a6,List.getElem?_take_of_lt (by omega)]at hv;exact hv
 ·obtain⟨cur,hp⟩:=h.pk i hi;exact hp.row.lt
 ·obtain⟨cur,hp⟩:=h.pk i hi;obtain⟨g,h1,h2⟩:=hp.at_ _ _ ((ok i hi).packets_at (id:=i) hz hn);exact⟨g,h2.lt,hp.row.cell _ _ h1,fun j hj=>h2.cell _ _ (u8s_at (by rw[(ok i hi).pkt_length hz];exact hj))⟩
def hslot(m k:Nat)(S:Nat->Oj)(hr:Nat->Nat):List Value:=(List.range m).map fun i=>if i<k then .slice (some ⟨hr i,0,none⟩) (S i).T (S i).T else .slice none 0 0
structure L2(q0 q:World)(m k gh:Nat)(S:Nat->Oj)(hr:Nat->Nat):Prop where
 low:∀b,b<q0.heap.size->b≠gh->q.heap[b]? =q0.heap[b]?
 size:q0.heap.size<=q.heap.size
 os:q.os=q0.os
 output:q.output=q0.output
 top:qS q gh 61 (hslot m k S hr)
 row:∀i,i<k->qS q (hr i) 4 (boolsL (S i).T fun _=>false)
 new:∀i,i<k->q0.heap.size<=hr i
 inj:∀i j,i<k->j<k->hr i=hr j->i=j
theorem hslot_next{m k g:Nat}{S:Nat->Oj}{hr:Nat->Nat}(hk:k<m):(hslot m k S hr).set k (.slice (some ⟨g,0,none⟩) (S k).T (S k).T)=hslot m (k+1) S (updN hr k g):=by
 apply List.ext_getElem?;intro i;by_cases e:k=i
 ·subst e;rw[List.getElem?_set_self (by simpa[hslot]using hk)];simp[hslot,hk,updN]
 ·rw[List.getElem?_set_ne e];by_cases h:i<m
  ·by_cases h2:i<k
   ·simp[hslot,h,h2,updN,Ne.symm e,Nat.lt_succ_of_lt h2]
   ·have:¬i<k+1:=by omega
    simp[hslot,h,h2,this]
  ·simp[hslot,h]
theorem bools_rep(n:Nat):List.replicate n (Value.bool false)=boolsL n fun _=>false:=by
 unfold boolsL;rw[List.map_const',List.length_range]
theorem L2.next{q0 q q1:World}{m k gh:Nat}{S:Nat->Oj}{hr:Nat->Nat}(h:L2 q0 q m k gh S hr)(hk:k<m)(hg:Grw q q1)(hs:q1.heap.size=q.heap.size+1)(hrow:qS q1 q.heap.size 4 (List.replicate (S k).T (.bool false))):L2 q0 (q1.setCell ⟨gh,k,none⟩ (.slice (some ⟨q.heap.size,0,none⟩) (S k).T (S k).T)) m (k+1) gh S (updN hr k q.heap.size):=by
 have hgl:=h.top.lt;have t1:qS q1 gh 61 (hslot m k S hr):=h.top.of_block (hg.row _ hgl);have hb:∀b,b≠gh->(q1.setCell ⟨gh,k,none⟩ (.slice (some ⟨q.heap.size,0,none⟩) (S k).T (S k).T)).heap[b]? =q1.heap[b]? :=fun b hb=>by
  simp[World.setCell,Array.getElem?_modify,Ne.symm hb]
 have hrl:∀i,i<k->hr i≠gh:=fun i hi=>(h.row i hi).ne_of_type h.top (by decide);refine⟨fun b h1 h2=>?_,?_,hg.os.trans h.os,hg.output.trans h.output,?_,fun i hi=>?_,fun i hi=>?_,fun i j hi hj e=>?_⟩
 ·rw[hb b h2,hg.row b (Nat.lt_of_lt_of_le h1 h.size)];exact h.low b h1 h2
 ·have:=h.size;simp[World.setCell];omega
 ·rw[<-hslot_next hk];exact t1.set k _
 ·by_cases e:i=k
  ·subst e;have:updN hr i q.heap.size i=q.heap.size:=by simp[updN]
   rw[this,<-bools_rep];exact hrow.of_block (hb _ (by omega))
  ·have e2:updN hr k q.heap.size i=hr i:=by simp[updN,e]
   rw[e2];have r:=h.row i (by omega);exact(r.of_block (hg.row _ r.lt)).of_block (hb _ (hrl i (by omega)))
 ·by_cases e:i=k
  ·subst e;simp[updN];exact h.size
  ·simp only[updN,e,if_false];exact h.new i (by omega)
 ·by_cases e1:i=k<;>by_cases e2:j=k
  ·omega
  ·have:=(h.row j (by omega)).lt;simp only[updN,e1,e2,if_true,if_false]at e;omega
  ·have:=(h.row i (by omega)).lt;simp only[updN,e1,e2,if_true,if_false]at e;omega
  ·simp only[updN,e1,e2,if_false]at e;exact h.inj i j (by omega) (by omega) e
set_option maxRecDepth 100000 in
set_option maxHeartbeats 16000000 in
theorem mix_l2{Sh:Nat->Prop}{Post:(Nat->Prop)->Goroutine->World->Prop}{q0:World}{ks:List Item}{cs:List Frame}{lb m ga ca gp cq gh:Nat}{v0 v4:Value}{x y zz:Int}{S:Nat->Oj}{gl cp:Nat->Nat}(hm:m<=8)(ok:∀i,i<m->(S i).Ok)(hall:∀i,i<m->q0.cell? ⟨ga,i,none⟩=some (.slice (some ⟨gl i,0,none⟩) (S i).T (cp i)))(hga:ga≠gh){c:Code}(hc:Hid (c=pth [1,1,1,1,1,1,1,1,0,1,0,0] (Try.f9.body.getD .skip)))
  (hend:∀q hr t5 t6 t7 t8 t9 b7 c3 l8 e5 a8 a7 e0 s6 i8 k2 w1 n8 c8 u2 n2 y6 o4 b8 y7 w8 r8 h9 j2 d7 w5 q6 v5 v9 l4 y5 k5 i1 x6 y0 z7 q8 r3 p8 l1 c4 o6 r4 p2 f8 v8 x0 k7 o7 w3 f2 s2 k0 o1 o8 y8 z5 s7 k3 r1 v6 p7 d8 q9 b0 c1 m0 r2 s4 k1 m6 n4 u3 k9 z8 j7 u9 r5 c9 n7 p5 y1 c7 s9 n6 x2 h6 x8 j8 w2 m2 h5 f0 d6 o2 r0 k6 m5 e7 d2 o3 y2 x1 l5 h7 i3 r6 e6 c6 r7 z4 l2 o9 v3 z3 z1 u8 u5 i2 d3 j6 n0 s0 x7 u1 k8 v2 s8 m4 w9 u6 l3 p4 m7 p3 y9 v1 h4 f3 m1 s3 a9 s5 z6 i9 j5 e9 x3 e8 f5 n3 l6 b9 i7 c5 m8 u0 z0 n1 l7 f1 y4 z2 d1 d4 d9 q7 t3 n9 m3 p9 j0 x5 t0 d5 i5 w0 k4 s1 f7 h8 l0 v7 j1 o5 p6 n5 i6 w7 t2 o0 p1 x4 x9 e3 c0 i0 q5 f6 m9 j9 j3 j4 w6 w4 u7 r9 l9 y3 u4,L2 q0 q m m gh S hr->qR Try.prog Sh (G ((base 9).at ⟨#[v0,.int .i64 x,.int .i64 y,.int .i64 zz,v4,t5,t6,t7,t8,t9,.bool false,.bool true,.pointer (some ⟨lb,0,none⟩),.slice (some ⟨ga,0,none⟩) m ca,.slice (some ⟨gp,0,none⟩) m cq,b7,c3,l8,e5,.slice (some ⟨gh,0,none⟩) m m,.int .i64 (m:Int),a8,a7,e0,s6,i8,k2,w1,n8,c8,u2,n2,y6,o4,b8,y7,w8,r8,h9,j2,d7,w5,q6,v5,v9,l4,y5,k5,i1,x6,y0,z7,q8,r3,p8,l1,c4,o6,r4,p2,f8,v8,x0,k7,o7,w3,f2,s2,k0,o1,o8,y8,z5,s7,k3,r1,v6,p7,d8,q9,b0,c1,m0,r2,s4,k1,m6,n4,u3,k9,z8,j7,u9,r5,c9,n7,p5,y1,c7,s9,n6,x2,h6,x8,j8,w2,m2,h5,f0,d6,o2,r0,k6,m5,e7,d2,o3,y2,x1,l5,h7,i3,r6,e6,c6,r7,z4,l2,o9,v3,z3,z1,u8,u5,i2,d3,j6,n0,s0,x7,u1,k8,v2,s8,m4,w9,u6,l3,p4,m7,p3,y9,v1,h4,f3,m1,s3,a9,s5,z6,i9,j5,e9,x3,e8,f5,n3,l6,b9,i7,c5,m8,u0,z0,n1,l7,f1,y4,z2,d1,d4,d9,q7,t3,n9,m3,p9,j0,x5,t0,d5,i5,w0,k4,s1,f7,h8,l0,v7,j1,o5,p6,n5,i6,w7,t2,o0,p1,x4,x9,e3,c0,i0,q5,f6,m9,j9,j3,j4,w6,w4,u7,r9,l9,y3,u4],[]⟩ ks) cs) q Post):
  ∀(r k:Nat),k+r=m->∀(q:World) (hr:Nat->Nat) (t5 t6 t7 t8 t9 b7 c3 l8 e5 a8 a7 e0 s6 i8 k2 w1 n8 c8 u2 n2 y6 o4 b8 y7 w8 r8 h9 j2 d7 w5 q6 v5 v9 l4 y5 k5 i1 x6 y0 z7 q8 r3 p8 l1 c4 o6 r4 p2 f8 v8 x0 k7 o7 w3 f2 s2 k0 o1 o8 y8 z5 s7 k3 r1 v6 p7 d8 q9 b0 c1 m0 r2 s4 k1 m6 n4 u3 k9 z8 j7 u9 r5 c9 n7 p5 y1 c7 s9 n6 x2 h6 x8 j8 w2 m2 h5 f0 d6 o2 r0 k6 m5 e7 d2 o3 y2 x1 l5 h7 i3 r6 e6 c6 r7 z4 l2 o9 v3 z3 z1 u8 u5 i2 d3 j6 n0 s0 x7 u1 k8 v2 s8 m4 w9 u6 l3 p4 m7 p3 y9 v1 h4 f3 m1 s3 a9 s5 z6 i9 j5 e9 x3 e8 f5 n3 l6 b9 i7 c5 m8 u0 z0 n1 l7 f1 y4 z2 d1 d4 d9 q7 t3 n9 m3 p9 j0 x5 t0 d5 i5 w0 k4 s1 f7 h8 l0 v7 j1 o5 p6 n5 i6 w7 t2 o0 p1 x4 x9 e3 c0 i0 q5 f6 m9 j9 j3 j4 w6 w4 u7 r9 l9 y3 u4:Value),L2 q0 q m k gh S hr->
   qR Try.prog Sh (G ((base 9).at ⟨#[v0,.int .i64 x,.int .i64 y,.int .i64 zz,v4,t5,t6,t7,t8,t9,.bool false,.bool true,.pointer (some ⟨lb,0,none⟩),.slice (some ⟨ga,0,none⟩) m ca,.slice (some ⟨gp,0,none⟩) m cq,b7,c3,l8,e5,.slice (some ⟨gh,0,none⟩) m m,.int .i64 (k:Int),a8,a7,e0,s6,i8,k2,w1,n8,c8,u2,n2,y6,o4,b8,y7,w8,r8,h9,j2,d7,w5,q6,v5,v9,l4,y5,k5,i1,x6,y0,z7,q8,r3,p8,l1,c4,o6,r4,p2,f8,v8,x0,k7,o7,w3,f2,s2,k0,o1,o8,y8,z5,s7,k3,r1,v6,p7,d8,q9,b0,c1,m0,r2,s4,k1,m6,n4,u3,k9,z8,j7,u9,r5,c9,n7,p5,y1,c7,s9,n6,x2,h6,x8,j8,w2,m2,h5,f0,d6,o2,r0,k6,m5,e7,d2,o3,y2,x1,l5,h7,i3,r6,e6,c6,r7,z4,l2,o9,v3,z3,z1,u8,u5,i2,d3,j6,n0,s0,x7,u1,k8,v2,s8,m4,w9,u6,l3,p4,m7,p3,y9,v1,h4,f3,m1,s3,a9,s5,z6,i9,j5,e9,x3,e8,f5,n3,l6,b9,i7,c5,m8,u0,z0,n1,l7,f1,y4,z2,d1,d4,d9,q7,t3,n9,m3,p9,j0,x5,t0,d5,i5,w0,k4,s1,f7,h8,l0,v7,j1,o5,p6,n5,i6,w7,t2,o0,p1,x4,x9,e3,c0,i0,q5,f6,m9,j9,j3,j4,w6,w4,u7,r9,l9,y3,u4],[]⟩ (.code c:: .inLoop c:: .inBlock 2::ks)) cs) q Post:=by
 have HE:=hide hend;have HOk:=hide ok;have HAl:=hide hall
 clear hend ok hall;intro r;induction r with
 |zero=>
  intro k hkr q hr t5 t6 t7 t8 t9 b7 c3 l8 e5 a8 a7 e0 s6 i8 k2 w1 n8 c8 u2 n2 y6 o4 b8 y7 w8 r8 h9 j2 d7 w5 q6 v5 v9 l4 y5 k5 i1 x6 y0 z7 q8 r3 p8 l1 c4 o6 r4 p2 f8 v8 x0 k7 o7 w3 f2 s2 k0 o1 o8 y8 z5 s7 k3 r1 v6 p7 d8 q9 b0 c1 m0 r2 s4 k1 m6 n4 u3 k9 z8 j7 u9 r5 c9 n7 p5 y1 c7 s9 n6 x2 h6 x8 j8 w2 m2 h5 f0 d6 o2 r0 k6 m5 e7 d2 o3 y2 x1 l5 h7 i3 r6 e6 c6 r7 z4 l2 o9 v3 z3 z1 u8 u5 i2 d3 j6 n0 s0 x7 u1 k8 v2 s8 m4 w9 u6 l3 p4 m7 p3 y9 v1 h4 f3 m1 s3 a9 s5 z6 i9 j5 e9 x3 e8 f5 n3 l6 b9 i7 c5 m8 u0 z0 n1 l7 f1 y4 z2 d1 d4 d9 q7 t3 n9 m3 p9 j0 x5 t0 d5 i5 w0 k4 s1 f7 h8 l0 v7 j1 o5 p6 n5 i6 w7 t2 o0 p1 x4 x9 e3 c0 i0 q5 f6 m9 j9 j3 j4 w6 w4 u7 r9 l9 y3 u4 hL;have hkm:k=m:=by omega
  replace hkm:=hide hkm;refine qR.unc hc.out ?_;conv=>arg 3;simp only[Try.f9,Option.getD_some,pth]
  refine qR.seq (qR.seq ?_);have q1:¬(k:Int)<(m:Int):=by have:=hkm.out;omega
  refine qR.hideK fun kk hkk=>?_;replace hkk:=hide hkk;refine qR.runV qJ (by kernel_rfl) fun τ d=>?_;go_wp2
  first|(refine Or.inl ⟨rfl,?_⟩;dsimp only;refine qR.re ?_ _ _)|refine qR.re ?_ _ _
  rw[hkk.out];clear hkk kk τ d;refine qR.no rfl ?_;refine qR.exit rfl ?_;have hkm:=hkm.out;subst hkm;exact HE.out q hr _ _ _ _ _ _ _ _ _ _ _ _ _ _ _ _ _ _ _ _ _ _ _ _ _ _ _ _ _ _ _ _ _ _ _ _ _ _ _ _ _ _ _ _ _ _ _ _ _ _ _ _ _ _ _ _ _ _ _ _ _ _ _ _ _ _ _ _ _ _ _ _ _ _ _ _ _ _ _ _ _ _ _ _ _ _ _ _ _ _ _ _ _ _ _ _ _ _ _ _ _ _ _ _ _ _ _ _ _ _ _ _ _ _ _ _ _ _ _ _ _ _ _ _ _ _ _ _ _ _ _ _ _ _ _ _ _ _ _ _ _ _ _ _ _ _ _ _ _ _ _ _ _ _ _ _ _ _ _ _ _ _ _ _ _ _ _ _ _ _ _ _ _ _ _ _ _ _ _ _ _ _ _ _ _ _ _ _ _ _ _ _ _ _ _ _ _ _ _ _ _ _ _ _ _ _ _ _ _ _ _ _ _ _ hL
 |succ r ih=>
  intro k hkr q hr t5 t6 t7 t8 t9 b7 c3 l8 e5 a8 a7 e0 s6 i8 k2 w1 n8 c8 u2 n2 y6 o4 b8 y7 w8 r8 h9 j2 d7 w5 q6 v5 v9 l4 y5 k5 i1 x6 y0 z7 q8 r3 p8 l1 c4 o6 r4 p2 f8 v8 x0 k7 o7 w3 f2 s2 k0 o1 o8 y8 z5 s7 k3 r1 v6 p7 d8 q9 b0 c1 m0 r2 s4 k1 m6 n4 u3 k9 z8 j7 u9 r5 c9 n7 p5 y1 c7 s9 n6 x2 h6 x8 j8 w2 m2 h5 f0 d6 o2 r0 k6 m5 e7 d2 o3 y2 x1 l5 h7 i3 r6 e6 c6 r7 z4 l2 o9 v3 z3 z1 u8 u5 i2 d3 j6 n0 s0 x7 u1 k8 v2 s8 m4 w9 u6 l3 p4 m7 p3 y9 v1 h4 f3 m1 s3 a9 s5 z6 i9 j5 e9 x3 e8 f5 n3 l6 b9 i7 c5 m8 u0 z0 n1 l7 f1 y4 z2 d1 d4 d9 q7 t3 n9 m3 p9 j0 x5 t0 d5 i5 w0 k4 s1 f7 h8 l0 v7 j1 o5 p6 n5 i6 w7 t2 o0 p1 x4 x9 e3 c0 i0 q5 f6 m9 j9 j3 j4 w6 w4 u7 r9 l9 y3 u4 hL;have hk:k<m:=by omega
  have q1:(k:Int)<(m:Int):=by omega
  have q3:(0:Int)<=(k:Int):=by omega
  have hTl:=(HOk.out k hk).T_le;have hAc:q.cell? ⟨ga,k,none⟩=some (.slice (some ⟨gl k,0,none⟩) (S k).T (cp k)):=by
   have:=HAl.out k hk;rw[<-this];exact World.cell?_of_block (hL.low ga (cellLt this) hga)
  refine qR.unc hc.out ?_;conv=>arg 3;simp only[Try.f9,Option.getD_some,pth]
  refine qR.seq (qR.seq ?_);refine qR.hideK fun kk hkk=>?_;replace hkk:=hide hkk;refine qR.runV qJ (by kernel_rfl) fun τ d=>?_;go_wp2
  first|(refine Or.inl ⟨rfl,?_⟩;dsimp only;refine qR.re ?_ _ _)|refine qR.re ?_ _ _
  rw[hkk.out];clear hkk kk τ d;refine qR.yes rfl (qR.skip ?_);refine qR.seq (qR.block ?_);refine qR.hideK fun kk hkk=>?_;replace hkk:=hide hkk;refine qR.reg (todo:= [0,1,2,3,4,5,6,7,8,9]) rfl ?_;refine qR.o qJ (by kernel_rfl) rfl rfl (fun τ d K hK=>?_);go_simp;refine hK _ _ ?_;clear hK;refine qR.re ?_ _ _;try walk_nrm
  refine qR.o qJ (by kernel_rfl) rfl rfl (fun τ d K hK=>?_);go_simp;refine hK _ _ ?_;clear hK;refine qR.re ?_ _ _;try walk_nrm
  refine qR.o qJ (by kernel_rfl) rfl rfl (fun τ d K hK=>?_);go_simp;refine hK _ _ ?_;clear hK;refine qR.re ?_ _ _;try walk_nrm
  refine qR.o qJ (by kernel_rfl) rfl rfl (fun τ d K hK=>?_);go_simp;refine hK _ _ ?_;clear hK;refine qR.re ?_ _ _;try walk_nrm
  refine qR.o qJ (by kernel_rfl) rfl rfl (fun τ d K hK=>?_);go_simp;refine hK _ _ ?_;clear hK;refine qR.re ?_ _ _;try walk_nrm
  refine qR.o qJ (by kernel_rfl) rfl rfl (fun τ d K hK=>?_);have a0:(q.re τ d).cell? ⟨ga,k,none⟩=some (.slice (some ⟨gl k,0,none⟩) (S k).T (cp k)):=hAc;go_simp;refine hK _ _ ?_;clear hK a0;refine qR.re ?_ _ _;try walk_nrm
  refine qR.o qJ (by kernel_rfl) rfl rfl (fun τ d K hK=>?_);go_simp;refine hK _ _ ?_;clear hK;refine qR.re ?_ _ _;try walk_nrm
  obtain⟨i4,hi4,hz4,hs4,hb4⟩:=info_parts3 Try.infoBool;refine qR.make rfl rfl (by decide) (tm_act qJ (by kernel_rfl)) (l:=.tmp 100) (c:=.tmp 100) rfl (n:=(S k).T) Try.underlying61 hi4 hz4 hs4 rfl rfl rfl (by rw[hb4];omega) (by omega) (fun q1 hg1 hs1 hrow1=>?_);try walk_nrm
  refine qR.o qJ (by kernel_rfl) rfl rfl (fun τ d K hK=>?_);go_simp;refine hK _ _ ?_;clear hK;refine qR.re ?_ _ _;try walk_nrm
  refine qR.o qJ (by kernel_rfl) rfl rfl (fun τ d K hK=>?_);have t1:qS q1 gh 61 (hslot m k S hr):=hL.top.of_block (hg1.row _ hL.top.lt);have a0:(q1.re τ d).cell? ⟨gh,k,none⟩=some (.slice none 0 0):=t1.cell k _ (by simp[hslot,hk]);have a1:(q1.re τ d).frozen? ⟨gh,k,none⟩=false:=t1.frozen k;go_simp;refine hK _ _ ?_;clear hK a0 a1 t1;refine qR.re (p:=q1.setCell ⟨gh,k,none⟩ (.slice (some ⟨q.heap.size,0,none⟩) (S k).T (S k).T)) ?_ τ d;have hL':=hL.next hk hg1 hs1 hrow1;try walk_nrm
  refine qR.regEnd ?_;rw[hkk.out];clear hkk kk τ d;refine qR.inBlock ?_;refine qR.hideK fun kk hkk=>?_;replace hkk:=hide hkk;refine qR.runV qJ (by kernel_rfl) fun τ d=>?_;go_wp2
  first|(refine Or.inl ⟨rfl,?_⟩;dsimp only;refine qR.re ?_ _ _)|refine qR.re ?_ _ _
  rw[hkk.out];clear hkk kk τ d;refine qR.inLoop ?_;exact ih (k+1) (by omega) _ _ _ _ _ _ _ _ _ _ _ _ _ _ _ _ _ _ _ _ _ _ _ _ _ _ _ _ _ _ _ _ _ _ _ _ _ _ _ _ _ _ _ _ _ _ _ _ _ _ _ _ _ _ _ _ _ _ _ _ _ _ _ _ _ _ _ _ _ _ _ _ _ _ _ _ _ _ _ _ _ _ _ _ _ _ _ _ _ _ _ _ _ _ _ _ _ _ _ _ _ _ _ _ _ _ _ _ _ _ _ _ _ _ _ _ _ _ _ _ _ _ _ _ _ _ _ _ _ _ _ _ _ _ _ _ _ _ _ _ _ _ _ _ _ _ _ _ _ _ _ _ _ _ _ _ _ _ _ _ _ _ _ _ _ _ _ _ _ _ _ _ _ _ _ _ _ _ _ _ _ _ _ _ _ _ _ _ _ _ _ _ _ _ _ _ _ _ _ _ _ _ _ _ _ _ _ _ _ _ _ _ _ _ _ _ hL'
def d25:Nat->Nat
 |0=>121|1=>122|2=>123|3=>124|4=>125|5=>126|6=>127|7=>128|8=>129|9=>130|10=>131|_=>23
def v25(bw ow nw cw i ga m ca o gl T1 cp:Nat)(wv:Int)(_:Unit):Nat->Value
 |0=>.slice (some ⟨bw,ow,none⟩) nw cw
 |1=>.int .i64 (i:Int)
 |2=>.pointer (some ⟨bw,ow+i,none⟩)
 |3=>.int .i64 wv
 |4=>.int .i64 (IntKind.wrap .i64 (wv.tdiv 8))
 |5=>.slice (some ⟨ga,0,none⟩) m ca
 |6=>.int .i64 (o:Int)
 |7=>.pointer (some ⟨ga,o,none⟩)
 |8=>.slice (some ⟨gl,0,none⟩) T1 cp
 |9=>.int .i64 (T1:Int)
 |10=>.int .i64 (pickN (IntKind.wrap .i64 (wv.tdiv 8)) T1:Nat)
 |_=>.int .i64 (pickN (IntKind.wrap .i64 (wv.tdiv 8)) T1:Nat)
set_option maxRecDepth 100000 in
set_option maxHeartbeats 8000000 in
theorem mix_r25{Sh:Nat->Prop}{Post:(Nat->Prop)->Goroutine->World->Prop}{q:World}{ks:List Item}{cs:List Frame}{bw ow nw cw i ga m ca o gl T1 cp:Nat}{wv:Int}{T0:Array Value}(hT:T0.size=226)(t4:T0[4]? =some (.slice (some ⟨bw,ow,none⟩) nw cw))(a8:T0[21]? =some (.int .i64 (i:Int)))(z9:T0[13]? =some (.slice (some ⟨ga,0,none⟩) m ca))(a7:T0[22]? =some (.int .i64 (o:Int)))
  (hi:i<nw)(ho:o<m)(hT10:0<T1)(hT11:T1<=65536)(hcell:q.cell? ⟨bw,ow+i,none⟩=some (.int .i64 wv))(hall:q.cell? ⟨ga,o,none⟩=some (.slice (some ⟨gl,0,none⟩) T1 cp)){ops:Array Oper}(hops:ops=(qV (pth [1,1,1,1,1,1,1,1,1,0,1,0,0,1,0,0,1,0] (Try.f9.body.getD .skip))))
  (hend:qR Try.prog Sh (G ((base 9).at ⟨mixT d25 (v25 bw ow nw cw i ga m ca o gl T1 cp wv ()) T0 (fun _=>true) 12,[]⟩ ks) cs) q Post):
  qR Try.prog Sh (G ((base 9).at ⟨T0,[]⟩ (.code (.region 25 ops true)::ks)) cs) q Post:=by
 subst hops;have hd:∀i:Fin 12,∀j:Fin 12,d25 i=d25 j->i=j:=by decide
 have hb:(List.range 12).all (fun i=>(depsOf (qV (pth [1,1,1,1,1,1,1,1,1,0,1,0,0,1,0,0,1,0] (Try.f9.body.getD .skip))) i).all fun j=>decide (j<i))=true:=by kernel_rfl
 have hl:∀i:Fin 12,d25 i<226:=by decide
 refine qR.drawn (X:=Unit) (c:=10) (m:=10) (M:=12) (dst:=d25) (val:=v25 bw ow nw cw i ga m ca o gl T1 cp wv) (Wd:=fun _ _ _ w=>∃τ d,w=q.re τ d) (by kernel_rfl) (by kernel_rfl) (by decide) (by decide) (fun i j hi hj h=>by have:=hd ⟨i,hi⟩ ⟨j,hj⟩ h;exact congrArg Fin.val this) (fun i hi=>by rw[hT];exact hl ⟨i,hi⟩) (fun i hi j hj=>?_) () ⟨q.tape,q.drawn,rfl⟩ (fun n hn l x w hli hcl hdep hW T hTs hT1 hT2 rest hr=>?_) (fun x w hW=>?_)
 ·have h1:=List.all_eq_true.1 hb i (List.mem_range.2 hi);have h2:=List.all_eq_true.1 h1 j hj;simpa using h2
 ·obtain⟨τ0,d0,rfl⟩:=hW;have n12:n=0\/n=1\/n=2\/n=3\/n=4\/n=5\/n=6\/n=7\/n=8\/n=9\/n=10\/n=11:=by omega
  have f4:T[4]? =some (.slice (some ⟨bw,ow,none⟩) nw cw):=(hT2 4 (fun j hj=>by have:=(by decide:∀j:Fin 12,d25 j≠4);exact this ⟨j,hj⟩)).trans t4;have f21:T[21]? =some (.int .i64 (i:Int)):=(hT2 21 (fun j hj=>by have:=(by decide:∀j:Fin 12,d25 j≠21);exact this ⟨j,hj⟩)).trans a8;have f13:T[13]? =some (.slice (some ⟨ga,0,none⟩) m ca):=(hT2 13 (fun j hj=>by have:=(by decide:∀j:Fin 12,d25 j≠13);exact this ⟨j,hj⟩)).trans z9;have f22:T[22]? =some (.int .i64 (o:Int)):=(hT2 22 (fun j hj=>by have:=(by decide:∀j:Fin 12,d25 j≠22);exact this ⟨j,hj⟩)).trans a7;have q1:(i:Int)<(nw:Int):=by omega
  have q2:(0:Int)<=(i:Int):=by omega
  have q3:(o:Int)<(m:Int):=by omega
  have q4:(0:Int)<=(o:Int):=by omega
  clear hT2;rcases n12 with rfl|rfl|rfl|rfl|rfl|rfl|rfl|rfl|rfl|rfl|rfl|rfl
  ·refine qR.o qJ (by kernel_rfl) rfl rfl (fun τ d K hK=>?_);simp only[Try.f9,Option.getD_some,pth,qV]at hr⊢;clear hT1 hdep hb hcl;have e4:=get_of f4 (by omega:4<T.size);go_simp;refine hK _ _ (qR.re ?_ τ d);exact hr () (q.re τ0 d0) (by intros;first|rfl|trivial) ⟨τ0,d0,rfl⟩
  ·refine qR.o qJ (by kernel_rfl) rfl rfl (fun τ d K hK=>?_);simp only[Try.f9,Option.getD_some,pth,qV]at hr⊢;clear hT1 hdep hb hcl;have e21:=get_of f21 (by omega:21<T.size);go_simp;refine hK _ _ (qR.re ?_ τ d);exact hr () (q.re τ0 d0) (by intros;first|rfl|trivial) ⟨τ0,d0,rfl⟩
  ·refine qR.o qJ (by kernel_rfl) rfl rfl (fun τ d K hK=>?_);have g0:=hT1 0 (of_decide_eq_true (by kernel_rfl));simp only[d25,v25]at g0;have g1:=hT1 1 (of_decide_eq_true (by kernel_rfl));simp only[d25,v25]at g1;simp only[Try.f9,Option.getD_some,pth,qV]at hr⊢;clear hT1 hdep hb hcl;have e121:=get_of g0 (by omega:121<T.size);have e122:=get_of g1 (by omega:122<T.size);go_simp;refine hK _ _ (qR.re ?_ τ d);exact hr () (q.re τ0 d0) (by intros;first|rfl|trivial) ⟨τ0,d0,rfl⟩
  ·refine qR.o qJ (by kernel_rfl) rfl rfl (fun τ d K hK=>?_);have g2:=hT1 2 (of_decide_eq_true (by kernel_rfl));simp only[d25,v25]at g2;have c2:((q.re τ0 d0).re τ d).cell? ⟨bw,ow+i,none⟩=some (.int .i64 wv):=hcell;simp only[Try.f9,Option.getD_some,pth,qV]at hr⊢;clear hT1 hdep hb hcl;have e123:=get_of g2 (by omega:123<T.size);go_simp;refine hK _ _ (qR.re ?_ τ d);exact hr () (q.re τ0 d0) (by intros;first|rfl|trivial) ⟨τ0,d0,rfl⟩
  ·refine qR.o qJ (by kernel_rfl) rfl rfl (fun τ d K hK=>?_);have g3:=hT1 3 (of_decide_eq_true (by kernel_rfl));simp only[d25,v25]at g3;simp only[Try.f9,Option.getD_some,pth,qV]at hr⊢;clear hT1 hdep hb hcl;have e124:=get_of g3 (by omega:124<T.size);go_simp;refine hK _ _ (qR.re ?_ τ d);exact hr () (q.re τ0 d0) (by intros;first|rfl|trivial) ⟨τ0,d0,rfl⟩
  ·refine qR.o qJ (by kernel_rfl) rfl rfl (fun τ d K hK=>?_);simp only[Try.f9,Option.getD_some,pth,qV]at hr⊢;clear hT1 hdep hb hcl;have e13:=get_of f13 (by omega:13<T.size);go_simp;refine hK _ _ (qR.re ?_ τ d);exact hr () (q.re τ0 d0) (by intros;first|rfl|trivial) ⟨τ0,d0,rfl⟩
  ·refine qR.o qJ (by kernel_rfl) rfl rfl (fun τ d K hK=>?_);simp only[Try.f9,Option.getD_some,pth,qV]at hr⊢;clear hT1 hdep hb hcl;have e22:=get_of f22 (by omega:22<T.size);go_simp;refine hK _ _ (qR.re ?_ τ d);exact hr () (q.re τ0 d0) (by intros;first|rfl|trivial) ⟨τ0,d0,rfl⟩
  ·refine qR.o qJ (by kernel_rfl) rfl rfl (fun τ d K hK=>?_);have g5:=hT1 5 (of_decide_eq_true (by kernel_rfl));simp only[d25,v25]at g5;have g6:=hT1 6 (of_decide_eq_true (by kernel_rfl));simp only[d25,v25]at g6;simp only[Try.f9,Option.getD_some,pth,qV]at hr⊢;clear hT1 hdep hb hcl;have e126:=get_of g5 (by omega:126<T.size);have e127:=get_of g6 (by omega:127<T.size);go_simp;refine hK _ _ (qR.re ?_ τ d);exact hr () (q.re τ0 d0) (by intros;first|rfl|trivial) ⟨τ0,d0,rfl⟩
  ·refine qR.o qJ (by kernel_rfl) rfl rfl (fun τ d K hK=>?_);have g7:=hT1 7 (of_decide_eq_true (by kernel_rfl));simp only[d25,v25]at g7;have c2:((q.re τ0 d0).re τ d).cell? ⟨ga,o,none⟩=some (.slice (some ⟨gl,0,none⟩) T1 cp):=hall;simp only[Try.f9,Option.getD_some,pth,qV]at hr⊢;clear hT1 hdep hb hcl;have e128:=get_of g7 (by omega:128<T.size);go_simp;refine hK _ _ (qR.re ?_ τ d);exact hr () (q.re τ0 d0) (by intros;first|rfl|trivial) ⟨τ0,d0,rfl⟩
  ·refine qR.o qJ (by kernel_rfl) rfl rfl (fun τ d K hK=>?_);have g8:=hT1 8 (of_decide_eq_true (by kernel_rfl));simp only[d25,v25]at g8;simp only[Try.f9,Option.getD_some,pth,qV]at hr⊢;clear hT1 hdep hb hcl;have e129:=get_of g8 (by omega:129<T.size);go_simp;refine hK _ _ (qR.re ?_ τ d);exact hr () (q.re τ0 d0) (by intros;first|rfl|trivial) ⟨τ0,d0,rfl⟩
  ·have g4:=hT1 4 (of_decide_eq_true (by kernel_rfl));have g9:=hT1 9 (of_decide_eq_true (by kernel_rfl));simp only[d25,v25]at g4 g9;refine qR.callsA qJ (by kernel_rfl) rfl rfl rfl Try.func18 rfl rfl (xs:=#[.int .i64 (IntKind.wrap .i64 (wv.tdiv 8)),.int .i64 (T1:Int)]) (by simp only[List.map_toArray,List.map_cons,List.map_nil,tmp_of g4,tmp_of g9]) (fun τ d=>?_);refine(pick_lit (IntKind.wrap .i64 (wv.tdiv 8)) T1 (T1:Int) rfl (wrap_wf _) hT10 hT11 ((q.re τ0 d0).re τ d)).mono ?_;rintro e w' ⟨rfl,rfl⟩;exact⟨_,rfl,qR.re (hr () (q.re τ0 d0) (fun _ _ _=>rfl) ⟨τ0,d0,rfl⟩) τ d⟩
  ·refine qR.o qJ (by kernel_rfl) rfl rfl (fun τ d K hK=>?_);have g10:=hT1 10 (of_decide_eq_true (by kernel_rfl));simp only[d25,v25]at g10;simp only[Try.f9,Option.getD_some,pth,qV]at hr⊢;clear hT1 hdep hb hcl;have e131:=get_of g10 (by omega:131<T.size);go_simp;refine hK _ _ (qR.re ?_ τ d);exact hr () (q.re τ0 d0) (by intros;first|rfl|trivial) ⟨τ0,d0,rfl⟩
 ·obtain⟨τ0,d0,rfl⟩:=hW;exact qR.re hend τ0 d0
end Go.Proofs.Ytmfpiodlecapiaa
