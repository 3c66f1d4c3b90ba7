import Derived.Test.YtmfpiodlecapiaaGreatDoorJ42
set_option maxHeartbeats 16000000
set_option maxRecDepth 100000
namespace Go.Proofs.YtmfpiodlecapiaaGreatDoor
open Go.RowKit Go.Deep Go.eO
structure AN(ni Sh:Nat->Prop)(pe q:World)(B lb mr id gl hr gp gb gn:Nat)(S:Oj)(hd:Nat->Nat->Bool)(l:List (Nat×Nat))(A:Nat->OD):Prop where
 ls:oZ q B lb mr [id] (fun _=>S) hd l A
 glo:gl<B
 pk:∀z n,z<S.N->n<S.K z+S.V->∃g,g<B/\q.cell? ⟨gl,S.off z+n,none⟩=some (.slice (some ⟨g,0,none⟩) (10+S.sz) (10+S.sz))/\∀j,j<10+S.sz->q.cell? ⟨g,j,none⟩=some (.int .u8 (((S.pkt id z n)[j]?.getD 0:Nat):Int))
 hro:hr<B
 hb:aB q hr 4 (eF S.T (hd id))
 VX:gp<B
 p0:q.cell? ⟨gp,0,none⟩=some (.int .i64 (S.sz:Nat))
 p1:q.cell? ⟨gp,1,none⟩=some (.int .i64 (S.ms:Nat))
 p2:q.cell? ⟨gp,2,none⟩=some (.int .i64 (S.V:Nat))
 ob:∀j,j<S.len->gb<B/\q.cell? ⟨gb,0+j,none⟩=some (.int .u8 ((S.obj[j]?.getD 0:Nat):Int))
 gno:gn<B
 nr:aB q gn 3 (bW S.L)
 nL:S.L≠ []
 nT:0<S.T
 af:bR ni Sh pe q
 bq:B<=q.heap.size
 pm:pe.heap.size<=mr
 mB:mr<B
 hn:pe.heap.size<=hr
theorem OV{n:Nat}{f:Nat->Bool}(h:0<n):eF n f≠ []:=by
 cases n with
 |zero=>omega
 |succ n=>simp[eF,List.range_succ]
theorem Vx{L:List Nat}(h:L≠ []):bW L≠ []:=by
 cases L with
 |nil=>exact absurd rfl h
 |cons a t=>simp[bW]
theorem ET{Sh S':Nat->Prop}{q q1:World}(ha:bR Sh S' q q1){b:Nat}{e:TypeId}{L:List Value}(hr:aB q b e L)(hL:L≠ []):aB q1 b e L:=
 ha.keep b _ hr (fun e' fz he=>by
  simp at he;exact hL he.1)
variable {ni Sh:Nat->Prop} {pe q:World} {B lb mr id gl hr gp gb gn:Nat} {S:Oj} {hd:Nat->Nat->Bool} {l:List (Nat×Nat)} {A:Nat->OD}
theorem AN.grw{q1:World}(h:AN ni Sh pe q B lb mr id gl hr gp gb gn S hd l A)(hg:dZ q q1):AN ni Sh pe q1 B lb mr id gl hr gp gb gn S hd l A:=by
 obtain⟨es,clock,hm,_⟩:=h.ls.map;refine⟨h.ls.keep hg.ck (hg.row _ (Array.getElem?_eq_some_iff.1 hm).1),h.glo,fun z n hz hn=>?_,h.hro,h.hb.of_block (hg.row _ h.hb.lt),h.VX,hg.cell h.p0,hg.cell h.p1,hg.cell h.p2,fun j hj=>⟨(h.ob j hj).1,hg.cell (h.ob j hj).2⟩,h.gno,h.nr.of_block (hg.row _ h.nr.lt),h.nL,h.nT,h.af.trans (bR.iG hg),Nat.le_trans h.bq hg.size,h.pm,h.mB,h.hn⟩;obtain⟨g,h1,h2,h3⟩:=h.pk z n hz hn;exact⟨g,h1,hg.cell h2,fun j hj=>hg.cell (h3 j hj)⟩
theorem AN.told{S':Nat->Prop}{q1:World}(h:AN ni Sh pe q B lb mr id gl hr gp gb gn S hd l A)(ha:bR Sh S' q q1):AN ni S' pe q1 B lb mr id gl hr gp gb gn S hd l A:=by
 have hk:KC B q q1:=KC.tX ha;refine⟨h.ls.T9 ha,h.glo,fun z n hz hn=>?_,h.hro,ET ha h.hb (OV h.nT),h.VX,hk _ _ _ h.p0 (by simp) h.VX,hk _ _ _ h.p1 (by simp) h.VX,hk _ _ _ h.p2 (by simp) h.VX,fun j hj=>⟨(h.ob j hj).1,hk _ _ _ (h.ob j hj).2 (by simp) (h.ob j hj).1⟩,h.gno,ET ha h.nr (Vx h.nL),h.nL,h.nT,h.af.trans ha,Nat.le_trans h.bq ha.grown,h.pm,h.mB,h.hn⟩;obtain⟨g,h1,h2,h3⟩:=h.pk z n hz hn;exact⟨g,h1,hk _ _ _ h2 (by simp) h.glo,fun j hj=>hk _ _ _ (h3 j hj) (by simp) h1⟩
theorem AN.heard{q1 q':World}{k:Nat}{l':List (Nat×Nat)}{A':Nat->OD}(h:AN ni Sh pe q B lb mr id gl hr gp gb gn S hd l A)(hg:dZ q q1)
  (hL:oZ q' B lb mr [id] (fun _=>S) (qA hd id k) l' A')(hlow:∀b,b<B->b≠mr->q'.heap[b]? =q1.heap[b]?)(hsz:q1.heap.size<=q'.heap.size)(hos:q'.os=q1.os)(hout:q'.output=q1.output):
  aB q' hr 4 (eF S.T (hd id))/\AN ni Sh pe (q'.setCell ⟨hr,k,none⟩ (.bool true)) B lb mr id gl hr gp gb gn S (qA hd id k) l' A':=by
 obtain⟨es,clock,hm,_⟩:=h.ls.map;have hm1:q1.heap[mr]? =some (.map es clock):=by rw[hg.row _ (Array.getElem?_eq_some_iff.1 hm).1];exact hm
 have hkc:KC B q q':=(KC.iG hg).trans (KC.of_low hm1 hlow);have hrm:hr≠mr:=C9 hm h.hb;have hnm:gn≠mr:=C9 hm h.nr;have rw':aB q' hr 4 (eF S.T (hd id)):=h.hb.of_block (by rw[hlow _ h.hro hrm,hg.row _ h.hb.lt]);have nw':aB q' gn 3 (bW S.L):=h.nr.of_block (by rw[hlow _ h.gno hnm,hg.row _ h.nr.lt]);have Ou:KC B q (q'.setCell ⟨hr,k,none⟩ (.bool true)):=hkc.trans (KC.setB rw' GJ _);have hset:∀b,b≠hr->(q'.setCell ⟨hr,k,none⟩ (.bool true)).heap[b]? =q'.heap[b]? :=fun b hb=>by
  simp[World.setCell,Array.getElem?_modify,Ne.symm hb]
 have hss:(q'.setCell ⟨hr,k,none⟩ (.bool true)).heap.size=q'.heap.size:=by simp[World.setCell]
 have s1:=hg.size;have s2:=h.bq;have s3:=h.pm;have s4:=h.mB;have s5:=h.hn;have hne:gn≠hr:=fun e=>by
  have h1:=nw';rw[e]at h1;exact absurd (h1.unique rw').1 (by decide)
 have hold:∀b,b<pe.heap.size->(q'.setCell ⟨hr,k,none⟩ (.bool true)).heap[b]? =q.heap[b]? :=fun b hb=>by
  rw[hset b (by omega),hlow b (by omega) (by omega),hg.row b (by omega)]
 refine⟨rw',hL.keep (CK.setB rw' _) (hset _ (Ne.symm hrm)),h.glo,fun z n hz hn=>?_,h.hro,?_,h.VX,Ou _ _ _ h.p0 (by simp) h.VX,Ou _ _ _ h.p1 (by simp) h.VX,Ou _ _ _ h.p2 (by simp) h.VX,fun j hj=>⟨(h.ob j hj).1,Ou _ _ _ (h.ob j hj).2 (by simp) (h.ob j hj).1⟩,h.gno,nw'.of_block (hset _ hne),h.nL,h.nT,⟨?_,fun b ob h1 h2=>?_,fun b h1 h2=>?_,?_,?_⟩,?_,h.pm,h.mB,h.hn⟩
 ·obtain⟨g,h1,h2,h3⟩:=h.pk z n hz hn;exact⟨g,h1,Ou _ _ _ h2 (by simp) h.glo,fun j hj=>Ou _ _ _ (h3 j hj) (by simp) h1⟩
 ·rw[pE,<-JU];exact rw'.set k _
 ·have:=h.af.grown;omega
 ·have:=h.af.keep b ob h1 h2;rw[hold b (Array.getElem?_eq_some_iff.1 h1).1];exact this
 ·have:=h.af.old b h1 h2;exact⟨this.1,(hold b h1).trans this.2⟩
 ·exact hos.trans (hg.os.trans h.af.os)
 ·exact hout.trans (hg.output.trans h.af.output)
 ·omega
theorem AN.alpha(h:AN ni Sh pe q B lb mr id gl hr gp gb gn S hd l A)(ha:Alpha pe):Alpha q:=fun i hi=>KC.tX (B:=1) h.af _ _ _ (ha i hi) (by simp) (by omega)
theorem AN.num(h:AN ni Sh pe q B lb mr id gl hr gp gb gn S hd l A){b i:Nat}{m:Int}(hm:pe.cell? ⟨b,i,none⟩=some (.int .i64 m)):q.cell? ⟨b,i,none⟩=some (.int .i64 m):=KC.tX (B:=b+1) h.af _ _ _ hm (by simp) (by omega)
end Go.Proofs.YtmfpiodlecapiaaGreatDoor
namespace Go.Proofs.YtmfpiodlecapiaaGreatDoor
open Go.Conc Go.ConcN Go.RowKit Go.bB Go.Ren Go.eO Go.Deep Go.iw
attribute [local go_sem↓] Go.wp_at_zero Go.wp_at_succ
theorem GN{ni:Nat->Prop}{Post:(Nat->Prop)->Goroutine->World->Prop}{pe:World}{ks:List Item}{cs:List Frame}{B lb mr id gl cl hr gp gb cb gn cn nw cw:Nat}{aw:Option Addr}{wr:Bool}{S:Oj}{Sh:Nat->Prop}(ok:S.Ok){cc:Code}{i k:Nat}{v:Int}{q':World}{hd:Nat->Nat->Bool}{l':List (Nat×Nat)}{A':Nat->OD}(hnw:nw<=maxLen)(hi:i<nw)(hk:k<S.T)
 (hrow:aB q' hr 4 (eF S.T (hd id)))(hA:AN ni Sh pe (q'.setCell ⟨hr,k,none⟩ (.bool true)) B lb mr id gl hr gp gb gn S (qA hd id k) l' A')
 (hn:∀(sS:Nat->Prop) q2 hd2 l2 A2 t1 t2 t3 t4 t7 t8 t9 o5 d8 r0 h0 e9 b4 q4 n7 s7 s6 s0 r9 r1 d4 p6 p7 b3 r6 r8 r3 e1 c3 c2 h9 k7 c6 g7 f9 d1 o3 j9 e2 e6 n3 b0 d5 e3 l7 f0 f1 e8 g2 m0 f2 b7 i4 d9 g1 o9 j2 i2 o4 e4 c0 c4 f6 g6 d7 o8 n9 b8 i8 g8 m3 g4 f3 b1 i9 f7 m4 r7 n4 j0 n6 j6 n5 n2 m5 d2 q9 j5 r4 a5 m8 h6 j4 c7 k3 k9 i7 k8 k4 m6 i3 j8 m7 j1 i6 o2 c5 j7 a3 o6 g3 b2 q3 g9 q5 l0 b9 n8 d0 b5 m9 l1 c1 l6 f5 o0 p8 c8 e5 r2 d6 a6 o1 i5 g5 c9 a7 k6 n1 k5 l3 l8 r5 b6 h4 g0 q0 e7 h8 q7 q6 a9 p4 o7 n0 j3 q8 m1 e0 m2 a8 p9 l4 f8 d3 l9 a4,AN ni sS pe q2 B lb mr id gl hr gp gb gn S hd2 l2 A2->(∃ob,getM l2 id=some ob)->aj Tryz.prog sS (G ((base 4).at ⟨#[.int .i64 (id:Nat),t1,t2,t3,t4,.slice aw nw cw,.bool wr,t7,t8,t9,o5,d8,r0,h0,.bool false,e9,.pointer (some ⟨gp,0,none⟩),.slice (some ⟨gb,0,none⟩) S.len cb,.slice (some ⟨gl,0,none⟩) S.T cl,b4,.slice (some ⟨gn,0,none⟩) S.N cn,q4,.pointer (some ⟨lb,0,none⟩),n7,.slice (some ⟨hr,0,none⟩) S.T S.T,.int .i64 ((i+1:Nat):Int),s7,s6,s0,r9,r1,d4,p6,p7,b3,r6,r8,r3,e1,c3,c2,h9,k7,c6,g7,f9,d1,o3,j9,e2,e6,n3,b0,d5,e3,l7,f0,f1,e8,g2,m0,f2,b7,i4,d9,g1,o9,j2,i2,o4,e4,c0,c4,f6,g6,d7,o8,n9,b8,i8,g8,m3,g4,f3,b1,i9,f7,m4,r7,n4,j0,n6,j6,n5,n2,m5,d2,q9,j5,r4,a5,m8,h6,j4,c7,k3,k9,i7,k8,k4,m6,i3,j8,m7,j1,i6,o2,c5,j7,a3,o6,g3,b2,q3,g9,q5,l0,b9,n8,d0,b5,m9,l1,c1,l6,f5,o0,p8,c8,e5,r2,d6,a6,o1,i5,g5,c9,a7,k6,n1,k5,l3,l8,r5,b6,h4,g0,q0,e7,h8,q7,q6,a9,p4,o7,n0,j3,q8,m1,e0,m2,a8,p9,l4,f8,d3,l9,a4],[]⟩ (.inLoop cc:: .inBlock 0::ks)) cs) q2 Post):
 ∀(t1 t2 t3 t4 t7 t8 t9 o5 d8 r0 h0 e9 b4 q4 n7 r1 d4 p6 p7 b3 r6 r8 r3 e1 c3 c2 h9 k7 c6 g7 f9 d1 o3 j9 e2 e6 n3 b0 d5 e3 l7 f0 f1 e8 g2 m0 f2 b7 i4 d9 g1 o9 j2 i2 o4 e4 c0 c4 f6 g6 d7 o8 n9 b8 i8 g8 m3 g4 f3 b1 i9 f7 m4 r7 n4 j0 n6 j6 n5 n2 m5 d2 q9 j5 r4 a5 m8 h6 j4 c7 k3 k9 i7 k8 k4 m6 i3 j8 m7 j1 i6 o2 c5 j7 a3 o6 g3 b2 q3 g9 q5 l0 b9 n8 d0 b5 m9 l1 c1 l6 f5 o0 p8 c8 e5 r2 d6 a6 o1 i5 g5 c9 a7 k6 n1 k5 l3 l8 r5 b6 h4 g0 q0 e7 h8 q7 q6 a9 p4 o7 n0 j3 q8 m1 e0 m2 a8 p9 l4 f8 d3 l9 a4:Value),aj Tryz.prog Sh (G ((base 4).at ⟨#[.int .i64 (id:Nat),t1,t2,t3,t4,.slice aw nw cw,.bool wr,t7,t8,t9,o5,d8,r0,h0,.bool false,e9,.pointer (some ⟨gp,0,none⟩),.slice (some ⟨gb,0,none⟩) S.len cb,.slice (some ⟨gl,0,none⟩) S.T cl,b4,.slice (some ⟨gn,0,none⟩) S.N cn,q4,.pointer (some ⟨lb,0,none⟩),n7,.slice (some ⟨hr,0,none⟩) S.T S.T,.int .i64 (i:Nat),.int .i64 (k:Nat),.int .i64 v,.int .i64 v,.int .i64 0,r1,d4,p6,p7,b3,r6,r8,r3,e1,c3,c2,h9,k7,c6,g7,f9,d1,o3,j9,e2,e6,n3,b0,d5,e3,l7,f0,f1,e8,g2,m0,f2,b7,i4,d9,g1,o9,j2,i2,o4,e4,c0,c4,f6,g6,d7,o8,n9,b8,i8,g8,m3,g4,f3,b1,i9,f7,m4,r7,n4,j0,n6,j6,n5,n2,m5,d2,q9,j5,r4,a5,m8,h6,j4,c7,k3,k9,i7,k8,k4,m6,i3,j8,m7,j1,i6,o2,c5,j7,a3,o6,g3,b2,q3,g9,q5,l0,b9,n8,d0,b5,m9,l1,c1,l6,f5,o0,p8,c8,e5,r2,d6,a6,o1,i5,g5,c9,a7,k6,n1,k5,l3,l8,r5,b6,h4,g0,q0,e7,h8,q7,q6,a9,p4,o7,n0,j3,q8,m1,e0,m2,a8,p9,l4,f8,d3,l9,a4],[]⟩ (.code (dP [1,1,1,1,1,1,1,1,1,1,1,1,0,1,0,0,1,0,0,1,1,1,1,1,1] (Tryz.f4.body.getD .skip)):: .inBlock 1:: .code (dP [1,1,1,1,1,1,1,1,1,1,1,1,0,1,0,0,1,1] (Tryz.f4.body.getD .skip)):: .inLoop cc:: .inBlock 0::ks)) cs) q' Post:=by
 intro t1 t2 t3 t4 t7 t8 t9 o5 d8 r0 h0 e9 b4 q4 n7 r1 d4 p6 p7 b3 r6 r8 r3 e1 c3 c2 h9 k7 c6 g7 f9 d1 o3 j9 e2 e6 n3 b0 d5 e3 l7 f0 f1 e8 g2 m0 f2 b7 i4 d9 g1 o9 j2 i2 o4 e4 c0 c4 f6 g6 d7 o8 n9 b8 i8 g8 m3 g4 f3 b1 i9 f7 m4 r7 n4 j0 n6 j6 n5 n2 m5 d2 q9 j5 r4 a5 m8 h6 j4 c7 k3 k9 i7 k8 k4 m6 i3 j8 m7 j1 i6 o2 c5 j7 a3 o6 g3 b2 q3 g9 q5 l0 b9 n8 d0 b5 m9 l1 c1 l6 f5 o0 p8 c8 e5 r2 d6 a6 o1 i5 g5 c9 a7 k6 n1 k5 l3 l8 r5 b6 h4 g0 q0 e7 h8 q7 q6 a9 p4 o7 n0 j3 q8 m1 e0 m2 a8 p9 l4 f8 d3 l9 a4;have HN:=hide hn;clear hn;have i0:(0:Int)<=(i:Int):=by omega
 have i1:(i:Int)<9223372036854775807:=by simp only[maxLen]at hnw;omega
 have k0:(0:Int)<=(k:Int):=by omega
 have k1:(k:Int)<(S.T:Int):=by omega
 have fin:∀(sS:Nat->Prop) q2 hd2 l2 A2 t1 t2 t3 t4 t7 t8 t9 o5 d8 r0 h0 e9 b4 q4 n7 r1 d4 p6 p7 b3 r6 r8 r3 e1 c3 c2 h9 k7 c6 g7 f9 d1 o3 j9 e2 e6 n3 b0 d5 e3 l7 f0 f1 e8 g2 m0 f2 b7 i4 d9 g1 o9 j2 i2 o4 e4 c0 c4 f6 g6 d7 o8 n9 b8 i8 g8 m3 g4 f3 b1 i9 f7 m4 r7 n4 j0 n6 j6 n5 n2 m5 d2 q9 j5 r4 a5 m8 h6 j4 c7 k3 k9 i7 k8 k4 m6 i3 j8 m7 j1 i6 o2 c5 j7 a3 o6 g3 b2 q3 g9 q5 l0 b9 n8 d0 b5 m9 l1 c1 l6 f5 o0 p8 c8 e5 r2 d6 a6 o1 i5 g5 c9 a7 k6 n1 k5 l3 l8 r5 b6 h4 g0 q0 e7 h8 q7 q6 a9 p4 o7 n0 j3 q8 m1 e0 m2 a8 p9 l4 f8 d3 l9 a4,AN ni sS pe q2 B lb mr id gl hr gp gb gn S hd2 l2 A2->(∃ob,getM l2 id=some ob)->aj Tryz.prog sS (G ((base 4).at ⟨#[.int .i64 (id:Nat),t1,t2,t3,t4,.slice aw nw cw,.bool wr,t7,t8,t9,o5,d8,r0,h0,.bool false,e9,.pointer (some ⟨gp,0,none⟩),.slice (some ⟨gb,0,none⟩) S.len cb,.slice (some ⟨gl,0,none⟩) S.T cl,b4,.slice (some ⟨gn,0,none⟩) S.N cn,q4,.pointer (some ⟨lb,0,none⟩),n7,.slice (some ⟨hr,0,none⟩) S.T S.T,.int .i64 (i:Nat),.int .i64 (k:Nat),.int .i64 v,.int .i64 v,.int .i64 0,r1,d4,p6,p7,b3,r6,r8,r3,e1,c3,c2,h9,k7,c6,g7,f9,d1,o3,j9,e2,e6,n3,b0,d5,e3,l7,f0,f1,e8,g2,m0,f2,b7,i4,d9,g1,o9,j2,i2,o4,e4,c0,c4,f6,g6,d7,o8,n9,b8,i8,g8,m3,g4,f3,b1,i9,f7,m4,r7,n4,j0,n6,j6,n5,n2,m5,d2,q9,j5,r4,a5,m8,h6,j4,c7,k3,k9,i7,k8,k4,m6,i3,j8,m7,j1,i6,o2,c5,j7,a3,o6,g3,b2,q3,g9,q5,l0,b9,n8,d0,b5,m9,l1,c1,l6,f5,o0,p8,c8,e5,r2,d6,a6,o1,i5,g5,c9,a7,k6,n1,k5,l3,l8,r5,b6,h4,g0,q0,e7,h8,q7,q6,a9,p4,o7,n0,j3,q8,m1,e0,m2,a8,p9,l4,f8,d3,l9,a4],[]⟩ (.inBlock 1:: .code (dP [1,1,1,1,1,1,1,1,1,1,1,1,0,1,0,0,1,1] (Tryz.f4.body.getD .skip)):: .inLoop cc:: .inBlock 0::ks)) cs) q2 Post:=by
  intro sS q2 hd2 l2 A2 t1 t2 t3 t4 t7 t8 t9 o5 d8 r0 h0 e9 b4 q4 n7 r1 d4 p6 p7 b3 r6 r8 r3 e1 c3 c2 h9 k7 c6 g7 f9 d1 o3 j9 e2 e6 n3 b0 d5 e3 l7 f0 f1 e8 g2 m0 f2 b7 i4 d9 g1 o9 j2 i2 o4 e4 c0 c4 f6 g6 d7 o8 n9 b8 i8 g8 m3 g4 f3 b1 i9 f7 m4 r7 n4 j0 n6 j6 n5 n2 m5 d2 q9 j5 r4 a5 m8 h6 j4 c7 k3 k9 i7 k8 k4 m6 i3 j8 m7 j1 i6 o2 c5 j7 a3 o6 g3 b2 q3 g9 q5 l0 b9 n8 d0 b5 m9 l1 c1 l6 f5 o0 p8 c8 e5 r2 d6 a6 o1 i5 g5 c9 a7 k6 n1 k5 l3 l8 r5 b6 h4 g0 q0 e7 h8 q7 q6 a9 p4 o7 n0 j3 q8 m1 e0 m2 a8 p9 l4 f8 d3 l9 a4 hA2 jJ;refine aj.inBlock ?_;conv=>arg 3;simp only[Tryz.f4,Option.getD_some,dP]
  refine aj.aX fun kk hkk=>?_;replace hkk:=hide hkk;refine aj.bC ak (by kernel_rfl) fun τ d=>?_;go_wp2
  first|(refine Or.inl ⟨rfl,?_⟩;dsimp only;refine aj.re ?_ _ _)|refine aj.re ?_ _ _
  rw[hkk.out];clear hkk kk τ d;exact HN.out sS q2 hd2 l2 A2 _ _ _ _ _ _ _ _ _ _ _ _ _ _ _ _ _ _ _ _ _ _ _ _ _ _ _ _ _ _ _ _ _ _ _ _ _ _ _ _ _ _ _ _ _ _ _ _ _ _ _ _ _ _ _ _ _ _ _ _ _ _ _ _ _ _ _ _ _ _ _ _ _ _ _ _ _ _ _ _ _ _ _ _ _ _ _ _ _ _ _ _ _ _ _ _ _ _ _ _ _ _ _ _ _ _ _ _ _ _ _ _ _ _ _ _ _ _ _ _ _ _ _ _ _ _ _ _ _ _ _ _ _ _ _ _ _ _ _ _ _ _ _ _ _ _ _ _ _ _ _ _ _ _ _ _ _ _ _ _ _ _ _ _ _ _ _ hA2 jJ
 have HF:=hide fin;clear fin HN;conv=>arg 3;simp only[Tryz.f4,Option.getD_some,dP]
 refine aj.seq (aj.seq ?_);refine aj.aX fun kk hkk=>?_;replace hkk:=hide hkk;refine aj.bC ak (by kernel_rfl) fun τ d=>?_;go_wp2
 first|(refine Or.inl ⟨rfl,?_⟩;dsimp only;refine aj.re ?_ _ _)|refine aj.re ?_ _ _
 rw[hkk.out];clear hkk kk τ d;refine aj.no rfl (aj.skip ?_);refine aj.seq ?_;refine aj.aX fun kk hkk=>?_;replace hkk:=hide hkk;refine aj.reg (todo:= [0,1,2,3]) rfl ?_;refine aj.pv ak fun τ d K hK=>?_;go_simp;refine hK _ ?_;clear hK;try walk_nrm
 iterate 2 (refine aj.pv ak fun τ d K hK=>?_;go_simp;refine hK _ ?_;clear hK;try walk_nrm)
 refine aj.o ak (by kernel_rfl) rfl rfl (fun τ d K hK=>?_);have a0:(q'.re τ d).cell? ⟨hr,k,none⟩=some (.bool (hd id k)):=hrow.cell _ _ (pX hk);have a1:(q'.re τ d).frozen? ⟨hr,k,none⟩=false:=hrow.frozen _;go_simp;refine hK _ _ ?_;clear hK a0 a1;refine aj.re (p:=q'.setCell ⟨hr,k,none⟩ (.bool true)) ?_ τ d;try walk_nrm
 refine aj.aR ?_;rw[hkk.out];clear hkk kk τ d;obtain⟨q2,hq2⟩:∃q2,q2=q'.setCell ⟨hr,k,none⟩ (.bool true):=⟨_,rfl⟩;rw[<-hq2]at hA⊢;clear hq2 hrow;obtain⟨ob,jJ⟩:=hA.ls.has (i:=id) (k:=k) (by simp) hk (by rw[pE];simp[upd]);have HA:=hide hA;clear hA;refine aj.seq ?_;by_cases h7:i%7=0
 ·have h7':((i:Int)).tmod 7=0:=by rw[Int.tmod_eq_emod_of_nonneg i0];omega
  refine aj.aX fun kk hkk=>?_;replace hkk:=hide hkk;refine aj.bC ak (by kernel_rfl) fun τ d=>?_;go_wp2
  first|(refine Or.inl ⟨rfl,?_⟩;dsimp only;refine aj.re ?_ _ _)|refine aj.re ?_ _ _
  rw[hkk.out];clear hkk kk τ d;refine aj.yes (by first|rfl|(simp[Act.eval];done)|(simp[Act.eval];omega)) ?_;refine aj.seq ?_;refine aj.aX fun kk hkk=>?_;replace hkk:=hide hkk;refine aj.reg (todo:= [0,1,2,3,4,5,6,7]) rfl ?_;refine aj.pv ak fun τ d K hK=>?_;go_simp;refine hK _ ?_;clear hK;try walk_nrm
  iterate 3 (refine aj.pv ak fun τ d K hK=>?_;go_simp;refine hK _ ?_;clear hK;try walk_nrm)
  refine aj.o ak (by kernel_rfl) rfl rfl (fun τ d K hK=>?_);have a0:(q2.re τ d).cell? ⟨gp,0,none⟩=some (.int .i64 (S.sz:Nat)):=HA.out.p0;have a1:(q2.re τ d).cell? ⟨gp,1,none⟩=some (.int .i64 (S.ms:Nat)):=HA.out.p1;have a2:(q2.re τ d).cell? ⟨gp,2,none⟩=some (.int .i64 (S.V:Nat)):=HA.out.p2;go_simp;refine hK _ _ ?_;clear hK a0 a1 a2;refine aj.re ?_ _ _;try walk_nrm
  refine aj.pv ak fun τ d K hK=>?_;go_simp;refine hK _ ?_;clear hK;try walk_nrm
  refine aj.dM rfl rfl (by decide) rfl Tryz.func21 rfl rfl (T':=#[.pointer (some ⟨lb,0,none⟩),.int .i64 (id:Nat),.slice (some ⟨gb,0,none⟩) S.len cb,.slice (some ⟨gn,0,none⟩) S.N cn,.agg #[.int .i64 (S.sz:Nat),.int .i64 (S.ms:Nat),.int .i64 (S.V:Nat)],.slice (some ⟨hr,0,none⟩) S.T S.T,undef,undef,undef,undef,undef,undef,undef,undef,undef,undef,undef,undef,undef,undef,undef,undef,undef,undef,undef,undef,undef,undef,undef,undef,undef,undef,undef,undef,undef,undef,undef,undef,undef,undef,undef,undef,undef,undef,undef,undef,undef,undef,undef,undef,undef,undef,undef,undef,undef,undef,undef,undef,undef,undef,undef,undef,undef,undef,undef,undef,undef,undef,undef,undef,undef,undef,undef,undef,undef,undef,undef,undef,undef,undef,undef,undef,undef,undef,undef,undef,undef,undef,undef,undef,undef,undef,undef,undef,undef,undef,undef,undef,undef,undef,undef,undef,undef,undef,undef,undef,undef,undef,undef,undef,undef,undef,undef,undef,undef,undef,undef,undef,undef,undef,undef,undef,undef,undef,undef,undef,undef,undef,undef,undef,undef,undef,undef,undef]) (by simp[Act.eval,Tryz.f21]) ?_;refine DZ (o:=?oo1) (id:=id) ?ho1 (S:=fun _=>S) HA.out.ls ok jJ HA.out.nr (fun j hj=>HA.out.hb.cell _ _ (pX hj)) (fun j hj=>(HA.out.ob j hj).2) (fun S5 p5 hA5=>?hend)
  case ho1=>rfl
  case hend=>
  have HA5:=hide (HA.out.told hA5);clear hA5;try walk_nrm
  refine aj.pv ak fun τ d K hK=>?_;go_simp;refine hK _ ?_;clear hK;try walk_nrm
  refine aj.aR ?_;rw[hkk.out];clear hkk kk;refine aj.seq ?_;refine aj.aX fun kk hkk=>?_;replace hkk:=hide hkk;refine aj.bC ak (by kernel_rfl) fun τ d=>?_;go_wp2
  first|(refine Or.inl ⟨rfl,?_⟩;dsimp only;refine aj.re ?_ _ _)|refine aj.re ?_ _ _
  rw[hkk.out];clear hkk kk τ d;refine aj.no rfl (aj.skip ?_);exact HF.out S5 p5 _ l' A' _ _ _ _ _ _ _ _ _ _ _ _ _ _ _ _ _ _ _ _ _ _ _ _ _ _ _ _ _ _ _ _ _ _ _ _ _ _ _ _ _ _ _ _ _ _ _ _ _ _ _ _ _ _ _ _ _ _ _ _ _ _ _ _ _ _ _ _ _ _ _ _ _ _ _ _ _ _ _ _ _ _ _ _ _ _ _ _ _ _ _ _ _ _ _ _ _ _ _ _ _ _ _ _ _ _ _ _ _ _ _ _ _ _ _ _ _ _ _ _ _ _ _ _ _ _ _ _ _ _ _ _ _ _ _ _ _ _ _ _ _ _ _ _ _ _ _ _ _ _ _ _ _ _ _ _ _ _ _ _ _ _ _ HA5.out ⟨ob,jJ⟩
 ·have h7':¬((i:Int)).tmod 7=0:=by rw[Int.tmod_eq_emod_of_nonneg i0];omega
  refine aj.aX fun kk hkk=>?_;replace hkk:=hide hkk;refine aj.bC ak (by kernel_rfl) fun τ d=>?_;go_wp2
  first|(refine Or.inl ⟨rfl,?_⟩;dsimp only;refine aj.re ?_ _ _)|refine aj.re ?_ _ _
  rw[hkk.out];clear hkk kk τ d;refine aj.no (by first|rfl|(simp[Act.eval];done)|(simp[Act.eval];omega)) (aj.skip ?_);exact HF.out Sh q2 _ l' A' _ _ _ _ _ _ _ _ _ _ _ _ _ _ _ _ _ _ _ _ _ _ _ _ _ _ _ _ _ _ _ _ _ _ _ _ _ _ _ _ _ _ _ _ _ _ _ _ _ _ _ _ _ _ _ _ _ _ _ _ _ _ _ _ _ _ _ _ _ _ _ _ _ _ _ _ _ _ _ _ _ _ _ _ _ _ _ _ _ _ _ _ _ _ _ _ _ _ _ _ _ _ _ _ _ _ _ _ _ _ _ _ _ _ _ _ _ _ _ _ _ _ _ _ _ _ _ _ _ _ _ _ _ _ _ _ _ _ _ _ _ _ _ _ _ _ _ _ _ _ _ _ _ _ _ _ _ _ _ _ _ _ _ HA.out ⟨ob,jJ⟩
theorem Ey(bs:List Nat):(strOf bs).size=bs.length:=by
 rw[xw];show(bs.map fun n:Nat=>UInt8.ofNat n).toArray.size=_;rw[List.size_toArray,List.length_map]
theorem L6{ni:Nat->Prop}{Post:(Nat->Prop)->Goroutine->World->Prop}{pe:World}{ks:List Item}{cs:List Frame}{B lb mr id gl cl hr gp gb cb gn cn nw cw:Nat}{aw:Option Addr}{wr:Bool}{S:Oj}{Sh:Nat->Prop}{m:Int}(ok:S.Ok)(hid:id<65536)(ha:Alpha pe)(hm:pe.cell? ⟨1,0,none⟩=some (.int .i64 m)){cc:Code}{i k z n:Nat}{v:Int}{q:World}{hd:Nat->Nat->Bool}{l:List (Nat×Nat)}{A:Nat->OD}(hnw:nw<=maxLen)(hi:i<nw)(hz:z<S.N)(hnz:n<S.K z+S.V)(hkz:k=S.off z+n)(hk:k<S.T)(hv:v=if hd id k=true then 0 else 1)
 (hA:AN ni Sh pe q B lb mr id gl hr gp gb gn S hd l A)
 (hn:∀(sS:Nat->Prop) q2 hd2 l2 A2 t1 t2 t3 t4 t7 t8 t9 o5 d8 r0 h0 e9 b4 q4 n7 s7 s6 s0 r9 r1 d4 p6 p7 b3 r6 r8 r3 e1 c3 c2 h9 k7 c6 g7 f9 d1 o3 j9 e2 e6 n3 b0 d5 e3 l7 f0 f1 e8 g2 m0 f2 b7 i4 d9 g1 o9 j2 i2 o4 e4 c0 c4 f6 g6 d7 o8 n9 b8 i8 g8 m3 g4 f3 b1 i9 f7 m4 r7 n4 j0 n6 j6 n5 n2 m5 d2 q9 j5 r4 a5 m8 h6 j4 c7 k3 k9 i7 k8 k4 m6 i3 j8 m7 j1 i6 o2 c5 j7 a3 o6 g3 b2 q3 g9 q5 l0 b9 n8 d0 b5 m9 l1 c1 l6 f5 o0 p8 c8 e5 r2 d6 a6 o1 i5 g5 c9 a7 k6 n1 k5 l3 l8 r5 b6 h4 g0 q0 e7 h8 q7 q6 a9 p4 o7 n0 j3 q8 m1 e0 m2 a8 p9 l4 f8 d3 l9 a4,AN ni sS pe q2 B lb mr id gl hr gp gb gn S hd2 l2 A2->(∃ob,getM l2 id=some ob)->aj Tryz.prog sS (G ((base 4).at ⟨#[.int .i64 (id:Nat),t1,t2,t3,t4,.slice aw nw cw,.bool wr,t7,t8,t9,o5,d8,r0,h0,.bool false,e9,.pointer (some ⟨gp,0,none⟩),.slice (some ⟨gb,0,none⟩) S.len cb,.slice (some ⟨gl,0,none⟩) S.T cl,b4,.slice (some ⟨gn,0,none⟩) S.N cn,q4,.pointer (some ⟨lb,0,none⟩),n7,.slice (some ⟨hr,0,none⟩) S.T S.T,.int .i64 ((i+1:Nat):Int),s7,s6,s0,r9,r1,d4,p6,p7,b3,r6,r8,r3,e1,c3,c2,h9,k7,c6,g7,f9,d1,o3,j9,e2,e6,n3,b0,d5,e3,l7,f0,f1,e8,g2,m0,f2,b7,i4,d9,g1,o9,j2,i2,o4,e4,c0,c4,f6,g6,d7,o8,n9,b8,i8,g8,m3,g4,f3,b1,i9,f7,m4,r7,n4,j0,n6,j6,n5,n2,m5,d2,q9,j5,r4,a5,m8,h6,j4,c7,k3,k9,i7,k8,k4,m6,i3,j8,m7,j1,i6,o2,c5,j7,a3,o6,g3,b2,q3,g9,q5,l0,b9,n8,d0,b5,m9,l1,c1,l6,f5,o0,p8,c8,e5,r2,d6,a6,o1,i5,g5,c9,a7,k6,n1,k5,l3,l8,r5,b6,h4,g0,q0,e7,h8,q7,q6,a9,p4,o7,n0,j3,q8,m1,e0,m2,a8,p9,l4,f8,d3,l9,a4],[]⟩ (.inLoop cc:: .inBlock 0::ks)) cs) q2 Post):
 ∀(t1 t2 t3 t4 t7 t8 t9 o5 d8 r0 h0 e9 b4 q4 n7 s0 r9 r1 d4 p6 p7 b3 r6 r8 r3 e1 c3 c2 h9 k7 c6 g7 f9 d1 o3 j9 e2 e6 n3 b0 d5 e3 l7 f0 f1 e8 g2 m0 f2 b7 i4 d9 g1 o9 j2 i2 o4 e4 c0 c4 f6 g6 d7 o8 n9 b8 i8 g8 m3 g4 f3 b1 i9 f7 m4 r7 n4 j0 n6 j6 n5 n2 m5 d2 q9 j5 r4 a5 m8 h6 j4 c7 k3 k9 i7 k8 k4 m6 i3 j8 m7 j1 i6 o2 c5 j7 a3 o6 g3 b2 q3 g9 q5 l0 b9 n8 d0 b5 m9 l1 c1 l6 f5 o0 p8 c8 e5 r2 d6 a6 o1 i5 g5 c9 a7 k6 n1 k5 l3 l8 r5 b6 h4 g0 q0 e7 h8 q7 q6 a9 p4 o7 n0 j3 q8 m1 e0 m2 a8 p9 l4 f8 d3 l9 a4:Value),aj Tryz.prog Sh (G ((base 4).at ⟨#[.int .i64 (id:Nat),t1,t2,t3,t4,.slice aw nw cw,.bool wr,t7,t8,t9,o5,d8,r0,h0,.bool false,e9,.pointer (some ⟨gp,0,none⟩),.slice (some ⟨gb,0,none⟩) S.len cb,.slice (some ⟨gl,0,none⟩) S.T cl,b4,.slice (some ⟨gn,0,none⟩) S.N cn,q4,.pointer (some ⟨lb,0,none⟩),n7,.slice (some ⟨hr,0,none⟩) S.T S.T,.int .i64 (i:Nat),.int .i64 (k:Nat),.int .i64 v,s0,r9,r1,d4,p6,p7,b3,r6,r8,r3,e1,c3,c2,h9,k7,c6,g7,f9,d1,o3,j9,e2,e6,n3,b0,d5,e3,l7,f0,f1,e8,g2,m0,f2,b7,i4,d9,g1,o9,j2,i2,o4,e4,c0,c4,f6,g6,d7,o8,n9,b8,i8,g8,m3,g4,f3,b1,i9,f7,m4,r7,n4,j0,n6,j6,n5,n2,m5,d2,q9,j5,r4,a5,m8,h6,j4,c7,k3,k9,i7,k8,k4,m6,i3,j8,m7,j1,i6,o2,c5,j7,a3,o6,g3,b2,q3,g9,q5,l0,b9,n8,d0,b5,m9,l1,c1,l6,f5,o0,p8,c8,e5,r2,d6,a6,o1,i5,g5,c9,a7,k6,n1,k5,l3,l8,r5,b6,h4,g0,q0,e7,h8,q7,q6,a9,p4,o7,n0,j3,q8,m1,e0,m2,a8,p9,l4,f8,d3,l9,a4],[]⟩ (.code (dP [1,1,1,1,1,1,1,1,1,1,1,1,0,1,0,0,1,0,0,1,1,1] (Tryz.f4.body.getD .skip)):: .inBlock 1:: .code (dP [1,1,1,1,1,1,1,1,1,1,1,1,0,1,0,0,1,1] (Tryz.f4.body.getD .skip)):: .inLoop cc:: .inBlock 0::ks)) cs) q Post:=by
 intro t1 t2 t3 t4 t7 t8 t9 o5 d8 r0 h0 e9 b4 q4 n7 s0 r9 r1 d4 p6 p7 b3 r6 r8 r3 e1 c3 c2 h9 k7 c6 g7 f9 d1 o3 j9 e2 e6 n3 b0 d5 e3 l7 f0 f1 e8 g2 m0 f2 b7 i4 d9 g1 o9 j2 i2 o4 e4 c0 c4 f6 g6 d7 o8 n9 b8 i8 g8 m3 g4 f3 b1 i9 f7 m4 r7 n4 j0 n6 j6 n5 n2 m5 d2 q9 j5 r4 a5 m8 h6 j4 c7 k3 k9 i7 k8 k4 m6 i3 j8 m7 j1 i6 o2 c5 j7 a3 o6 g3 b2 q3 g9 q5 l0 b9 n8 d0 b5 m9 l1 c1 l6 f5 o0 p8 c8 e5 r2 d6 a6 o1 i5 g5 c9 a7 k6 n1 k5 l3 l8 r5 b6 h4 g0 q0 e7 h8 q7 q6 a9 p4 o7 n0 j3 q8 m1 e0 m2 a8 p9 l4 f8 d3 l9 a4;have HN:=hide hn;clear hn;have k0:(0:Int)<=(k:Int):=by omega
 have k1:(k:Int)<(S.T:Int):=by omega
 obtain⟨Pq,hgB,Yn,ZY⟩:=hA.pk z n hz hnz;rw[<-hkz]at Yn;have HA:=hide hA;have HPB:=hide ZY;have HKZ:=hide hkz
 clear hA ZY hkz;have hvb:∀b:Bool,b=(!hd id k)->(if b=true then(1:Int)else 0)=v:=fun b hb=>by
  rw[hv,hb];cases hd id k<;>rfl
 have HVB:=hide hvb;clear hvb hv;refine aj.aX fun k2 hk2=>?_;replace hk2:=hide hk2;conv=>arg 3;simp only[Tryz.f4,Option.getD_some,dP]
 refine aj.seq ?_;refine aj.aX fun kk hkk=>?_;replace hkk:=hide hkk;refine aj.bC ak (by kernel_rfl) fun τ d=>?_;go_wp2
 first|(refine Or.inl ⟨rfl,?_⟩;dsimp only;refine aj.re ?_ _ _)|refine aj.re ?_ _ _
 rw[hkk.out];clear hkk kk τ d;refine aj.seq ?_;refine aj.aX fun kk hkk=>?_;replace hkk:=hide hkk;refine aj.bC ak (by kernel_rfl) fun τ d=>?_;go_wp2
 first|(refine Or.inl ⟨rfl,?_⟩;dsimp only;refine aj.re ?_ _ _)|refine aj.re ?_ _ _
 rw[hkk.out];clear hkk kk τ d;refine aj.seq (aj.seq ?_);refine aj.aX fun kk hkk=>?_;replace hkk:=hide hkk;refine aj.bC ak (by kernel_rfl) fun τ d=>?_;go_wp2
 first|(refine Or.inl ⟨rfl,?_⟩;dsimp only;refine aj.re ?_ _ _)|refine aj.re ?_ _ _
 rw[hkk.out];clear hkk kk τ d;cases wr with
 |false=>
  refine aj.no rfl ?_;refine aj.aX fun kk hkk=>?_;replace hkk:=hide hkk;refine aj.reg (todo:= [0,1,2,3,4,5,6,7,8,9,10,11]) rfl ?_;refine aj.pv ak fun τ d K hK=>?_;go_simp;refine hK _ ?_;clear hK;try walk_nrm
  iterate 3 (refine aj.pv ak fun τ d K hK=>?_;go_simp;refine hK _ ?_;clear hK;try walk_nrm)
  refine aj.o ak (by kernel_rfl) rfl rfl (fun τ d K hK=>?_);have a0:(q.re τ d).cell? ⟨gl,k,none⟩=some (.slice (some ⟨Pq,0,none⟩) (10+S.sz) (10+S.sz)):=Yn;go_simp;refine hK _ _ ?_;clear hK a0;refine aj.re ?_ _ _;try walk_nrm
  refine aj.o ak (by kernel_rfl) rfl rfl (fun τ d K hK=>?_);go_simp;refine hK _ _ ?_;clear hK;try walk_nrm
  rw[show(q.re τ d).heap.size=q.heap.size from rfl];refine aj.re (p:=q.alloc (.cells #[.slice (some ⟨Pq,0,none⟩) (10+S.sz) (10+S.sz)] 28)) ?_ τ d;clear τ d;have hg1:dZ q (q.alloc (.cells #[.slice (some ⟨Pq,0,none⟩) (10+S.sz) (10+S.sz)] 28)):=(dZ.refl q).alloc _;have hc1:(q.alloc (.cells #[.slice (some ⟨Pq,0,none⟩) (10+S.sz) (10+S.sz)] 28)).cell? ⟨q.heap.size,0,none⟩=some (.slice (some ⟨Pq,0,none⟩) (10+S.sz) (10+S.sz)):=dz _ _ _ _ _ _ rfl;obtain⟨qa,hqa⟩:∃qa,qa=q.alloc (.cells #[.slice (some ⟨Pq,0,none⟩) (10+S.sz) (10+S.sz)] 28):=⟨_,rfl⟩;rw[<-hqa]at hg1 hc1⊢;have HAa:=hide (HA.out.grw hg1);have HC1:=hide hc1;have vC:=hide hg1
  clear hc1 hqa hg1;refine aj.dM rfl rfl (by decide) rfl Tryz.func20 rfl rfl (T':=#[.pointer (some ⟨lb,0,none⟩),.slice (some ⟨q.heap.size,0,none⟩) 1 1,undef,undef,undef,undef,undef,undef,undef,undef,undef,undef,undef,undef,undef,undef,undef,undef,undef,undef,undef,undef,undef,undef,undef,undef,undef,undef]) (by simp[Act.eval,Tryz.f20]) ?_;refine yA (o:=?oo1) (i:=id) (z:=z) (q:=n) (gb:=Pq) (cap:=10+S.sz) ?hoo1 HAa.out.ls ok (by simp) (by simp) hid hz hnz HAa.out.bq HC1.out (Nat.le_refl _) (fun j hj=>vC.out.cell (HPB.out j hj)) (fun b p5 l5 A5 hb5 hL5 kJ hsz5 sG kI _=>?hend1)
  case hoo1=>rfl
  case hend1=>
  rw[<-HKZ.out]at hL5 hb5;have h5:=HA.out.heard vC.out hL5 kJ hsz5 sG kI;rw[HVB.out b hb5];have H5:=hide h5;clear h5 hb5 hL5 kJ hsz5 sG kI HAa HC1 vC;try walk_nrm
  iterate 5 (refine aj.pv ak fun τ d K hK=>?_;go_simp;refine hK _ ?_;clear hK;try walk_nrm)
  refine aj.aR ?_;rw[hkk.out,hk2.out];clear hkk kk;exact GN ok hnw hi hk H5.out.1 H5.out.2 HN.out _ _ _ _ _ _ _ _ _ _ _ _ _ _ _ _ _ _ _ _ _ _ _ _ _ _ _ _ _ _ _ _ _ _ _ _ _ _ _ _ _ _ _ _ _ _ _ _ _ _ _ _ _ _ _ _ _ _ _ _ _ _ _ _ _ _ _ _ _ _ _ _ _ _ _ _ _ _ _ _ _ _ _ _ _ _ _ _ _ _ _ _ _ _ _ _ _ _ _ _ _ _ _ _ _ _ _ _ _ _ _ _ _ _ _ _ _ _ _ _ _ _ _ _ _ _ _ _ _ _ _ _ _ _ _ _ _ _ _ _ _ _ _ _ _ _ _ _ _ _ _ _ _ _ _ _ _ _ _ _ _ _ _
 |true=>
  refine aj.yes rfl ?_;refine aj.seq ?_;refine aj.aX fun kk hkk=>?_;replace hkk:=hide hkk;refine aj.reg (todo:= [0,1,2,3,4,5,6,7,8,9]) rfl ?_;refine aj.pv ak fun τ d K hK=>?_;go_simp;refine hK _ ?_;clear hK;try walk_nrm
  iterate 2 (refine aj.pv ak fun τ d K hK=>?_;go_simp;refine hK _ ?_;clear hK;try walk_nrm)
  refine aj.o ak (by kernel_rfl) rfl rfl (fun τ d K hK=>?_);have a0:(q.re τ d).cell? ⟨gl,k,none⟩=some (.slice (some ⟨Pq,0,none⟩) (10+S.sz) (10+S.sz)):=Yn;go_simp;refine hK _ _ ?_;clear hK a0;refine aj.re ?_ _ _;try walk_nrm
  refine aj.dM rfl rfl (by decide) rfl Tryz.func18 rfl rfl (T':=#[.slice (some ⟨Pq,0,none⟩) (10+S.sz) (10+S.sz),undef,undef,undef,undef,undef,undef,undef,undef]) (by simp[Act.eval,Tryz.f18]) ?_;have hcp:∀j,j<10+S.sz->q.cell? ⟨Pq,0+j,none⟩=some (.int .u8 (((S.pkt id z n)[j]?.getD 0:Nat):Int)):=fun j hj=>by rw[Nat.zero_add];exact HPB.out j hj
  refine Qe (o:=?oo3) ?hoo3 (dl:=S.pkt id z n) (ok.dX hz) (by have:=ok.s2;omega) (ok.CG hid hz hnz) (HA.out.alpha ha) hcp (fun w1 hw1=>Ah ok hid hz hnz w1 Pq (10+S.sz) (Nat.le_refl _) (fun j hj=>?hcw)) (fun p3 hg3=>?hend3)
  case hoo3=>rfl
  case hcw=>rw[<-hcp j hj];exact World.cell?_of_block (hw1 Pq (bG (hcp j hj)))
  case hend3=>
  have HA3:=hide (HA.out.grw hg3);have HG3:=hide hg3;clear hg3 hcp;obtain⟨st,hst⟩:∃st,st=strOf (Tx.dQ (S.pkt id z n)):=⟨_,rfl⟩;rw[<-hst];have hsz2:¬9223372036854775807<st.size+2:=by
   have h1:=Ey (Tx.dQ (S.pkt id z n));have h2:=(Eo (S.pkt id z n) (by rw[ok.dX hz];have:=ok.s2;omega) (by rw[ok.dX hz];omega)).1;rw[hst];omega
  have HST:=hide hst;clear hst;try walk_nrm
  iterate 5 (refine aj.pv ak fun τ d K hK=>?_;go_simp;refine hK _ ?_;clear hK;try walk_nrm)
  refine aj.aR ?_;rw[hkk.out];clear hkk kk;refine aj.seq ?_;refine aj.aX fun kk hkk=>?_;replace hkk:=hide hkk;refine aj.reg (todo:= [0,1,2,3,4,5,6,7,8,9]) rfl ?_;refine aj.pv ak fun τ d K hK=>?_;go_simp;refine hK _ ?_;clear hK;try walk_nrm
  iterate 2 (refine aj.pv ak fun τ d K hK=>?_;go_simp;refine hK _ ?_;clear hK;try walk_nrm)
  refine aj.dM rfl rfl (by decide) rfl Tryz.func19 rfl rfl (T':=#[.pointer (some ⟨lb,0,none⟩),.string (st++⟨#[10,10]⟩),undef,undef,undef,undef,undef,undef,undef,undef,undef,undef,undef,undef,undef,undef,undef,undef,undef,undef,undef,undef,undef,undef,undef,undef,undef,undef,undef,undef,undef,undef,undef,undef,undef,undef,undef,undef,undef]) (by simp[Act.eval,Tryz.f19]) ?_;refine Qz (o:=?oo2) (i:=id) (z:=z) (q:=n) ?hoo2 HA3.out.ls ok (by simp) (by simp) hid hz hnz HA3.out.bq (HA3.out.alpha ha) (HA3.out.num hm) (by rw[HST.out]) (fun b p5 l5 A5 hb5 hL5 kJ hsz5 sG kI _=>?hend2)
  case hoo2=>rfl
  case hend2=>
  rw[<-HKZ.out]at hL5 hb5;have h5:=HA.out.heard HG3.out hL5 kJ hsz5 sG kI;rw[HVB.out b hb5];have H5:=hide h5;clear h5 hb5 hL5 kJ hsz5 sG kI HA3 HG3;try walk_nrm
  iterate 6 (refine aj.pv ak fun τ d K hK=>?_;go_simp;refine hK _ ?_;clear hK;try walk_nrm)
  refine aj.aR ?_;rw[hkk.out];clear hkk kk;refine aj.seq ?_;refine aj.aX fun kk hkk=>?_;replace hkk:=hide hkk;refine aj.bC ak (by kernel_rfl) fun τ d=>?_;go_wp2
  first|(refine Or.inl ⟨rfl,?_⟩;dsimp only;refine aj.re ?_ _ _)|refine aj.re ?_ _ _
  rw[hkk.out];clear hkk kk τ d;refine aj.no rfl (aj.skip ?_);rw[hk2.out];exact GN ok hnw hi hk H5.out.1 H5.out.2 HN.out _ _ _ _ _ _ _ _ _ _ _ _ _ _ _ _ _ _ _ _ _ _ _ _ _ _ _ _ _ _ _ _ _ _ _ _ _ _ _ _ _ _ _ _ _ _ _ _ _ _ _ _ _ _ _ _ _ _ _ _ _ _ _ _ _ _ _ _ _ _ _ _ _ _ _ _ _ _ _ _ _ _ _ _ _ _ _ _ _ _ _ _ _ _ _ _ _ _ _ _ _ _ _ _ _ _ _ _ _ _ _ _ _ _ _ _ _ _ _ _ _ _ _ _ _ _ _ _ _ _ _ _ _ _ _ _ _ _ _ _ _ _ _ _ _ _ _ _ _ _ _ _ _ _ _ _ _ _ _ _ _ _ _
end Go.Proofs.YtmfpiodlecapiaaGreatDoor
