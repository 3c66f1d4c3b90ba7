import Derived.Test.YtmfpiodlecapiaaGreatDoorJ45
namespace Go.Proofs.YtmfpiodlecapiaaGreatDoor
open Go.Conc Go.ConcN Go.RowKit Go.bB Go.Ren Go.eO Go.Deep Go.iw
theorem Wh{W:World}(hv:∀(b:Nat) o,W.heap[b]? =some o->xR b o){g0:Goroutine}(hB:aj Tryz.prog (fun _=>False) g0 W (zl (fun _=>False) W)):
  ∃M last o w' t',runNT Tryz.prog (M+1) (solo g0 W) #[]=(.ended o w',t')/\runN Tryz.prog M (solo g0 W)= .next last/\step Tryz.prog last= .ended o w'/\
   Conc.Good Tryz.prog (fun(v:Value) (w':World)=>v= .bool true/\w'.os=W.os/\w'.output=W.output/\∀b,b<W.heap.size->w'.heap[b]? =W.heap[b]?) last o w' t':=by
 have Ut:O_ (fun _=>False)=fun _=>False:=by
  funext l;cases l<;>rfl
 have hb0:Xm Tryz.prog (fun _=>False) g0 W #[g0] W #[] (fun _=>0):=
  ⟨rfl,⟨rfl,fun _ _=>rfl,fun _ x=>x.elim,hv,rfl,rfl,rfl,rfl⟩,leavers_one _ _,by rw[Ut];exact past_nil.mono (Nat.zero_le _)⟩
 obtain⟨N,Sh',g',p',gs',u',sl',t1,q',hr,hb,T,todo,rfl,hT14,hA⟩:=hB #[g0] W none #[] (fun _=>0) hb0;have hres:∀w,(results Tryz.f4 T).run Tryz.prog w= .ok (.bool true) w:=fun w=>by
  have e:T.getD 14 undef= .bool true:=by rw[Array.getD_eq_getD_getElem?,hT14];rfl
  have e':T[14]?.getD undef= .bool true:=by rw[hT14];rfl
  simp[results,Tryz.f4,e']
 have hev:∀w,(results Tryz.f4 T).events Tryz.prog w #[]=#[]:=fun w=>by
  simp[results,Tryz.f4]
 have hstep:∀w,stepG Tryz.prog true (Gr 4 T todo []) w= .ended (.done (.bool true)) w #[]:=fun w=>by
  simp[Gr,G,Frame.at,base,stepG,unwind,doReturn,Tryz.func4,hres,hev,seen_none];rfl
 have hrow:∀b,b<W.heap.size->u'.heap[b]? =W.heap[b]? :=fun b hbl=>by
  obtain⟨h1,h2⟩:=hA.old b hbl (fun h=>h);exact(hb.ps.same b h1).trans h2
 obtain⟨N2,last,o,w',t2,k1,k2,k3,k4⟩:=beside_ends (P:=Tryz.prog) (Shun:=O_ Sh') (B:=u'.heap.size) (D:=fun _ _ _=>False) (Post:=fun v w'=>v= .bool true/\w'.os=W.os/\w'.output=W.output/\∀b,b<W.heap.size->w'.heap[b]? =W.heap[b]?) (n:=0) (sl:=sl') (fun _ _ _ h=>h.elim) hb.zero hb.leave hb.past
  (Goes.stop fun w1 hw1=>by
   obtain⟨d,rfl⟩:=hw1;exact⟨rfl,.bool true,#[],hstep _,fun e he=>by simp at he,rfl,hb.ps.os.trans hA.os,hb.ps.output.trans hA.output,hrow⟩)
 have hr1:runN Tryz.prog N (solo g0 W)= .next (crowd gs' u' sl'):=by
  rw[<-runNT_fst _ _ _ #[]];show(runNT Tryz.prog N (crowd #[g0] W none) #[]).1=_;rw[hr]
 refine⟨N+N2,last,o,w',t2,?_,?_,k3,k4⟩
 ·rw[Nat.add_assoc,runNT_add];show(match runNT Tryz.prog N (crowd #[g0] W none) #[]with|(.next m',t)=>runNT Tryz.prog (N2+1) m' t|x=>x)=_;rw[hr];exact k1
 ·rw[runN_add,hr1];exact k2
end Go.Proofs.YtmfpiodlecapiaaGreatDoor
