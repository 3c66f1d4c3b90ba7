import Derived.Conc.WgGenN3
import Derived.Test.YtmfpiodlecapiaaGreatDoorJ20
import Derived.Test.YtmfpiodlecapiaaGreatDoorJ21
set_option maxHeartbeats 16000000
set_option maxRecDepth 100000
namespace Go.iw
open Go.Conc Go.ConcN Go.RowKit Go.Conc.Lib Go.ConcR.Gen Go.ConcN.Gen
open Go.ConcR (KK wgBlock WgAt stA smA rd wr mk Payload Aside2 DC0)
structure RS(ty:TypeId)(Wg:Nat)(w w₁:World):Prop where
 live:WgLive ty Wg w->WgLive ty Wg w₁
theorem ah{ty:TypeId}{Wg:Nat}{w w₁:World}(h:WgLive ty Wg w)(r:RS ty Wg w w₁):WgLive ty Wg w₁:=r.live h
theorem RS.refl{ty:TypeId}{Wg:Nat}(w:World):RS ty Wg w w:=⟨fun h=>h⟩
theorem RS.trans{ty:TypeId}{Wg:Nat}(a b c:World)(h:RS ty Wg a b)(h':RS ty Wg b c):RS ty Wg a c:=⟨fun x=>h'.live (h.live x)⟩
section
variable (P:Program) (ty:TypeId) (Wg:Nat)
def Walks(Stop:Goroutine->World->Prop)(g:Goroutine)(w:World):Prop:=∃m,Goes P true (RS ty Wg) DC0 Stop m g w
def jm(m:Mark)(Next:Goroutine->World->Prop)(g:Goroutine)(w:World):Prop:=
 g.status= .running/\∃g',stepG P true g w= .go g' w #[mk m]/\Walks P ty Wg Next g' w
def G7(First More:Goroutine->World->Prop)(g:Goroutine)(w:World):Prop:=
 g.status= .running/\∀v:Nat,v<2147483647->WgAt ty Wg w (v*KK) 0->
  ∃g',stepG P true g w= .go g' (w.setCell (stA Wg) (.int .u64 ((v+1)*KK))) #[rd (stA Wg),wr (stA Wg)]/\
   (v=0->Walks P ty Wg First g' (w.setCell (stA Wg) (.int .u64 ((v+1)*KK))))/\(v≠0->Walks P ty Wg More g' (w.setCell (stA Wg) (.int .u64 ((v+1)*KK))))
def Adds(K:Goroutine->World->Prop):Goroutine->World->Prop:=
 Walks P ty Wg (jm P ty Wg .disable (G7 P ty Wg (jm P ty Wg (.read (smA Wg)) (jm P ty Wg .enable K)) (jm P ty Wg .enable K)))
def mU(Next:Goroutine->World->Prop)(g:Goroutine)(w:World):Prop:=
 g.status= .running/\(WgAt ty Wg w 0 0->∃g',stepG P true g w= .go g' w #[rd (stA Wg)]/\Walks P ty Wg Next g' w)
def G6(Next:Goroutine->World->Prop)(g:Goroutine)(w:World):Prop:=
 g.status= .running/\g.offers=none/\
  ((∃st,WgAt ty Wg w st 0)->stepG P true g w= .go {g with status:=.blocked} w #[])/\
  (WgAt ty Wg w 0 1->∃g',stepG P true g w= .go g' (w.setCell (smA Wg) (.int .u32 0)) (semEvents (smA Wg))/\Walks P ty Wg Next g' (w.setCell (smA Wg) (.int .u32 0)))
def Um(vs:Nat)(Hit Miss:Goroutine->World->Prop)(g:Goroutine)(w:World):Prop:=
 g.status= .running/\∀v:Nat,v<2147483648->WgAt ty Wg w (v*KK) 0->
  (v=vs->∃g',stepG P true g w= .go g' (w.setCell (stA Wg) (.int .u64 (v*KK+1))) #[rd (stA Wg),wr (stA Wg)]/\Walks P ty Wg Hit g' (w.setCell (stA Wg) (.int .u64 (v*KK+1))))/\
  (v≠vs->∃g',stepG P true g w= .go g' w #[rd (stA Wg)]/\Walks P ty Wg Miss g' w)
def Y3(Zero:Goroutine->World->Prop)(More:Nat->Goroutine->World->Prop)(g:Goroutine)(w:World):Prop:=
 g.status= .running/\∀v:Nat,v<2147483648->WgAt ty Wg w (v*KK) 0->∃g',stepG P true g w= .go g' w #[rd (stA Wg)]/\
  (v=0->Walks P ty Wg Zero g' w)/\(v≠0->Walks P ty Wg (More v) g' w)
def Ends(K:Goroutine->World->Prop):Goroutine->World->Prop:=jm P ty Wg .enable (jm P ty Wg (.acquire (stA Wg)) K)
def Round(A K:Goroutine->World->Prop):Goroutine->World->Prop:=
 Y3 P ty Wg (Ends P ty Wg K) fun v=>Um P ty Wg v (jm P ty Wg (.write (smA Wg)) (G6 P ty Wg (mU P ty Wg (Ends P ty Wg K)))) A
end
def L_(L:WgLink)(Wg:Nat)(c:Frame)(cs:List Frame)(g:Goroutine)(w:World):Prop:=
 ∃T:Array Value,g=G ((base L.wait).at ⟨T,[]⟩ [.code (L7 L),.inLoop (L7 L),.inBlock 0]) (c::cs)/\T.size=84/\T[0]? =some (.pointer (some ⟨Wg,0,none⟩))/\WgLive L.tWg Wg w
section
variable {L:WgLink} {Wg:Nat} {b₀:Frame} {a₀:Act} {ops₀:Array Oper} {i₀:Nat} {rest₀:List Nat} {k₀:List Item} {cs:List Frame}
theorem adds{P:Program}(H:WgLib P L)(w:World)(hF:WgLive L.tWg Wg w):
  Adds P L.tWg Wg (fun g _=>g=G (b₀.at (a₀.put ((ops₀[i₀]?).bind (·.dst)) (.tuple #[])) (.inRegion ops₀ rest₀::k₀)) cs)
   (G (Frame.enter P L.add #[.pointer (some ⟨Wg,0,none⟩),.int .i64 1] .normal) (b₀.at a₀ (.inRegion ops₀ (i₀::rest₀)::k₀)::cs)) w:=by
 lib_facts
 have he:Frame.enter P L.add #[.pointer (some ⟨Wg,0,none⟩),.int .i64 1] .normal=(base L.add).at ⟨#[.pointer (some ⟨Wg,0,none⟩),.int .i64 1]++Array.replicate 115 undef,[]⟩ [.code (body_add L)]:=by
  rw[enter_at _ H.f_add rfl];rfl
 rw[he];simp only[body_add,addFn,Option.getD_some];walk_nrm
 refine⟨12,?_⟩;u_c stepG_seq ah hF;u_cond true ah hF
 u_c stepG_seq ah hF;u_c stepG_seq ah hF;u_reg ah hF
 u_op ah hF;u_op ah hF;u_c stepG_region_end ah hF;u_cond false ah hF
 u_c stepG_skip ah hF;u_c stepG_seq ah hF;u_reg ah hF
 refine Goes.stop (fun w₁ h₁=>?_);replace hF:=ah hF h₁;clear h₁;refine⟨rfl,_,stepG_mark0 .disable (by simp) rfl rfl (by k_ne) rfl H.f_disable (x_disable_n L) (x_disable_b L) (x_disable_x L) (x_disable_f L),40,?_⟩;walk_nrm
 u_c stepG_region_end ah hF;u_reg ah hF
 u_defer ah hF
 u_c stepG_region_end ah hF;u_c stepG_seq ah hF;u_reg ah hF
 u_op ah hF;u_c stepG_region_end ah hF;u_c stepG_seq ah hF;u_c stepG_seq ah hF;u_reg ah hF
 u_bub ah hF
 u_c stepG_region_end ah hF;u_cond false ah hF
 u_c stepG_skip ah hF;u_c stepG_seq ah hF;u_reg ah hF
 u_op ah hF;u_op ah hF;u_op ah hF;u_op ah hF;u_op ah hF;u_op ah hF;u_call H.f_uAdd (nm_uAdd L) uAddFn ah hF
 u_c stepG_seq ah hF;u_reg ah hF
 u_op ah hF;u_c stepG_region_end ah hF;u_c stepG_seq ah hF;u_reg ah hF
 u_op ah hF;u_op ah hF;u_op ah hF;u_op ah hF;refine Goes.stop (fun w₂ h₁=>?_);replace hF:=ah hF h₁;clear h₁;refine⟨rfl,fun v hv hw=>?_⟩;rcases Nat.eq_zero_or_pos v with rfl|hvp
 ·replace hw:WgAt L.tWg Wg w₂ 0 0:=by simpa using hw
  have z:(((0:Nat):Int)+1)*KK=KK:=by simp
  rw[z];have e0:IntKind.u64.wrap (0+4294967296)=KK:=by decide
  refine⟨_,(stepG_add_atomic rfl rfl (by k_ne) rfl H.f_addU64 (x_addU64_n L) (x_addU64_b L) (x_addU64_x L) .u64 (x_addU64_f L) rfl rfl hw.cellSt (hw.thaw 0)).trans (by rw[e0];rfl),fun _=>⟨110,?_⟩,fun h=>absurd rfl h⟩;replace hF:WgLive L.tWg Wg (w₂.setCell (stA Wg) (.int .u64 KK)):=⟨_,_,hw.setSt _⟩;clear hw;simp only[KK]at hF⊢;walk_nrm
  u_op ah hF;u_c stepG_region_end ah hF;u_c stepG_ret' ah hF;u_leave1 H.f_uAdd ah hF
  u_op ah hF;u_c stepG_region_end ah hF;u_c stepG_seq ah hF;u_c stepG_seq ah hF;u_reg ah hF
  u_op ah hF;u_op ah hF;u_op ah hF;u_op ah hF;u_skip ah hF
  u_skip ah hF
  u_op ah hF;u_c stepG_region_end ah hF;u_cond false ah hF
  u_c stepG_skip ah hF;u_c stepG_seq ah hF;u_reg ah hF
  u_op ah hF;u_op ah hF;u_op ah hF;u_op ah hF;u_c stepG_region_end ah hF;u_c stepG_seq ah hF;u_reg ah hF
  u_op ah hF;u_op ah hF;u_op ah hF;u_op ah hF;u_c stepG_region_end ah hF;u_c stepG_seq ah hF;u_c stepG_seq ah hF;u_reg ah hF
  u_op ah hF;u_op ah hF;u_op ah hF;u_op ah hF;u_op ah hF;u_op ah hF;u_op ah hF;u_op ah hF;u_op ah hF;u_op ah hF;u_c stepG_region_end ah hF;u_cond true ah hF
  u_reg ah hF
  u_op ah hF;u_op ah hF;u_op ah hF;u_conv H.underlying_tPU32 H.room_tU32 (WgLive.cell1 hF).choose_spec ah hF
  refine Goes.stop (fun w₃ h₁=>?_);replace hF:=ah hF h₁;clear h₁;refine⟨rfl,_,stepG_markAt .read (by simp) rfl rfl (by k_ne) rfl H.f_raceRead (x_raceRead_n L) (x_raceRead_b L) (x_raceRead_x L) (x_raceRead_f L) (ad:=⟨Wg,1,none⟩) (by simp[Act.eval]),⟨60,?_⟩⟩;walk_nrm
  u_c stepG_region_end ah hF;u_c stepG_seq ah hF;u_c stepG_seq ah hF;u_reg ah hF
  u_op ah hF;u_op ah hF;u_c stepG_region_end ah hF;u_cond false ah hF
  u_c stepG_skip ah hF;u_c stepG_seq ah hF;u_c stepG_seq ah hF;u_reg ah hF
  u_op ah hF;u_op ah hF;u_op ah hF;u_skip ah hF
  u_skip ah hF
  u_op ah hF;u_op ah hF;u_skip ah hF
  iterate 3 (u_skip ah hF)
  u_op ah hF;u_c stepG_region_end ah hF;u_cond false ah hF
  u_c stepG_skip ah hF;u_c stepG_seq ah hF;u_c stepG_seq ah hF;u_reg ah hF
  u_op ah hF;u_op ah hF;u_op ah hF;u_skip ah hF
  u_skip ah hF
  u_op ah hF;u_c stepG_region_end ah hF;u_cond true ah hF
  u_c stepG_ret' ah hF;refine Goes.stop (fun w₄ h₁=>?_);replace hF:=ah hF h₁;clear h₁;refine⟨rfl,_,stepG_unwind_entry (v:=.tuple #[]) (evs:=#[mk .enable]) rfl H.f_enable (x_enable_n L) (x_enable_b L) (x_enable_x L) (x_enable_f L) (by simp[Extern.Race.none_]) (by simp[mk]) (by simp[mk]),⟨1,?_⟩⟩;u_leave0 H.f_add ah hF
  exact Goes.stop (fun _ _=>rfl)
 ·obtain⟨V,hV⟩:∃V:Int,V=(v:Int)+1:=⟨_,rfl⟩;obtain⟨S,hS⟩:∃S:Int,S=V*KK:=⟨_,rfl⟩;have eS:IntKind.u64.wrap ((v:Int)*KK+4294967296)=S:=by rw[IntKind.wrap_u64,hS,hV];simp only[KK];omega
  rw[<-hV,<-hS];have a1:S/4294967296=V:=by rw[hS];simp only[KK];omega
  have b1:bits .and .u64 S 2147483648=0:=by rw[hS,hV];have:=st_flag (v+1) 0 (by omega) (by omega);simpa[KK]using this
  have b2:bits .and .u64 S 2147483647=0:=by rw[hS,hV];have:=st_waiters (v+1) 0 (by omega) (by omega);simpa[KK]using this
  have c1:IntKind.i32.wrap V=V:=by rw[IntKind.wrap_i32];omega
  have hV1:1<V:=by omega
  have hV2:V<2147483648:=by omega
  have q1:(V==1)=false:=by simp;omega
  have q2:decide (V=1)=false:=decide_eq_false (by omega);have q3:decide (V<0)=false:=decide_eq_false (by omega);have q4:decide (0<V)=true:=decide_eq_true (by omega);have q5:(V==0)=false:=by simp;omega
  have q6:decide (V=0)=false:=decide_eq_false (by omega);refine⟨_,(stepG_add_atomic rfl rfl (by k_ne) rfl H.f_addU64 (x_addU64_n L) (x_addU64_b L) (x_addU64_x L) .u64 (x_addU64_f L) rfl rfl hw.cellSt (hw.thaw 0)).trans (by rw[eS];rfl),fun h=>absurd h (by omega),fun _=>⟨110,?_⟩⟩;replace hF:WgLive L.tWg Wg (w₂.setCell (stA Wg) (.int .u64 S)):=⟨_,_,hw.setSt _⟩;clear hw hS hV eS;walk_nrm
  u_op ah hF;u_c stepG_region_end ah hF;u_c stepG_ret' ah hF;u_leave1 H.f_uAdd ah hF
  u_op ah hF;u_c stepG_region_end ah hF;u_c stepG_seq ah hF;u_c stepG_seq ah hF;u_reg ah hF
  u_op ah hF;u_op ah hF;u_op ah hF;u_op ah hF;u_skip ah hF
  u_skip ah hF
  u_op ah hF;u_c stepG_region_end ah hF;u_cnd false ah hF
  u_c stepG_skip ah hF;u_c stepG_seq ah hF;u_reg ah hF
  u_op ah hF;u_op ah hF;u_op ah hF;u_op ah hF;u_c stepG_region_end ah hF;u_c stepG_seq ah hF;u_reg ah hF
  u_op ah hF;u_op ah hF;u_op ah hF;u_op ah hF;u_c stepG_region_end ah hF;u_c stepG_seq ah hF;u_c stepG_seq ah hF;u_reg ah hF
  u_op ah hF;u_op ah hF;u_op ah hF;u_op ah hF;u_op ah hF;u_op ah hF;u_op ah hF;u_op ah hF;u_op ah hF;u_op ah hF;u_c stepG_region_end ah hF;u_cnd false ah hF
  u_c stepG_skip ah hF;u_c stepG_seq ah hF;u_c stepG_seq ah hF;u_reg ah hF
  u_op ah hF;u_op ah hF;u_c stepG_region_end ah hF;u_cnd false ah hF
  u_c stepG_skip ah hF;u_c stepG_seq ah hF;u_c stepG_seq ah hF;u_reg ah hF
  u_op ah hF;u_op ah hF;u_op ah hF;u_skip ah hF
  u_skip ah hF
  u_op ah hF;u_op ah hF;u_skip ah hF
  iterate 3 (u_skip ah hF)
  u_op ah hF;u_c stepG_region_end ah hF;u_cnd false ah hF
  u_c stepG_skip ah hF;u_c stepG_seq ah hF;u_c stepG_seq ah hF;u_reg ah hF
  u_op ah hF;u_op ah hF;u_op ah hF;u_skip ah hF
  u_skip ah hF
  u_op ah hF;u_c stepG_region_end ah hF;u_cnd true ah hF
  u_c stepG_ret' ah hF;refine Goes.stop (fun w₄ h₁=>?_);replace hF:=ah hF h₁;clear h₁;refine⟨rfl,_,stepG_unwind_entry (v:=.tuple #[]) (evs:=#[mk .enable]) rfl H.f_enable (x_enable_n L) (x_enable_b L) (x_enable_x L) (x_enable_f L) (by simp[Extern.Race.none_]) (by simp[mk]) (by simp[mk]),⟨1,?_⟩⟩;u_leave0 H.f_add ah hF
  exact Goes.stop (fun _ _=>rfl)
theorem waitStart{P:Program}(H:WgLib P L)(w:World)(hF:WgLive L.tWg Wg w):
  Walks P L.tWg Wg (jm P L.tWg Wg .disable (L_ L Wg (b₀.at a₀ (.inRegion ops₀ (i₀::rest₀)::k₀)) cs))
   (G (Frame.enter P L.wait #[.pointer (some ⟨Wg,0,none⟩)] .normal) (b₀.at a₀ (.inRegion ops₀ (i₀::rest₀)::k₀)::cs)) w:=by
 lib_facts
 have he:Frame.enter P L.wait #[.pointer (some ⟨Wg,0,none⟩)] .normal=(base L.wait).at ⟨#[.pointer (some ⟨Wg,0,none⟩)]++Array.replicate 83 undef,[]⟩ [.code (body_wait L)]:=by
  rw[enter_at _ H.f_wait rfl];rfl
 rw[he];simp only[body_wait,waitFn,Option.getD_some];walk_nrm
 refine⟨12,?_⟩;u_c stepG_seq ah hF;u_cond true ah hF
 u_reg ah hF
 refine Goes.stop (fun w₁ h₁=>?_);replace hF:=ah hF h₁;clear h₁;refine⟨rfl,_,stepG_mark0 .disable (by simp) rfl rfl (by k_ne) rfl H.f_disable (x_disable_n L) (x_disable_b L) (x_disable_x L) (x_disable_f L),3,?_⟩;walk_nrm
 u_c stepG_region_end ah hF;u_c stepG_block ah hF;u_c stepG_loop ah hF;exact Goes.stop (fun w₂ h₂=>⟨_,rfl,by simp,by simp,ah hF h₂⟩)
theorem waitRound{P:Program}(H:WgLib P L)(g:Goroutine)(w:World)(h:L_ L Wg (b₀.at a₀ (.inRegion ops₀ (i₀::rest₀)::k₀)) cs g w):
  Walks P L.tWg Wg (Round P L.tWg Wg (L_ L Wg (b₀.at a₀ (.inRegion ops₀ (i₀::rest₀)::k₀)) cs) (fun g _=>g=G (b₀.at (a₀.put ((ops₀[i₀]?).bind (·.dst)) (.tuple #[])) (.inRegion ops₀ rest₀::k₀)) cs)) g w:=by
 lib_facts
 obtain⟨T,rfl,hT84,t0,hF⟩:=h;obtain⟨v0,v1,v2,v3,v4,v5,v6,v7,v8,v9,v10,v11,v12,v13,v14,v15,v16,v17,v18,v19,v20,v21,v22,v23,v24,v25,v26,v27,v28,v29,v30,v31,v32,v33,v34,v35,v36,v37,v38,v39,v40,v41,v42,v43,v44,v45,v46,v47,v48,v49,v50,v51,v52,v53,v54,v55,v56,v57,v58,v59,v60,v61,v62,v63,v64,v65,v66,v67,v68,v69,v70,v71,v72,v73,v74,v75,v76,v77,v78,v79,v80,v81,v82,v83,rfl⟩:=array84 T hT84;simp only[List.getElem?_toArray,List.getElem?_cons_zero,Option.some.injEq]at t0;subst t0;refine⟨40,?_⟩;simp only[L7,body_wait,waitFn,Option.getD_some];u_c stepG_block ah hF;u_c stepG_seq ah hF;u_reg ah hF
 u_op ah hF;u_op ah hF;u_op ah hF;u_call H.f_uLoad (nm_uLoad L) uLoadFn ah hF
 u_c stepG_seq ah hF;u_reg ah hF
 u_op ah hF;u_c stepG_region_end ah hF;u_c stepG_seq ah hF;u_reg ah hF
 u_op ah hF;u_op ah hF;u_op ah hF;refine Goes.stop (fun w₁ h₁=>?_);replace hF:=ah hF h₁;clear h₁;refine⟨rfl,fun v hv hw=>?_⟩;rcases Nat.eq_zero_or_pos v with rfl|hvp
 ·replace hw:WgAt L.tWg Wg w₁ 0 0:=by simpa using hw
  refine⟨_,stepG_load_atomic (v:=0) rfl rfl (by k_ne) rfl H.f_loadU64 (x_loadU64_n L) (x_loadU64_b L) (x_loadU64_x L) .u64 (x_loadU64_f L) rfl hw.cellSt,fun _=>⟨50,?_⟩,fun h=>absurd rfl h⟩;clear hw;walk_nrm
  u_op ah hF;u_c stepG_region_end ah hF;u_c stepG_ret' ah hF;u_leave1 H.f_uLoad ah hF
  u_op ah hF;u_c stepG_region_end ah hF;u_c stepG_seq ah hF;u_reg ah hF
  u_op ah hF;u_op ah hF;u_op ah hF;u_op ah hF;u_c stepG_region_end ah hF;u_c stepG_seq ah hF;u_reg ah hF
  u_op ah hF;u_op ah hF;u_op ah hF;u_op ah hF;u_c stepG_region_end ah hF;u_c stepG_seq ah hF;u_c stepG_seq ah hF;u_reg ah hF
  u_op ah hF;u_op ah hF;u_c stepG_region_end ah hF;u_cond true ah hF
  u_c stepG_seq ah hF;u_cond true ah hF
  u_c stepG_seq ah hF;u_reg ah hF
  refine Goes.stop (fun w₅ h₁=>?_);replace hF:=ah hF h₁;clear h₁;refine⟨rfl,_,stepG_mark0 .enable (by simp) rfl rfl (by k_ne) rfl H.f_enable (x_enable_n L) (x_enable_b L) (x_enable_x L) (x_enable_f L),⟨12,?_⟩⟩;walk_nrm
  u_c stepG_region_end ah hF;u_reg ah hF
  u_op ah hF;u_conv H.underlying_tWgP H.room_tWg (WgLive.cell0 hF).choose_spec ah hF
  refine Goes.stop (fun w₆ h₁=>?_);replace hF:=ah hF h₁;clear h₁;refine⟨rfl,_,stepG_markAt .acquire (by simp) rfl rfl (by k_ne) rfl H.f_acquire (x_acquire_n L) (x_acquire_b L) (x_acquire_x L) (x_acquire_f L) (by simp[Act.eval,stA]),⟨30,?_⟩⟩;walk_nrm
  u_c stepG_region_end ah hF;u_c stepG_seq ah hF;u_c stepG_seq ah hF;u_reg ah hF
  u_op ah hF;u_op ah hF;u_op ah hF;u_op ah hF;u_op ah hF;u_op ah hF;u_op ah hF;u_op ah hF;u_skip ah hF
  u_skip ah hF
  u_op ah hF;u_c stepG_region_end ah hF;u_cond false ah hF
  u_c stepG_skip ah hF;u_c stepG_ret' ah hF;u_leave0 H.f_wait ah hF
  exact Goes.stop (fun _ _=>rfl)
 ·obtain⟨S,hS⟩:∃S:Int,(v:Int)*KK=S:=⟨_,rfl⟩;have a1:S/4294967296=(v:Int):=by rw[<-hS];simp only[KK];omega
  have b1:bits .and .u64 S 2147483648=0:=by rw[<-hS];have:=st_flag v 0 (by omega) (by omega);simpa[KK]using this
  have b2:bits .and .u64 S 2147483647=0:=by rw[<-hS];have:=st_waiters v 0 (by omega) (by omega);simpa[KK]using this
  have c1:IntKind.i32.wrap (v:Int)=(v:Int):=by rw[IntKind.wrap_i32];omega
  have w1:IntKind.u64.wrap (S+1)=S+1:=by rw[IntKind.wrap_u64,<-hS];simp only[KK];omega
  have q3:decide ((v:Int)<0)=false:=decide_eq_false (by omega);have q4:decide (0<(v:Int))=true:=decide_eq_true (by omega);have q5:((v:Int)==0)=false:=by simp;omega
  have q6:decide ((v:Int)=0)=false:=decide_eq_false (by omega);rw[hS]at hw;refine⟨_,stepG_load_atomic (v:=S) rfl rfl (by k_ne) rfl H.f_loadU64 (x_loadU64_n L) (x_loadU64_b L) (x_loadU64_x L) .u64 (x_loadU64_f L) rfl hw.cellSt,fun h0=>absurd h0 (by omega),fun _=>⟨60,?_⟩⟩;clear hw;walk_nrm
  u_op ah hF;u_c stepG_region_end ah hF;u_c stepG_ret' ah hF;u_leave1 H.f_uLoad ah hF
  u_op ah hF;u_c stepG_region_end ah hF;u_c stepG_seq ah hF;u_reg ah hF
  u_op ah hF;u_op ah hF;u_op ah hF;u_op ah hF;u_c stepG_region_end ah hF;u_c stepG_seq ah hF;u_reg ah hF
  u_op ah hF;u_op ah hF;u_op ah hF;u_op ah hF;u_c stepG_region_end ah hF;u_c stepG_seq ah hF;u_c stepG_seq ah hF;u_reg ah hF
  u_op ah hF;u_op ah hF;u_c stepG_region_end ah hF;u_cnd false ah hF
  u_c stepG_skip ah hF;u_c stepG_seq ah hF;u_reg ah hF
  u_op ah hF;u_op ah hF;u_op ah hF;u_op ah hF;u_op ah hF;u_op ah hF;u_call H.f_uCas (nm_uCas L) uCasFn ah hF
  u_c stepG_seq ah hF;u_reg ah hF
  u_op ah hF;u_c stepG_region_end ah hF;u_c stepG_seq ah hF;u_reg ah hF
  u_op ah hF;u_op ah hF;u_op ah hF;u_op ah hF;u_op ah hF;refine Goes.stop (fun w₂ h₁=>?_);replace hF:=ah hF h₁;clear h₁;refine⟨rfl,fun v' hv' hw=>⟨fun e=>?_,fun e=>?_⟩⟩
  ·subst e;rw[hS]at hw⊢;refine⟨_,(stepG_cas_hit (v:=S) (n:=S+1) rfl rfl (by k_ne) rfl H.f_casU64 (x_casU64_n L) (x_casU64_b L) (x_casU64_x L) .u64 (x_casU64_f L) rfl rfl rfl hw.cellSt (hw.thaw 0)).trans (by rfl),⟨70,?_⟩⟩;replace hF:WgLive L.tWg Wg (w₂.setCell (stA Wg) (.int .u64 (S+1))):=⟨_,_,hw.setSt _⟩;clear hw;walk_nrm
   u_op ah hF;u_c stepG_region_end ah hF;u_c stepG_ret' ah hF;u_leave1 H.f_uCas ah hF
   u_c stepG_region_end ah hF;u_cond true ah hF
   u_c stepG_seq ah hF;u_c stepG_seq ah hF;u_reg ah hF
   u_op ah hF;u_op ah hF;u_op ah hF;u_op ah hF;u_c stepG_region_end ah hF;u_cond true ah hF
   u_reg ah hF
   u_op ah hF;u_op ah hF;u_op ah hF;u_conv H.underlying_tPU32 H.room_tU32 (WgLive.cell1 hF).choose_spec ah hF
   refine Goes.stop (fun w₇ h₁=>?_);replace hF:=ah hF h₁;clear h₁;refine⟨rfl,_,stepG_markAt .write (by simp) rfl rfl (by k_ne) rfl H.f_raceWrite (x_raceWrite_n L) (x_raceWrite_b L) (x_raceWrite_x L) (x_raceWrite_f L) (ad:=⟨Wg,1,none⟩) (by simp[Act.eval]<;>rfl),⟨60,?_⟩⟩;walk_nrm
   u_c stepG_region_end ah hF;u_c stepG_seq ah hF;u_reg ah hF
   u_op ah hF;u_c stepG_region_end ah hF;u_c stepG_seq ah hF;u_c stepG_seq ah hF;u_reg ah hF
   u_op ah hF;u_op ah hF;u_op ah hF;u_op ah hF;u_skip ah hF
   u_op ah hF;u_c stepG_region_end ah hF;u_cond false ah hF
   u_c stepG_skip ah hF;u_c stepG_seq ah hF;u_reg ah hF
   u_op ah hF;u_op ah hF;u_op ah hF;u_op ah hF;refine Goes.stop (fun w₃ h₁=>?_);replace hF:=ah hF h₁;clear h₁;refine⟨rfl,rfl,fun⟨st,hw⟩=>stepG_semacquire_wait rfl rfl rfl H.f_semacquire (x_semacquire_n L) (x_semacquire_b L) (x_semacquire_x L) (x_semacquire_f L) (by simp[Act.eval,smA]) hw.cellSm,fun hf=>?_⟩;refine⟨_,(stepG_semacquire (n:=1) rfl rfl (by k_ne) rfl H.f_semacquire (x_semacquire_n L) (x_semacquire_b L) (x_semacquire_x L) (x_semacquire_f L) (by simp[Act.eval,smA]) hf.cellSm (by k_ne) (hf.thaw 1)).trans (by rfl),⟨30,?_⟩⟩;replace hF:WgLive L.tWg Wg (w₃.setCell (smA Wg) (.int .u32 0)):=⟨_,_,hf.setSm 0⟩;clear hf;walk_nrm
   u_c stepG_region_end ah hF;u_c stepG_seq ah hF;u_reg ah hF
   u_op ah hF;u_op ah hF;u_op ah hF;u_call H.f_uLoad (nm_uLoad L) uLoadFn ah hF
   u_c stepG_seq ah hF;u_reg ah hF
   u_op ah hF;u_c stepG_region_end ah hF;u_c stepG_seq ah hF;u_reg ah hF
   u_op ah hF;u_op ah hF;u_op ah hF;refine Goes.stop (fun w₄ h₁=>?_);replace hF:=ah hF h₁;clear h₁;refine⟨rfl,fun hw=>⟨_,stepG_load_atomic (v:=0) rfl rfl (by k_ne) rfl H.f_loadU64 (x_loadU64_n L) (x_loadU64_b L) (x_loadU64_x L) .u64 (x_loadU64_f L) rfl hw.cellSt,⟨30,?_⟩⟩⟩;clear hw;walk_nrm
   u_op ah hF;u_c stepG_region_end ah hF;u_c stepG_ret' ah hF;u_leave1 H.f_uLoad ah hF
   u_op ah hF;u_op ah hF;u_c stepG_region_end ah hF;u_c stepG_seq ah hF;u_cond true ah hF
   u_c stepG_seq ah hF;u_reg ah hF
   refine Goes.stop (fun w₅ h₁=>?_);replace hF:=ah hF h₁;clear h₁;refine⟨rfl,_,stepG_mark0 .enable (by simp) rfl rfl (by k_ne) rfl H.f_enable (x_enable_n L) (x_enable_b L) (x_enable_x L) (x_enable_f L),⟨12,?_⟩⟩;walk_nrm
   u_c stepG_region_end ah hF;u_reg ah hF
   u_op ah hF;u_conv H.underlying_tWgP H.room_tWg (WgLive.cell0 hF).choose_spec ah hF
   refine Goes.stop (fun w₆ h₁=>?_);replace hF:=ah hF h₁;clear h₁;refine⟨rfl,_,stepG_markAt .acquire (by simp) rfl rfl (by k_ne) rfl H.f_acquire (x_acquire_n L) (x_acquire_b L) (x_acquire_x L) (x_acquire_f L) (by simp[Act.eval,stA]),⟨30,?_⟩⟩;walk_nrm
   u_c stepG_region_end ah hF;u_c stepG_seq ah hF;u_c stepG_seq ah hF;u_reg ah hF
   u_op ah hF;u_c stepG_region_end ah hF;u_cond false ah hF
   u_c stepG_skip ah hF;u_c stepG_ret' ah hF;u_leave0 H.f_wait ah hF
   exact Goes.stop (fun _ _=>rfl)
  ·refine⟨_,stepG_cas_miss (v:=(v':Int)*KK) (old:=S) (n:=S+1) rfl rfl (by k_ne) rfl H.f_casU64 (x_casU64_n L) (x_casU64_b L) (x_casU64_x L) .u64 (x_casU64_f L) rfl rfl rfl hw.cellSt (hw.thaw 0) (by rw[<-hS];simp only[KK];omega),⟨20,?_⟩⟩;clear hw;walk_nrm
   u_op ah hF;u_c stepG_region_end ah hF;u_c stepG_ret' ah hF;u_leave1 H.f_uCas ah hF
   u_c stepG_region_end ah hF;u_cond false ah hF
   u_c stepG_skip ah hF;u_c stepG_inBlock ah hF;u_c stepG_inLoop ah hF;refine Goes.stop (fun w₃ h₃=>?_);exact⟨_,rfl,by simp,by simp,ah hF h₃⟩
end
end Go.iw
namespace Go.iw
open Go.Conc Go.ConcN Go.bB Go.Ren
open Go.ConcR (KK wgBlock WgAt stA smA rd wr mk Payload Aside2 DC0 Bk g_of_ofEvents)
structure kW(ty:TypeId)(Wg:Nat)(See:Nat->Prop)(w w₁:World):Prop where
 size:w.heap.size<=w₁.heap.size
 row:∀b,See b->w₁.heap[b]? =w.heap[b]?
 live:WgLive ty Wg w->WgLive ty Wg w₁
 tape:w₁.tape=w.tape
 os:w₁.os=w.os
 output:w₁.output=w.output
 nv:NV w->NV w₁
theorem kW.refl{ty:TypeId}{Wg:Nat}{See:Nat->Prop}(w:World):kW ty Wg See w w:=⟨Nat.le_refl _,fun _ _=>rfl,id,rfl,rfl,rfl,id⟩
theorem kW.trans{ty:TypeId}{Wg:Nat}{See:Nat->Prop}{a b c:World}(h:kW ty Wg See a b)(h':kW ty Wg See b c):kW ty Wg See a c:=
 ⟨Nat.le_trans h.size h'.size,fun x hx=>(h'.row x hx).trans (h.row x hx),h'.live∘h.live,h'.tape.trans h.tape,h'.os.trans h.os,h'.output.trans h.output,h'.nv∘h.nv⟩
theorem kW.at{ty:TypeId}{Wg:Nat}{See:Nat->Prop}(w:World)(d:Nat):kW ty Wg See w (w.at d):=⟨Nat.le_refl _,fun _ _=>rfl,id,rfl,rfl,rfl,id⟩
structure Ph where
 P:Program
 X:FuncId->Bool
 A:FuncId->Bool
 K:FuncId->Nat->Nat
 ty:TypeId
 Wg:Nat
 R:Nat
 Dn:Nat
 o:Nat
 N:Nat
 B0:Nat
 Shun:Loc->Prop
 old:Nat->Prop
 aux:Nat->Prop
 row0:Nat->Option Obj
 w0:World
 Cx:Ctx
 Node:Nat->lJ Nat->(lJ Nat->Prop)->Prop
 Stop:Nat->lJ Nat->Prop
 Wn:Nat->Value->World->Prop
 Pv:Nat->Value->Prop
 Anch:Goroutine->Goroutine->World->Prop
 Fin:Bool->(Nat->Option Value)->(Nat->Prop)->Goroutine->World->Prop
structure WX where
 ws:Nat
 rk:Rk
 st:Nat
 fu:Nat
 df:Nat
 ow:Nat->Prop
 vs:Nat->Prop
 C:Nat
 zv:Value
 gu:Bool
def WX.wd(d:WX):WD:=⟨d.st,d.fu,d.df⟩
def Idl(P:Program):Nat->Goroutine->Goroutine->Prop
 |0,g,g'=>g=g'
 |n+1,g,g'=>g.status= .running/\∃g1,(∀w,stepG P false g w= .go g1 w #[])/\Idl P n g1 g'
def FD:Nat->Loc->Prop:=fun _ _=>False
section
variable [Payload] (H:Ph)
def qX(i:Nat)(d:WX)(rk:Rk)(g:Goroutine)(w:World):Prop:=
 ∃ρ p f fs f' fs',g=bP H.Cx f' fs'/\mQ H.P H.X H.A H.K ρ p f fs f' fs' w/\Zh H.P (H.Node i) (H.Stop i) rk ⟨if d.gu then 1 else 0,f,fs,p⟩/\d.ow=Own ρ p/\d.vs=Ac ρ p/\Ext (Array.range H.B0) ρ
def Ws(d:WX)(Q:World->Prop)(w:World):Prop:=∃F:World->Prop,(∀w w':World,(∀c,d.ow c->c≠d.C->w'.heap[c]? =w.heap[c]?)->F w->F w')/\F w/\∀w,F w->Q w
def UD(i:Nat)(d:WX)(v:Value)(w:World):Prop:=d.gu=false->H.Pv i v/\Ws d (H.Wn i v) w
structure zf(d:WX)(v z0 z1:Value)(g₂:Goroutine):Prop where
 cm:∀w off,stepG H.P false {g₂ with status:=.running,offers:=off} w= .comm g₂ (two H.R H.Dn v z0 z1) true .select w #[]
 fin:∀(k:Int) b ok w,(k=0\/k=1)->WgLive H.ty H.Wg w->Has d.C 0 d.zv w->
  ∃n,Goes H.P false (RW H.ty H.Wg d.C 1 0 0) DC0 (AtR0 H.P H.ty H.Wg d.C 1 0 1 d.zv) n (g₂.finishComm H.P (two H.R H.Dn v z0 z1) .select k b ok) w
def uG(d:WX)(w:World):Prop:=PayAt d.C 1 w/\Has d.C 0 d.zv w
inductive WS(i:Nat)(d:WX)(g:Goroutine)(w:World):Prop
 |born (n:Nat) (gB:Goroutine) (rk:Rk):d.ws=22->d.rk= .ofNat n->d.wd=⟨7,0,0⟩->g.status= .running->Idl H.P n g gB->qX H i d rk gB w->uG d w->WS i d g w
 |tree:d.ws=20->d.wd=⟨7,0,0⟩->qX H i d d.rk g w->uG d w->WS i d g w
 |sel (v z0 z1:Value) (g₂:Goroutine) (off:Option (Array CommCase×CommShape)):d.ws=18->d.wd=⟨7,0,0⟩->g= {g₂ with status:=.running,offers:=off}->zf H d v z0 z1 g₂->UD H i d v w->uG d w->WS i d g w
 |rX (v z0 z1:Value) (g₂:Goroutine):d.ws=17->d.wd=⟨7,0,0⟩->g=parked g₂ (two H.R H.Dn v z0 z1) .select->zf H d v z0 z1 g₂->UD H i d v w->uG d w->WS i d g w
 |done:d.ws=7->d.st=7->d.df=0->d.rk= .ofNat d.fu->Goes H.P false (RW H.ty H.Wg d.C 1 0 0) DC0 (AtR0 H.P H.ty H.Wg d.C 1 0 1 d.zv) d.fu g w->WS i d g w
 |lib:d.ws=d.st->d.st<=6->d.rk= .ofNat d.fu->WSit H.P H.ty H.Wg d.C 1 FD FD 0 1 d.zv d.st d.fu d.df g w->WS i d g w
end
section
variable [Payload] {H:Ph}
theorem uG.rely{d:WX}{w w':World}(h:uG d w)(e:w'.heap[d.C]? =w.heap[d.C]?):uG d w':=by
 obtain⟨⟨cs,h1,h2⟩,h3⟩:=h;exact⟨⟨cs,e.trans h1,h2⟩,(cell_of_block e 0).trans h3⟩
omit [Payload]in
theorem qX.rely{i:Nat}{d:WX}{rk:Rk}{g:Goroutine}{w w':World}(h:qX H i d rk g w)(hr:kW H.ty H.Wg d.vs w w'):qX H i d rk g w':=by
 obtain⟨ρ,p,f,fs,f',fs',h1,h2,h3,h4,h5,h6⟩:=h;exact⟨ρ,p,f,fs,f',fs',h1,h2.other hr.size (fun c hc=>hr.row c (by rw[h5];exact hc)),h3,h4,h5,h6⟩
omit [Payload]in
theorem Ws.rely{d:WX}{Q:World->Prop}{w w':World}(h:Ws d Q w)(hr:∀c,d.ow c->c≠d.C->w'.heap[c]? =w.heap[c]?):Ws d Q w':=by
 obtain⟨F,h1,h2,h3⟩:=h;exact⟨F,h1,h1 w w' hr h2,h3⟩
omit [Payload]in
theorem UD.rely{i:Nat}{d:WX}{v:Value}{w w':World}(h:UD H i d v w)(hr:∀c,d.ow c->c≠d.C->w'.heap[c]? =w.heap[c]?):UD H i d v w':=fun hg=>⟨(h hg).1,(h hg).2.rely hr⟩
theorem WC{ty:TypeId}{Wg C:Nat}{See:Nat->Prop}{w w':World}(hr:kW ty Wg See w w')(hC:See C):RW ty Wg C 1 0 0 w w':=
 ⟨fun b hb=>by omega,hr.live,fun⟨cs,h1,h2⟩=>⟨cs,(hr.row C hC).trans h1,h2⟩,cell_of_block (hr.row C hC) 0⟩
theorem WS.rely{i:Nat}{d:WX}{g:Goroutine}{w w':World}(h:WS H i d g w)(hr:kW H.ty H.Wg d.vs w w')(ho:∀c,d.ow c->d.vs c)(hC:d.vs d.C):WS H i d g w':=by
 cases h with
 |born n gB rk h1 h2 h3 h0 h4 h5 h6=>exact .born n gB rk h1 h2 h3 h0 h4 (h5.rely hr) (h6.rely (hr.row _ hC))
 |tree h1 h2 h3 h4=>exact .tree h1 h2 (h3.rely hr) (h4.rely (hr.row _ hC))
 |sel v z0 z1 g₂ off h1 h2 h3 h4 h5 h6=>exact .sel v z0 z1 g₂ off h1 h2 h3 h4 (h5.rely fun c hc _=>hr.row c (ho c hc)) (h6.rely (hr.row _ hC))
 |rX v z0 z1 g₂ h1 h2 h3 h4 h5 h6=>exact .rX v z0 z1 g₂ h1 h2 h3 h4 (h5.rely fun c hc _=>hr.row c (ho c hc)) (h6.rely (hr.row _ hC))
 |done h1 h2 h3 h4 h5=>
  have tr:∀a b c,RW H.ty H.Wg d.C 1 0 0 a b->RW H.ty H.Wg d.C 1 0 0 b c->RW H.ty H.Wg d.C 1 0 0 a c:=fun _ _ _ h1 h2=>h1.trans h2;exact .done h1 h2 h3 h4 (Goes.rely tr h5 (WC hr hC))
 |lib h1 h2 h3 h4=>exact .lib h1 h2 h3 (h4.rely (WC hr hC))
omit [Payload]in
theorem iY(C:Ctx)(f:Fr)(fs:List Fr):(bP C f fs).status= .running:=by cases fs<;>rfl
theorem WS.status{i:Nat}{d:WX}{g:Goroutine}{w:World}(h:WS H i d g w):(g.status= .running\/g.status= .finished)\/(d.ws=17/\g.status= .blocked):=by
 cases h with
 |born n gB rk h1 h2 h3 h0 h4 h5 h6=>exact .inl (.inl h0)
 |tree h1 h2 h3 h4=>
  obtain⟨ρ,p,f,fs,f',fs',e,_⟩:=h3;exact .inl (.inl (by rw[e];exact iY _ _ _))
 |sel v z0 z1 g₂ off h1 h2 h3 h4 h5 h6=>exact .inl (.inl (by rw[h3]))
 |rX v z0 z1 g₂ h1 h2 h3 h4 h5 h6=>exact .inr ⟨h1,by rw[h3];rfl⟩
 |done h1 h2 h3 h4 h5=>exact .inl (.inl (Goes.running (fun _ _ x=>x.1) w (RW.refl w) h5))
 |lib h1 h2 h3 h4=>exact .inl h4.status
theorem WS.again{i:Nat}{d:WX}{g:Goroutine}{w w':World}(h:WS H i d g w){s r s' r':Nat}{tm tm' c:Bool}(hR:w'.heap[H.R]? =some (.chan 0 #[] false s r tm))(hD:w'.heap[H.Dn]? =some (.chan 0 #[] c s' r' tm'))(hn:c=true->d.ws≠17):g.again w'=g:=by
 rcases h.status with hs|⟨ny,_⟩
 ·exact again_running w' hs
 ·have hc:c=false:=by cases c with
   |false=>rfl
   |true=>exact absurd ny (hn rfl)
  subst hc;cases h with
  |rX v z0 z1 g₂ h1 h2 h3 h4 h5 h6=>rw[h3];exact za hR hD
  |born n gB rk h1=>omega
  |tree h1=>omega
  |sel v z0 z1 g₂ off h1=>omega
  |done h1=>omega
  |lib h1 h2 h3 h4=>omega
omit [Payload]in
theorem qz{P:Program}{g g' x:Goroutine}{w':World}(h:x.again w'=x):woken P g g' w' x=x:=by
 unfold Go.Conc.woken;split
 ·exact h
 ·rfl
theorem WS.Fe{i:Nat}{d:WX}{g:Goroutine}{w:World}(h:WS H i d g w):(17<=d.ws/\d.st=7)\/(d.ws=d.st/\d.st<=7):=by
 have key:d.wd=⟨7,0,0⟩->d.st=7:=fun e=>by cases d;simp only[WX.wd,WD.mk.injEq]at e;exact e.1
 cases h with
 |born n gB rk h1 h2 h3=>exact .inl ⟨by omega,key h3⟩
 |tree h1 h2=>exact .inl ⟨by omega,key h2⟩
 |sel v z0 z1 g₂ off h1 h2=>exact .inl ⟨by omega,key h2⟩
 |rX v z0 z1 g₂ h1 h2=>exact .inl ⟨by omega,key h2⟩
 |done h1 h2=>exact .inr ⟨by omega,by omega⟩
 |lib h1 h2=>exact .inr ⟨h1,by omega⟩
end
structure GY(H:Ph)(mine bH:Nat->Prop)(w w':World)(es:Array Event):Prop where
 size:w.heap.size<=w'.heap.size
 row:∀b,b<w.heap.size->¬mine b->w'.heap[b]? =w.heap[b]?
 new:∀b,bH b->mine b\/(w.heap.size<=b/\b<w'.heap.size)
 tape:w'.tape=w.tape
 os:w'.os=w.os
 output:w'.output=w.output
 nv:NV w->NV w'
 evs:∀e∈es,(∃c i wr,e=⟨.cell ⟨c,i,none⟩,wr,false⟩/\(H.old c\/bH c)/\(wr=true->bH c))\/e=⟨.mark .noRoom,false,true⟩\/∃f,e=⟨.mark (.extern f),false,true⟩
def mO(H:Ph)(mine:Nat->Prop)(b:Nat):Prop:=H.old b\/mine b
def aS(H:Ph)(Stop:(Nat->Prop)->Goroutine->World->Prop):Nat->(Nat->Prop)->Goroutine->World->Prop
 |0,mine,g,w=>∀w₁,kW H.ty H.Wg (mO H mine) w w₁->Stop mine g w₁
 |n+1,mine,g,w=>(∀w₁,kW H.ty H.Wg (mO H mine) w w₁->Stop mine g w₁)\/(g.status= .running/\∀w₁,kW H.ty H.Wg (mO H mine) w w₁->∃g' w' es bH,stepG H.P true g w₁= .go g' w' es/\GY H mine bH w₁ w' es/\aS H Stop n bH g' w')
theorem aS.rely{H:Ph}{Stop:(Nat->Prop)->Goroutine->World->Prop}{n:Nat}{mine:Nat->Prop}{g:Goroutine}{w w₁:World}(h:aS H Stop n mine g w)(hr:kW H.ty H.Wg (mO H mine) w w₁):aS H Stop n mine g w₁:=by
 cases n with
 |zero=>exact fun w₂ h₂=>h w₂ (hr.trans h₂)
 |succ n=>exact h.imp (fun x w₂ h₂=>x w₂ (hr.trans h₂)) (fun x=>⟨x.1,fun w₂ h₂=>x.2 w₂ (hr.trans h₂)⟩)
theorem aS.cases{H:Ph}{Stop:(Nat->Prop)->Goroutine->World->Prop}{n:Nat}{mine:Nat->Prop}{g:Goroutine}{w:World}(h:aS H Stop n mine g w):
  Stop mine g w\/∃n',n=n'+1/\g.status= .running/\∃g' w' es bH,stepG H.P true g w= .go g' w' es/\GY H mine bH w w' es/\aS H Stop n' bH g' w':=by
 cases n with
 |zero=>exact .inl (h w (.refl w))
 |succ n=>exact h.imp (fun x=>x w (.refl w)) (fun x=>⟨n,rfl,x.1,x.2 w (.refl w)⟩)
theorem aS.running{H:Ph}{Stop:(Nat->Prop)->Goroutine->World->Prop}{n:Nat}{mine:Nat->Prop}{g:Goroutine}{w:World}(h:aS H Stop n mine g w)(hs:∀m g w,Stop m g w->g.status= .running):g.status= .running:=by
 rcases h.cases with h|⟨_,_,h,_⟩
 ·exact hs _ _ _ h
 ·exact h
section
variable [Payload] (H:Ph)
def Cont(mine:Nat->Prop)(Q:World->Prop)(w:World):Prop:=∀w₁,kW H.ty H.Wg (mO H mine) w w₁->Q w₁
def mR(ok:Bool)(got:Nat->Option Value)(mine:Nat->Prop)(g:Goroutine)(w:World):Prop:=
 ∃κ:Goroutine,κ.status= .running/\Walks H.P H.ty H.Wg (jm H.P H.ty H.Wg .disable (H.Anch κ)) g w/\Cont H mine (H.Fin ok got mine κ) w
def AtClose(got:Nat->Option Value)(mine:Nat->Prop)(g:Goroutine)(w:World):Prop:=
 g.status= .running/\∀s r tm,w.heap[H.Dn]? =some (.chan 0 #[] false s r tm)->∃g' es,stepG H.P true g w= .go g' (w.setChan H.Dn 0 #[] true s r tm) es/\mayWake H.P g=true/\g'.status= .running/\(∀e∈es,(∀y,(MemAct.ofEvent e).touch? =some y->(∃r,y.loc= .obj r)/\y.kind= .atomic)/\(MemAct.ofEvent e).low w.heap.size/\e.loc≠.mark .disable/\e.loc≠.mark .enable/\e.loc≠.mark (.release (stA H.Wg)))/\
  Cont H mine (fun w₁=>∃n,aS H (mR H false got) n mine g' w₁) w
def oW:Nat->(Nat->Option Value)->(Nat->Prop)->Goroutine->World->Prop
 |0,got,mine,g,w=>mR H true got mine g w
 |k+1,got,mine,g,w=>g.status= .running/\∃z,(∀w,stepG H.P true g w= .comm g #[rcase H.R z] true (.recv false) w #[])/\
  ∀i v,i<H.N->got i=none->H.Pv i v->Cont H mine (fun w₁=>∃n,aS H (fun m g w=>oW k (upd got i (some v)) m g w\/AtClose H (upd got i (some v)) m g w) n mine (g.finishComm H.P #[rcase H.R z] (.recv false) 0 v true) w₁) w
def AtGo(i:Nat)(Next:(Nat->Prop)->Goroutine->World->Prop)(mine:Nat->Prop)(g:Goroutine)(w:World):Prop:=
 g.status= .running/\∃g' child d bH,stepG H.P true g w= .spawn g' child w #[]/\d.ws=22/\d.df=0/\d.gu=false/\WS H i d child w/\(∀c,¬d.ow c)/\(∀c,d.vs c->H.old c\/mine c)/\(∀c,d.vs c->¬bH c)/\d.vs d.C/\mine d.C/\(∀b,bH b->mine b)/\Next bH g' w
def AtCall(Next:(Nat->Prop)->Goroutine->World->Prop)(mine:Nat->Prop)(g:Goroutine)(w:World):Prop:=
 ∃gK,Adds H.P H.ty H.Wg (fun g _=>g=gK) g w/\Cont H mine (Next mine gK) w
def Ud:Nat->(Nat->Prop)->Goroutine->World->Prop
 |0,mine,g,w=>∃n,aS H (fun m g w=>oW H H.N (fun _=>none) m g w\/AtClose H (fun _=>none) m g w) n mine g w
 |r+1,mine,g,w=>∃n,aS H (AtCall H fun mine g w=>∃n,aS H (AtGo H (H.N-(r+1)) (Ud r)) n mine g w) n mine g w
end
end Go.iw
