import PyProof.Rows.All
import Wide.All
import OpenK.AllK
import Wide.FinOn
import Lean
import PyProof.EqAt
import PyProof.EqKinds
import PyProof.TupleCall
import PySem.Challenge.RW_borderfloor_k45_whole_partings_lay_floor
set_option bootstrap.genMatcherCode false
set_option compiler.extract_closed false
set_option Elab.async false
set_option linter.all false
set_option maxRecDepth 100000
noncomputable section
namespace L2
open PySem PySem.Spec PyProof.Rows
def bh(s:Stmt):Arguments:=match s with
 |.FunctionDef _ a _ _ _ _ _ _ _ _=>a
 |_=>{ posonlyargs:=[],args:=[],vararg:=none,kwonlyargs:=[],kw_defaults:=[],kwarg:=none,defaults:=[] }
def aR(s:Stmt):List Stmt:=match s with
 |.FunctionDef _ _ b _ _ _ _ _ _ _=>b
 |_=>[]
def aA(s:Stmt):Scope:=match s with
 |.FunctionDef _ _ _ _ _ _ sc _ _ _=>sc
 |_=>{ kind:=.function,names:=[],isGenerator:=false,isCoroutine:=false }
end L2
namespace L3
open PySem PySem.W PySem.Spec PyProof.Rows
abbrev Ei:=@PySem.W.Fast.tw14364793385576792824
theorem yM:treeTable=Ei:=PySem.W.Fast.te14364793385576792824
abbrev goF:=@PySem.W.Fast.tw15667345088766844465
theorem Yw:@topGo=@goF:=PySem.W.Fast.te15667345088766844465
abbrev sgF:=@PySem.W.Fast.tw14374325043358763698
theorem Xb:@segRun=@sgF:=PySem.W.Fast.te14374325043358763698
abbrev stF:=@PySem.W.Fast.tw10110043849684766642
theorem Wn:@segRunT=@stF:=PySem.W.Fast.te10110043849684766642
abbrev trF:=@PySem.W.Fast.tw14082659384304107361
theorem XM:@topRun=@trF:=PySem.W.Fast.te14082659384304107361
abbrev dnF:=@PySem.W.Fast.tw11892475500146522536
theorem W0:@denote=@dnF:=PySem.W.Fast.te11892475500146522536
abbrev XS:=@PySem.W.Fast.tw5923862056798008813
theorem Zg:@importedModules=@XS:=PySem.W.Fast.te5923862056798008813
abbrev osF:=@PySem.W.Fast.tw4187177175401517315
theorem W8:@openSeen=@osF:=PySem.W.Fast.te4187177175401517315
def RV(d:SharedT):Option (Flow×SharedT×Code×Pos)->SharedT
 |some (_,s,_,_)=>s
 |none=>d
def ab4(d:Shared):Option (Shared×Thread)->Shared
 |some (s,_)=>s
 |none=>d
def abM(d:Shared):Option Shared->Shared
 |some s=>s
 |none=>d
def S0(w:World)(os:OsState):Shared:=⟨boot_heap w.params,Array.mk [],boot_drawn,boot_toks,os⟩
theorem JG(w:World):((boot_heap w.params).isNs mainGlobals&&(Array.mk []:Array GenState).size==0)=true/\(boot_heap w.params).objs.size=11/\(boot_heap w.params).nsMap mainGlobals "__annotations__" = some (.ref 6) :=
 ⟨by kernel_rfl,by kernel_rfl,by kernel_rfl⟩
def ace:Obj:={ cls:=.type "tuple",data:=.seq #[] }
def abK:Obj:={ cls:=.none,data:=.fields #[] }
def abH:Obj:={ cls:=.type "code",data:=.fields #[.str "<module>" 182,.str "<module>" 183,.str "/claim/cut.py" 184,.int 1 0,.int 0 0,.int 0 0,.int 0 0,.int 0 0,.ref 11,.bool false,.int 181 0,.ref 12,.none,.none,.none,.none,.int 185 0,.int 1 0,.str "/claim/cut.py" 186] }
def abY:Obj:={ cls:=.type "frame",slots:=#[some (.ref 13),some (.ref 3),some (.ref 3),none,some (.str "__main__" 164),none,some (.ref 0)] }
def Sb(w:World)(os:OsState):SharedT :=
 ⟨.node (boot_o_0 w.params) (.node (boot_o_1 w.params) (.node (boot_o_3 w.params) (.node (boot_o_7 w.params) .nil .nil) (.node ace .nil .nil)) (.node (boot_o_5 w.params) (.node (boot_o_9 w.params) .nil .nil) (.node abH .nil .nil)))
  (.node (boot_o_2 w.params) (.node (boot_o_4 w.params) (.node (boot_o_8 w.params) .nil .nil) (.node abK .nil .nil)) (.node (boot_o_6 w.params) (.node (boot_o_10 w.params) .nil .nil) (.node abY .nil .nil))),15,{},Array.mk [],⟨0,0,0,0⟩,187,os⟩
def G5(p:Program):Env:={ scope:=p.main.scope,locals:=mainNs,globals:=mainNs,cells:=[],code:=.ref 13,frame:=some 14 }
def sA(p:Program)(w:World)(os:OsState):Shared:=ab4 (S0 w os) (goF Ei p w 11 (some (.ref 6)) 12 (S0 w os) (topStub p))
def sR(p:Program)(w:World)(os:OsState):Option (Flow×SharedT×Code×Pos):=stF Ei p w 11 (some (.ref 6)) 1 20000 (Sb w os) (piecesOf (behindTheImports p) (G5 p) (.body (behindTheImports p) (G5 p)) ⟨0,0,0,0⟩ [topFrame ⟨0,0,0,0⟩])
def Uw:Option (Flow×SharedT×Code×Pos)->Pos
 |some (_,_,_,q)=>q
 |none=>⟨0,0,0,0⟩
def sE(p:Program)(w:World)(os:OsState):Option Shared:=trF Ei p w 11 (some (.ref 6)) 2 (RV (Sb w os) (sR p w os)).abs ⟨doneF .next,.body (behindTheImports p) (G5 p),Uw (sR p w os),[topFrame ⟨0,0,0,0⟩]⟩
def sF(p:Program)(w:World)(os:OsState):Shared:=abM (S0 w os) (sE p w os)
theorem Ug{p q:Program}{loose:List Str}{Xt:Shared->Bool}{α:Type}{Yf:Shared->α}{Ya:World->α}{N:Nat}{g0:Bool}{w:World}{ev:Env}{p0 p1 qf:Pos}{p2:OsState->Pos}{m a b n k:Nat}{ann:Option Value}
  {Sa F:OsState->Shared} {Sb G:OsState->SharedT}
  (h1:opening p=plainProg p.main.scope.names) (h2:Nat.ble 600 N=true) (h3:∀s,fenceModules? p s=some s)
  (sz:((boot_heap w.params).isNs mainGlobals&&(Array.mk []:Array GenState).size==0)=true/\(boot_heap w.params).objs.size=m/\(boot_heap w.params).nsMap mainGlobals "__annotations__" = ann)
  (pre:∀os,goF Ei p w m ann a (S0 w os) (topStub p)=some (Sa os,⟨dnF Ei (.body (behindTheImports p) ev),.body (behindTheImports p) ev,p0,[topFrame qf]⟩))
  (blk:∀os,sgF Ei p w m ann 1 b (Sa os) (blockOf (behindTheImports p) ev (.body (behindTheImports p) ev) p0 [topFrame qf])=some (.next,(Sb os).abs,.body (behindTheImports p) ev,p1))
  (seg:∀os,stF Ei p w m ann 1 n (Sb os) (piecesOf (behindTheImports p) ev (.body (behindTheImports p) ev) p1 [topFrame qf])=some (.next,G os,.body (behindTheImports p) ev,p2 os))
  (fin:∀os,trF Ei p w m ann k (G os).abs ⟨doneF .next,.body (behindTheImports p) ev,p2 os,[topFrame qf]⟩=some (F os))
  (le:Nat.ble (a+(b+(n+k))) N=true)
  (looks:∀os,((staticsOk (XS p.main.body) (boot_heap w.params) (F os).heap&&namesBound p (F os).heap&&gensDone (F os)&&laidKept (boot_heap w.params) (F os).heap),osF q loose (XS p.main.body) Xt g0 (F os),Yf (F os))=(true,openGood q loose,Ya w)) :
  (openEnds treeTable p w N).map (fun s=>(openSeen q loose (importedModules p.main.body) Xt g0 s,Yf s))=some (openGood q loose,Ya w):=by
 obtain⟨⟨hp,gs,dr,tk,os⟩,e,e'⟩:=Option.map_eq_some_iff.mp (boot_open h1 h2 h3 w)
 obtain⟨rfl,e'⟩:=Prod.mk.inj e'
 obtain⟨rfl,e'⟩:=Prod.mk.inj e'
 obtain⟨rfl,rfl⟩:=Prod.mk.inj e'
 obtain⟨z1,z2,z3⟩:=sz
 have l:=looks os
 rw[←Zg,←W8] at l
 obtain⟨l1,l⟩:=Prod.mk.inj l
 obtain⟨l2,l3⟩:=Prod.mk.inj l
 have r1:=pre os
 rw[←Yw,←W0,←yM] at r1
 have r2:=blk os
 rw[←Xb,←yM] at r2
 have r3:=seg os
 rw[←Wn,←yM] at r3
 have r4:=fin os
 rw[←XM,←yM] at r4
 have r5:=piece_app (rest:=[]) (segRun_of r3) (piece_nil r4)
 rw[List.append_nil] at r5
 have r:=topRun_mono (N-(a+(b+(n+k)))) _ _ _ _ (go_top r1 (piece_block r2 r5))
 rw[Nat.add_sub_cancel' (Nat.le_of_ble_eq_true le)] at r
 have t:topFrom treeTable p w N (S0 w os)=some (F os):=by
  unfold topFrom
  show (match _ with | true=>_ | false=>_)=_
  dsimp only[S0]
  rw[z1,z2,z3]
  dsimp only
  rw[show topRun treeTable p w m ann N ⟨boot_heap w.params,Array.mk [],boot_drawn,boot_toks,os⟩ (topStub p)=some (F os) from r]
  show (match _ with | true=>_ | false=>_)=_
  rw[l1]
 unfold openEnds
 rw[e]
 show (topFrom treeTable p w N (S0 w os)).map _=_
 rw[t]
 exact congrArg some (Prod.ext l2 l3)
theorem Rt(row:String){p q:Program}{loose:List Str}{Xt:Shared->Bool}{α:Type}{Yf:Shared->α}{Ya:World->α}{g0:Bool}
  (h1:opening p=plainProg p.main.scope.names) (h3:∀s,fenceModules? p s=some s)
  (pre:∀(b:Bool) (w:World) (os:OsState),goF Ei p (w.withFollow row b) 11 (some (.ref 6)) 12 (S0 (w.withFollow row b) os) (topStub p)=some (sA p (w.withFollow row b) os,⟨dnF Ei (.body (behindTheImports p) (G5 p)),.body (behindTheImports p) (G5 p),⟨0,0,0,0⟩,[topFrame ⟨0,0,0,0⟩]⟩))
  (blk:∀(b:Bool) (w:World) (os:OsState),sgF Ei p (w.withFollow row b) 11 (some (.ref 6)) 1 1 (sA p (w.withFollow row b) os) (blockOf (behindTheImports p) (G5 p) (.body (behindTheImports p) (G5 p)) ⟨0,0,0,0⟩ [topFrame ⟨0,0,0,0⟩])=some (.next,(Sb (w.withFollow row b) os).abs,.body (behindTheImports p) (G5 p),⟨0,0,0,0⟩))
  (seg:∀(b:Bool) (w:World) (os:OsState),sR p (w.withFollow row b) os=some (.next,RV (Sb (w.withFollow row b) os) (sR p (w.withFollow row b) os),.body (behindTheImports p) (G5 p),Uw (sR p (w.withFollow row b) os)))
  (fin:∀(b:Bool) (w:World) (os:OsState),sE p (w.withFollow row b) os=some (sF p (w.withFollow row b) os))
  (looks:∀(b:Bool) (w:World) (os:OsState),((staticsOk (XS p.main.body) (boot_heap (w.withFollow row b).params) (sF p (w.withFollow row b) os).heap&&namesBound p (sF p (w.withFollow row b) os).heap&&gensDone (sF p (w.withFollow row b) os)&&laidKept (boot_heap (w.withFollow row b).params) (sF p (w.withFollow row b) os).heap),osF q loose (XS p.main.body) Xt g0 (sF p (w.withFollow row b) os),Yf (sF p (w.withFollow row b) os))=(true,openGood q loose,Ya (w.withFollow row b))) :
  LeftO p q loose Xt Yf Ya 20100 g0:=by
 have z:∀(b:Bool) (w:World),(openEnds treeTable p (w.withFollow row b) 20100).map (fun s=>(openSeen q loose (importedModules p.main.body) Xt g0 s,Yf s))=some (openGood q loose,Ya (w.withFollow row b)):=fun b w=>
  Ug (n:=20000) (k:=2) (Sa:=sA p (w.withFollow row b)) (Sb:=Sb (w.withFollow row b)) (G:=fun os=>RV (Sb (w.withFollow row b) os) (sR p (w.withFollow row b) os)) (F:=sF p (w.withFollow row b)) (p2:=fun os=>Uw (sR p (w.withFollow row b) os)) h1 (by decide) h3 (JG _) (pre b w) (blk b w) (seg b w) (fin b w) (by decide) (looks b w)
 exact byRow2 row (z false) (z true)
abbrev Wi(p:Program)(w:World)(os:OsState):Prop:=goF Ei p w 11 (some (.ref 6)) 12 (S0 w os) (topStub p)=some (sA p w os,⟨dnF Ei (.body (behindTheImports p) (G5 p)),.body (behindTheImports p) (G5 p),⟨0,0,0,0⟩,[topFrame ⟨0,0,0,0⟩]⟩)
abbrev WX(p:Program)(w:World)(os:OsState):Prop:=sgF Ei p w 11 (some (.ref 6)) 1 1 (sA p w os) (blockOf (behindTheImports p) (G5 p) (.body (behindTheImports p) (G5 p)) ⟨0,0,0,0⟩ [topFrame ⟨0,0,0,0⟩])=some (.next,(Sb w os).abs,.body (behindTheImports p) (G5 p),⟨0,0,0,0⟩)
abbrev WR(p:Program)(w:World)(os:OsState):Prop:=sR p w os=some (.next,RV (Sb w os) (sR p w os),.body (behindTheImports p) (G5 p),Uw (sR p w os))
abbrev YL(p:Program)(w:World)(os:OsState):Prop:=sE p w os=some (sF p w os)
abbrev LkA(p:Program)(w:World)(os:OsState):Prop:=(staticsOk (XS p.main.body) (boot_heap w.params) (sF p w os).heap&&namesBound p (sF p w os).heap&&gensDone (sF p w os)&&laidKept (boot_heap w.params) (sF p w os).heap)=true
abbrev LkB(p q:Program)(loose:List Str)(Xt:Shared->Bool)(g0:Bool)(w:World)(os:OsState):Prop:=osF q loose (XS p.main.body) Xt g0 (sF p w os)=openGood q loose
abbrev LkC(p:Program){α:Type}(Yf:Shared->α)(Ya:World->α)(w:World)(os:OsState):Prop:=Yf (sF p w os)=Ya w
theorem K7{p q:Program}{loose:List Str}{Xt:Shared->Bool}{α:Type}{Yf:Shared->α}{Ya:World->α}{g0:Bool}(row:String)(h1:opening p=plainProg p.main.scope.names)(h3:∀s,fenceModules? p s=some s)
  (pre:∀b (w:World) os,Wi p (w.withFollow row b) os) (blk:∀b (w:World) os,WX p (w.withFollow row b) os) (seg:∀b (w:World) os,WR p (w.withFollow row b) os) (fin:∀b (w:World) os,YL p (w.withFollow row b) os)
  (a:∀b (w:World) os,LkA p (w.withFollow row b) os) (b:∀b (w:World) os,LkB p q loose Xt g0 (w.withFollow row b) os) (c:∀b (w:World) os,LkC p Yf Ya (w.withFollow row b) os):LeftO p q loose Xt Yf Ya 20100 g0 :=
 Rt row h1 h3 pre blk seg fin fun i w os=>Prod.ext (a i w os) (Prod.ext (b i w os) (c i w os))
end L3
namespace Law
open PySem PySem.Spec PyProof.Rows L2 L3
def top(i:Nat):Stmt:=PySem.Challenge.pw_borderfloor_k45_whole_partings_lay_floor.main.body.getD i (.Pass ⟨0,0,0,0⟩)
abbrev en(P:Params)(k:Str)(t:Tok)(v:Value):DictEntry:=⟨PyData.keyHash P k,.str k t,v⟩
open PySem.W in
def K0(P:Params):Frag:=(nat_lit 2,⟨.none,none,.dict #[] 0,#[]⟩) ::
 (nat_lit 3,⟨.type "dict",none,.dict #[en P "__name__" 165 (.str "law_borderfloor_k45_whole_partings_lay_floor" 386),en P "__doc__" 166 .none,en P "__package__" 167 .none,en P "__loader__" 168 (.builtin "__main__.__loader__#opaque"),en P "__spec__" 169 .none,en P "__annotations__" 170 (.ref 6),en P "__builtins__" 171 (.ref 4),en P "__file__" 173 (.str "/claim/cut.py" 172),en P "__cached__" 174 .none,en P "added" 196 (.ref 21),en P "taken" 204 (.ref 28),en P "FloorError" 224 (.ref 38),en P "NoGrid" 240 (.ref 51),en P "common_measure" 251 (.ref 60),en P "levelled" 261 (.ref 67),en P "grid_of" 272 (.ref 74),en P "STEPS" 293 (.ref 75),en P "OPPOSITES" 306 (.ref 80),en P "corners_of" 316 (.ref 87),en P "backwards" 322 (.ref 92),en P "spans_of" 333 (.ref 99),en P "is_parting" 346 (.ref 106),en P "cuts_of_two" 352 (.ref 111),en P "cuts_of_three" 358 (.ref 116),en P "partings_of" 364 (.ref 121),en P "shifts_by" 377 (.ref 128),en P "grid_by" 385 (.ref 135),en P "_law_cell_at" 395 (.ref 142),en P "_law_corner" 403 (.ref 149),en P "_law_step" 410 (.ref 156),en P "_law_whole" 417 (.ref 163),en P "_law_pair" 425 (.ref 170),en P "_law_holed" 431 (.ref 175),en P "_law_grown" 448 (.ref 182),en P "_law_piece" 454 (.ref 187),en P "_law_round" 470 (.ref 194),en P "_law_is_grid" 476 (.ref 199),en P "_law_rest" 485 (.ref 206),en P "law" 491 (.ref 211)] 39,#[]⟩) ::
 (nat_lit 15,⟨.type "tuple",none,.seq #[] 0,#[]⟩) ::
 (nat_lit 17,⟨.type "tuple",none,.seq #[.str "one" 192,.str "other" 193] 0,#[]⟩) ::
 (nat_lit 18,⟨.type "tuple",none,.seq #[] 0,#[]⟩) ::
 (nat_lit 20,⟨.type "code",none,.fields #[.str "added" 189,.str "added" 190,.str "/claim/cut.py" 191,.int 2 0,.int 2 0,.int 0 0,.int 0 0,.int 3 0,.ref 15,.bool true,.int 181 0,.ref 16,.none,.ref 17,.ref 18,.ref 19,.int 194 0,.int 2 0,.str "/claim/cut.py" 195],#[]⟩) ::
 (nat_lit 21,⟨.type "function",none,.func (fnOf "added" "added" (bh (top 1)) (aR (top 1)) (aA (top 1)) .none .none .none (.str "borderfloor.cells" 187) none (.ref 20) .none),#[]⟩) ::
 (nat_lit 22,⟨.type "tuple",none,.seq #[] 0,#[]⟩) ::
 (nat_lit 24,⟨.type "tuple",none,.seq #[.str "one" 200,.str "other" 201] 0,#[]⟩) ::
 (nat_lit 25,⟨.type "tuple",none,.seq #[] 0,#[]⟩) ::
 (nat_lit 27,⟨.type "code",none,.fields #[.str "taken" 197,.str "taken" 198,.str "/claim/cut.py" 199,.int 4 0,.int 2 0,.int 0 0,.int 0 0,.int 3 0,.ref 22,.bool true,.int 181 0,.ref 23,.none,.ref 24,.ref 25,.ref 26,.int 202 0,.int 4 0,.str "/claim/cut.py" 203],#[]⟩) ::
 (nat_lit 28,⟨.type "function",none,.func (fnOf "taken" "taken" (bh (top 2)) (aR (top 2)) (aA (top 2)) .none .none .none (.str "borderfloor.cells" 187) none (.ref 27) .none),#[]⟩) ::
 (nat_lit 29,⟨.type "tuple",none,.seq #[.type "ValueError"] 0,#[]⟩) ::
 (nat_lit 36,⟨.type "tuple",none,.seq #[] 0,#[]⟩) ::
 (nat_lit 37,⟨.type "dict",none,.dict #[en P "__module__" 214 (.str "borderfloor.errors" 205),en P "__firstlineno__" 218 (.int 7 217),en P "__static_attributes__" 219 (.ref 36),en P "__weakref__" 221 (.ref 39),en P "__doc__" 222 .none] 3,#[]⟩) ::
 (nat_lit 38,⟨.type "type",none,.cls ⟨"FloorError",[.type "ValueError"],[.ref 38,.type "ValueError",.type "Exception",.type "BaseException",.type "object"],37, "FloorError",true,[],[.ref 51],false,none,false⟩,#[some (.ref 29),none,some (.str "FloorError" 207),some (.str "FloorError" 215),some (.builtin "ValueError.__new__"),some (.bool true)]⟩) ::
 (nat_lit 39,⟨.type "getset_descriptor",none,.fields #[.str "__weakref__" 220,.ref 38,.builtin "ExceptionGroup.__weakref__",.none],#[]⟩) ::
 (nat_lit 42,⟨.type "tuple",none,.seq #[.ref 38] 0,#[]⟩) ::
 (nat_lit 49,⟨.type "tuple",none,.seq #[] 0,#[]⟩) ::
 (nat_lit 50,⟨.type "dict",none,.dict #[en P "__module__" 232 (.str "borderfloor.errors" 205),en P "__firstlineno__" 236 (.int 9 235),en P "__static_attributes__" 237 (.ref 49),en P "__doc__" 238 .none] 2,#[]⟩) ::
 (nat_lit 51,⟨.type "type",none,.cls ⟨"NoGrid",[.ref 38],[.ref 51,.ref 38,.type "ValueError",.type "Exception",.type "BaseException",.type "object"],50, "NoGrid",true,[],[],false,none,false⟩,#[some (.ref 42),none,some (.str "NoGrid" 225),some (.str "NoGrid" 233),some (.builtin "ValueError.__new__"),some (.bool true)]⟩) ::
 (nat_lit 54,⟨.type "tuple",none,.seq #[] 0,#[]⟩) ::
 (nat_lit 56,⟨.type "tuple",none,.seq #[.str "one" 246,.str "other" 247,.str "rest" 248] 0,#[]⟩) ::
 (nat_lit 57,⟨.type "tuple",none,.seq #[] 0,#[]⟩) ::
 (nat_lit 59,⟨.type "code",none,.fields #[.str "common_measure" 243,.str "common_measure" 244,.str "/claim/cut.py" 245,.int 12 0,.int 2 0,.int 0 0,.int 0 0,.int 3 0,.ref 54,.bool true,.int 181 0,.ref 55,.none,.ref 56,.ref 57,.ref 58,.int 249 0,.int 12 0,.str "/claim/cut.py" 250],#[]⟩) ::
 (nat_lit 60,⟨.type "function",none,.func (fnOf "common_measure" "common_measure" (bh (top 7)) (aR (top 7)) (aA (top 7)) .none .none .none (.str "borderfloor.grids" 241) none (.ref 59) .none),#[]⟩) ::
 (nat_lit 61,⟨.type "tuple",none,.seq #[] 0,#[]⟩) ::
 (nat_lit 63,⟨.type "tuple",none,.seq #[.str "one" 255,.str "other" 256,.str "times" 257,.str "rest" 258] 0,#[]⟩) ::
 (nat_lit 64,⟨.type "tuple",none,.seq #[] 0,#[]⟩) ::
 (nat_lit 66,⟨.type "code",none,.fields #[.str "levelled" 252,.str "levelled" 253,.str "/claim/cut.py" 254,.int 18 0,.int 2 0,.int 0 0,.int 0 0,.int 3 0,.ref 61,.bool true,.int 181 0,.ref 62,.none,.ref 63,.ref 64,.ref 65,.int 259 0,.int 18 0,.str "/claim/cut.py" 260],#[]⟩) ::
 (nat_lit 67,⟨.type "function",none,.func (fnOf "levelled" "levelled" (bh (top 8)) (aR (top 8)) (aA (top 8)) .none .none .none (.str "borderfloor.grids" 241) none (.ref 66) .none),#[]⟩) ::
 (nat_lit 68,⟨.type "tuple",none,.seq #[] 0,#[]⟩) ::
 (nat_lit 70,⟨.type "tuple",none,.seq #[.str "shifts" 265,.str "east" 266,.str "north" 267,.str "shift" 268,.str "pair" 269] 0,#[]⟩) ::
 (nat_lit 71,⟨.type "tuple",none,.seq #[] 0,#[]⟩) ::
 (nat_lit 73,⟨.type "code",none,.fields #[.str "grid_of" 262,.str "grid_of" 263,.str "/claim/cut.py" 264,.int 25 0,.int 1 0,.int 0 0,.int 0 0,.int 3 0,.ref 68,.bool true,.int 181 0,.ref 69,.none,.ref 70,.ref 71,.ref 72,.int 270 0,.int 25 0,.str "/claim/cut.py" 271],#[]⟩) ::
 (nat_lit 74,⟨.type "function",none,.func (fnOf "grid_of" "grid_of" (bh (top 9)) (aR (top 9)) (aA (top 9)) .none .none .none (.str "borderfloor.grids" 241) none (.ref 73) .none),#[]⟩) ::
 (nat_lit 75,⟨.type "dict",none,.dict #[en P "e" 275 (.ref 76),en P "n" 278 (.ref 77),en P "w" 281 (.ref 78),en P "s" 285 (.ref 79)] 4,#[]⟩) ::
 (nat_lit 76,⟨.type "tuple",none,.seq #[.int 1 276,.int 0 277] 0,#[]⟩) ::
 (nat_lit 77,⟨.type "tuple",none,.seq #[.int 0 279,.int 1 280] 0,#[]⟩) ::
 (nat_lit 78,⟨.type "tuple",none,.seq #[.int (-1) 283,.int 0 284] 0,#[]⟩) ::
 (nat_lit 79,⟨.type "tuple",none,.seq #[.int 0 286,.int (-1) 288] 0,#[]⟩) ::
 (nat_lit 80,⟨.type "dict",none,.dict #[en P "e" 294 (.str "w" 295),en P "n" 296 (.str "s" 297),en P "w" 298 (.str "e" 299),en P "s" 300 (.str "n" 301)] 4,#[]⟩) ::
 (nat_lit 81,⟨.type "tuple",none,.seq #[] 0,#[]⟩) ::
 (nat_lit 83,⟨.type "tuple",none,.seq #[.str "corner" 310,.str "word" 311,.str "corners" 312,.str "letter" 313] 0,#[]⟩) ::
 (nat_lit 84,⟨.type "tuple",none,.seq #[] 0,#[]⟩) ::
 (nat_lit 86,⟨.type "code",none,.fields #[.str "corners_of" 307,.str "corners_of" 308,.str "/claim/cut.py" 309,.int 42 0,.int 2 0,.int 0 0,.int 0 0,.int 3 0,.ref 81,.bool true,.int 181 0,.ref 82,.none,.ref 83,.ref 84,.ref 85,.int 314 0,.int 42 0,.str "/claim/cut.py" 315],#[]⟩) ::
 (nat_lit 87,⟨.type "function",none,.func (fnOf "corners_of" "corners_of" (bh (top 13)) (aR (top 13)) (aA (top 13)) .none .none .none (.str "borderfloor.words" 273) none (.ref 86) .none),#[]⟩) ::
 (nat_lit 88,⟨.type "tuple",none,.seq #[] 0,#[]⟩) ::
 (nat_lit 91,⟨.type "code",none,.fields #[.str "backwards" 317,.str "backwards" 318,.str "/claim/cut.py" 319,.int 47 0,.int 1 0,.int 0 0,.int 0 0,.int 3 0,.ref 88,.bool true,.int 181 0,.ref 89,.none,.none,.none,.ref 90,.int 320 0,.int 47 0,.str "/claim/cut.py" 321],#[]⟩) ::
 (nat_lit 92,⟨.type "function",none,.func (fnOf "backwards" "backwards" (bh (top 14)) (aR (top 14)) (aA (top 14)) .none .none .none (.str "borderfloor.words" 273) none (.ref 91) .none),#[]⟩) ::
 (nat_lit 93,⟨.type "tuple",none,.seq #[] 0,#[]⟩) ::
 (nat_lit 95,⟨.type "tuple",none,.seq #[.str "word" 328,.str "cuts" 329,.str "ends" 330] 0,#[]⟩) ::
 (nat_lit 96,⟨.type "tuple",none,.seq #[] 0,#[]⟩) ::
 (nat_lit 98,⟨.type "code",none,.fields #[.str "spans_of" 325,.str "spans_of" 326,.str "/claim/cut.py" 327,.int 50 0,.int 2 0,.int 0 0,.int 0 0,.int 3 0,.ref 93,.bool true,.int 181 0,.ref 94,.none,.ref 95,.ref 96,.ref 97,.int 331 0,.int 50 0,.str "/claim/cut.py" 332],#[]⟩) ::
 (nat_lit 99,⟨.type "function",none,.func (fnOf "spans_of" "spans_of" (bh (top 16)) (aR (top 16)) (aA (top 16)) .none .none .none (.str "borderfloor.partings" 323) none (.ref 98) .none),#[]⟩) ::
 (nat_lit 100,⟨.type "tuple",none,.seq #[] 0,#[]⟩) ::
 (nat_lit 102,⟨.type "tuple",none,.seq #[.str "word" 337,.str "cuts" 338,.str "half" 339,.str "twice" 340,.str "span" 341,.str "stretch" 342,.str "fellow" 343] 0,#[]⟩) ::
 (nat_lit 103,⟨.type "tuple",none,.seq #[] 0,#[]⟩) ::
 (nat_lit 105,⟨.type "code",none,.fields #[.str "is_parting" 334,.str "is_parting" 335,.str "/claim/cut.py" 336,.int 53 0,.int 2 0,.int 0 0,.int 0 0,.int 3 0,.ref 100,.bool true,.int 181 0,.ref 101,.none,.ref 102,.ref 103,.ref 104,.int 344 0,.int 53 0,.str "/claim/cut.py" 345],#[]⟩) ::
 (nat_lit 106,⟨.type "function",none,.func (fnOf "is_parting" "is_parting" (bh (top 17)) (aR (top 17)) (aA (top 17)) .none .none .none (.str "borderfloor.partings" 323) none (.ref 105) .none),#[]⟩) ::
 (nat_lit 107,⟨.type "tuple",none,.seq #[] 0,#[]⟩) ::
 (nat_lit 110,⟨.type "code",none,.fields #[.str "cuts_of_two" 347,.str "cuts_of_two" 348,.str "/claim/cut.py" 349,.int 62 0,.int 1 0,.int 0 0,.int 0 0,.int 3 0,.ref 107,.bool true,.int 181 0,.ref 108,.none,.none,.none,.ref 109,.int 350 0,.int 62 0,.str "/claim/cut.py" 351],#[]⟩) ::
 (nat_lit 111,⟨.type "function",none,.func (fnOf "cuts_of_two" "cuts_of_two" (bh (top 18)) (aR (top 18)) (aA (top 18)) .none .none .none (.str "borderfloor.partings" 323) none (.ref 110) .none),#[]⟩) ::
 (nat_lit 112,⟨.type "tuple",none,.seq #[] 0,#[]⟩) ::
 (nat_lit 115,⟨.type "code",none,.fields #[.str "cuts_of_three" 353,.str "cuts_of_three" 354,.str "/claim/cut.py" 355,.int 67 0,.int 1 0,.int 0 0,.int 0 0,.int 3 0,.ref 112,.bool true,.int 181 0,.ref 113,.none,.none,.none,.ref 114,.int 356 0,.int 67 0,.str "/claim/cut.py" 357],#[]⟩) ::
 (nat_lit 116,⟨.type "function",none,.func (fnOf "cuts_of_three" "cuts_of_three" (bh (top 19)) (aR (top 19)) (aA (top 19)) .none .none .none (.str "borderfloor.partings" 323) none (.ref 115) .none),#[]⟩) ::
 (nat_lit 117,⟨.type "tuple",none,.seq #[] 0,#[]⟩) ::
 (nat_lit 120,⟨.type "code",none,.fields #[.str "partings_of" 359,.str "partings_of" 360,.str "/claim/cut.py" 361,.int 72 0,.int 1 0,.int 0 0,.int 0 0,.int 3 0,.ref 117,.bool true,.int 181 0,.ref 118,.none,.none,.none,.ref 119,.int 362 0,.int 72 0,.str "/claim/cut.py" 363],#[]⟩) ::
 (nat_lit 121,⟨.type "function",none,.func (fnOf "partings_of" "partings_of" (bh (top 20)) (aR (top 20)) (aA (top 20)) .none .none .none (.str "borderfloor.partings" 323) none (.ref 120) .none),#[]⟩) ::
 (nat_lit 122,⟨.type "tuple",none,.seq #[] 0,#[]⟩) ::
 (nat_lit 124,⟨.type "tuple",none,.seq #[.str "word" 368,.str "cuts" 369,.str "corners" 370,.str "half" 371,.str "shifts" 372,.str "span" 373,.str "fellow_end" 374] 0,#[]⟩) ::
 (nat_lit 125,⟨.type "tuple",none,.seq #[] 0,#[]⟩) ::
 (nat_lit 127,⟨.type "code",none,.fields #[.str "shifts_by" 365,.str "shifts_by" 366,.str "/claim/cut.py" 367,.int 77 0,.int 2 0,.int 0 0,.int 0 0,.int 3 0,.ref 122,.bool true,.int 181 0,.ref 123,.none,.ref 124,.ref 125,.ref 126,.int 375 0,.int 77 0,.str "/claim/cut.py" 376],#[]⟩) ::
 (nat_lit 128,⟨.type "function",none,.func (fnOf "shifts_by" "shifts_by" (bh (top 21)) (aR (top 21)) (aA (top 21)) .none .none .none (.str "borderfloor.partings" 323) none (.ref 127) .none),#[]⟩) ::
 (nat_lit 129,⟨.type "tuple",none,.seq #[] 0,#[]⟩) ::
 (nat_lit 131,⟨.type "tuple",none,.seq #[.str "word" 381,.str "cuts" 382] 0,#[]⟩) ::
 (nat_lit 132,⟨.type "tuple",none,.seq #[] 0,#[]⟩) ::
 (nat_lit 134,⟨.type "code",none,.fields #[.str "grid_by" 378,.str "grid_by" 379,.str "/claim/cut.py" 380,.int 85 0,.int 2 0,.int 0 0,.int 0 0,.int 3 0,.ref 129,.bool true,.int 181 0,.ref 130,.none,.ref 131,.ref 132,.ref 133,.int 383 0,.int 85 0,.str "/claim/cut.py" 384],#[]⟩) ::
 (nat_lit 135,⟨.type "function",none,.func (fnOf "grid_by" "grid_by" (bh (top 22)) (aR (top 22)) (aA (top 22)) .none .none .none (.str "borderfloor.partings" 323) none (.ref 134) .none),#[]⟩) ::
 (nat_lit 136,⟨.type "tuple",none,.seq #[] 0,#[]⟩) ::
 (nat_lit 138,⟨.type "tuple",none,.seq #[.str "_law_script" 391,.str "_law_k" 392] 0,#[]⟩) ::
 (nat_lit 139,⟨.type "tuple",none,.seq #[] 0,#[]⟩) ::
 (nat_lit 141,⟨.type "code",none,.fields #[.str "_law_cell_at" 388,.str "_law_cell_at" 389,.str "/claim/cut.py" 390,.int 88 0,.int 2 0,.int 0 0,.int 0 0,.int 3 0,.ref 136,.bool true,.int 181 0,.ref 137,.none,.ref 138,.ref 139,.ref 140,.int 393 0,.int 88 0,.str "/claim/cut.py" 394],#[]⟩) ::
 (nat_lit 142,⟨.type "function",none,.func (fnOf "_law_cell_at" "_law_cell_at" (bh (top 24)) (aR (top 24)) (aA (top 24)) .none .none .none (.str "law_borderfloor_k45_whole_partings_lay_floor" 386) none (.ref 141) .none),#[]⟩) ::
 (nat_lit 143,⟨.type "tuple",none,.seq #[] 0,#[]⟩) ::
 (nat_lit 145,⟨.type "tuple",none,.seq #[.str "_law_cell" 399,.str "_law_other" 400] 0,#[]⟩) ::
 (nat_lit 146,⟨.type "tuple",none,.seq #[] 0,#[]⟩) ::
 (nat_lit 148,⟨.type "code",none,.fields #[.str "_law_corner" 396,.str "_law_corner" 397,.str "/claim/cut.py" 398,.int 94 0,.int 2 0,.int 0 0,.int 0 0,.int 3 0,.ref 143,.bool true,.int 181 0,.ref 144,.none,.ref 145,.ref 146,.ref 147,.int 401 0,.int 94 0,.str "/claim/cut.py" 402],#[]⟩) ::
 (nat_lit 149,⟨.type "function",none,.func (fnOf "_law_corner" "_law_corner" (bh (top 25)) (aR (top 25)) (aA (top 25)) .none .none .none (.str "law_borderfloor_k45_whole_partings_lay_floor" 386) none (.ref 148) .none),#[]⟩) ::
 (nat_lit 150,⟨.type "tuple",none,.seq #[] 0,#[]⟩) ::
 (nat_lit 152,⟨.type "tuple",none,.seq #[.str "_law_letter" 407] 0,#[]⟩) ::
 (nat_lit 153,⟨.type "tuple",none,.seq #[] 0,#[]⟩) ::
 (nat_lit 155,⟨.type "code",none,.fields #[.str "_law_step" 404,.str "_law_step" 405,.str "/claim/cut.py" 406,.int 98 0,.int 1 0,.int 0 0,.int 0 0,.int 3 0,.ref 150,.bool true,.int 181 0,.ref 151,.none,.ref 152,.ref 153,.ref 154,.int 408 0,.int 98 0,.str "/claim/cut.py" 409],#[]⟩) ::
 (nat_lit 156,⟨.type "function",none,.func (fnOf "_law_step" "_law_step" (bh (top 26)) (aR (top 26)) (aA (top 26)) .none .none .none (.str "law_borderfloor_k45_whole_partings_lay_floor" 386) none (.ref 155) .none),#[]⟩) ::
 (nat_lit 157,⟨.type "tuple",none,.seq #[] 0,#[]⟩) ::
 (nat_lit 159,⟨.type "tuple",none,.seq #[.str "_law_found" 414] 0,#[]⟩) ::
 (nat_lit 160,⟨.type "tuple",none,.seq #[] 0,#[]⟩) ::
 (nat_lit 162,⟨.type "code",none,.fields #[.str "_law_whole" 411,.str "_law_whole" 412,.str "/claim/cut.py" 413,.int 100 0,.int 1 0,.int 0 0,.int 0 0,.int 3 0,.ref 157,.bool true,.int 181 0,.ref 158,.none,.ref 159,.ref 160,.ref 161,.int 415 0,.int 100 0,.str "/claim/cut.py" 416],#[]⟩) ::
 (nat_lit 163,⟨.type "function",none,.func (fnOf "_law_whole" "_law_whole" (bh (top 27)) (aR (top 27)) (aA (top 27)) .none .none .none (.str "law_borderfloor_k45_whole_partings_lay_floor" 386) none (.ref 162) .none),#[]⟩) ::
 (nat_lit 171,⟨.type "tuple",none,.seq #[] 0,#[]⟩) ::
 (nat_lit 174,⟨.type "code",none,.fields #[.str "_law_holed" 426,.str "_law_holed" 427,.str "/claim/cut.py" 428,.int 106 0,.int 1 0,.int 0 0,.int 0 0,.int 3 0,.ref 171,.bool true,.int 181 0,.ref 172,.none,.none,.none,.ref 173,.int 429 0,.int 106 0,.str "/claim/cut.py" 430],#[]⟩) ::
 (nat_lit 175,⟨.type "function",none,.func (fnOf "_law_holed" "_law_holed" (bh (top 29)) (aR (top 29)) (aA (top 29)) .none .none .none (.str "law_borderfloor_k45_whole_partings_lay_floor" 386) none (.ref 174) .none),#[]⟩) ::
 (nat_lit 176,⟨.type "tuple",none,.seq #[] 0,#[]⟩) ::
 (nat_lit 178,⟨.type "tuple",none,.seq #[.str "_law_script" 435,.str "_law_at" 436,.str "_law_many" 437,.str "_law_cells" 438,.str "_law_k" 439,.str "_law_cell" 440,.str "_law_x" 441,.str "_law_y" 442,.str "_law_turn" 443,.str "_law_step_here" 444,.str "_law_new" 445] 0,#[]⟩) ::
 (nat_lit 179,⟨.type "tuple",none,.seq #[] 0,#[]⟩) ::
 (nat_lit 181,⟨.type "code",none,.fields #[.str "_law_grown" 432,.str "_law_grown" 433,.str "/claim/cut.py" 434,.int 124 0,.int 3 0,.int 0 0,.int 0 0,.int 3 0,.ref 176,.bool true,.int 181 0,.ref 177,.none,.ref 178,.ref 179,.ref 180,.int 446 0,.int 124 0,.str "/claim/cut.py" 447],#[]⟩) ::
 (nat_lit 182,⟨.type "function",none,.func (fnOf "_law_grown" "_law_grown" (bh (top 30)) (aR (top 30)) (aA (top 30)) .none .none .none (.str "law_borderfloor_k45_whole_partings_lay_floor" 386) none (.ref 181) .none),#[]⟩) ::
 (nat_lit 183,⟨.type "tuple",none,.seq #[] 0,#[]⟩) ::
 (nat_lit 186,⟨.type "code",none,.fields #[.str "_law_piece" 449,.str "_law_piece" 450,.str "/claim/cut.py" 451,.int 138 0,.int 2 0,.int 0 0,.int 0 0,.int 3 0,.ref 183,.bool true,.int 181 0,.ref 184,.none,.none,.none,.ref 185,.int 452 0,.int 138 0,.str "/claim/cut.py" 453],#[]⟩) ::
 (nat_lit 187,⟨.type "function",none,.func (fnOf "_law_piece" "_law_piece" (bh (top 31)) (aR (top 31)) (aA (top 31)) .none .none .none (.str "law_borderfloor_k45_whole_partings_lay_floor" 386) none (.ref 186) .none),#[]⟩) ::
 (nat_lit 188,⟨.type "tuple",none,.seq #[] 0,#[]⟩) ::
 (nat_lit 190,⟨.type "tuple",none,.seq #[.str "_law_piece_here" 458,.str "_law_sides" 459,.str "_law_x" 460,.str "_law_y" 461,.str "_law_letter" 462,.str "_law_corner_here" 463,.str "_law_other" 464,.str "_law_word" 465,.str "_law_k" 466,.str "_law_step_here" 467] 0,#[]⟩) ::
 (nat_lit 191,⟨.type "tuple",none,.seq #[] 0,#[]⟩) ::
 (nat_lit 193,⟨.type "code",none,.fields #[.str "_law_round" 455,.str "_law_round" 456,.str "/claim/cut.py" 457,.int 141 0,.int 1 0,.int 0 0,.int 0 0,.int 3 0,.ref 188,.bool true,.int 181 0,.ref 189,.none,.ref 190,.ref 191,.ref 192,.int 468 0,.int 141 0,.str "/claim/cut.py" 469],#[]⟩) ::
 (nat_lit 194,⟨.type "function",none,.func (fnOf "_law_round" "_law_round" (bh (top 32)) (aR (top 32)) (aA (top 32)) .none .none .none (.str "law_borderfloor_k45_whole_partings_lay_floor" 386) none (.ref 193) .none),#[]⟩) ::
 (nat_lit 195,⟨.type "tuple",none,.seq #[] 0,#[]⟩) ::
 (nat_lit 198,⟨.type "code",none,.fields #[.str "_law_is_grid" 471,.str "_law_is_grid" 472,.str "/claim/cut.py" 473,.int 154 0,.int 2 0,.int 0 0,.int 0 0,.int 3 0,.ref 195,.bool true,.int 181 0,.ref 196,.none,.none,.none,.ref 197,.int 474 0,.int 154 0,.str "/claim/cut.py" 475],#[]⟩) ::
 (nat_lit 199,⟨.type "function",none,.func (fnOf "_law_is_grid" "_law_is_grid" (bh (top 33)) (aR (top 33)) (aA (top 33)) .none .none .none (.str "law_borderfloor_k45_whole_partings_lay_floor" 386) none (.ref 198) .none),#[]⟩) ::
 (nat_lit 200,⟨.type "tuple",none,.seq #[] 0,#[]⟩) ::
 (nat_lit 202,⟨.type "tuple",none,.seq #[.str "_law_grid" 480,.str "_law_cell" 481,.str "_law_j" 482] 0,#[]⟩) ::
 (nat_lit 203,⟨.type "tuple",none,.seq #[] 0,#[]⟩) ::
 (nat_lit 205,⟨.type "code",none,.fields #[.str "_law_rest" 477,.str "_law_rest" 478,.str "/claim/cut.py" 479,.int 158 0,.int 2 0,.int 0 0,.int 0 0,.int 3 0,.ref 200,.bool true,.int 181 0,.ref 201,.none,.ref 202,.ref 203,.ref 204,.int 483 0,.int 158 0,.str "/claim/cut.py" 484],#[]⟩) ::
 (nat_lit 206,⟨.type "function",none,.func (fnOf "_law_rest" "_law_rest" (bh (top 34)) (aR (top 34)) (aA (top 34)) .none .none .none (.str "law_borderfloor_k45_whole_partings_lay_floor" 386) none (.ref 205) .none),#[]⟩) ::
 (nat_lit 207,⟨.type "tuple",none,.seq #[] 0,#[]⟩) ::
 (nat_lit 210,⟨.type "code",none,.fields #[.str "law" 486,.str "law" 487,.str "/claim/cut.py" 488,.int 161 0,.int 1 0,.int 0 0,.int 0 0,.int 3 0,.ref 207,.bool true,.int 181 0,.ref 208,.none,.none,.none,.ref 209,.int 489 0,.int 161 0,.str "/claim/cut.py" 490],#[]⟩) ::
 (nat_lit 211,⟨.type "function",none,.func (fnOf "law" "law" (bh (top 35)) (aR (top 35)) (aA (top 35)) .none .none .none (.str "law_borderfloor_k45_whole_partings_lay_floor" 386) none (.ref 210) .none),#[]⟩)::[]
def kA:List Addr:=[2,3,15,17,18,20,21,22,24,25,27,28,29,36,37,38,39,42,49,50,51,54,56,57,59,60,61,63,64,66,67,68,70,71,73,74,75,76,77,78,79,80,81,83,84,86,87,88,91,92,93,95,96,98,99,100,102,103,105,106,107,110,111,112,115,116,117,120,121,122,124,125,127,128,129,131,132,134,135,136,138,139,141,142,143,145,146,148,149,150,152,153,155,156,157,159,160,162,163,171,174,175,176,178,179,181,182,183,186,187,188,190,191,193,194,195,198,199,200,202,203,205,206,207,210,211]
theorem kE(P:Params):kA=(K0 P).map (·.1):=by kernel_rfl
def vw:Program:={ PySem.Challenge.pw_borderfloor_k45_whole_partings_lay_floor with main:={ (PySem.Challenge.pw_borderfloor_k45_whole_partings_lay_floor).main with body:=[top 1,top 2,top 4,top 5,top 7,top 8,top 9,top 11,top 12,top 13,top 14,top 16,top 17,top 18,top 19,top 20,top 21,top 22,top 24,top 25,top 26,top 27,top 28,top 29,top 30,top 31,top 32,top 33,top 34,top 35] } }
def lo:List Str:=["STEPS", "OPPOSITES"]
abbrev xT(s:Shared):Bool:=PySem.W.xlAt vw [] s&&PySem.W.recOk (PySem.W.RowW.records (PySem.W.OpenRow.toRowW (PySem.W.OpenLaw.row PySem.Challenge.rw_borderfloor_k45_whole_partings_lay_floor))) s
theorem ld1:PySem.W.opening PySem.Challenge.pw_borderfloor_k45_whole_partings_lay_floor=PySem.W.plainProg (PySem.Challenge.pw_borderfloor_k45_whole_partings_lay_floor).main.scope.names:=by kernel_rfl
theorem ld3(s:Shared):fenceModules? PySem.Challenge.pw_borderfloor_k45_whole_partings_lay_floor s=some s:=by kernel_rfl
theorem abB(w:World)(os:OsState):Wi PySem.Challenge.pw_borderfloor_k45_whole_partings_lay_floor (w.withFollow "special-get-raises" false) os:=by kernel_rfl
theorem acr(w:World)(os:OsState):Wi PySem.Challenge.pw_borderfloor_k45_whole_partings_lay_floor (w.withFollow "special-get-raises" true) os:=by kernel_rfl
theorem abP(w:World)(os:OsState):WX PySem.Challenge.pw_borderfloor_k45_whole_partings_lay_floor (w.withFollow "special-get-raises" false) os:=by kernel_rfl
theorem acD(w:World)(os:OsState):WX PySem.Challenge.pw_borderfloor_k45_whole_partings_lay_floor (w.withFollow "special-get-raises" true) os:=by kernel_rfl
theorem abn(w:World)(os:OsState):WR PySem.Challenge.pw_borderfloor_k45_whole_partings_lay_floor (w.withFollow "special-get-raises" false) os:=by kernel_rfl
theorem acj(w:World)(os:OsState):WR PySem.Challenge.pw_borderfloor_k45_whole_partings_lay_floor (w.withFollow "special-get-raises" true) os:=by kernel_rfl
theorem abu(w:World)(os:OsState):YL PySem.Challenge.pw_borderfloor_k45_whole_partings_lay_floor (w.withFollow "special-get-raises" false) os:=by kernel_rfl
theorem abN(w:World)(os:OsState):YL PySem.Challenge.pw_borderfloor_k45_whole_partings_lay_floor (w.withFollow "special-get-raises" true) os:=by kernel_rfl
theorem abV(w:World)(os:OsState):LkA PySem.Challenge.pw_borderfloor_k45_whole_partings_lay_floor (w.withFollow "special-get-raises" false) os:=by kernel_rfl
theorem abR(w:World)(os:OsState):LkA PySem.Challenge.pw_borderfloor_k45_whole_partings_lay_floor (w.withFollow "special-get-raises" true) os:=by kernel_rfl
theorem abp(w:World)(os:OsState):LkB PySem.Challenge.pw_borderfloor_k45_whole_partings_lay_floor vw lo xT true (w.withFollow "special-get-raises" false) os:=by kernel_rfl
theorem abo(w:World)(os:OsState):LkB PySem.Challenge.pw_borderfloor_k45_whole_partings_lay_floor vw lo xT true (w.withFollow "special-get-raises" true) os:=by kernel_rfl
theorem abx(w:World)(os:OsState):LkC PySem.Challenge.pw_borderfloor_k45_whole_partings_lay_floor (PySem.W.Hook.obs (PySem.W.kmHook K0 kA kE [184])) (PySem.W.Hook.val (PySem.W.kmHook K0 kA kE [184])) (w.withFollow "special-get-raises" false) os:=by kernel_rfl
theorem abJ(w:World)(os:OsState):LkC PySem.Challenge.pw_borderfloor_k45_whole_partings_lay_floor (PySem.W.Hook.obs (PySem.W.kmHook K0 kA kE [184])) (PySem.W.Hook.val (PySem.W.kmHook K0 kA kE [184])) (w.withFollow "special-get-raises" true) os:=by kernel_rfl
theorem ld:PySem.W.LeftO PySem.Challenge.pw_borderfloor_k45_whole_partings_lay_floor vw lo xT (PySem.W.Hook.obs (PySem.W.kmHook K0 kA kE [184])) (PySem.W.Hook.val (PySem.W.kmHook K0 kA kE [184])) 20100 :=
 K7 "special-get-raises" ld1 ld3 (fun b=>by cases b;exact abB;exact acr) (fun b=>by cases b;exact abP;exact acD) (fun b=>by cases b;exact abn;exact acj) (fun b=>by cases b;exact abu;exact abN) (fun b=>by cases b;exact abV;exact abR) (fun b=>by cases b;exact abp;exact abo) (fun b=>by cases b;exact abx;exact abJ)
end Law
namespace L2
open PySem PySem.Spec PyProof.Rows
abbrev Key:=Sum Int Str
def wR:Key->Value->Bool
 |.inl k,v=>Value.isInt k v
 |.inr x,v=>Value.isStrOf x v
def abq(w:World):Key->Int
 |.inl k=>hashInt k
 |.inr x=>hashStr w x
theorem cg:∀ {k:Key} {v:Value},wR k v=true->(∃i t,k=Sum.inl i/\v=Value.int i t)\/(∃x t,k=Sum.inr x/\v=Value.str x t)
 |.inl i,v,h=>by
  obtain⟨t,e⟩:=Value.isInt_shape (k:=i) (v:=v) h
  exact .inl ⟨i,t,rfl,e⟩
 |.inr x,v,h=>by
  obtain⟨t,e⟩:=Value.isStrOf_shape (x:=x) (v:=v) h
  exact .inr ⟨x,t,rfl,e⟩
theorem Lk(i:Int)(t:Tok):wR (.inl i) (.int i t)=true:=by simp[wR,Value.isInt]
theorem Ml(x:Str)(t:Tok):wR (.inr x) (.str x t)=true:=by simp[wR,Value.isStrOf]
theorem W7(a b:Int):decide ((Sum.inl a:Key)=Sum.inl b)=(a==b):=by
 by_cases e:a=b
 ·subst e;simp
 ·have h:¬(Sum.inl a:Key)=Sum.inl b:=fun q=>e (Sum.inl.inj q)
  rw[decide_eq_false h]
  exact (beq_eq_false_iff_ne.mpr e).symm
theorem Xy(a b:Str):decide ((Sum.inr a:Key)=Sum.inr b)=decide (a=b):=by
 by_cases e:a=b
 ·subst e;simp
 ·have h:¬(Sum.inr a:Key)=Sum.inr b:=fun q=>e (Sum.inr.inj q)
  rw[decide_eq_false h,decide_eq_false e]
theorem Yb(a:Int)(b:Str):decide ((Sum.inl a:Key)=Sum.inr b)=false:=decide_eq_false (fun q=>nomatch q)
theorem Yv(a:Str)(b:Int):decide ((Sum.inr a:Key)=Sum.inl b)=false:=decide_eq_false (fun q=>nomatch q)
def bW(prog:Program)(w:World):PySem.KeyKind prog w Key where
 is:=wR
 hash:=abq w
 inj:=fun v a b ha hb=>by
  rcases cg ha with ⟨i,t,rfl,rfl⟩ | ⟨x,t,rfl,rfl⟩
  ·rcases cg hb with ⟨j,u,rfl,e⟩ | ⟨y,u,rfl,e⟩
   ·injection e with e1 _;rw[e1]
   ·exact nomatch e
  ·rcases cg hb with ⟨j,u,rfl,e⟩ | ⟨y,u,rfl,e⟩
   ·exact nomatch e
   ·injection e with e1 _;rw[e1]
 byValue:=fun k v h=>by
  rcases cg h with ⟨i,t,rfl,rfl⟩ | ⟨x,t,rfl,rfl⟩ <;> rfl
 pyHash:=fun hv h=>by
  rcases cg hv with ⟨i,t,rfl,rfl⟩ | ⟨x,t,rfl,rfl⟩
  ·exact wpAny_pyHash_int h
  ·exact wpAny_pyHash_str h
 eqBool:=fun hu hv h=>by
  rcases cg hu with ⟨i,t,rfl,rfl⟩ | ⟨x,t,rfl,rfl⟩
  ·rcases cg hv with ⟨j,u,rfl,rfl⟩ | ⟨y,u,rfl,rfl⟩
   ·rw[W7] at h;exact wpAny_eqBool_int h
   ·rw[Yb] at h;exact SeqAt.EqAt.int_str i t y u _ _ _ _ h
  ·rcases cg hv with ⟨j,u,rfl,rfl⟩ | ⟨y,u,rfl,rfl⟩
   ·rw[Yv] at h;exact SeqAt.EqAt.str_int x t j u _ _ _ _ h
   ·rw[Xy] at h;exact wpAny_eqBool_str h
 «strs»:=fun k x t v h=>by
  rcases cg h with ⟨i,u,rfl,e⟩ | ⟨y,u,rfl,e⟩
  ·exact nomatch e
  ·injection e with e1 _
   subst e1
   cases v <;> rfl
theorem Dq(prog:Program)(w:World)(i:Int)(t:Tok):(bW prog w).is (.inl i) (.int i t)=true:=Lk i t
theorem lJ(prog:Program)(w:World)(x:Str)(t:Tok):(bW prog w).is (.inr x) (.str x t)=true:=Ml x t
inductive V where
 |non | bl (b:Bool) | int (i:Int) | str (x:Str) | byt (b:Array UInt8) | flt (b:UInt64) | ref (a:Addr) | ty (n:String)
 deriving DecidableEq
def RelV:V->Value->Prop
 |.non,u=>u=Value.none
 |.bl b,u=>u=Value.bool b
 |.int i,u=>∃t,u=Value.int i t
 |.str x,u=>∃t,u=Value.str x t
 |.byt b,u=>∃t,u=Value.bytes b t
 |.flt b,u=>∃t,u=Value.float b t
 |.ref a,u=>u=Value.ref a
 |.ty n,u=>u=Value.type n
abbrev Vals:List V->List Value->Prop:=Paired RelV
theorem Vals.length{xs:List V}{us:List Value}(r:Vals xs us):xs.length=us.length:=Paired.length r
theorem Vals.get:∀ {xs:List V} {us:List Value} {i:Nat} {x:V},Vals xs us->xs[i]?=some x->∃u,us[i]?=some u/\RelV x u
 |_,_,_,_,.nil,e=>by simp at e
 |_,_,0,_,.cons r _,e=>by simp at e;subst e;exact⟨_,rfl,r⟩
 |_,_,i+1,x,.cons _ t,e=>by
  obtain⟨u,h1,h2⟩:=Vals.get (i:=i) (x:=x) t (by simpa using e)
  exact⟨u,by simpa using h1,h2⟩
theorem Vals.append:∀ {xs ys:List V} {us ws:List Value},Vals xs us->Vals ys ws->Vals (xs++ys) (us++ws)
 |_,_,_,_,.nil,s=>s
 |_,_,_,_,.cons r t,s=>.cons r (Vals.append t s)
theorem Vals.take:∀ {xs:List V} {us:List Value} (n:Nat),Vals xs us->Vals (xs.take n) (us.take n)
 |_,_,0,_=>.nil
 |_,_,_+1,.nil=>.nil
 |_,_,n+1,.cons r t=>.cons r (Vals.take n t)
theorem Vals.drop:∀ {xs:List V} {us:List Value} (n:Nat),Vals xs us->Vals (xs.drop n) (us.drop n)
 |_,_,0,r=>r
 |_,_,_+1,.nil=>.nil
 |_,_,n+1,.cons _ t=>Vals.drop n t
def uD:Option V->Option Value->Prop
 |some v,some u=>RelV v u
 |none,none=>True
 |_,_=>False
def KV{κ:Type}:List (κ×V)->List (κ×Value)->Prop:=Paired fun (p:κ×V) (q:κ×Value)=>p.1=q.1/\RelV p.2 q.2
def kV:Key->V
 |.inl i=>.int i
 |.inr x=>.str x
inductive HO where
 |lst (xs:List V)
 |tup (xs:List V)
 |dK (kvs:List (Key×V)) | dT (kvs:List (List Key×V))
 |set (S:Int->Bool) (n:Nat)
 |ins (C dx:Addr) (fs:List (Str×V))
 |own (x:Addr)
 |xd (fs:List (Str×V))
 |met (f x:Addr)
 |rQ (lo hi:Int)
 |frz (o:Obj) (u:HO)
 |tbl (ps:Array Value)
 |ext (φ:Heap->Prop)
abbrev Hp:=Addr->Option HO
def upd(H:Hp)(a:Addr)(o:HO):Hp:=fun b=>if b=a then some o else H b
theorem aQ{H:Hp}{a:Addr}{o:HO}:upd H a o a=some o:=by unfold upd;rw[if_pos rfl]
theorem aD{H:Hp}{a b:Addr}{o:HO}(h:b≠a):upd H a o b=H b:=by unfold upd;rw[if_neg h]
theorem sG{H:Hp}{a b:Addr}{o u:HO}(h:H a=some o)(h':H b=some u)(d:o≠u):a≠b:=by
 intro e;subst e;rw[h] at h';exact d (Option.some.inj h')
theorem bH{H:Hp}{a b:Addr}{o:HO}(h:H a=some o)(h':H b=none):a≠b:=by
 intro e;subst e;rw[h] at h';cases h'
def yN(h:Heap)(a:Addr)(items:Array Value):Prop:=∃o,h.get? a=some o/\o.cls=.type "tuple"/\∃n,o.data=.seq items n/\o.dict=none
theorem yN.tup{h:Heap}{a:Addr}{items:Array Value}(x:yN h a items):IsTup h a items:=by
 obtain⟨o,e,c,n,d,_⟩:=x
 exact⟨o,e,c,n,d⟩
theorem yN.lt{h:Heap}{a:Addr}{items:Array Value}(x:yN h a items):a<h.objs.size:=x.tup.lt
theorem yN.new(h:Heap)(items:Array Value):yN (h.push { cls:=.type "tuple",data:=.seq items }) h.objs.size items:=⟨_,Heap.get?_push_size _ rfl,rfl,_,rfl,rfl⟩
section
variable(P:Program)(w:World)
def bZ(H:Hp)(h:Heap)(a:Addr):HO->Prop
 |.lst xs=>xs.length<=sizeLine/\∃(its:List Value) (n:Nat),Vals xs its/\h.get? a=some { cls:=.type "list",data:=.seq its.toArray n }
 |.tup xs=>xs.length<=sizeLine/\∃its:List Value,Vals xs its/\yN h a its.toArray
 |.dK kvs=>kvs.length<=sizeLine/\(a==sysModules)=false/\∃vs,KV kvs vs/\h.DictOf (bW P w) a vs
 |.dT kvs=>kvs.length<=sizeLine/\(a==sysModules)=false/\∃xs:List (List Key×Addr×Value),
   Paired (fun (p:List Key×V) (q:List Key×Addr×Value)=>p.1=q.1/\H q.2.1=some (.tup (p.1.map kV))/\RelV p.2 q.2.2) kvs xs /\
   ∃o es ep,h.get? a=some o/\o.ExactDict/\o.data=.dict es ep/\es.toList=xs.map (entryOfKey (tupleKind (bW P w)))/\(xs.map (·.1)).Nodup
 |.set S n=>h.SetOf (intKind P w) a S n
 |.ins C dx fs=>H dx=some (.own a)/\fs.length<=1000/\dx≠a/\h.get? a=some (PySem.W.instObj C dx) /\
   ∃mA,h.Ns1 dx mA/\(∀f,uD (fs.lookup f) (mA f))/\PySem.Within mA (fs.map (·.1))
 |.own _=>∃o,h.get? a=some o
 |.xd fs=>∃mA,h.Ns1 a mA/\∀f,uD (fs.lookup f) (mA f)
 |.rQ lo hi=>∃t u v,h.get? a=some { cls:=.type "range",data:=.fields #[.int lo t,.int hi u,.int 1 v] }
 |.frz o u=>h.get? a=some o/\bZ H h a u
 |.tbl ps=>h.get? a=some { cls:=.none,data:=.fields ps }
 |.met f x=>h.get? a=some (PySem.W.methodObj (.ref f) (.ref x))
 |.ext φ=>φ h/\(∃o,h.get? a=some o)/\∀h1 h2:Heap,φ h1->(∀o,h1.get? a=some o->h2.get? a=some o)->φ h2
def oH(H:Hp)(h:Heap):Prop:=∀a o,H a=some o->bZ P w H h a o
end
section
variable{P:Program}{w:World}{H H':Hp}{h h':Heap}{a:Addr}{o:HO}
theorem bZ.lt(x:bZ P w H h a o):a<h.objs.size:=by
 cases o with
 |lst xs=>obtain⟨_,_,_,_,e⟩:=x;exact Heap.lt_size e
 |tup xs=>obtain⟨_,_,_,p⟩:=x;exact p.lt
 |dK kvs=>obtain⟨_,_,_,_,o,_,_,e,_⟩:=x;exact Heap.lt_size e
 |dT kvs=>obtain⟨_,_,_,_,o,_,_,e,_⟩:=x;exact Heap.lt_size e
 |set S n=>obtain⟨o,_,_,_,e,_⟩:=x;exact Heap.lt_size e
 |ins C dx fs=>obtain⟨_,_,_,e,_⟩:=x;exact Heap.lt_size e
 |own y=>obtain⟨_,e⟩:=x;exact Heap.lt_size e
 |xd fs=>obtain⟨_,⟨_,_,_,e,_⟩,_⟩:=x;exact Heap.lt_size e
 |rQ lo hi=>obtain⟨_,_,_,e⟩:=x;exact Heap.lt_size e
 |frz ob u=>obtain⟨e,_⟩:=x;exact Heap.lt_size e
 |tbl ps=>exact Heap.lt_size (show h.get? a=some _ from x)
 |met f y=>exact Heap.lt_size (show h.get? a=some _ from x)
 |ext φ=>obtain⟨_,⟨_,e⟩,_⟩:=x;exact Heap.lt_size e
theorem Paired.Du{α β:Type}{F G:α->β->Prop}:∀ {l₁:List α} {l₂:List β},Paired F l₁ l₂->(∀a b,F a b->G a b)->Paired G l₁ l₂
 |_,_,.nil,_=>.nil
 |_,_,.cons r t,f=>.cons (f _ _ r) (Paired.Du t f)
theorem bZ.stay(x:bZ P w H h a o)(k:∀b u,(b=a\/H b=some (.own a))->h.get? b=some u->h'.get? b=some u)
  (ho:∀b,H b=some (.own a)->H' b=some (.own a)) (ht:∀b xs,H b=some (.tup xs)->H' b=some (.tup xs)):bZ P w H' h' a o:=by
 induction o with
 |lst xs=>obtain⟨z,its,n,r,e⟩:=x;exact⟨z,its,n,r,k _ _ (.inl rfl) e⟩
 |tup xs=>obtain⟨z,its,r,ob,e,c⟩:=x;exact⟨z,its,r,ob,k _ _ (.inl rfl) e,c⟩
 |dK kvs=>obtain⟨z,y,vs,r,ob,es,ep,e,c⟩:=x;exact⟨z,y,vs,r,ob,es,ep,k _ _ (.inl rfl) e,c⟩
 |dT kvs=>
  obtain⟨z,y,xs,r,ob,es,ep,e,c⟩:=x
  exact⟨z,y,xs,Paired.Du r fun p q z=>⟨z.1,ht _ _ z.2.1,z.2.2⟩,ob,es,ep,k _ _ (.inl rfl) e,c⟩
 |set S n=>obtain⟨ob,es,ep,t,e,c⟩:=x;exact⟨ob,es,ep,t,k _ _ (.inl rfl) e,c⟩
 |ins C dx fs=>
  obtain⟨d,z,ne,e,mA,⟨od,es,ep,e2,c⟩,r⟩:=x
  exact⟨ho _ d,z,ne,k _ _ (.inl rfl) e,mA,⟨od,es,ep,k _ _ (.inr d) e2,c⟩,r⟩
 |own y=>obtain⟨ob,e⟩:=x;exact⟨ob,k _ _ (.inl rfl) e⟩
 |xd fs=>obtain⟨mA,⟨od,es,ep,e,c⟩,r⟩:=x;exact⟨mA,⟨od,es,ep,k _ _ (.inl rfl) e,c⟩,r⟩
 |rQ lo hi=>obtain⟨t,u,v,e⟩:=x;exact⟨t,u,v,k _ _ (.inl rfl) e⟩
 |frz ob u ih=>obtain⟨e,q⟩:=x;exact⟨k _ _ (.inl rfl) e,ih q⟩
 |tbl ps=>
  have e:h.get? a=some { cls:=.none,data:=.fields ps }:=x
  show h'.get? a=some { cls:=.none,data:=.fields ps }
  exact k a _ (.inl rfl) e
 |met f y=>
  have e:h.get? a=some (PySem.W.methodObj (.ref f) (.ref y)):=x
  show h'.get? a=some (PySem.W.methodObj (.ref f) (.ref y))
  exact k a _ (.inl rfl) e
 |ext φ=>obtain⟨p,⟨o,e⟩,st⟩:=x;exact⟨st _ _ p fun o q=>k _ _ (.inl rfl) q,⟨o,k _ _ (.inl rfl) e⟩,st⟩
theorem oH.lt(x:oH P w H h)(e:H a=some o):a<h.objs.size:=(x a o e).lt
theorem oH.fresh(x:oH P w H h)(e:h.objs.size<=a):H a=none:=by
 cases q:H a with
 |none=>rfl
 |some u=>exact absurd (Nat.lt_of_lt_of_le (x.lt q) e) (Nat.lt_irrefl _)
theorem oH.kept(x:oH P w H h)(k:∀b u,h.get? b=some u->h'.get? b=some u):oH P w H h':=fun a o e=>
 (x a o e).stay (fun b u _ q=>k b u q) (fun _ q=>q) fun _ _ q=>q
theorem oH.laid(x:oH P w H h)(k:∀b u,h.get? b=some u->h'.get? b=some u)(hp:h.objs.size<=a)(new:bZ P w (upd H a o) h' a o):oH P w (upd H a o) h':=fun b u e=>by
 have hn:=x.fresh hp
 by_cases hb:b=a
 ·subst hb;rw[aQ] at e;cases e;exact new
 ·rw[aD hb] at e
  exact (x b u e).stay (fun c v _ q=>k c v q) (fun c q=>by rw[aD (bH q hn)];exact q) fun c xs q=>by rw[aD (bH q hn)];exact q
end
def Rd(H:Hp)(a:Addr)(u:HO):Prop:=H a=some u\/∃o,H a=some (.frz o u)
theorem Rd.ok{P:Program}{w:World}{H:Hp}{h:Heap}{a:Addr}{u:HO}(r:Rd H a u)(x:oH P w H h):bZ P w H h a u:=by
 rcases r with r | ⟨o,r⟩
 ·exact x a u r
 ·obtain⟨_,q⟩:=x a _ r
  exact q
def Mut:Option HO->Prop
 |some (.lst _)=>True
 |some (.dK _)=>True
 |some (.dT _)=>True
 |some (.set _ _)=>True
 |some (.ins _ _ _)=>True
 |some (.ext _)=>True
 |_=>False
section
variable{P:Program}{w:World}{H:Hp}{h h':Heap}{x e:Addr}{o':HO}
theorem oH.write(ok:oH P w H h)(mu:Mut (H x))(he:e=x\/H e=some (.own x))(k:∀b u,b≠e->h.get? b=some u->h'.get? b=some u)(heo:∃u,h'.get? e=some u)
  (new:bZ P w (upd H x o') h' x o'):oH P w (upd H x o') h':=fun b u q=>by
 have nown:∀c y,H c=some (.own y)->c≠x:=fun c y r z=>by subst z;rw[r] at mu;exact mu
 have ntup:∀c xs,H c=some (.tup xs)->c≠x:=fun c xs r z=>by subst z;rw[r] at mu;exact mu
 by_cases hb:b=x
 ·subst hb;rw[aQ] at q;cases q;exact new
 ·rw[aD hb] at q
  by_cases hbe:b=e
  ·have q':H b=some (.own x):=by
    rcases he with z | z
    ·exact absurd (hbe.trans z) hb
    ·rw[hbe];exact z
   rw[q] at q';cases q'
   obtain⟨v,hv⟩:=heo
   exact⟨v,by rw[hbe];exact hv⟩
  ·refine (ok b u q).stay (fun c v hc r=>k c v ?_ r) (fun c r=>by rw[aD (nown c b r)];exact r) fun c xs r=>by rw[aD (ntup c xs r)];exact r
   rcases hc with rfl | hc
   ·exact hbe
   ·rintro rfl
    rcases he with z | z
    ·exact nown c b hc z
    ·rw[hc] at z;cases z;exact hb rfl
end
structure Un(fs ex:List Addr)(H H':Hp)(h h':Heap):Prop where
 keep:∀b o,h.get? b=some o->H b=none->b∉fs->b∉ex->h'.get? b=some o
 slot:∀b o,h.get? b=some o->H b=none->b∈fs->b∉ex->∃sl,h'.get? b=some { o with slots:=sl }
 free:∀b o,h.get? b=some o->H b=none->b∉ex->H' b=none
 there:∀b o,h.get? b=some o->b∉ex->∃o',h'.get? b=some o'
 tups:∀b xs,H b=some (.tup xs)->H' b=some (.tup xs)
 frzs:∀b o u,H b=some (.frz o u)->H' b=some (.frz o u)
 tbls:∀b ps,H b=some (.tbl ps)->∃more,H' b=some (.tbl (ps++more))
section
variable{fs fs' ex ex':List Addr}{H H1 H2:Hp}{h h1 h2 h':Heap}{a x e:Addr}{o:HO}
theorem Un.any(u:Un fs ex H H1 h h1){b:Addr}{ob:Obj}(q:h.get? b=some ob)(n:H b=none)(hx:b∉ex):∃sl,h1.get? b=some { ob with slots:=sl }:=by
 by_cases hb:b∈fs
 ·exact u.slot b ob q n hb hx
 ·exact⟨ob.slots,u.keep b ob q n hb hx⟩
theorem Un.kept(k:∀b u,h.get? b=some u->h'.get? b=some u):Un fs ex H H h h' :=
 ⟨fun b ob q _ _ _=>k b ob q,fun b ob q _ _ _=>⟨ob.slots,k b ob q⟩,fun _ _ _ n _=>n,fun b ob q _=>⟨ob,k b ob q⟩,fun _ _ q=>q,fun _ _ _ q=>q,fun _ ps q=>⟨#[],by rw[q];simp⟩⟩
theorem Un.refl:Un fs ex H H h h:=Un.kept fun _ _ q=>q
theorem Un.laid(k:∀b u,h.get? b=some u->h'.get? b=some u)(hp:h.objs.size<=a)(hn:H a=none):Un fs ex H (upd H a o) h h' where
 keep:=fun b u q _ _ _=>k b u q
 slot:=fun b u q _ _ _=>⟨u.slots,k b u q⟩
 free:=fun b u q n _=>by rw[aD (Nat.ne_of_lt (Nat.lt_of_lt_of_le (Heap.lt_size q) hp))];exact n
 there:=fun b u q _=>⟨u,k b u q⟩
 tups:=fun b xs q=>by rw[aD (bH q hn)];exact q
 frzs:=fun b u xs q=>by rw[aD (bH q hn)];exact q
 tbls:=fun b ps q=>⟨#[],by rw[aD (bH q hn),q];simp⟩
theorem Un.write(mu:Mut (H x))(he:e=x\/H e=some (.own x))(k:∀b u,b≠e->h.get? b=some u->h'.get? b=some u)(heo:∃u,h'.get? e=some u):Un fs ex H (upd H x o) h h':=by
 have hx:∀b,H b=none->b≠x:=fun b n z=>by subst z;rw[n] at mu;exact mu
 have hb:∀b,H b=none->b≠e:=fun b n z=>by
  subst z
  rcases he with r | r
  ·exact hx b n r
  ·rw[n] at r;cases r
 have hm:∀b u,H b=some u->¬Mut (some u)->b≠x:=fun b u q nm z=>by subst z;rw[q] at mu;exact nm mu
 refine⟨fun b u q n _ _=>k b u (hb b n) q,fun b u q n _ _=>⟨u.slots,k b u (hb b n) q⟩,fun b u q n _=>by rw[aD (hx b n)];exact n,fun b u q _=>?_,
  fun b xs q=>by rw[aD (hm b _ q fun z=>z)];exact q,fun b u xs q=>by rw[aD (hm b _ q fun z=>z)];exact q,fun b ps q=>⟨#[],by rw[aD (hm b _ q fun z=>z),q];simp⟩⟩
 by_cases hbe:b=e
 ·subst hbe;exact heo
 ·exact⟨u,k b u hbe q⟩
end
def trk(h:Heap)(H:Hp):List Addr:=(List.range h.objs.size).filter fun a=>(H a).isSome
def zU(h:Heap)(H:Hp):Heap:=PySem.W.hideAll h (trk h H)
theorem Ke(h:Heap)(H:Hp):(zU h H).objs.size=h.objs.size:=PySem.W.hideAll_size _ _
theorem M7{h:Heap}{H:Hp}{b:Addr}{o:Obj}(e:h.get? b=some o)(n:H b=none):(zU h H).get? b=some o :=
 PySem.W.hideAll_get _ e fun hm=>by
  have q:(H b).isSome=true:=(List.mem_filter.mp hm).2
  rw[n] at q;simp at q
theorem SM{h:Heap}{H:Hp}{b:Addr}{o:Obj}(e:(zU h H).get? b=some o):h.get? b=some o/\H b=none:=by
 have e':h.get? b=some o:=PySem.W.of_hideAll (trk h H) e
 refine⟨e',?_⟩
 cases q:H b with
 |none=>rfl
 |some x=>
  have hm:b∈trk h H:=List.mem_filter.mpr ⟨List.mem_range.mpr (Heap.lt_size e'),by simp[q]⟩
  have z:(zU h H).get? b=none:=PySem.W.hideAll_none (trk h H) hm
  rw[z] at e;cases e
def Ub(g h:Heap)(L:Addr):List (Addr×Obj):=(List.range h.objs.size).filterMap fun a=>if a=L\/(g.get? a).isSome=true then none else (h.get? a).map fun o=>(a,o)
def rest(g h:Heap)(L d:Addr):List (Addr×Obj):=(Ub g h L).filter fun p=>decide (p.1≠d)
structure Mod(K:PySem.W.Frag)(mg:Str->Option Value)(base:Heap):Prop where
 kin:K.In base
 glob:base.Ns mainGlobals mg
 blt:∃mb,base.Ns builtinsNs mb/\∀x:Str,x ≠ "__name__"->mb x=bootBuiltins x
 nolimit:base.NoLimit
structure Cx where
 prog:Program
 w:World
 K:PySem.W.Frag
 mg:Str->Option Value
 base:Heap
 A:Around
 N:List Str
 s₀:Shared
 H₀:Hp
 env:Env
 outer:List Env
 stack:List Env
 ex:List Addr
 fn:Str->Bool
 calm:Bool
 pn:List (Addr×Obj)
 xe:Value->Shared->Prop
def frs(l:List Env):List Addr:=l.filterMap (·.frame)
abbrev Cx.fs(X:Cx):List Addr:=frs X.outer
def Vis(sc:Scope)(x:Str):Prop:=sc.names.lookup x=some .local\/sc.names.lookup x=some .cell\/sc.names.lookup x=some .free
def Loc(sc:Scope)(x:Str):Prop:=sc.names.lookup x=some .local\/sc.names.lookup x=some .cell
def Look(env:Env)(h:Heap)(m:Str->Option Value)(x:Str)(u:Value):Prop :=
 (env.kindOf x=some .local/\m x=some u)\/((env.kindOf x=some .cell\/env.kindOf x=some .free)/\∃c,env.cells.lookup x=some c/\h.IsCell c (some u))
structure Cx.Ok(X:Cx):Prop where
 mod:Mod X.K X.mg X.base
 kind:X.env.scope.kind=.function
 glob:X.env.globals=mainGlobals
 blt:X.env.builtins=builtinsNs
 above:X.s₀.heap.objs.size<=X.env.locals
 inj:∀x y c,X.env.cells.lookup x=some c->X.env.cells.lookup y=some c->x=y
 has:∀x,(X.env.kindOf x=some .cell\/X.env.kindOf x=some .free)->∃c,X.env.cells.lookup x=some c
 cab:∀x c,X.fn x=true->X.env.cells.lookup x=some c->X.s₀.heap.objs.size<=c
 hd:X.calm=true->X.A.handled=none
 frames:X.A.frames=some X.stack
 stk:X.stack=X.outer\/(X.stack=X.env::X.outer/\X.env.frame=some X.env.locals)
 exf:∀b∈X.ex,b≠X.env.locals/\∀x c,X.env.cells.lookup x=some c->c≠b
 bs:∀b o,X.base.get? b=some o->X.s₀.heap.get? b=some o/\X.H₀ b=none
 bsz:X.base.objs.size<=X.s₀.heap.objs.size
 noex:∀b o,X.base.get? b=some o->b∉X.ex
 exfs:∀b∈X.ex,b∉X.fs
 qW:X.s₀.heap.FunFrames X.base X.outer
 frf:∀b∈X.fs,X.H₀ b=none
structure Inv(X:Cx)(pins:List (Addr×Obj))(σ:List (Option V))(H:Hp)(s:Shared):Prop where
 ok:X.Ok
 os:s.os=X.s₀.os
 bare:AllBare s.gens
 base:Un X.fs X.ex X.H₀ H X.s₀.heap s.heap
 loc:∃m,s.heap.Ns X.env.locals m/\∀(i:Nat) (x:Str) (v:V),X.N[i]?=some x->σ[i]?=some (some v)->Vis X.env.scope x->∃u,RelV v u/\Look X.env s.heap m x u
 cell:∀x c,X.env.cells.lookup x=some c->∃v,s.heap.IsCell c v
 free:H X.env.locals=none
 freeC:∀x c,X.env.cells.lookup x=some c->H c=none
 pin:∀p∈X.pn++pins,s.heap.get? p.1=some p.2/\H p.1=none/\p.1≠X.env.locals/\p.1∉X.fs/\∀v,p.2.data≠.cell v
 hok:oH X.prog X.w H s.heap
 len:σ.length=X.N.length
section
variable{X:Cx}{pins:List (Addr×Obj)}{σ:List (Option V)}{H H':Hp}{s:Shared}{h':Heap}
theorem Cx.Ok.acJ(ok:X.Ok){b:Addr}{o:Obj}(e:X.base.get? b=some o):b∉X.fs:=fun hb=>by
 have:=(ok.qW.mem hb).1
 rw[e] at this;cases this
theorem Inv.bs(I:Inv X pins σ H s):∀b o,X.base.get? b=some o->s.heap.get? b=some o/\H b=none:=fun b o e=>
 ⟨I.base.keep b o (I.ok.bs b o e).1 (I.ok.bs b o e).2 (I.ok.acJ e) (I.ok.noex b o e),I.base.free b o (I.ok.bs b o e).1 (I.ok.bs b o e).2 (I.ok.noex b o e)⟩
theorem Inv.bk(I:Inv X pins σ H s):∀b o,X.base.get? b=some o->s.heap.get? b=some o:=fun b o e=>(I.bs b o e).1
theorem Inv.mod(I:Inv X pins σ H s):Mod X.K X.mg X.base:=I.ok.mod
theorem Inv.tV(I:Inv X pins σ H s):X.K.In s.heap:=I.ok.mod.kin.keeps I.bk
theorem Inv.nolimit(I:Inv X pins σ H s):s.heap.NoLimit:=I.ok.mod.nolimit.keeps I.bk
theorem Inv.lt(I:Inv X pins σ H s):X.env.locals<s.heap.objs.size:=let ⟨_,hn,_⟩:=I.loc;hn.lt
theorem Inv.sz(I:Inv X pins σ H s):X.s₀.heap.objs.size<=s.heap.objs.size:=Nat.le_trans I.ok.above (Nat.le_of_lt I.lt)
theorem Inv.acz(I:Inv X pins σ H s){a:Addr}(h:s.heap.objs.size<=a):a∉X.fs:=fun hb=>by
 obtain⟨_,o,ho,_⟩:=I.ok.qW.mem hb
 exact absurd (Nat.lt_of_lt_of_le (Heap.lt_size ho) (Nat.le_trans I.sz h)) (Nat.lt_irrefl _)
theorem Inv.Ws(I:Inv X pins σ H s):∀x c,X.env.cells.lookup x=some c->c≠X.env.locals:=fun x c e z=>by
 obtain⟨v,o,ho,hd⟩:=I.cell x c e
 obtain⟨m,⟨o',es,ep,ho',hd',_⟩,_⟩:=I.loc
 rw[z,ho'] at ho;cases ho;rw[hd'] at hd;cases hd
theorem Inv.qW(I:Inv X pins σ H s):s.heap.FunFrames X.base X.outer:=by
 have all:∀(l:List Env),(∀b∈frs l,b∈X.fs)->X.s₀.heap.FunFrames X.base l->s.heap.FunFrames X.base l:=by
  intro l
  induction l with
  |nil=>intro _ _;trivial
  |cons env r ih=>
   intro hs hl
   obtain⟨hk,⟨L,o,hf,hn,ho,hd⟩,hr⟩:=hl
   have hL:L∈X.fs:=hs L (by unfold frs;rw[List.filterMap_cons,hf];exact List.mem_cons_self)
   obtain⟨sl,e⟩:=I.base.slot L o ho (I.ok.frf L hL) hL fun z=>I.ok.exfs L z hL
   exact⟨hk,⟨L,_,hf,hn,e,hd⟩,ih (fun b hb=>hs b (by unfold frs;rw[List.filterMap_cons,hf];exact List.mem_cons_of_mem _ hb)) hr⟩
 exact all X.outer (fun _ hb=>hb) I.ok.qW
theorem Inv.stack(I:Inv X pins σ H s):s.heap.FunFrames X.base X.stack:=by
 rcases I.ok.stk with e | ⟨e,hf⟩
 ·rw[e];exact I.qW
 ·rw[e]
  obtain⟨m,hn,_⟩:=I.loc
  refine .cons (by rw[I.ok.kind];decide) hf hn ?_ I.qW
  exact Heap.get?_none_of_le (Nat.le_trans I.ok.bsz I.ok.above)
theorem Inv.vq(I:Inv X pins σ H s):∀b∈frs X.stack,b∈X.env.locals::X.fs:=fun b hb=>by
 rcases I.ok.stk with e | ⟨e,hf⟩
 ·rw[e] at hb;exact List.mem_cons_of_mem _ hb
 ·rw[e] at hb
  unfold frs at hb
  rw[List.filterMap_cons,hf] at hb
  exact hb
theorem Inv.Ii(I:Inv X pins σ H s):∀b∈frs X.stack,H b=none:=fun b hb=>by
 rcases List.mem_cons.mp (I.vq b hb) with e | hb
 ·rw[e];exact I.free
 ·obtain⟨_,o,ho,_⟩:=I.ok.qW.mem hb
  exact I.base.free b o ho (I.ok.frf b hb) fun z=>I.ok.exfs b z hb
theorem Inv.step{g':Array GenState}{t':Nat}{d':Drawn}{ch:List Addr}(I:Inv X pins σ H s)
  (hch:∀b∈ch,(b∈X.ex\/X.s₀.heap.objs.size<=b)/\b≠X.env.locals/\(∀x c,X.env.cells.lookup x=some c->c≠b)/\∀p∈X.pn++pins,p.1≠b)
  (keep:∀b o,b≠X.env.locals->b∉X.fs->b∉ch->s.heap.get? b=some o->H b=none->h'.get? b=some o)
  (slot:∀b o,b≠X.env.locals->b∈X.fs->b∉ch->s.heap.get? b=some o->H b=none->∃sl,h'.get? b=some { o with slots:=sl }) (free:∀b o,b∉ch->s.heap.get? b=some o->H b=none->H' b=none)
  (there:∀b o,b∉ch->s.heap.get? b=some o->∃o',h'.get? b=some o')
  (tups:∀b xs,H b=some (.tup xs)->H' b=some (.tup xs)) (frzs:∀b o u,H b=some (.frz o u)->H' b=some (.frz o u)) (tbls:∀b ps,H b=some (.tbl ps)->∃more,H' b=some (.tbl (ps++more)))
  (ns:∀m,s.heap.Ns X.env.locals m->h'.Ns X.env.locals m) (hok:oH X.prog X.w H' h') (hg:AllBare g') :
  Inv X pins σ H' { s with heap:=h',gens:=g',drawn:=d',toks:=t' }:=by
 have neL:∀b o,X.s₀.heap.get? b=some o->b≠X.env.locals:=fun b o e=>Nat.ne_of_lt (Nat.lt_of_lt_of_le (Heap.lt_size e) I.ok.above)
 have neC:∀b o,X.s₀.heap.get? b=some o->b∉X.ex->b∉ch:=fun b o e hx hb=>by
  rcases (hch b hb).1 with z | z
  ·exact hx z
  ·exact absurd (Nat.lt_of_lt_of_le (Heap.lt_size e) z) (Nat.lt_irrefl _)
 have cellK:∀x c,X.env.cells.lookup x=some c->∀v,s.heap.IsCell c v->h'.IsCell c v:=fun x c e v ⟨o,ho,hd⟩=>by
  have nch:c∉ch:=fun z=>(hch c z).2.2.1 x c e rfl
  by_cases hc:c∈X.fs
  ·obtain⟨sl,q⟩:=slot c o (I.Ws x c e) hc nch ho (I.freeC x c e)
   exact⟨_,q,hd⟩
  ·exact⟨o,keep c o (I.Ws x c e) hc nch ho (I.freeC x c e),hd⟩
 refine⟨I.ok,I.os,hg,⟨fun b o e n hb hx=>?_,fun b o e n hb hx=>?_,fun b o e n hx=>?_,fun b o e hx=>?_,fun b xs e=>tups b xs (I.base.tups b xs e),fun b o xs e=>frzs b o xs (I.base.frzs b o xs e),fun b ps e=>?_⟩,?_,fun x c e=>?_,?_,fun x c e=>?_,fun p hp=>?_,hok,I.len⟩
 ·exact keep b o (neL b o e) hb (neC b o e hx) (I.base.keep b o e n hb hx) (I.base.free b o e n hx)
 ·obtain⟨sl,e1⟩:=I.base.slot b o e n hb hx
  obtain⟨sl',e2⟩:=slot b _ (neL b o e) hb (neC b o e hx) e1 (I.base.free b o e n hx)
  exact⟨sl',e2⟩
 ·obtain⟨o',e1⟩:=I.base.there b o e hx
  exact free b o' (neC b o e hx) e1 (I.base.free b o e n hx)
 ·obtain⟨o',e1⟩:=I.base.there b o e hx
  exact there b o' (neC b o e hx) e1
 ·obtain⟨m1,e1⟩:=I.base.tbls b ps e
  obtain⟨m2,e2⟩:=tbls b _ e1
  exact⟨m1++m2,by rw[e2,Array.append_assoc]⟩
 ·obtain⟨m,hn,hl⟩:=I.loc
  refine⟨m,ns m hn,fun i x v e1 e2 e3=>?_⟩
  obtain⟨u,r,l⟩:=hl i x v e1 e2 e3
  refine⟨u,r,?_⟩
  rcases l with l | ⟨k,c,e,z⟩
  ·exact .inl l
  ·exact .inr ⟨k,c,e,cellK x c e _ z⟩
 ·obtain⟨v,z⟩:=I.cell x c e
  exact⟨v,cellK x c e v z⟩
 ·obtain⟨m,⟨o,_,_,ho,_⟩,_⟩:=I.loc
  exact free _ o (fun z=>(hch _ z).2.1 rfl) ho I.free
 ·obtain⟨v,o,ho,hd⟩:=I.cell x c e
  exact free c o (fun z=>(hch c z).2.2.1 x c e rfl) ho (I.freeC x c e)
 ·obtain⟨e,n,ne,nf,d⟩:=I.pin p hp
  have nch:p.1∉ch:=fun z=>(hch p.1 z).2.2.2 p hp rfl
  exact⟨keep p.1 p.2 ne nf nch e n,free p.1 p.2 nch e n,ne,nf,d⟩
theorem Inv.un{t':Nat}(I:Inv X pins σ H s)(u:Un X.fs [] H H' s.heap h')(hok:oH X.prog X.w H' h'):Inv X pins σ H' { s with heap:=h',toks:=t' }:=by
 obtain⟨m,⟨o,es,ep,ho,r⟩,_⟩:=id I.loc
 obtain⟨sl,hL⟩:=u.any ho I.free (by simp)
 exact I.step (g':=s.gens) (d':=s.drawn) (ch:=[]) (fun _ z=>nomatch z) (fun b o _ hb _ e n=>u.keep b o e n hb (by simp)) (fun b o _ hb _ e n=>u.slot b o e n hb (by simp)) (fun b o _ e n=>u.free b o e n (by simp)) (fun b o _ e=>u.there b o e (by simp)) u.tups u.frzs u.tbls (fun m' hm=>by
  obtain⟨o',es',ep',ho',r'⟩:=hm
  rw[ho] at ho';cases ho'
  exact⟨_,es',ep',hL,r'⟩) hok I.bare
theorem Inv.call{g':Array GenState}{t':Nat}{d':Drawn}{ch:List Addr}(I:Inv X pins σ H s)(u:Un (frs X.stack) ch H H' s.heap h')(hok:oH X.prog X.w H' h')(hg:AllBare g')
  (hch:∀b∈ch,(b∈X.ex\/X.s₀.heap.objs.size<=b)/\b≠X.env.locals/\(∀x c,X.env.cells.lookup x=some c->c≠b)/\∀p∈X.pn++pins,p.1≠b) :
  Inv X pins σ H' { s with heap:=h',gens:=g',drawn:=d',toks:=t' }:=by
 obtain⟨m,⟨o,es,ep,ho,r⟩,_⟩:=id I.loc
 obtain⟨sl,hL⟩:=u.any ho I.free fun z=>(hch _ z).2.1 rfl
 exact I.step (ch:=ch) hch (fun b o hL hb hc e n=>u.keep b o e n (fun z=>(List.mem_cons.mp (I.vq b z)).elim hL hb) hc) (fun b o _ _ hc e n=>u.any e n hc) (fun b o hc e n=>u.free b o e n hc) (fun b o hc e=>u.there b o e hc) u.tups u.frzs u.tbls (fun m' hm=>by
  obtain⟨o',es',ep',ho',r'⟩:=hm
  rw[ho] at ho';cases ho'
  exact⟨_,es',ep',hL,r'⟩) hok hg
theorem Inv.turned{t':Nat}{it:Addr}(I:Inv X pins σ H s)(k:∀b o,b≠it->s.heap.get? b=some o->h'.get? b=some o)(hn:H it=none)(hL:it≠X.env.locals)
  (h1:it∈X.ex\/X.s₀.heap.objs.size<=it) (h2:∀x c,X.env.cells.lookup x=some c->c≠it) (h3:∀p∈X.pn++pins,p.1≠it):Inv X pins σ H { s with heap:=h',toks:=t' }:=by
 have nit:∀b u,H b=some u->b≠it:=fun b u e z=>by rw[z,hn] at e;cases e
 refine I.step (g':=s.gens) (d':=s.drawn) (ch:=[it]) (fun b hb=>?_) (fun b o _ _ hc e _=>k b o (fun z=>hc (by simp[z])) e) (fun b o _ _ hc e _=>⟨o.slots,k b o (fun z=>hc (by simp[z])) e⟩) (fun _ _ _ _ n=>n)
  (fun b o hc e=>⟨o,k b o (fun z=>hc (by simp[z])) e⟩) (fun _ _ e=>e) (fun _ _ _ e=>e) (fun b ps e=>⟨#[],by rw[e];simp⟩) (fun m hm=>?_) (fun b u e=>?_) I.bare
 ·have e:b=it:=by simpa using hb
  subst e
  exact⟨h1,hL,h2,h3⟩
 ·obtain⟨o,es,ep,ho,r⟩:=hm
  exact⟨o,es,ep,k _ o (Ne.symm hL) ho,r⟩
 ·refine (I.hok b u e).stay (fun c v hc q=>k c v ?_ q) (fun _ q=>q) fun _ _ q=>q
  rcases hc with z | z
  ·rw[z];exact nit b u e
  ·exact nit c _ z
theorem Inv.tok(I:Inv X pins σ H s)(t:Nat):Inv X pins σ H { s with toks:=t }:=I.un (h':=s.heap) (t':=t) Un.refl I.hok
theorem Inv.kept{t':Nat}(I:Inv X pins σ H s)(k:∀b u,s.heap.get? b=some u->h'.get? b=some u):Inv X pins σ H { s with heap:=h',toks:=t' }:=I.un (Un.kept k) (I.hok.kept k)
theorem Inv.laid{a:Addr}{o:HO}{t':Nat}(I:Inv X pins σ H s)(k:∀b u,s.heap.get? b=some u->h'.get? b=some u)(hp:s.heap.objs.size<=a)(new:bZ X.prog X.w (upd H a o) h' a o) :
  Inv X pins σ (upd H a o) { s with heap:=h',toks:=t' }:=I.un (Un.laid k hp (I.hok.fresh hp)) (I.hok.laid k hp new)
theorem Inv.write{x e:Addr}{o:HO}{t':Nat}(I:Inv X pins σ H s)(mu:Mut (H x))(he:e=x\/H e=some (.own x))(k:∀b u,b≠e->s.heap.get? b=some u->h'.get? b=some u)(heo:∃u,h'.get? e=some u)
  (new:bZ X.prog X.w (upd H x o) h' x o):Inv X pins σ (upd H x o) { s with heap:=h',toks:=t' }:=I.un (Un.write mu he k heo) (I.hok.write mu he k heo new)
theorem Inv.weak{σ':List (Option V)}(I:Inv X pins σ H s)(hl:σ'.length=σ.length)(w:∀(i:Nat) v,σ'[i]?=some (some v)->σ[i]?=some (some v)):Inv X pins σ' H s :=
 ⟨I.ok,I.os,I.bare,I.base,let ⟨m,hn,hl'⟩:=I.loc;⟨m,hn,fun i x v e1 e2 e3=>hl' i x v e1 (w i v e2) e3⟩,I.cell,I.free,I.freeC,I.pin,I.hok,hl.trans I.len⟩
theorem Inv.ni{pins':List (Addr×Obj)}(I:Inv X pins σ H s)(h:∀p∈pins',s.heap.get? p.1=some p.2/\H p.1=none/\p.1≠X.env.locals/\p.1∉X.fs/\∀v,p.2.data≠.cell v):Inv X pins' σ H s :=
 ⟨I.ok,I.os,I.bare,I.base,I.loc,I.cell,I.free,I.freeC,fun p hp=>(List.mem_append.mp hp).elim (fun z=>I.pin p (List.mem_append_left _ z)) (h p),I.hok,I.len⟩
theorem Ds{N:List Str}(hN:N.Nodup){i j:Nat}{x:Str}(a:N[i]?=some x)(b:N[j]?=some x):i=j:=by
 obtain⟨h1,e1⟩:=List.getElem?_eq_some_iff.mp a
 obtain⟨h2,e2⟩:=List.getElem?_eq_some_iff.mp b
 exact (List.getElem_inj hN).mp (e1.trans e2.symm)
theorem wW{M:Model}{A:Around}{E:Value->Shared->Prop}{i:Nat}{x:Str}{v:V}{u:Value}{Q:Unit->Shared->Prop}(I:Inv X pins σ H s)(hN:X.N.Nodup)(hi:X.N[i]?=some x)(hx:Loc X.env.scope x)(r:RelV v u)
  (h:∀s',Inv X pins (σ.set i (some v)) H s'->(∃a,Heap.SameBut a s.heap s'.heap/\(a=X.env.locals\/X.env.cells.lookup x=some a))->Q () s') (hf:X.fn x=true\/X.env.scope.names.lookup x=some .local:=by first | exact .inl rfl | exact .inr rfl | assumption):wpAny M A (storeName X.env x u) Q E s:=by
 obtain⟨m,hn,hl⟩:=id I.loc
 have hcls:(X.env.scope.kind == .class||(X.env.scope.kind == .module&&X.env.locals != X.env.globals))=false:=by rw[I.ok.kind];rfl
 have hiσ:i<σ.length:=by rw[I.len];exact (List.getElem?_eq_some_iff.mp hi).1
 have Ws:=I.Ws
 have tracked:∀ {a:Addr} {h':Heap},(∃o,s.heap.get? a=some o/\H a=none)->Heap.SameBut a s.heap h'->oH X.prog X.w H h':=fun {a h'} ha hs b ob e=>by
  obtain⟨_,_,hfree⟩:=ha
  refine (I.hok b ob e).stay (fun c w' hc q=>(hs.2 c ?_).trans q) (fun _ q=>q) fun _ _ q=>q
  rintro rfl
  rcases hc with rfl | hc
  ·rw[hfree] at e;cases e
  ·rw[hfree] at hc;cases hc
 rcases hx with hk | hk
 ·refine wpAny_storeName_local hk hn (fun h' hn' hs=>?_) hcls
  obtain⟨oL,_,_,hoL,_⟩:=id hn
  refine h _ ⟨I.ok,I.os,I.bare,⟨fun b o e n hb hx=>?_,fun b o e n hb hx=>?_,I.base.free,fun b o e hx=>?_,I.base.tups,I.base.frzs,I.base.tbls⟩,⟨_,hn',fun j y v' e1 e2 e3=>?_⟩,fun y c e=>?_,I.free,I.freeC,fun p hp=>?_,tracked ⟨oL,hoL,I.free⟩ hs,by simpa using I.len⟩ ⟨_,hs,.inl rfl⟩
  ·exact (hs.2 b (Nat.ne_of_lt (Nat.lt_of_lt_of_le (Heap.lt_size e) I.ok.above))).trans (I.base.keep b o e n hb hx)
  ·obtain⟨sl,e1⟩:=I.base.slot b o e n hb hx
   exact⟨sl,(hs.2 b (Nat.ne_of_lt (Nat.lt_of_lt_of_le (Heap.lt_size e) I.ok.above))).trans e1⟩
  ·obtain⟨o',e1⟩:=I.base.there b o e hx
   exact⟨o',(hs.2 b (Nat.ne_of_lt (Nat.lt_of_lt_of_le (Heap.lt_size e) I.ok.above))).trans e1⟩
  ·by_cases hj:j=i
   ·subst hj
    rw[hi] at e1;cases e1
    rw[List.getElem?_set_self hiσ] at e2
    cases e2
    exact⟨u,r,.inl ⟨hk,by simp⟩⟩
   ·rw[List.getElem?_set_ne (Ne.symm hj)] at e2
    obtain⟨u',r',q⟩:=hl j y v' e1 e2 e3
    refine⟨u',r',?_⟩
    rcases q with ⟨k,e⟩ | ⟨k,c,e,z⟩
    ·refine .inl ⟨k,?_⟩
     have:y≠x:=fun e=>hj (Ds hN e1 (e▸hi))
     simp[this,e]
    ·exact .inr ⟨k,c,e,z.sameBut hs (Ws y c e)⟩
  ·obtain⟨w',z⟩:=I.cell y c e
   exact⟨w',z.sameBut hs (Ws y c e)⟩
  ·obtain⟨e,n,ne,nf,d⟩:=I.pin p hp
   exact⟨(hs.2 p.1 ne).trans e,n,ne,nf,d⟩
 ·have hfn:X.fn x=true:=by
   rcases hf with z | z
   ·exact z
   ·rw[z] at hk;cases hk
  obtain⟨c,hc⟩:=I.ok.has x (.inl hk)
  obtain⟨w',z⟩:=I.cell x c hc
  refine wpAny_storeName_cell I.ok.kind hk hc z (fun h' hc' hs=>?_)
  obtain⟨oc,hoc,hocd⟩:=id z
  refine h { s with heap:=h' } ⟨I.ok,I.os,I.bare,⟨fun b o e n hb hx=>?_,fun b o e n hb hx=>?_,I.base.free,fun b o e hx=>?_,I.base.tups,I.base.frzs,I.base.tbls⟩,⟨m,hn.sameBut hs (Ne.symm (Ws x c hc)),fun j y v' e1 e2 e3=>?_⟩,fun y c' e=>?_,I.free,I.freeC,fun p hp=>?_,tracked ⟨oc,hoc,I.freeC x c hc⟩ hs,by simpa using I.len⟩ ⟨c,hs,.inr hc⟩
  ·exact (hs.2 b (Nat.ne_of_lt (Nat.lt_of_lt_of_le (Heap.lt_size e) (I.ok.cab x c hfn hc)))).trans (I.base.keep b o e n hb hx)
  ·obtain⟨sl,e1⟩:=I.base.slot b o e n hb hx
   exact⟨sl,(hs.2 b (Nat.ne_of_lt (Nat.lt_of_lt_of_le (Heap.lt_size e) (I.ok.cab x c hfn hc)))).trans e1⟩
  ·obtain⟨o',e1⟩:=I.base.there b o e hx
   exact⟨o',(hs.2 b (Nat.ne_of_lt (Nat.lt_of_lt_of_le (Heap.lt_size e) (I.ok.cab x c hfn hc)))).trans e1⟩
  ·by_cases hj:j=i
   ·subst hj
    rw[hi] at e1;cases e1
    rw[List.getElem?_set_self hiσ] at e2
    cases e2
    exact⟨u,r,.inr ⟨.inl hk,c,hc,hc'⟩⟩
   ·rw[List.getElem?_set_ne (Ne.symm hj)] at e2
    obtain⟨u',r',q⟩:=hl j y v' e1 e2 e3
    refine⟨u',r',?_⟩
    rcases q with q | ⟨k,c',e,z'⟩
    ·exact .inl q
    ·refine .inr ⟨k,c',e,z'.sameBut hs ?_⟩
     rintro rfl
     exact hj (Ds hN e1 (I.ok.inj _ _ _ e hc▸hi))
  ·by_cases hcc:c'=c
   ·subst hcc;exact⟨_,hc'⟩
   ·obtain⟨w2,z2⟩:=I.cell y c' e
    exact⟨w2,z2.sameBut hs hcc⟩
  ·obtain⟨e,n,ne,nf,d⟩:=I.pin p hp
   refine⟨(hs.2 p.1 ?_).trans e,n,ne,nf,d⟩
   intro q
   rw[q,hoc] at e
   have q':oc=p.2:=Option.some.inj e
   exact d w' (by rw[←q'];exact hocd)
theorem BV{M:Model}{A:Around}{E:Value->Shared->Prop}{i:Nat}{x:Str}{v:V}{u:Value}{Q:Unit->Shared->Prop}(I:Inv X pins σ H s)(hN:X.N.Nodup)(hi:X.N[i]?=some x)(hx:Loc X.env.scope x)(r:RelV v u)
  (h:∀s',Inv X pins (σ.set i (some v)) H s'->Q () s') (hf:X.fn x=true\/X.env.scope.names.lookup x=some .local:=by first | exact .inl rfl | exact .inr rfl | assumption):wpAny M A (storeName X.env x u) Q E s :=
 wW I hN hi hx r (fun s' I' _=>h s' I') hf
theorem Inv.call'{s':Shared}{ch:List Addr}(I:Inv X pins σ H s)(ho:s'.os=s.os)(u:Un (frs X.stack) ch H H' s.heap s'.heap)(hok:oH X.prog X.w H' s'.heap)(hg:AllBare s'.gens)
  (hch:∀b∈ch,(b∈X.ex\/X.s₀.heap.objs.size<=b)/\b≠X.env.locals/\(∀x c,X.env.cells.lookup x=some c->c≠b)/\∀p∈X.pn++pins,p.1≠b):Inv X pins σ H' s':=by
 obtain⟨h',g',d',t',o'⟩:=s'
 have e:o'=s.os:=ho
 subst e
 exact I.call (g':=g') (t':=t') (d':=d') u hok hg hch
end
abbrev XK:=Value->Option Addr->Hp->Prop
abbrev St:=List (Option V)
abbrev VK:=V->Hp->Prop
abbrev TE:=St->Hp->VK->Prop
abbrev TT:=St->Hp->(Bool->Hp->Prop)->Prop
abbrev TA:=St->Hp->(List V->Hp->Prop)->Prop
structure Ends where
 nx:St->Hp->Prop
 rt:VK
 bk:St->Hp->Prop:=fun _ _=>False
 ct:St->Hp->Prop:=fun _ _=>False
abbrev TS:=Ends->St->Hp->Prop
def EP(X:Cx)(pins:List (Addr×Obj))(σ:St)(Q:VK)(u:Value)(s':Shared):Prop:=∃v H',Inv X pins σ H' s'/\RelV v u/\Q v H'
def TP(X:Cx)(pins:List (Addr×Obj))(σ:St)(Q:Bool->Hp->Prop)(b:Bool)(s':Shared):Prop:=∃H',Inv X pins σ H' s'/\Q b H'
def AP(X:Cx)(pins:List (Addr×Obj))(σ:St)(Q:List V->Hp->Prop)(us:List Value)(s':Shared):Prop:=∃vs H',Inv X pins σ H' s'/\Vals vs us/\Q vs H'
def SP(X:Cx)(pins:List (Addr×Obj))(D:Ends)(f:Flow)(s':Shared):Prop :=
 match f with
 |.next=>∃σ' H',Inv X pins σ' H' s'/\D.nx σ' H'
 |.brk=>∃σ' H',Inv X pins σ' H' s'/\D.bk σ' H'
 |.cont=>∃σ' H',Inv X pins σ' H' s'/\D.ct σ' H'
 |.ret u=>∃v σ' H',Inv X pins σ' H' s'/\RelV v u/\D.rt v H'
def PE(X:Cx)(e:Expr)(t:TE):Prop :=
 ∀(pins:List (Addr×Obj)) (s:Shared) (σ:St) (H:Hp) (Q:VK),Inv X pins σ H s->t σ H Q->wpAny (model X.prog X.w) X.A (eval e X.env) (EP X pins σ Q) X.xe s
def PT(X:Cx)(e:Expr)(t:TT):Prop :=
 ∀(pins:List (Addr×Obj)) (s:Shared) (σ:St) (H:Hp) (Q:Bool->Hp->Prop),Inv X pins σ H s->t σ H Q->wpAny (model X.prog X.w) X.A (isTrue e X.env (eval e X.env)) (TP X pins σ Q) X.xe s
def PW(X:Cx)(e:Expr)(t:TT):Prop :=
 ∀(whole:Sem Value) (pins:List (Addr×Obj)) (s:Shared) (σ:St) (H:Hp) (Q:Bool->Hp->Prop),Inv X pins σ H s->t σ H Q->wpAny (model X.prog X.w) X.A (isTrue e X.env whole) (TP X pins σ Q) X.xe s
theorem PW.pt{X:Cx}{e:Expr}{t:TT}(h:PW X e t):PT X e t:=h _
def PA(X:Cx)(es:List Expr)(t:TA):Prop :=
 ∀(pos:Pos) (pins:List (Addr×Obj)) (s:Shared) (σ:St) (H:Hp) (Q:List V->Hp->Prop),Inv X pins σ H s->t σ H Q->wpAny (model X.prog X.w) X.A (spliced (backTo pos (starEach es X.env))) (AP X pins σ Q) X.xe s
def PS(X:Cx)(st:Stmt)(t:TS):Prop :=
 ∀(pins:List (Addr×Obj)) (s:Shared) (σ:St) (H:Hp) (D:Ends),Inv X pins σ H s->t D σ H->wpAny (model X.prog X.w) X.A (exec st X.env) (SP X pins D) X.xe s
def Ck(X:Cx)(st:List Stmt)(t:TS):Prop :=
 ∀(pins:List (Addr×Obj)) (s:Shared) (σ:St) (H:Hp) (D:Ends),Inv X pins σ H s->t D σ H->wpAny (model X.prog X.w) X.A (execs st X.env) (SP X pins D) X.xe s
theorem cJ{α:Type}{t:Sem α}{Q Q':α->Shared->Prop}{M:Model}{A:Around}{E:Value->Shared->Prop}{s:Shared}(h:wpAny M A t Q E s)(hQ:∀a s,Q a s->Q' a s):wpAny M A t Q' E s:=wpAny_mono h hQ fun _ _ x=>x
section
variable{X:Cx}
def Z2(i:Nat):TE:=fun σ H Q=>∃v,σ[i]?=some (some v)/\Q v H
def tC(v:V):TE:=fun _ H Q=>Q v H
theorem XC{i:Nat}{x:Str}{pos:Pos}(hN:X.N[i]?=some x)(hv:Vis X.env.scope x)(hd:(x==("__debug__" : Str))=false:=by decide)(hcd:(x==("__classdict__" : Str))=false:=by decide):PE X (.Name x pos) (Z2 i):=by
 intro pins s σ H Q I h
 obtain⟨v,e,h⟩:=h
 obtain⟨m,hn,hl⟩:=I.loc
 obtain⟨u,r,l⟩:=hl i x v hN e hv
 have fin:EP X pins σ Q u s:=⟨v,H,I,r,h⟩
 rcases l with ⟨hk,hm⟩ | ⟨hk,c,hc,hcell⟩
 ·exact wpAny_Name (wpAny_loadName_local I.ok.kind hk hn hm fin) hd
 ·rcases hk with hk | hk
  ·exact wpAny_Name (wpAny_loadName_cell I.ok.kind hk hc hcell fin) hd
  ·exact wpAny_Name (wpAny_loadName_free I.ok.kind hk hc hcell fin hcd) hd
theorem Yc{i j pos}:PE X (.Constant (.int i) j pos) (tC (.int i)):=fun _ _ _ H _ I h=>wpAny_Constant_int ⟨.int i,H,I.tok _,⟨_,rfl⟩,h⟩
theorem Z8{b j pos}:PE X (.Constant (.bool b) j pos) (tC (.bl b)):=fun _ _ _ H _ I h=>Constant_bool ⟨.bl b,H,I,rfl,h⟩
theorem W9{x j pos}:PE X (.Constant (.str x) j pos) (tC (.str x)):=fun _ _ _ H _ I h=>Calls.Constant_str ⟨.str x,H,I.tok _,⟨_,rfl⟩,h⟩
def Gl(X:Cx)(x:Str):Prop:=X.env.kindOf x=some .globalImplicit
theorem Ik{E:Value->Shared->Prop}{pins:List (Addr×Obj)}{s:Shared}{σ:St}{H:Hp}{x:Str}{u:Value}{pos:Pos}{Q:Value->Shared->Prop}(I:Inv X pins σ H s)(hg:Gl X x)(hm:X.mg x=some u)(h:Q u s)
  (hd:(x==("__debug__" : Str))=false:=by decide):wpAny (model X.prog X.w) X.A (eval (.Name x pos) X.env) Q E s :=
 Calls.Name_function_global I.ok.kind hg (Calls.loadGlobal_global (by rw[I.ok.glob];exact I.mod.glob.keeps I.bk) hm h) hd
theorem iB{E:Value->Shared->Prop}{pins:List (Addr×Obj)}{s:Shared}{σ:St}{H:Hp}{x:Str}{u:Value}{pos:Pos}{Q:Value->Shared->Prop}(I:Inv X pins σ H s)(hg:Gl X x)(hm:X.mg x=none)(hv:bootBuiltins x=some u)(h:Q u s)
  (hn:x ≠ "__name__":=by decide) (hd:(x==("__debug__" : Str))=false:=by decide):wpAny (model X.prog X.w) X.A (eval (.Name x pos) X.env) Q E s:=by
 obtain⟨mb,h1,h2⟩:=I.mod.blt
 exact Calls.Name_function_global I.ok.kind hg (Calls.loadGlobal_builtin (by rw[I.ok.glob];exact I.mod.glob.keeps I.bk) hm (by rw[I.ok.blt];exact h1.keeps I.bk) ((h2 x hn).trans hv) h) hd
theorem U7{x:Str}{v:V}{u:Value}{pos:Pos}(hg:Gl X x)(hm:X.mg x=none)(hv:bootBuiltins x=some u)(r:RelV v u)(hn:x ≠ "__name__":=by decide)(hd:(x==("__debug__" : Str))=false:=by decide):PE X (.Name x pos) (tC v) :=
 fun _ _ _ H _ I h=>iB I hg hm hv ⟨v,H,I,r,h⟩ hn hd
variable{a b:Expr}{ta tb:TE}{pos:Pos}
def tB(t:TE):TT:=fun σ H Q=>t σ H fun x H1=>∃c,x=.bl c/\Q c H1
theorem YH{e:Expr}{t:TE}(h:PE X e t)(he:∀whole,isTrue e X.env whole=(do let v ←whole;standAt e.pos;holding [v] (truthy v)):=by intro _;rfl):PT X e (tB t):=by
 intro pins s σ H Q I hw
 refine isTrue_plain (cJ (h pins s σ H _ I hw) fun v s1 zz=>?_) (he _)
 obtain⟨x,H1,I1,r1,q1⟩:=zz
 obtain⟨d,rfl,q⟩:=q1
 cases r1
 exact wpAny_truthy_bool ⟨H1,I1,q⟩
variable{tA tB':TT}{rest:List Expr}
def acQ(t u:TT):TT:=fun σ H Q=>t σ H fun c H1=>if c=true then u σ H1 Q else Q false H1
def tOr(t u:TT):TT:=fun σ H Q=>t σ H fun c H1=>if c=true then Q true H1 else u σ H1 Q
def acq(t:TT):TT:=fun σ H Q=>t σ H fun c H1=>Q (!c) H1
theorem Ti(ha:PT X a tA):PW X (.BoolOp .And [a] pos) tA:=by
 intro wh pins s σ H Q I h
 refine isTrue_and (cJ (ha pins s σ H Q I h) fun c s1 e=>?_)
 cases c with
 |true=>exact isTrue_and_nil e
 |false=>exact e
theorem W2(ha:PT X a tA):PW X (.BoolOp .Or [a] pos) tA:=by
 intro wh pins s σ H Q I h
 refine isTrue_or (cJ (ha pins s σ H Q I h) fun c s1 e=>?_)
 cases c with
 |false=>exact isTrue_or_nil e
 |true=>exact e
theorem Yi(ha:PT X a tA)(hb:PW X (.BoolOp .And (b::rest) pos) tB'):PW X (.BoolOp .And (a::b::rest) pos) (acQ tA tB'):=by
 intro wh pins s σ H Q I h
 refine isTrue_and (cJ (ha pins s σ H _ I h) fun c s1 zz=>?_)
 obtain⟨H1,I1,q1⟩:=zz
 cases c with
 |true=>exact hb wh pins s1 σ H1 Q I1 q1
 |false=>exact⟨H1,I1,q1⟩
theorem Z3(ha:PT X a tA)(hb:PW X (.BoolOp .Or (b::rest) pos) tB'):PW X (.BoolOp .Or (a::b::rest) pos) (tOr tA tB'):=by
 intro wh pins s σ H Q I h
 refine isTrue_or (cJ (ha pins s σ H _ I h) fun c s1 zz=>?_)
 obtain⟨H1,I1,q1⟩:=zz
 cases c with
 |true=>exact⟨H1,I1,q1⟩
 |false=>exact hb wh pins s1 σ H1 Q I1 q1
theorem XN(ha:PT X a tA):PT X (.UnaryOp .Not a pos) (acq tA):=by
 intro pins s σ H Q I h
 exact isTrue_not (ha pins s σ H (fun c H1=>Q (!c) H1) I h)
def aao(ta tb:TE):TE:=fun σ H Q=>ta σ H fun x H1=>∃c,x=.bl c/\if c=true then tb σ H1 Q else Q (.bl false) H1
def aaR(ta:TE):TE:=fun σ H Q=>ta σ H fun x H1=>∃c,x=.bl c/\Q (.bl (!c)) H1
theorem Xg{op}{t:TE}(h:PE X a t):PE X (.BoolOp op [a] pos) t:=fun pins s σ H Q I hw=>BoolOp_one (h pins s σ H Q I hw)
theorem X6(ha:PE X a ta)(hb:PE X (.BoolOp .And (b::rest) pos) tb):PE X (.BoolOp .And (a::b::rest) pos) (aao ta tb):=by
 intro pins s σ H Q I h
 refine BoolOp_and (cJ (ha pins s σ H _ I h) fun v s1 zz=>?_)
 obtain⟨x,H1,I1,r1,q1⟩:=zz
 obtain⟨c,rfl,q1⟩:=q1
 cases r1
 refine wpAny_truthy_bool ?_
 cases c with
 |true=>exact hb pins s1 σ H1 Q I1 q1
 |false=>exact⟨.bl false,H1,I1,rfl,q1⟩
theorem Xh(ha:PE X a ta):PE X (.UnaryOp .Not a pos) (aaR ta):=by
 intro pins s σ H Q I h
 refine UnaryOp_ (cJ (ha pins s σ H _ I h) fun v s1 zz=>?_)
 obtain⟨x,H1,I1,r1,q1⟩:=zz
 obtain⟨c,rfl,q1⟩:=q1
 cases r1
 exact not_of (wpAny_truthy_bool ⟨.bl (!c),H1,I1,rfl,q1⟩)
end
def jF(K:PySem.W.Frag)(H:Hp)(a:Addr)(xs:List V):Prop :=
 Rd H a (.lst xs) \/
  ∃(o:Obj) (its:Array Value) (n:Nat),K.lookup a=some o/\o.cls=.type "list"/\o.dict=none/\o.data=.seq its n/\its.size<=sizeLine/\Vals xs its.toList
def jz(K:PySem.W.Frag)(H:Hp)(a:Addr)(xs:List V):Prop :=
 Rd H a (.tup xs) \/
  ∃(o:Obj) (its:Array Value) (n:Nat),K.lookup a=some o/\o.cls=.type "tuple"/\o.data=.seq its n/\its.size<=sizeLine/\Vals xs its.toList
def abQ:Value->Option V
 |.none=>some .non
 |.bool b=>some (.bl b)
 |.int i _=>some (.int i)
 |.str x _=>some (.str x)
 |.bytes b _=>some (.byt b)
 |.float b _=>some (.flt b)
 |.ref a=>some (.ref a)
 |.type n=>some (.ty n)
 |_=>none
theorem RelV.abs{x:V}{u:Value}(r:RelV x u):abQ u=some x:=by
 cases x with
 |non=>cases r;rfl
 |bl _=>cases r;rfl
 |int _=>obtain⟨t,rfl⟩:=r;rfl
 |str _=>obtain⟨t,rfl⟩:=r;rfl
 |byt _=>obtain⟨t,rfl⟩:=r;rfl
 |flt _=>obtain⟨t,rfl⟩:=r;rfl
 |ref _=>cases r;rfl
 |ty _=>cases r;rfl
theorem RelV.inj{x y:V}{u:Value}(r:RelV x u)(q:RelV y u):x=y:=Option.some.inj (r.abs.symm.trans q.abs)
theorem Vals.inj:∀ {xs ys:List V} {us:List Value},Vals xs us->Vals ys us->xs=ys
 |_,_,_,.nil,.nil=>rfl
 |_,_,_,.cons r t,.cons r' t'=>by rw[r.inj r',Vals.inj t t']
section
variable{X:Cx}{pins:List (Addr×Obj)}{σ:St}{H:Hp}{s:Shared}{a:Addr}{xs ys:List V}
theorem jF.of{K:PySem.W.Frag}(h:H a=some (.lst xs)):jF K H a xs:=.inl (.inl h)
theorem jz.of{K:PySem.W.Frag}(h:H a=some (.tup xs)):jz K H a xs:=.inl (.inl h)
theorem Inv.list(I:Inv X pins σ H s)(h:jF X.K H a xs):∃its:List Value,Vals xs its/\PlainL s.heap a its.toArray/\xs.length<=sizeLine:=by
 rcases h with h | ⟨o,its,n,hk,hc,hd,hs,hz,r⟩
 ·obtain⟨z,its,n,r,e⟩:=h.ok I.hok
  exact⟨its,r,⟨_,n,e,rfl,rfl,rfl⟩,z⟩
 ·refine⟨its.toList,r,⟨o,n,I.tV a o hk,hc,hd,by simpa using hs⟩,?_⟩
  have e:=r.length
  simp only[Array.length_toList] at e
  omega
theorem Inv.tuple(I:Inv X pins σ H s)(h:jz X.K H a xs):∃its:List Value,Vals xs its/\IsTup s.heap a its.toArray/\xs.length<=sizeLine:=by
 rcases h with h | ⟨o,its,n,hk,hc,hs,hz,r⟩
 ·obtain⟨z,its,r,p⟩:=h.ok I.hok
  exact⟨its,r,p.tup,z⟩
 ·refine⟨its.toList,r,⟨o,I.tV a o hk,hc,n,by simpa using hs⟩,?_⟩
  have e:=r.length
  simp only[Array.length_toList] at e
  omega
theorem Inv.MN(I:Inv X pins σ H s)(h:jF X.K H a xs)(h':jF X.K H a ys):xs=ys:=by
 obtain⟨its,r,⟨o,n,e,_,_,d⟩,_⟩:=I.list h
 obtain⟨its',r',⟨o',n',e',_,_,d'⟩,_⟩:=I.list h'
 rw[e] at e';cases e'
 rw[d] at d'
 injection d' with d1 _
 have:its=its':=by simpa using congrArg Array.toList d1
 subst this
 exact r.inj r'
theorem Inv.JN(I:Inv X pins σ H s)(h:jz X.K H a xs)(h':jz X.K H a ys):xs=ys:=by
 obtain⟨its,r,⟨o,e,_,n,d⟩,_⟩:=I.tuple h
 obtain⟨its',r',⟨o',e',_,n',d'⟩,_⟩:=I.tuple h'
 rw[e] at e';cases e'
 rw[d] at d'
 injection d' with d1 _
 have:its=its':=by simpa using congrArg Array.toList d1
 subst this
 exact r.inj r'
end
abbrev Cx.wish(X:Cx)(E:Value->Shared->Prop):Cx:={ X with xe:=E }
abbrev Cx.Mp(X:Cx):Cx:=X.wish fun _ _=>False
theorem Cx.Ok.wish{X:Cx}(ok:X.Ok)(E:Value->Shared->Prop):(X.wish E).Ok :=
 ⟨ok.mod,ok.kind,ok.glob,ok.blt,ok.above,ok.inj,ok.has,ok.cab,ok.hd,ok.frames,ok.stk,ok.exf,ok.bs,ok.bsz,ok.noex,ok.exfs,ok.qW,ok.frf⟩
theorem Cx.Ok.lH{X:Cx}{E:Value->Shared->Prop}(ok:(X.wish E).Ok):X.Ok :=
 ⟨ok.mod,ok.kind,ok.glob,ok.blt,ok.above,ok.inj,ok.has,ok.cab,ok.hd,ok.frames,ok.stk,ok.exf,ok.bs,ok.bsz,ok.noex,ok.exfs,ok.qW,ok.frf⟩
section
variable{X:Cx}{pins:List (Addr×Obj)}{σ:St}{H:Hp}{s:Shared}{E:Value->Shared->Prop}
theorem Inv.wish(I:Inv X pins σ H s)(E:Value->Shared->Prop):Inv (X.wish E) pins σ H s:=⟨I.ok.wish E,I.os,I.bare,I.base,I.loc,I.cell,I.free,I.freeC,I.pin,I.hok,I.len⟩
theorem Inv.lH(I:Inv (X.wish E) pins σ H s):Inv X pins σ H s:=⟨I.ok.lH,I.os,I.bare,I.base,I.loc,I.cell,I.free,I.freeC,I.pin,I.hok,I.len⟩
theorem SP.lH{D:Ends}{f:Flow}{s':Shared}(h:SP (X.wish E) pins D f s'):SP X pins D f s':=by
 cases f with
 |next=>obtain⟨σ',H',I,q⟩:=h;exact⟨σ',H',I.lH,q⟩
 |brk=>obtain⟨σ',H',I,q⟩:=h;exact⟨σ',H',I.lH,q⟩
 |cont=>obtain⟨σ',H',I,q⟩:=h;exact⟨σ',H',I.lH,q⟩
 |ret u=>obtain⟨v,σ',H',I,r,q⟩:=h;exact⟨v,σ',H',I.lH,r,q⟩
theorem Ck.Mp{st:List Stmt}{t:TS}(h:Ck X.Mp st t):Ck X st t:=fun pins s σ H D I hw=>
 wpAny_mono (h pins s σ H D (I.wish _) hw) (fun _ _ q=>q.lH) fun _ _ z=>False.elim z
end
section
variable{X:Cx}{st:Stmt}{rest:List Stmt}{t u:TS}{e:Expr}{te:TE}{pos:Pos}
def aaO:TS:=fun D σ H=>D.nx σ H
def ach(t u:TS):TS:=fun D σ H=>t { D with nx:=u D } σ H
theorem Vd:Ck X [] aaO:=fun _ _ σ H _ I h=>wpAny_execs_nil ⟨σ,H,I,h⟩
theorem QZ(h1:PS X st t)(h2:Ck X rest u):Ck X (st::rest) (ach t u):=by
 intro pins s σ H D I h
 refine wpAny_execs_cons (cJ (h1 pins s σ H { D with nx:=u D } I h) fun f s1 q=>?_)
 cases f with
 |next=>
  obtain⟨σ',H',I',q⟩:=q
  exact h2 pins s1 σ' H' D I' q
 |ret v=>exact q
 |brk=>exact q
 |cont=>exact q
theorem Tj(h1:PS X st t):Ck X [st] t:=by
 intro pins s σ H D I h
 refine wpAny_execs_cons (cJ (h1 pins s σ H D I h) fun f s1 q=>?_)
 cases f with
 |next=>exact wpAny_execs_nil q
 |ret v=>exact q
 |brk=>exact q
 |cont=>exact q
def Zd:TS:=fun D σ H=>D.bk σ H
theorem Ny:PS X (.Break pos) Zd:=fun _ _ σ H _ I h=>wpAny_Break ⟨σ,H,I,h⟩
theorem Inv.quiet{pins:List (Addr×Obj)}{σ:St}{H:Hp}{s:Shared}(I:Inv X pins σ H s):interactive X.env=false:=by simp[interactive,I.ok.kind]
def aan(te:TE):TS:=fun D σ H=>te σ H fun _ H1=>D.nx σ H1
theorem Uj(he:PE X e te)(hs:swapsWith e none pos.line X.env=pure false:=by rfl):PS X (.Expr e pos) (aan te):=by
 intro pins s σ H D I h
 exact wpAny_Expr_any (cJ (he pins s σ H _ I h) fun v s1 ⟨x,H1,I1,r1,q1⟩=>⟨σ,H1,I1,q1⟩) I.quiet hs
def acb(te:TE):TS:=fun D σ H=>te σ H D.rt
theorem Ym(he:PE X e te):PS X (.Return (some e) pos) (acb te):=by
 intro pins s σ H D I h
 exact wpAny_Return_some (cJ (he pins s σ H _ I h) fun v s1 ⟨x,H1,I1,r1,q1⟩=>⟨x,σ,H1,I1,r1,q1⟩)
def ab2(c:TT)(t u:TS):TS:=fun D σ H=>c σ H fun b H1=>if b=true then t D σ H1 else u D σ H1
theorem ZR{c:Expr}{a b:List Stmt}{tc:TT}(hc:PT X c tc)(ha:Ck X a t)(hb:Ck X b u):PS X (.If c a b pos) (ab2 tc t u):=by
 intro pins s σ H D I h
 refine wpAny_If (cJ (hc pins s σ H _ I h) fun d s1 zz=>?_)
 obtain⟨H1,I1,q1⟩:=zz
 cases d with
 |true=>exact ha pins s1 σ H1 D I1 q1
 |false=>exact hb pins s1 σ H1 D I1 q1
end
abbrev TG:=V->St->Hp->(St->Hp->Prop)->Prop
abbrev X3:=List V->St->Hp->(St->Hp->Prop)->Prop
def PG(X:Cx)(target:Expr)(t:TG):Prop :=
 ∀(pins:List (Addr×Obj)) (s:Shared) (σ:St) (H:Hp) (v:V) (u:Value) (Q:St->Hp->Prop),Inv X pins σ H s->RelV v u->t v σ H Q ->
  wpAny (model X.prog X.w) X.A (assign target X.env u) (fun _ s'=>∃σ' H',Inv X pins σ' H' s'/\Q σ' H') X.xe s
def PGs(X:Cx)(ts:List Expr)(t:X3):Prop :=
 ∀(pins:List (Addr×Obj)) (s:Shared) (σ:St) (H:Hp) (vs:List V) (us:List Value) (Q:St->Hp->Prop),Inv X pins σ H s->Vals vs us->t vs σ H Q ->
  wpAny (model X.prog X.w) X.A (assignInOrder ((assignEach ts X.env).map (·.2)) us) (fun _ s'=>∃σ' H',Inv X pins σ' H' s'/\Q σ' H') X.xe s
section
variable{X:Cx}{pos:Pos}
def sS(i:Nat):TG:=fun v σ H Q=>Q (σ.set i (some v)) H
theorem jm{i:Nat}{x:Str}(hN:X.N.Nodup)(hi:X.N[i]?=some x)(hx:Loc X.env.scope x)(hf:X.fn x=true\/X.env.scope.names.lookup x=some .local:=by first | exact .inl rfl | exact .inr rfl | assumption):PG X (.Name x pos) (sS i):=by
 intro pins s σ H v u Q I r h
 exact wpAny_assign_Name (BV I hN hi hx r (fun s' I'=>⟨_,H,I',h⟩) hf)
def acB:X3:=fun vs σ H Q=>vs=[]/\Q σ H
def aa6(t:TG)(u:X3):X3:=fun vs σ H Q=>∃v r,vs=v::r/\t v σ H fun σ' H'=>u r σ' H' Q
theorem Ip:PGs X [] acB:=by
 intro pins s σ H vs us Q I r h
 obtain⟨e,h⟩:=h
 subst e
 cases r
 exact assignInOrder_nil ⟨σ,H,I,h⟩
theorem lR{e:Expr}{es:List Expr}{t:TG}{u:X3}(h1:PG X e t)(h2:PGs X es u)
  (hs:(assignEach (e::es) X.env).map (·.2)=assign e X.env::(assignEach es X.env).map (·.2):=by rfl):PGs X (e::es) (aa6 t u):=by
 intro pins s σ H vs us Q I r h
 obtain⟨v,vr,e1,h⟩:=h
 subst e1
 cases r with
 |cons r rr=>
  rw[hs]
  refine assignInOrder_cons (cJ (h1 pins s σ H _ _ _ I r h) fun _ s1 zz=>?_)
  obtain⟨σ1,H1,I1,q1⟩:=zz
  exact h2 pins s1 σ1 H1 _ _ Q I1 rr q1
def acd(K:PySem.W.Frag)(n:Nat)(t:X3):TG:=fun v σ H Q=>∃a xs,v=.ref a/\jz K H a xs/\xs.length=n/\t xs σ H Q
theorem O7{es:List Expr}{k:Nat}{t:X3}{n:Nat}(hc:X.calm=true)(h:PGs X es t)
  (hn:(assignEach es X.env).length=n:=by rfl) (hst:(assignEach es X.env).findIdx? (·.1)=none:=by rfl):PG X (.Tuple es k pos) (acd X.K n t):=by
 intro pins s σ H v u Q I r hw
 obtain⟨a,xs,e1,hq,hl,hw⟩:=hw
 subst e1
 cases r
 obtain⟨its,rv,ht,hz⟩:=I.tuple hq
 refine assign_Tuple_tuple (I.ok.hd hc) ht (by simp[hn,←hl,rv.length]) hst fun h' hx=>?_
 have I1:Inv X pins σ H { s with heap:=h' }:=I.kept (t':=s.toks) fun b o e=>hx b o (Nat.ne_of_lt (Heap.lt_size e)) e
 exact h pins _ σ H xs _ Q I1 (by simpa using rv) hw
def Ye(te:TE)(g:TG):TS:=fun D σ H=>te σ H fun x H1=>g x σ H1 D.nx
theorem YX{tg e:Expr}{te:TE}{g:TG}(he:PE X e te)(hg:PG X tg g)(hs:swapsWithSole [tg] e pos.line X.env=pure false:=by rfl)(hw:swappedStores [tg] e X.env=pure none:=by rfl)
  (h1:(assignEach [tg] X.env).map (·.2)=[assign tg X.env]:=by rfl):PS X (.Assign [tg] e pos) (Ye te g):=by
 intro pins s σ H D I h
 refine wpAny_Assign_stores (cJ (he pins s σ H _ I h) fun v s1 zz=>?_) hs hw
 obtain⟨x,H1,I1,r1,q1⟩:=zz
 rw[h1]
 exact cJ (hg pins s1 σ H1 x v _ I1 r1 q1) fun _ s2 q=>q
theorem Xn{i:Nat}{x:Str}{e:Expr}{te:TE}{pos':Pos}(hN:X.N.Nodup)(hi:X.N[i]?=some x)(hx:Loc X.env.scope x)(he:PE X e te)(hs:swapsWith e (some (.Name x pos')) pos.line X.env=pure false:=by rfl)(hf:X.fn x=true\/X.env.scope.names.lookup x=some .local:=by first | exact .inl rfl | exact .inr rfl | assumption) :
  PS X (.Assign [.Name x pos'] e pos) (Ye te (sS i)):=by
 intro pins s σ H D I h
 refine wpAny_Assign_Name (cJ (he pins s σ H _ I h) fun v s1 zz=>?_) hs
 obtain⟨y,H1,I1,r1,q1⟩:=zz
 exact BV I1 hN hi hx r1 (fun s2 I2=>⟨_,H1,I2,q1⟩) hf
end
section
variable{X:Cx}{pos:Pos}
def Wo(c:TT)(tb:TS):TS:=fun D σ H=>∃W:Nat->St->Hp->Prop,(∃m,W m σ H)/\∀m σ H,W m σ H ->
 c σ H fun b H1=>if b=true then ∃N:St->Hp->Prop,(∀σ' H',N σ' H'->∃m',m'<m/\W m' σ' H')/\tb { D with nx:=N,ct:=N,bk:=D.nx } σ H1 else D.nx σ H1
theorem Qg{c:Expr}{body:List Stmt}{tc:TT}{tb:TS}(hp:PassesOwn (model X.prog X.w) X.A X.env X.xe)(hc:PT X c tc)(hb:Ck X body tb):PS X (.While c body [] pos) (Wo tc tb):=by
 intro pins s σ H D I h
 obtain⟨W,⟨m0,w0⟩,turn⟩:=h
 refine wpAny_While (codeAny_whileLoop (fun n s'=>∃σ' H',Inv X pins σ' H' s'/\W n σ' H') ?_ m0 ⟨σ,H,I,w0⟩)
 rintro n s1 ⟨σ1,H1,I1,w1⟩
 refine wpAny_passesOwn hp (cJ (hc pins s1 σ1 H1 _ I1 (turn n σ1 H1 w1)) fun b s2 zz=>?_)
 obtain⟨H2,I2,q2⟩:=zz
 cases b with
 |true=>
  obtain⟨N,hN,q2⟩:=q2
  rw[if_pos rfl]
  refine wpAny_passesOwn hp (cJ (hb pins s2 σ1 H2 _ I2 q2) fun f s3 q3=>?_)
  cases f with
  |next=>
   obtain⟨σ3,H3,I3,n3⟩:=q3
   obtain⟨m',hm,w3⟩:=hN σ3 H3 n3
   exact⟨m',hm,σ3,H3,I3,w3⟩
  |cont=>
   obtain⟨σ3,H3,I3,n3⟩:=q3
   obtain⟨m',hm,w3⟩:=hN σ3 H3 n3
   exact⟨m',hm,σ3,H3,I3,w3⟩
  |brk=>exact q3
  |ret v=>exact q3
 |false=>
  rw[if_neg Bool.false_ne_true]
  exact wpAny_execs_nil ⟨σ1,H2,I2,q2⟩
end
structure It where
 go:Nat->Hp->Prop
 yld:Nat->Hp->V->Hp->Prop
 stop:Nat->Hp->Prop
def fB(X:Cx)(pins:List (Addr×Obj))(H:Hp)(b:Addr):Prop :=
 H b=none/\b≠X.env.locals/\b∉X.fs/\(b∈X.ex\/X.s₀.heap.objs.size<=b)/\(∀x c,X.env.cells.lookup x=some c->c≠b)/\∀p∈X.pn++pins,p.1≠b
theorem Inv.yS{X:Cx}{pins:List (Addr×Obj)}{σ:St}{H H':Hp}{s:Shared}{b:Addr}(I:Inv X pins σ H s)(hb:s.heap.objs.size<=b)(hn:H' b=none):fB X pins H' b:=by
 refine⟨hn,Nat.ne_of_gt (Nat.lt_of_lt_of_le I.lt hb),I.acz hb,.inr (Nat.le_trans I.sz hb),fun x c e z=>?_,fun p hp z=>?_⟩
 ·obtain⟨v,q⟩:=I.cell x c e
  exact absurd (Nat.lt_of_lt_of_le q.lt (by rw[z];exact hb)) (Nat.lt_irrefl _)
 ·exact absurd (Nat.lt_of_lt_of_le (Heap.lt_size (I.pin p hp).1) (by rw[z];exact hb)) (Nat.lt_irrefl _)
structure Turn(P:Program)(w:World)(K:PySem.W.Frag)(tg:Expr)(J:It)(fp:List Addr)(it:Addr)(tn:Nat->Heap->Prop):Prop where
 mem:it∈fp
 obj:∀i h,tn i h->∀b∈fp,∃o,h.get? b=some o/\∀v,o.data≠.cell v
 keep:∀i h h',tn i h->(∀b∈fp,∀o,h.get? b=some o->h'.get? b=some o)->tn i h'
 item:∀(X:Cx),X.prog=P->X.w=w->X.K=K->X.calm=true->∀(i:Nat) (pins:List (Addr×Obj)) (s:Shared) (σ:St) (H:Hp) (E:Value->Shared->Prop),Inv X pins σ H s->(∀b∈fp,fB X pins H b)->tn i s.heap->J.go i H ->
  wpAny (model P w) X.A (pyNext (.ref it)) (fun r s1=>∃u,r=some u /\
   wpAny (model P w) X.A (letOwnedTupleGo tg (.ref it) u) (fun _ s2=>∃x H',Inv X pins σ H' s2/\RelV x u/\J.yld i H x H'/\tn (i+1) s2.heap/\∀b∈fp,H' b=none) E s1) E s
 done:∀(X:Cx),X.prog=P->X.w=w->X.K=K->X.calm=true->∀(i:Nat) (pins:List (Addr×Obj)) (s:Shared) (σ:St) (H:Hp) (E:Value->Shared->Prop),Inv X pins σ H s->(∀b∈fp,fB X pins H b)->tn i s.heap->J.stop i H ->
  wpAny (model P w) X.A (pyNext (.ref it)) (fun r s1=>r=none/\Inv X pins σ H s1) E s
 self:∀(A:Around) (i:Nat) (s:Shared) (Q:Value->Shared->Prop) (E:Value->Shared->Prop),tn i s.heap->Q (.ref it) s->wpAny (model P w) A (pyIter (.ref it)) Q E s
abbrev TI:=St->Hp->(It->Hp->Prop)->Prop
def PIE(X:Cx)(pins:List (Addr×Obj))(σ:St)(tg:Expr)(R:It->Hp->Prop)(itv:Value)(s2:Shared):Prop :=
 ∃(it:Addr) (fp:List Addr) (tn:Nat->Heap->Prop) (J:It) (H':Hp),itv=.ref it/\Inv X pins σ H' s2/\Turn X.prog X.w X.K tg J fp it tn/\tn 0 s2.heap/\(∀b∈fp,fB X pins H' b)/\R J H'
def PI(X:Cx)(tg iter:Expr)(wi:TI):Prop :=
 ∀(pins:List (Addr×Obj)) (s:Shared) (σ:St) (H:Hp) (R:It->Hp->Prop),Inv X pins σ H s->wi σ H R ->
  wpAny (model X.prog X.w) X.A (eval iter X.env) (fun v s1=>wpAny (model X.prog X.w) X.A (pyIter v) (PIE X pins σ tg R) X.xe s1) X.xe s
theorem xO{M:Model}{A:Around}{E:Value->Shared->Prop}{s:Shared}{tg:Expr}{it:Addr}{u:Value}{o:Obj}{n:String}{vs:Array Value}{Q:Unit->Shared->Prop}(ho:s.heap.get? it=some o)(hc:o.cls=.type n)(hd:o.data=.fields vs)
  (hn:["enumerate", "zip", "dict_itemiterator", "dict_reverseitemiterator", "odict_iterator", "itertools.zip_longest", "itertools.pairwise"].contains n=false) (hQ:Q () s):wpAny M A (letOwnedTupleGo tg (.ref it) u) Q E s:=by
 unfold letOwnedTupleGo
 cases tg <;> first
  |exact wpAny_pure hQ
  | (cases u <;> first
    |exact wpAny_pure hQ
    | (refine wpAny_bind (wpAny_load ho ?_)
       rw[hc,hd]
       show wpAny M A (if (["enumerate", "zip", "dict_itemiterator", "dict_reverseitemiterator", "odict_iterator", "itertools.zip_longest", "itertools.pairwise"].contains n&&vs[0]? == some (rawInt _))=true then _ else _) Q E s
       rw[if_neg (by intro h;rw[hn,Bool.false_and] at h;cases h)]
       exact wpAny_pure hQ))
def Itl(K:PySem.W.Frag)(a:Addr):It :=
 ⟨fun i H=>∃xs x,jF K H a xs/\xs[i]?=some x,fun i H x H'=>H'=H/\∀xs,jF K H a xs->xs[i]?=some x,fun i H=>∃xs,jF K H a xs/\xs.length<=i⟩
def Itt(K:PySem.W.Frag)(a:Addr):It :=
 ⟨fun i H=>∃xs x,jz K H a xs/\xs[i]?=some x,fun i H x H'=>H'=H/\∀xs,jz K H a xs->xs[i]?=some x,fun i H=>∃xs,jz K H a xs/\xs.length<=i⟩
def Zw(lo:Int)(n:Nat):It:=⟨fun i _=>i<n,fun i H x H'=>H'=H/\x=.int (lo+i),fun i _=>n<=i⟩
theorem JZ{P:Program}{w:World}{K:PySem.W.Frag}{tg:Expr}(a it:Addr):Turn P w K tg (Itl K a) [it] it (fun i h=>h.IsListIter it a i) where
 mem:=by simp
 obj:=fun i h st b hb=>by
  have e:b=it:=by simpa using hb
  subst e
  obtain⟨o,e,c,d⟩:=st
  exact⟨o,e,fun v z=>by rw[d] at z;cases z⟩
 keep:=fun i h h' st k=>st.at fun o e=>k it (by simp) o e
 item:=by
  intro X hP hw hK hc i pins s σ H E I hf st hg
  subst hP hw hK
  obtain⟨xs,x,hq,hx⟩:=hg
  obtain⟨its,rv,p,hz⟩:=I.list hq
  obtain⟨u,hu,ru⟩:=rv.get hx
  obtain⟨f0,f1,f2,f3,f4,f5⟩:=hf it (by simp)
  refine wpAny_pyNext_list_item st p.isList (x:=u) (by simpa using hu) fun h' st' sb=>?_
  have I1:Inv X pins σ H { s with heap:=h' }:=I.turned (t':=s.toks) (fun b o hb e=>(sb.2 b hb).trans e) f0 f1 f3 f4 f5
  obtain⟨o,e,c,d⟩:=id st'
  exact⟨u,rfl,xO (s:={ s with heap:=h' }) e c d (by decide) ⟨x,H,I1,ru,⟨rfl,fun ys hy=>by rw[I.MN hy hq];exact hx⟩,st',fun b hb=>(hf b hb).1⟩⟩
 done:=by
  intro X hP hw hK hc i pins s σ H E I hf st hg
  subst hP hw hK
  obtain⟨xs,hq,hx⟩:=hg
  obtain⟨its,rv,p,hz⟩:=I.list hq
  obtain⟨f0,f1,f2,f3,f4,f5⟩:=hf it (by simp)
  have hl:=rv.length
  exact wpAny_pyNext_list_end (I.ok.hd hc) st p.isList (by simp;omega) fun h' eb=>⟨rfl,I.turned (t':=s.toks) (fun b o hb e=>eb b o hb e) f0 f1 f3 f4 f5⟩
 self:=fun _ _ _ _ _ st h=>wpAny_pyIter_listiter st h
theorem Em{P:Program}{w:World}{K:PySem.W.Frag}{tg:Expr}(a it:Addr):Turn P w K tg (Itt K a) [it] it (fun i h=>h.IsTupleIter it a i) where
 mem:=by simp
 obj:=fun i h st b hb=>by
  have e:b=it:=by simpa using hb
  subst e
  obtain⟨o,e,c,d⟩:=st
  exact⟨o,e,fun v z=>by rw[d] at z;cases z⟩
 keep:=fun i h h' st k=>st.at fun o e=>k it (by simp) o e
 item:=by
  intro X hP hw hK hc i pins s σ H E I hf st hg
  subst hP hw hK
  obtain⟨xs,x,hq,hx⟩:=hg
  obtain⟨its,rv,p,hz⟩:=I.tuple hq
  obtain⟨u,hu,ru⟩:=rv.get hx
  obtain⟨f0,f1,f2,f3,f4,f5⟩:=hf it (by simp)
  refine wpAny_pyNext_tuple_item st (show s.heap.IsTuple a its.toArray from p) (x:=u) (by simpa using hu) fun h' st' sb=>?_
  have I1:Inv X pins σ H { s with heap:=h' }:=I.turned (t':=s.toks) (fun b o hb e=>(sb.2 b hb).trans e) f0 f1 f3 f4 f5
  obtain⟨o,e,c,d⟩:=id st'
  exact⟨u,rfl,xO (s:={ s with heap:=h' }) e c d (by decide) ⟨x,H,I1,ru,⟨rfl,fun ys hy=>by rw[I.JN hy hq];exact hx⟩,st',fun b hb=>(hf b hb).1⟩⟩
 done:=by
  intro X hP hw hK hc i pins s σ H E I hf st hg
  subst hP hw hK
  obtain⟨xs,hq,hx⟩:=hg
  obtain⟨its,rv,p,hz⟩:=I.tuple hq
  obtain⟨f0,f1,f2,f3,f4,f5⟩:=hf it (by simp)
  have hl:=rv.length
  exact wpAny_pyNext_tuple_end (I.ok.hd hc) st (show s.heap.IsTuple a its.toArray from p) (by simp;omega) fun h' eb=>⟨rfl,I.turned (t':=s.toks) (fun b o hb e=>eb b o hb e) f0 f1 f3 f4 f5⟩
 self:=fun _ _ _ _ _ st h=>wpAny_pyIter_tupleiter st h
theorem Fg{P:Program}{w:World}{K:PySem.W.Frag}{tg:Expr}(it:Addr)(lo:Int)(n:Nat):Turn P w K tg (Zw lo n) [it] it (fun i h=>IsRangeIter h it (lo+(i:Nat)*1) ((n:Int)-(i:Nat)) 1) where
 mem:=by simp
 obj:=fun i h st b hb=>by
  have e:b=it:=by simpa using hb
  subst e
  exact⟨_,st,fun v z=>by
   have z':Data.fields _=Data.cell v:=z
   cases z'⟩
 keep:=fun i h h' st k=>k it (by simp) _ st
 item:=by
  intro X hP hw hK hc i pins s σ H E I hf st hg
  subst hP hw hK
  obtain⟨f0,f1,f2,f3,f4,f5⟩:=hf it (by simp)
  have W:=Walks.range (prog:=X.prog) (w:=X.w) (I.ok.hd hc) it lo 1 n
  refine W.item i s _ _ hg st fun v h' tk hv st' kk=>?_
  obtain⟨t,rfl⟩:=hv
  have I1:Inv X pins σ H { s with heap:=h',toks:=tk }:=I.turned (fun b o hb e=>kk b o (by simpa using hb) e) f0 f1 f3 f4 f5
  refine⟨_,rfl,xO (s:={ s with heap:=h',toks:=tk }) (n := "range_iterator") st' rfl rfl (by decide) ⟨.int (lo+i),H,I1,⟨t,?_⟩,⟨rfl,rfl⟩,st',fun b hb=>(hf b hb).1⟩⟩
  rw[Int.mul_one]
 done:=by
  intro X hP hw hK hc i pins s σ H E I hf st hg
  subst hP hw hK
  obtain⟨f0,f1,f2,f3,f4,f5⟩:=hf it (by simp)
  exact wpAny_pyNext_range_end (I.ok.hd hc) st (by have:n<=i:=hg;omega) fun h' eb=>⟨rfl,I.turned (t':=s.toks) (fun b o hb e=>eb b o hb e) f0 f1 f3 f4 f5⟩
 self:=fun _ _ _ _ _ st h=>wpAny_pyIter_rangeiter st h
section
variable{X:Cx}{tg:Expr}
def Z0(K:PySem.W.Frag)(tl:TE):TI:=fun σ H R=>tl σ H fun x H1=>∃a,x=.ref a/\(∃xs,jF K H1 a xs)/\R (Itl K a) H1
def ab3(K:PySem.W.Frag)(tl:TE):TI:=fun σ H R=>tl σ H fun x H1=>∃a,x=.ref a/\(∃xs,jz K H1 a xs)/\R (Itt K a) H1
theorem R4{l:Expr}{tl:TE}(hl:PE X l tl):PI X tg l (Z0 X.K tl):=by
 intro pins s σ H R I h
 refine cJ (hl pins s σ H _ I h) fun v s1 zz=>?_
 obtain⟨x,H1,I1,r1,q1⟩:=zz
 obtain⟨a,e,⟨xs,hq⟩,q⟩:=q1
 subst e
 cases r1
 obtain⟨its,rv,p,hz⟩:=I1.list hq
 refine wpAny_pyIter_list p.isList ?_
 refine⟨s1.heap.objs.size,[s1.heap.objs.size],_,_,H1,rfl,I1.kept (t':=s1.toks) fun b o e=>Heap.get?_push_of_some _ e,JZ a _,⟨_,Heap.get?_push_size _ rfl,rfl,rfl⟩,fun b hb=>?_,q⟩
 have e:b=s1.heap.objs.size:=by simpa using hb
 subst e
 exact I1.yS (Nat.le_refl _) (I1.hok.fresh (Nat.le_refl _))
theorem Xz{l:Expr}{tl:TE}(hl:PE X l tl):PI X tg l (ab3 X.K tl):=by
 intro pins s σ H R I h
 refine cJ (hl pins s σ H _ I h) fun v s1 zz=>?_
 obtain⟨x,H1,I1,r1,q1⟩:=zz
 obtain⟨a,e,⟨xs,hq⟩,q⟩:=q1
 subst e
 cases r1
 obtain⟨its,rv,p,hz⟩:=I1.tuple hq
 refine wpAny_pyIter_tuple (show s1.heap.IsTuple a its.toArray from p) ?_
 refine⟨s1.heap.objs.size,[s1.heap.objs.size],_,_,H1,rfl,I1.kept (t':=s1.toks) fun b o e=>Heap.get?_push_of_some _ e,Em a _,⟨_,Heap.get?_push_size _ rfl,rfl,rfl⟩,fun b hb=>?_,q⟩
 have e:b=s1.heap.objs.size:=by simpa using hb
 subst e
 exact I1.yS (Nat.le_refl _) (I1.hok.fresh (Nat.le_refl _))
def abZ(wi:TI)(g:TG)(tb:TS):TS:=fun D σ H=>wi σ H fun J H1=>∃W:Nat->Nat->St->Hp->Prop,(∃m,W 0 m σ H1)/\∀i m σ H,W i m σ H ->
 (J.stop i H/\D.nx σ H)\/(J.go i H/\∃N:St->Hp->Prop,(∀σ' H',N σ' H'->∃m',m'<m/\W (i+1) m' σ' H')/\∀x H',J.yld i H x H'->g x σ H' fun σ2 H2=>tb { D with nx:=N,ct:=N,bk:=D.nx } σ2 H2)
def vP(fp:List Addr)(h:Heap):List (Addr×Obj):=fp.filterMap fun b=>(h.get? b).map fun o=>(b,o)
theorem jV{fp:List Addr}{h:Heap}{b:Addr}{o:Obj}(hb:b∈fp)(e:h.get? b=some o):(b,o)∈vP fp h:=List.mem_filterMap.mpr ⟨b,hb,by rw[e];rfl⟩
theorem Jw{fp:List Addr}{h:Heap}{p:Addr×Obj}(hp:p∈vP fp h):p.1∈fp/\h.get? p.1=some p.2:=by
 obtain⟨b,hb,e⟩:=List.mem_filterMap.mp hp
 cases q:h.get? b with
 |none=>rw[q] at e;cases e
 |some o=>
  rw[q] at e
  have e':(b,o)=p:=Option.some.inj e
  subst e'
  exact⟨hb,q⟩
theorem Inv.pinned{pins:List (Addr×Obj)}{σ:St}{H:Hp}{s:Shared}{fp:List Addr}(I:Inv X pins σ H s)(hf:∀b∈fp,fB X pins H b)(ho:∀b∈fp,∃o,s.heap.get? b=some o/\∀v,o.data≠.cell v):Inv X (pins++vP fp s.heap) σ H s :=
 I.ni fun p hp=>(List.mem_append.mp hp).elim (fun z=>I.pin p (List.mem_append_right _ z)) fun z=>by
  obtain⟨hb,e⟩:=Jw z
  obtain⟨f0,f1,f2,_⟩:=hf p.1 hb
  obtain⟨o,e',d⟩:=ho p.1 hb
  rw[e] at e';cases e'
  exact⟨e,f0,f1,f2,d⟩
theorem Inv.oV{pins pl:List (Addr×Obj)}{σ:St}{H:Hp}{s:Shared}(I:Inv X (pins++pl) σ H s):Inv X pins σ H s:=I.ni fun p hp=>I.pin p (List.mem_append_right _ (List.mem_append_left _ hp))
theorem Yg{iter:Expr}{body:List Stmt}{wi:TI}{g:TG}{tb:TS}{pos:Pos}(hp:PassesOwn (model X.prog X.w) X.A X.env X.xe)(hc:X.calm=true)(hi:PI X tg iter wi)(hg:PG X tg g)(hb:Ck X body tb)
  (hs:∀x,foldedSetIterable iter X.env x=pure x:=by intro _;rfl):PS X (.For tg iter body [] pos) (abZ wi g tb):=by
 intro pins s σ H D I h
 refine wpAny_For (cJ (hi pins s σ H _ I h) fun v s1 h1=>cJ h1 fun itv s2 h2=>?_) hs
 obtain⟨it,fp,tn,J,H2,e,I2,T,st2,f2,W,⟨m0,w0⟩,turn⟩:=h2
 subst e
 have stat:∀ {H':Hp},(∀b∈fp,H' b=none)->∀b∈fp,fB X pins H' b:=fun hn b hb=>⟨hn b hb,(f2 b hb).2⟩
 refine codeAny_forLoop_any (fun n s'=>∃i σ' H',Inv X pins σ' H' s'/\tn i s'.heap/\(∀b∈fp,H' b=none)/\W i n σ' H') ?_ m0 ⟨0,σ,H2,I2,st2,fun b hb=>(f2 b hb).1,w0⟩
 rintro n s3 ⟨i,σ3,H3,I3,st3,fr3,w3⟩
 rcases turn i n σ3 H3 w3 with ⟨stop,qn⟩ | ⟨go,N,hN,step⟩
 ·refine wpAny_passesOwn hp (cJ (T.done X rfl rfl rfl hc i pins s3 σ3 H3 X.xe I3 (stat fr3) st3 stop) fun r s4 zz=>?_)
  obtain⟨hr,I4⟩:=zz
  subst hr
  exact wpAny_execs_nil ⟨σ3,H3,I4,qn⟩
 ·refine wpAny_passesOwn hp (cJ (T.item X rfl rfl rfl hc i pins s3 σ3 H3 X.xe I3 (stat fr3) st3 go) fun r s4 zz=>?_)
  obtain⟨u,hr,h4⟩:=zz
  subst hr
  refine wpAny_passesOwn hp (cJ h4 fun _ s5 zz=>?_)
  obtain⟨x,H5,I5,r5,y5,st5,fr5⟩:=zz
  have I5':=I5.pinned (stat fr5) (T.obj _ _ st5)
  refine wpAny_passesOwn hp (cJ (hg _ s5 σ3 H5 x u _ I5' r5 (step x H5 y5)) fun _ s6 zz=>?_)
  obtain⟨σ6,H6,I6,q6⟩:=zz
  refine wpAny_passesOwn hp (cJ (hb _ s6 σ6 H6 _ I6 q6) fun f s7 q7=>?_)
  have again:∀ {σ7:St} {H7:Hp},Inv X (pins++vP fp s5.heap) σ7 H7 s7->N σ7 H7->∃m,m<n/\∃i σ' H',Inv X pins σ' H' s7/\tn i s7.heap/\(∀b∈fp,H' b=none)/\W i m σ' H':=fun {σ7 H7} I7 n7=>by
   obtain⟨m',hm,w7⟩:=hN σ7 H7 n7
   refine⟨m',hm,i+1,σ7,H7,I7.oV,T.keep _ _ _ st5 fun b hb o e=>(I7.pin (b,o) (List.mem_append_right _ (List.mem_append_right _ (jV hb e)))).1,fun b hb=>?_,w7⟩
   obtain⟨o,e,d⟩:=T.obj _ _ st5 b hb
   exact (I7.pin (b,o) (List.mem_append_right _ (List.mem_append_right _ (jV hb e)))).2.1
  cases f with
  |next=>obtain⟨σ7,H7,I7,n7⟩:=q7;exact again I7 n7
  |cont=>obtain⟨σ7,H7,I7,n7⟩:=q7;exact again I7 n7
  |brk=>obtain⟨σ7,H7,I7,q7⟩:=q7;exact⟨σ7,H7,I7.oV,q7⟩
  |ret v=>obtain⟨x7,σ7,H7,I7,r7,q7⟩:=q7;exact⟨x7,σ7,H7,I7.oV,r7,q7⟩
end
abbrev R2:=V->V->Hp->VK->Prop
def gJ(X:Cx)(f:Value->Value->Sem Value)(r:R2):Prop :=
 ∀(pins:List (Addr×Obj)) (s:Shared) (σ:St) (H:Hp) (x y:V) (v u:Value) (Q:VK),Inv X pins σ H s->RelV x v->RelV y u->r x y H Q ->
  wpAny (model X.prog X.w) X.A (f v u) (EP X pins σ Q) X.xe s
def UnR(X:Cx)(f:Value->Sem Value)(r:V->Hp->VK->Prop):Prop :=
 ∀(pins:List (Addr×Obj)) (s:Shared) (σ:St) (H:Hp) (x:V) (v:Value) (Q:VK),Inv X pins σ H s->RelV x v->r x H Q ->
  wpAny (model X.prog X.w) X.A (f v) (EP X pins σ Q) X.xe s
def cR(X:Cx)(f:Value)(r:List V->Hp->VK->Prop):Prop :=
 ∀(pins:List (Addr×Obj)) (s:Shared) (σ:St) (H:Hp) (xs:List V) (us:List Value) (Q:VK),Inv X pins σ H s->Vals xs us->r xs H Q ->
  wpAny (model X.prog X.w) X.A (call f us) (EP X pins σ Q) X.xe s
def tOp(r:R2)(ta tb:TE):TE:=fun σ H Q=>ta σ H fun x H1=>tb σ H1 fun y H2=>r x y H2 Q
def tUn(r:V->Hp->VK->Prop)(ta:TE):TE:=fun σ H Q=>ta σ H fun x H1=>r x H1 Q
def rI(C:Int->Int->Prop)(g:Int->Int->V):R2:=fun x y H Q=>∃i j,x=.int i/\y=.int j/\C i j/\Q (g i j) H
def VD(g:Int->Int->V):R2:=fun x y H Q=>∃i j,x=.int i/\y=.int j/\Q (g i j) H
def rU(g:Int->V):V->Hp->VK->Prop:=fun x H Q=>∃i,x=.int i/\Q (g i) H
section
variable{X:Cx}{a b c:Expr}{ta tb tc:TE}{pos:Pos}
theorem Wg(ha:PE X a ta)(hb:PE X b tb){pins:List (Addr×Obj)}{s:Shared}{σ:St}{H:Hp}{R:V->V->Hp->Prop}(I:Inv X pins σ H s)
  (h:ta σ H fun x H1=>tb σ H1 fun y H2=>R x y H2) {Q:Value->Shared->Prop} {f:Value->Value->Sem Value}
  (hf:∀v u s2 x y H2,Inv X pins σ H2 s2->RelV x v->RelV y u->R x y H2->wpAny (model X.prog X.w) X.A (f v u) Q X.xe s2) :
  wpAny (model X.prog X.w) X.A (eval a X.env) (fun v s₁=>wpAny (model X.prog X.w) X.A (eval b X.env) (fun u s₂=>wpAny (model X.prog X.w) X.A (f v u) Q X.xe s₂) X.xe s₁) X.xe s:=by
 refine cJ (ha pins s σ H _ I h) fun v s1 zz=>?_
 obtain⟨x,H1,I1,r1,q1⟩:=zz
 refine cJ (hb pins s1 σ H1 _ I1 q1) fun u s2 zz=>?_
 obtain⟨y,H2,I2,r2,q2⟩:=zz
 exact hf v u s2 x y H2 I2 r1 r2 q2
theorem aa3{op:Operator}{r:R2}(ho:gJ X (binaryOp op) r)(ha:PE X a ta)(hb:PE X b tb):PE X (.BinOp a op b pos) (tOp r ta tb):=by
 intro pins s σ H Q I h
 exact wpAny_BinOp (Wg ha hb I h fun v u s2 x y H2 I2 rx ry q=>ho pins s2 σ H2 x y v u Q I2 rx ry q)
theorem Z9{op:UnaryOp}{r:V->Hp->VK->Prop}(ho:UnR X (unaryOp op) r)(ha:PE X a ta):PE X (.UnaryOp op a pos) (tUn r ta):=by
 intro pins s σ H Q I h
 exact UnaryOp_ (cJ (ha pins s σ H _ I h) fun v s1 ⟨x,H1,I1,r1,q1⟩=>ho pins s1 σ H1 x v Q I1 r1 q1)
theorem Zt{f:Value->Value->Sem Value}{C:Int->Int->Prop}{g:Int->Int->Int}
  (rule:∀(i j:Int) (t u:Tok) (s:Shared) (Q:Value->Shared->Prop) (E:Value->Shared->Prop),C i j->Q (.int (g i j) s.toks) { s with toks:=s.toks+1 }->wpAny (model X.prog X.w) X.A (f (.int i t) (.int j u)) Q E s) :
  gJ X f (rI C fun i j=>.int (g i j)):=by
 intro pins s σ H x y v u Q I rx ry h
 obtain⟨i,j,rfl,rfl,hc,q⟩:=h
 obtain⟨t,rfl⟩:=rx
 obtain⟨t',rfl⟩:=ry
 exact rule i j t t' s _ _ hc ⟨.int (g i j),H,I.tok _,⟨_,rfl⟩,q⟩
theorem abd{f:Value->Value->Sem Value}{g:Int->Int->Int}
  (rule:∀(i j:Int) (t u:Tok) (s:Shared) (Q:Value->Shared->Prop) (E:Value->Shared->Prop),Q (.int (g i j) s.toks) { s with toks:=s.toks+1 }->wpAny (model X.prog X.w) X.A (f (.int i t) (.int j u)) Q E s) :
  gJ X f (VD fun i j=>.int (g i j)):=by
 intro pins s σ H x y v u Q I rx ry h
 obtain⟨i,j,rfl,rfl,q⟩:=h
 obtain⟨t,rfl⟩:=rx
 obtain⟨t',rfl⟩:=ry
 exact rule i j t t' s _ _ ⟨.int (g i j),H,I.tok _,⟨_,rfl⟩,q⟩
theorem WW{f:Value->Value->Sem Value}{g:Int->Int->Bool}
  (rule:∀(i j:Int) (t u:Tok) (s:Shared) (Q:Value->Shared->Prop) (E:Value->Shared->Prop),Q (.bool (g i j)) s->wpAny (model X.prog X.w) X.A (f (.int i t) (.int j u)) Q E s) :
  gJ X f (VD fun i j=>.bl (g i j)):=by
 intro pins s σ H x y v u Q I rx ry h
 obtain⟨i,j,rfl,rfl,q⟩:=h
 obtain⟨t,rfl⟩:=rx
 obtain⟨t',rfl⟩:=ry
 exact rule i j t t' s _ _ ⟨.bl (g i j),H,I,rfl,q⟩
def SJ(i j:Int):Prop:=0<=j/\j<=1000000/\i.natAbs<2 ^ 64
def XH(i j:Int):Prop:=(-(2 ^ 64)<i/\i<2 ^ 64)\/(-(2 ^ 64)<j/\j<2 ^ 64)
theorem XH.ok{i j:Int}(h:XH i j):IntMulOk i j:=by
 rcases h with ⟨h1,h2⟩ | ⟨h1,h2⟩
 ·exact .of_left (intBits_le_64 h1 h2)
 ·exact .of_right (intBits_le_64 h1 h2)
theorem X7:gJ X (binaryOp .Add) (VD fun i j=>.int (i+j)):=abd fun _ _ _ _ _ _ _ q=>add_int q
theorem Xq:gJ X (binaryOp .Sub) (VD fun i j=>.int (i-j)):=abd fun _ _ _ _ _ _ _ q=>sub_int q
theorem YJ:gJ X (binaryOp .Mod) (rI (fun _ j=>0<j) fun i j=>.int (i%j)):=Zt fun i j _ _ _ _ _ hc q=>by
 have h1:(0:Int)<j:=hc
 exact mod_int' (by omega) (by rw[Int.fmod_eq_emod_of_nonneg i (by omega)];exact q)
theorem Tg:gJ X (binaryOp .Mod) (rI (fun _ j=>j≠0) fun i j=>.int (i.fmod j)):=Zt fun _ _ _ _ _ _ _ hc q=>mod_int' hc q
theorem Wu:gJ X (binaryOp .Pow) (rI SJ fun i j=>.int (i ^ j.toNat)):=Zt fun _ _ _ _ _ _ _ hc q=>pow_int_small hc.1 hc.2.1 hc.2.2 q
theorem unI{f:Value->Sem Value}{g:Int->Int}
  (rule:∀(i:Int) (t:Tok) (s:Shared) (Q:Value->Shared->Prop) (E:Value->Shared->Prop),Q (.int (g i) s.toks) { s with toks:=s.toks+1 }->wpAny (model X.prog X.w) X.A (f (.int i t)) Q E s) :
  UnR X f (rU fun i=>.int (g i)):=by
 intro pins s σ H x v Q I rx h
 obtain⟨i,rfl,q⟩:=h
 obtain⟨t,rfl⟩:=rx
 exact rule i t s _ _ ⟨.int (g i),H,I.tok _,⟨_,rfl⟩,q⟩
theorem Yl:UnR X (unaryOp .USub) (rU fun i=>.int (-i)):=unI fun _ _ _ _ _ q=>neg_int q
end
section
variable{X:Cx}{a b c:Expr}{ta tb tc:TE}{pos:Pos}
theorem aac:gJ X (compareOp .Lt) (VD fun i j=>.bl (decide (i<j))):=WW fun _ _ _ _ _ _ _ q=>lt_int q
theorem ZZ:gJ X (compareOp .LtE) (VD fun i j=>.bl (decide (i<=j))):=WW fun _ _ _ _ _ _ _ q=>le_int q
theorem aas:gJ X (compareOp .Gt) (VD fun i j=>.bl (decide (j<i))):=WW fun _ _ _ _ _ _ _ q=>gt_int q
theorem Nv(b:Expr){op:CmpOp}(h:op≠.In:=by decide)(h2:op≠.NotIn:=by decide):behindInMarks op b=false:=by
 have e1:(op==CmpOp.In)=false:=by cases op <;> first | rfl | exact absurd rfl h
 have e2:(op==CmpOp.NotIn)=false:=by cases op <;> first | rfl | exact absurd rfl h2
 cases b <;> simp[behindInMarks,e1,e2]
theorem Th{op:CmpOp}{r:R2}(ho:gJ X (compareOp op) r)(ha:PE X a ta)(hb:PE X b tb)(hm:behindInMarks op b=false):PE X (.Compare a [op] [b] pos) (tOp r ta tb):=by
 intro pins s σ H Q I h
 exact wpAny_Compare1 (Wg ha hb I h fun v u s2 x y H2 I2 rx ry q=>ho pins s2 σ H2 x y v u Q I2 rx ry q) hm
def Wd(t:TE):TT:=fun σ H Q=>t σ H fun x H'=>∃k,x=.bl k/\Q k H'
theorem Vi{op:CmpOp}{r:R2}(ho:gJ X (compareOp op) r)(ha:PE X a ta)(hb:PE X b tb)(hm:behindInMarks op b=false):PT X (.Compare a [op] [b] pos) (Wd (tOp r ta tb)):=by
 intro pins s σ H Q I h
 refine wpAny_isTrue_Compare1 (cJ (ha pins s σ H _ I h) fun v s1 ⟨x,H1,I1,r1,q1⟩=>cJ (hb pins s1 σ H1 _ I1 q1) fun u s2 ⟨y,H2,I2,r2,q2⟩=>
  cJ (ho pins s2 σ H2 x y v u _ I2 r1 r2 q2) fun c s3 ⟨z,H3,I3,r3,k,e,q3⟩=>?_) hm
 subst e
 cases r3
 exact wpAny_truthy_bool ⟨H3,I3,q3⟩
def EY(r r':R2)(ta tb tc:TE):TE:=fun σ H Q=>ta σ H fun x H1=>tb σ H1 fun y H2=>r x y H2 fun z H3=>∃k,z=.bl k /\
 (if k=true then tc σ H3 fun w' H4=>r' y w' H4 Q else Q (.bl false) H3)
theorem O5{op op':CmpOp}{r r':R2}(ho:gJ X (compareOp op) r)(ho':gJ X (compareOp op') r')(ha:PE X a ta)(hb:PE X b tb)(hc:PE X c tc)
  (hm:lastMarks [op,op'] [b,c]=false:=by with_unfolding_all rfl):PE X (.Compare a [op,op'] [b,c] pos) (EY r r' ta tb tc):=by
 intro pins s σ H Q I h
 refine Compare_chain (cJ (ha pins s σ H _ I h) fun v s1 ⟨x,H1,I1,r1,q1⟩=>chain_link (cJ (hb pins s1 σ H1 _ I1 q1) fun u s2 ⟨y,H2,I2,r2,q2⟩=>
  cJ (ho pins s2 σ H2 x y v u _ I2 r1 r2 q2) fun d s3 ⟨z,H3,I3,r3,k,e,q3⟩=>?_)) hm
 subst e
 cases r3
 refine wpAny_truthy_bool ?_
 cases k with
 |false=>exact ite_ff ⟨.bl false,H3,I3,rfl,q3⟩
 |true=>exact ite_tt (chain_last (cJ (hc pins s3 σ H3 _ I3 q3) fun w' s4 ⟨z',H4,I4,r4,q4⟩=>ho' pins s4 σ H4 y z' u w' Q I4 r2 r4 q4))
theorem Py{op op':CmpOp}{r r':R2}(ho:gJ X (compareOp op) r)(ho':gJ X (compareOp op') r')(ha:PE X a ta)(hb:PE X b tb)(hc:PE X c tc)
  (hm:lastMarks [op,op'] [b,c]=false:=by with_unfolding_all rfl):PT X (.Compare a [op,op'] [b,c] pos) (Wd (EY r r' ta tb tc)):=by
 intro pins s σ H Q I h
 refine isTrue_chain (cJ (ha pins s σ H _ I h) fun v s1 ⟨x,H1,I1,r1,q1⟩=>test_link (cJ (hb pins s1 σ H1 _ I1 q1) fun u s2 ⟨y,H2,I2,r2,q2⟩=>
  cJ (ho pins s2 σ H2 x y v u _ I2 r1 r2 q2) fun d s3 ⟨z,H3,I3,r3,k,e,q3⟩=>?_)) hm
 subst e
 cases r3
 refine wpAny_truthy_bool ?_
 cases k with
 |false=>
  obtain⟨k',e',q'⟩:=q3
  cases e'
  exact ite_ff ⟨H3,I3,q'⟩
 |true=>
  refine ite_tt (test_last (cJ (hc pins s3 σ H3 _ I3 q3) fun w' s4 ⟨z',H4,I4,r4,q4⟩=>cJ (ho' pins s4 σ H4 y z' u w' _ I4 r2 r4 q4) fun d' s5 zz=>?_))
  obtain⟨z2,H5,I5,r5,k2,e2,q5⟩:=zz
  subst e2
  cases r5
  exact wpAny_truthy_bool ⟨H5,I5,q5⟩
theorem uF:(sizeLine:Nat)<2 ^ 63:=by rw[sizeLine_eq];decide
theorem Ge:gJ X (binaryOp .Add) (fun x y H Q=>∃i j,x=.str i/\y=.str j/\i.length+j.length<=sizeLine/\Q (.str (i++j)) H):=by
 intro pins s σ H x y v u Q I rx ry h
 obtain⟨i,j,rfl,rfl,hz,q⟩:=h
 obtain⟨t,rfl⟩:=rx
 obtain⟨t',rfl⟩:=ry
 exact add_str (fun t' tk=>⟨.str (i++j),H,I.tok _,⟨_,rfl⟩,q⟩) hz
theorem vals1{x:V}{us:List Value}(r:Vals [x] us):∃u,us=[u]/\RelV x u:=by
 cases r with
 |cons r1 r2=>cases r2;exact⟨_,rfl,r1⟩
theorem vals2{x y:V}{us:List Value}(r:Vals [x,y] us):∃u w',us=[u,w']/\RelV x u/\RelV y w':=by
 cases r with
 |cons r1 r2=>
  cases r2 with
  |cons r3 r4=>cases r4;exact⟨_,_,rfl,r1,r3⟩
theorem Oc:cR X (.builtin "abs") (fun xs H Q=>∃i,xs=[.int i]/\Q (.int (if i<0 then -i else i)) H):=by
 intro pins s σ H xs us Q I r h
 obtain⟨i,rfl,q⟩:=h
 obtain⟨u,rfl,t,rfl⟩:=vals1 r
 exact call_abs_int fun u tk=>⟨.int (if i<0 then -i else i),H,I.tok _,⟨_,rfl⟩,q⟩
end
structure X4(h:Heap)(x dx C:Addr)(mA:Str->Option Value):Prop where
 obj:h.get? x=some (PySem.W.instObj C dx)
 ns:h.Ns1 dx mA
 ne:dx≠x
theorem Mg{h:Heap}{dx:Addr}{mA:Str->Option Value}(n:h.Ns1 dx mA):∃od,h.get? dx=some od/\∀name,PySem.W.lookIn name od=some (mA name):=by
 obtain⟨o,es,ep,ho,hd,hk,_,hm⟩:=n
 refine⟨o,ho,fun name=>?_⟩
 have e:=hm name
 unfold nsFind findBy at e
 rw[←Array.find?_toList] at e
 unfold PySem.W.lookIn
 rw[hd]
 dsimp only
 split
 ·rename_i y q
  rw[q] at e
  exact congrArg some e
 ·rename_i q
  rw[q] at e
  have a:es.toList.any (·.refKey)=false:=by
   rw[List.any_eq_false]
   intro y hy
   obtain⟨z,t,hkey⟩:=hk y (Array.mem_toList_iff.mp hy)
   simp[DictEntry.refKey,hkey]
  have a':¬es.toList.any (·.refKey)=true:=by rw[a];exact Bool.false_ne_true
  rw[if_neg a']
  exact congrArg some e
theorem X4.look{h:Heap}{x dx C:Addr}{mA:Str->Option Value}(I:X4 h x dx C mA):∃od,PySem.W.InstAt h x (PySem.W.instObj C dx) C (some od)/\∀name,PySem.W.lookIn name od=some (mA name) :=
 let ⟨od,ho,hl⟩:=Mg I.ns
 ⟨od,⟨I.obj,rfl,rfl,ho⟩,hl⟩
theorem uD.some_of{v:V}{o:Option Value}(r:uD (some v) o):∃u,o=some u/\RelV v u:=by
 cases o with
 |none=>exact (show False from r).elim
 |some u=>exact⟨u,rfl,r⟩
section
variable{P:Program}{w:World}{H H':Hp}{h h':Heap}{a C dx:Addr}{fs fs':List (Str×V)}
theorem Uq(hok:oH P w H h)(e:H a=some (.ins C dx fs)):∃mA,X4 h a dx C mA/\(∀f,uD (fs.lookup f) (mA f))/\PySem.Within mA (fs.map (·.1))/\fs.length<=1000/\H dx=some (.own a):=by
 obtain⟨d,z,ne,ob,mA,n,r,q⟩:=(show bZ P w H h a (.ins C dx fs) from hok a _ e)
 exact⟨mA,⟨ob,n,ne⟩,r,q,z,d⟩
end
structure Cls(K:PySem.W.Frag)(C:Addr):Prop where
 pg:PySem.W.plainGet K C Str.empty=true
 hd:PySem.W.hasDictIn K C=true
 po:PySem.W.plainOver K C=true
 sa:PySem.W.findIn K (.ref C) "__setattr__" = some (some (.builtin "object.__setattr__"))
theorem Cls.get{K:PySem.W.Frag}{C:Addr}(c:Cls K C)(f:Str):PySem.W.plainGet K C f=true:=c.pg
section
variable{X:Cx}{pins:List (Addr×Obj)}{σ:St}{H:Hp}{s:Shared}{A:Around}{E:Value->Shared->Prop}{Q:Value->Shared->Prop}{c:Value}{b:Bool}
inductive tK(K:PySem.W.Frag)(H:Hp):V->Value->Prop where
 |non:tK K H .non (.type "NoneType")
 |bl (x:Bool):tK K H (.bl x) (.type "bool")
 |int (i:Int):tK K H (.int i) (.type "int")
 |str (x:Str):tK K H (.str x) (.type "str")
 |flt (x:UInt64):tK K H (.flt x) (.type "float")
 |lst {a:Addr} {xs:List V} (e:H a=some (.lst xs)):tK K H (.ref a) (.type "list")
 |frz {a:Addr} {o:Obj} {xs:List V} (e:H a=some (.frz o (.lst xs))):tK K H (.ref a) (.type "list")
 |tup {a:Addr} {xs:List V} (e:H a=some (.tup xs)):tK K H (.ref a) (.type "tuple")
 |dK {a:Addr} {kvs:List (Key×V)} (e:H a=some (.dK kvs)):tK K H (.ref a) (.type "dict")
 |dT {a:Addr} {kvs:List (List Key×V)} (e:H a=some (.dT kvs)):tK K H (.ref a) (.type "dict")
 |ins {a C dx:Addr} {fs:List (Str×V)} (e:H a=some (.ins C dx fs)) (cl:Cls K C) (ha:PySem.W.findIn K (.ref C) "__class__" = some (some (.builtin "object.__class__")))
   (hn:PySem.W.specialIn K (.builtin "object.__class__") "__get__" = some (some (.builtin "getset_descriptor.__get__"))) (htk:PySem.W.takesIn K (.builtin "object.__class__")=some true)
   (hm:PySem.W.mroIn K C (.type "object")=some true):tK K H (.ref a) (.ref C)
theorem gR{x:V}{u t:Value}(I:Inv X pins σ H s)(rx:RelV x u)(ty:tK X.K H x t)(e:PySem.W.kitOne X.K t c=some b)(h:∀tk,Q (.bool b) { s with toks:=tk }) :
  wpAny (model X.prog X.w) A (call (.builtin "isinstance") [u,c]) Q E s:=by
 cases ty with
 |non=>cases (show u=Value.none from rx);exact PySem.W.kia_one PySem.W.kitx_none I.tV True.intro e (fun z=>nomatch z) h
 |bl y=>cases (show u=Value.bool y from rx);exact PySem.W.kia_one PySem.W.kitx_bool I.tV True.intro e (fun z=>nomatch z) h
 |int i=>obtain⟨t,q⟩:=(show ∃t,u=Value.int i t from rx);cases q;exact PySem.W.kia_one PySem.W.kitx_int I.tV True.intro e (fun z=>nomatch z) h
 |str y=>obtain⟨t,q⟩:=(show ∃t,u=Value.str y t from rx);cases q;exact PySem.W.kia_one PySem.W.kitx_str I.tV True.intro e (fun z=>nomatch z) h
 |flt y=>obtain⟨t,q⟩:=(show ∃t,u=Value.float y t from rx);cases q;exact PySem.W.kia_one PySem.W.kitx_float I.tV True.intro e (fun z=>nomatch z) h
 |@lst a xs ea=>
  cases (show u=Value.ref a from rx)
  obtain⟨_,_,n,_,h1⟩:=(show bZ X.prog X.w H s.heap a (.lst xs) from I.hok a _ ea)
  exact PySem.W.kia_one PySem.W.kitx_list I.tV ⟨_,h1,rfl⟩ e (fun z=>nomatch z) h
 |@frz a ob xs ea=>
  cases (show u=Value.ref a from rx)
  obtain⟨_,_,_,n,_,h1⟩:=(show bZ X.prog X.w H s.heap a (.frz ob (.lst xs)) from I.hok a _ ea)
  exact PySem.W.kia_one PySem.W.kitx_list I.tV ⟨_,h1,rfl⟩ e (fun z=>nomatch z) h
 |@tup a xs ea=>
  cases (show u=Value.ref a from rx)
  obtain⟨_,_,_,p⟩:=(show bZ X.prog X.w H s.heap a (.tup xs) from I.hok a _ ea)
  obtain⟨o,h1,h2,_⟩:=p
  exact PySem.W.kia_one PySem.W.kitx_tuple I.tV ⟨o,h1,h2⟩ e (fun z=>nomatch z) h
 |@dK a kvs ea=>
  cases (show u=Value.ref a from rx)
  obtain⟨_,_,vs,_,p⟩:=(show bZ X.prog X.w H s.heap a (.dK kvs) from I.hok a _ ea)
  obtain⟨o,es,ep,h1,h2,_⟩:=p
  exact PySem.W.kia_one PySem.W.kitx_dict I.tV ⟨o,h1,h2.1⟩ e (fun z=>nomatch z) h
 |@dT a kvs ea=>
  cases (show u=Value.ref a from rx)
  obtain⟨_,_,xs,_,o,es,ep,h1,h2,_⟩:=(show bZ X.prog X.w H s.heap a (.dT kvs) from I.hok a _ ea)
  exact PySem.W.kia_one PySem.W.kitx_dict I.tV ⟨o,h1,h2.1⟩ e (fun z=>nomatch z) h
 |@ins a C dx fs ea cl ha hn htk hm=>
  cases (show u=Value.ref a from rx)
  obtain⟨mA,O,_⟩:=Uq I.hok ea
  obtain⟨od,J,_⟩:=O.look
  exact PySem.W.kia_one (PySem.W.kitx_own (cl.get _) cl.hd ha hn htk hm) I.tV J e (fun z=>nomatch z) h
end
structure eO(k:Nat)(A:Around):Prop where
 hd:A.handled=none
 dp:A.depth+3*k+5<recursionLimit
 un:A.units+16*k+200<cLine
theorem eO.mono{j k:Nat}{A:Around}(r:eO k A)(h:j<=k):eO j A:=⟨r.hd,by have:=r.dp;omega,by have:=r.un;omega⟩
theorem eO.deeper{k:Nat}{A:Around}(r:eO (k+1) A)(env:Env):eO k (A.deeper env) :=
 ⟨r.hd,by have:=r.dp;show A.depth+1+3*k+5<_;omega,by have:=r.un;show A.units+3+16*k+200<_;omega⟩
theorem eO.in1{k:Nat}{A:Around}(r:eO (k+1) A):eO k A.in1 :=
 ⟨r.hd,by have:=r.dp;show A.depth+3*k+5<_;omega,by have:=r.un;show A.units+1+16*k+200<_;omega⟩
theorem eO.depth{k:Nat}{A:Around}(r:eO k A):A.depth<recursionLimit:=by have:=r.dp;omega
theorem eO.units{k:Nat}{A:Around}(r:eO k A):A.units+64<cLine:=by have:=r.un;omega
theorem eO.qJ{k:Nat}{A:Around}(r:eO k A):A.units<cLine:=by have:=r.un;omega
def Ve:TA:=fun _ H Q=>Q [] H
def Iv(ta:TE)(tr:TA):TA:=fun σ H Q=>ta σ H fun x H1=>tr σ H1 fun xs H2=>Q (x::xs) H2
section
variable{X:Cx}{e:Expr}{es:List Expr}{te:TE}{t:TA}{pos:Pos}
theorem Rg:PA X [] Ve:=fun _ _ _ _ H Q I h=>Calls.spliced_nil ⟨[],H,I,.nil,h⟩
theorem Hq(ha:PE X e te)(hr:PA X es t)(hs:starEach (e::es) X.env=(false,eval e X.env)::starEach es X.env:=by rfl):PA X (e::es) (Iv te t):=by
 intro pos pins s σ H Q I h
 rw[hs]
 show wpAny _ _ (spliced ((false,eval e X.env)::backTo pos (starEach es X.env))) _ _ s
 refine Calls.spliced_cons (cJ (ha pins s σ H _ I h) fun u s1 zz=>?_)
 obtain⟨x,H1,I1,r1,q1⟩:=zz
 exact cJ (hr pos pins s1 σ H1 _ I1 q1) fun us s2 ⟨xs,H2,I2,r2,q2⟩=>⟨x::xs,H2,I2,.cons r1 r2,q2⟩
def abt(t:TA):TE:=fun σ H Q=>t σ H fun xs H1=>xs.length<=sizeLine/\∀p,H1 p=none->Q (.ref p) (upd H1 p (.tup xs))
def acP(t:TA):TE:=fun σ H Q=>t σ H fun xs H1=>xs.length<=sizeLine/\∀p,H1 p=none->Q (.ref p) (upd H1 p (.lst xs))
theorem YG{x1}(h:PA X es t):PE X (.Tuple es x1 pos) (abt t):=by
 intro pins s σ H Q I hq
 refine wpAny_Tuple_spliced (cJ (h pos pins s σ H _ I hq) fun us s1 ⟨xs,H1,I1,r,z,q⟩=>⟨by rw[←r.length];exact z,?_⟩)
 have hf:H1 s1.heap.objs.size=none:=I1.hok.fresh (Nat.le_refl _)
 refine⟨.ref s1.heap.objs.size,upd H1 s1.heap.objs.size (.tup xs),I1.laid (t':=s1.toks) (fun b u e=>Heap.get?_push_of_some _ e) (Nat.le_refl _) ?_,rfl,q _ hf⟩
 exact⟨z,us,r,⟨_,Heap.get?_push_size _ rfl,rfl,_,rfl,rfl⟩⟩
theorem X5(h:PA X es t):PE X (.List es pos) (acP t):=by
 intro pins s σ H Q I hq
 refine wpAny_List_spliced (cJ (h pos pins s σ H _ I hq) fun us s1 ⟨xs,H1,I1,r,z,q⟩=>⟨by rw[←r.length];exact z,?_⟩)
 have hf:H1 s1.heap.objs.size=none:=I1.hok.fresh (Nat.le_refl _)
 refine⟨.ref s1.heap.objs.size,upd H1 s1.heap.objs.size (.lst xs),I1.laid (t':=s1.toks) (fun b u e=>Heap.get?_push_of_some _ e) (Nat.le_refl _) ?_,rfl,q _ hf⟩
 exact⟨z,us,0,r,Heap.get?_push_size _ rfl⟩
end
abbrev Sp:=List V->Hp->VK->XK->Prop
abbrev U5:=List Env->Hp->Shared->XK->Value->Shared->Prop
structure SN(P:Program)(w:World)(K:PySem.W.Frag)(mg:Str->Option Value)(base:Heap)(A:Around)(outer:List Env)(s:Shared)(H:Hp):Prop where
 frames:A.frames=some outer
 mod:Mod K mg base
 bs:∀b o,base.get? b=some o->s.heap.get? b=some o/\H b=none
 bsz:base.objs.size<=s.heap.objs.size
 qW:s.heap.FunFrames base outer
 frf:∀b∈frs outer,H b=none
 hok:oH P w H s.heap
 bare:AllBare s.gens
def CE(outer:List Env)(P:Program)(w:World)(H:Hp)(s:Shared)(Q:VK)(u:Value)(s':Shared):Prop :=
 ∃v H',s'.os=s.os/\AllBare s'.gens/\Un (frs outer) [] H H' s.heap s'.heap/\oH P w H' s'.heap/\RelV v u/\Q v H'
def CR(CX:U5)(outer:List Env)(P:Program)(w:World)(H:Hp)(s:Shared)(Q:VK)(E:XK)(r:Result)(s':Shared):Prop :=
 match r with
 |.ok (.ret u)=>CE outer P w H s Q u s'
 |.ok _=>False
 |.error e=>CX outer H s E e s'
structure vX(P:Program)(w:World)(K:PySem.W.Frag)(mg:Str->Option Value)(base:Heap)(CX:U5)(k:Nat)(f:Addr)(fd:FuncData)(ps:List Str)(sp:Sp):Prop where
 len:∀vs H Q E,sp vs H Q E->vs.length=ps.length
 run:∀(A:Around) (outer:List Env) (s:Shared) (H:Hp) (args:Args) (us:List Value) (vs:List V) (Q:VK) (E:XK),eO k A->SN P w K mg base A outer s H->BindsTo s fd args (ps.zip us)->Vals vs us->sp vs H Q E ->
  codeAny (model P w) A (.call (.ref f) args) (CR CX outer P w H s Q E) s
section
variable{X:Cx}{pins:List (Addr×Obj)}{σ:St}{H:Hp}{s s':Shared}
theorem Inv.env0(I:Inv X pins σ H s):SN X.prog X.w X.K X.mg X.base X.A X.stack s H :=
 ⟨I.ok.frames,I.ok.mod,I.bs,Nat.le_trans I.ok.bsz I.sz,I.stack,I.Ii,I.hok,I.bare⟩
theorem Inv.after{Q:VK}{u:Value}(I:Inv X pins σ H s)(h:CE X.stack X.prog X.w H s Q u s'):EP X pins σ Q u s':=by
 obtain⟨v,H',os,bare,un,hok,r,q⟩:=h
 obtain⟨hh,g,d,t,os'⟩:=s'
 obtain rfl:os'=s.os:=os
 exact⟨v,H',I.call (h':=hh) (g':=g) (d':=d) (t':=t) (ch:=[]) un hok bare (fun b z=>absurd z (by simp)),r,q⟩
end
def aa5(sp:Sp)(dvs:List V)(E:XK)(t:TA):TE:=fun σ H Q=>t σ H fun vs H1=>sp (vs++dvs) H1 Q E
def Binds(K:PySem.W.Frag)(fd:FuncData)(ps:List Str)(ds:List Value):Prop :=
 ∀(s:Shared) (us:List Value),K.In s.heap->(us++ds).length=ps.length->BindsTo s fd ⟨us,[]⟩ (ps.zip (us++ds))
theorem Binds.all{K:PySem.W.Frag}{fd:FuncData}{ps:List Str}(h:∀us:List Value,us.length=ps.length->bindArgs fd ⟨us,[]⟩=pure (ps.zip us)):Binds K fd ps []:=fun s us _ hl=>by
 rw[List.append_nil] at hl ⊢
 exact .of_eq (h us hl)
def Passes(CX:U5)(X:Cx)(E:XK):Prop:=∀(pins:List (Addr×Obj)) (σ:St) (H:Hp) (s:Shared) (e:Value) (s':Shared),Inv X pins σ H s->CX X.stack H s E e s'->X.xe e s'
section
variable{X:Cx}{CX:U5}{k:Nat}{f C:Addr}{fd:FuncData}{ps:List Str}{sp:Sp}{dvs:List V}{ds:List Value}{E:XK}{x m:Str}{p pos apos:Pos}{e o:Expr}{es:List Expr}{ta:TE}{t:TA}
theorem WT{pins:List (Addr×Obj)}{σ:St}{H:Hp}{s:Shared}{Q:VK}{us:List Value}{vs:List V}(F:vX X.prog X.w X.K X.mg X.base CX k f fd ps sp)(hr:eO k X.A)(hb:Binds X.K fd ps ds)(hd:Vals dvs ds)(hx:Passes CX X E)
  (I:Inv X pins σ H s) (r:Vals vs us) (h:sp (vs++dvs) H Q E):wpAny (model X.prog X.w) X.A (call (.ref f) us) (EP X pins σ Q) X.xe s:=by
 have r2:Vals (vs++dvs) (us++ds):=r.append hd
 have hl:(us++ds).length=ps.length:=by rw[←r2.length];exact F.len _ _ _ _ h
 refine wpAny_call (codeAny_mono (F.run X.A X.stack s H ⟨us,[]⟩ (us++ds) (vs++dvs) Q E hr I.env0 (hb s us I.tV hl) r2 h) fun r s' hq=>?_)
 cases r with
 |error e=>exact hx pins σ H s e s' I hq
 |ok fl=>
  cases fl with
  |ret u=>exact I.after hq
  |next=>exact False.elim hq
  |brk=>exact False.elim hq
  |cont=>exact False.elim hq
theorem Vb(F:vX X.prog X.w X.K X.mg X.base CX k f fd ps sp)(hr:eO k X.A)(hg:Gl X x)(hm:X.mg x=some (.ref f))(hk:PySem.W.keepIn X.K (.ref f)=true)(hb:Binds X.K fd ps ds)(hd:Vals dvs ds)(hx:Passes CX X E)
  (ha:PA X (e::es) t) (hdb:(x==("__debug__" : Str))=false:=by decide) (he:starEach (e::es) X.env=(false,eval e X.env)::starEach es X.env:=by rfl) (hpl:(backTo pos (starEach es X.env)).any (·.1)=false:=by rfl) :
  PE X (.Call (.Name x p) (e::es) [] pos) (aa5 sp dvs E t):=by
 intro pins s σ H Q I h
 refine wpAny_Call_Name_kw (Ik I hg hm ?_ hdb)
 refine PySem.W.callWith_K (h₀:=X.base) I.ok.mod.kin hk (cJ (ha pos pins s σ H _ I h) fun us s1 ⟨vs,H1,I1,r,q⟩=>⟨I1.tV,?_⟩) he hpl
 exact WT F hr hb hd hx I1 r q
end
def PK(X:Cx)(kws:List Keyword)(t:TA):Prop :=
 ∀(pos:Pos) (pins:List (Addr×Obj)) (s:Shared) (σ:St) (H:Hp) (Q:List V->Hp->Prop),Inv X pins σ H s->t σ H Q->wpAny (model X.prog X.w) X.A (evalAll ((backToKw pos (keywordEach kws X.env)).map (·.2))) (AP X pins σ Q) X.xe s
section
variable{X:Cx}{CX:U5}{k:Nat}{f C:Addr}{fd:FuncData}{ps ks:List Str}{sp:Sp}{E:XK}{x m:Str}{p pos apos kpos:Pos}{e o:Expr}{es:List Expr}{kws:List Keyword}{te ta:TE}{t tk:TA}{nm:Option Str}
theorem WY:PK X [] Ve:=fun _ _ _ _ H Q I h=>wpAny_evalAll_nil ⟨[],H,I,.nil,h⟩
theorem Vg(ha:PE X e te)(hr:PK X kws t):PK X (⟨nm,e,kpos⟩::kws) (Iv te t):=by
 intro pos pins s σ H Q I h
 show wpAny _ _ (evalAll ((do let v ←eval e X.env;standAt pos;pure v)::(backToKw pos (keywordEach kws X.env)).map (·.2))) _ _ s
 refine wpAny_evalAll_cons (wpAny_bind (cJ (ha pins s σ H _ I h) fun u s1 ⟨x,H1,I1,r1,q1⟩=>wpAny_bind (wpAny_standAt (wpAny_pure ?_))))
 exact cJ (hr pos pins s1 σ H1 _ I1 q1) fun us s2 ⟨xs,H2,I2,r2,q2⟩=>⟨x::xs,H2,I2,.cons r1 r2,q2⟩
variable{g:List Value->List Value->List Value}{gV:List V->List V->List V}
end
structure bc(N P:List Str)(sc:Scope):Prop where
 kind:sc.kind=.function
 co:sc.isCoroutine=false
 gen:sc.isGenerator=false
 nd:N.Nodup
 pre:N.take P.length=P
 par:∀x∈P,sc.names.lookup x=some .local\/sc.names.lookup x=some .cell
 nofree:∀y∈sc.names,y.2≠.free
theorem xJ{kindOf:Str->Option NameKind}{x:Str}:∀ {binds:List (Str×Value)} {m:Str->Option Value},(∀v,(x,v)∉binds)->bindL kindOf binds m x=m x
 |[],_,_=>rfl
 |(n,v)::r,m,h=>by
  unfold bindL
  rw[xJ fun w hw=>h w (List.mem_cons_of_mem _ hw)]
  split
  ·have:x≠n:=by rintro rfl;exact h v List.mem_cons_self
   simp[this]
  ·rfl
theorem xj{kindOf:Str->Option NameKind}{x:Str}:∀ {binds:List (Str×Value)} {m:Str->Option Value},(∀v,(x,v)∉binds)->bindC kindOf binds m x=m x
 |[],_,_=>rfl
 |(n,v)::r,m,h=>by
  unfold bindC
  rw[xj fun w hw=>h w (List.mem_cons_of_mem _ hw)]
  split
  ·rfl
  ·have:x≠n:=by rintro rfl;exact h v List.mem_cons_self
   simp[this]
theorem xX{kindOf:Str->Option NameKind}{x:Str}{v:Value}:∀ {P:List Str} {vs:List Value} {i:Nat} {m:Str->Option Value},P.Nodup->P[i]?=some x->vs[i]?=some v->kindOf x=some .local ->
  bindL kindOf (P.zip vs) m x=some v
 |[],_,_,_,_,h,_,_=>by simp at h
 |_::_,[],_,_,_,_,h,_=>by simp at h
 |p::P,w::vs,0,m,nd,h1,h2,hk=>by
  simp at h1 h2;subst h1;subst h2
  show bindL kindOf ((p,w)::P.zip vs) m p=_
  unfold bindL
  rw[xJ fun v hv=>(List.nodup_cons.mp nd).1 (List.of_mem_zip hv).1,if_pos hk]
  simp
 |p::P,w::vs,i+1,m,nd,h1,h2,hk=>by
  show bindL kindOf ((p,w)::P.zip vs) m x=_
  unfold bindL
  exact xX (i:=i) (List.nodup_cons.mp nd).2 (by simpa using h1) (by simpa using h2) hk
theorem yd{kindOf:Str->Option NameKind}{x:Str}{v:Value}:∀ {P:List Str} {vs:List Value} {i:Nat} {m:Str->Option Value},P.Nodup->P[i]?=some x->vs[i]?=some v->kindOf x≠some .local ->
  bindC kindOf (P.zip vs) m x=some v
 |[],_,_,_,_,h,_,_=>by simp at h
 |_::_,[],_,_,_,_,h,_=>by simp at h
 |p::P,w::vs,0,m,nd,h1,h2,hk=>by
  simp at h1 h2;subst h1;subst h2
  show bindC kindOf ((p,w)::P.zip vs) m p=_
  unfold bindC
  rw[xj fun v hv=>(List.nodup_cons.mp nd).1 (List.of_mem_zip hv).1,if_neg hk]
  simp
 |p::P,w::vs,i+1,m,nd,h1,h2,hk=>by
  show bindC kindOf ((p,w)::P.zip vs) m x=_
  unfold bindC
  exact yd (i:=i) (List.nodup_cons.mp nd).2 (by simpa using h1) (by simpa using h2) hk
def start(N:List Str)(vs:List V):St:=vs.map some++List.replicate (N.length-vs.length) none
def rH(CX:U5)(P:Program)(w:World)(K:PySem.W.Frag)(mg:Str->Option Value)(base:Heap)(N:List Str)(qual:Str)(scope:Scope)(f:Addr)(cd:Value)(A:Around)(outer:List Env)(s:Shared)(H:Hp)(E:XK):Cx where
 prog:=P
 w:=w
 K:=K
 mg:=mg
 base:=base
 A:=A.deeper (envOfC qual scope s.heap.objs.size f cd)
 N:=N
 s₀:=s
 H₀:=H
 env:=envOfC qual scope s.heap.objs.size f cd
 outer:=outer
 stack:=envOfC qual scope s.heap.objs.size f cd::outer
 ex:=[]
 calm:=true
 fn:=fun _=>true
 pn:=[]
 xe:=fun e s'=>wpAny (model P w) (A.deeper (envOfC qual scope s.heap.objs.size f cd)) (leaving (envOfC qual scope s.heap.objs.size f cd) e) (fun _ s''=>CX outer H s E e s'') (fun e' s''=>CX outer H s E e' s'') s'
theorem Bg{sc:Scope}{n:Nat}{x:Str}(h:sc.names.lookup x=some .cell):∃c,(cellsFrom n sc.names []).lookup x=some c:=by
 have q:=PySem.W.cellsFrom_some sc.names n [] (.inl h)
 exact Option.isSome_iff_exists.mp q
theorem yo{CX:U5}{P:Program}{w:World}{K:PySem.W.Frag}{mg:Str->Option Value}{base:Heap}{N ps:List Str}{qual:Str}{scope:Scope}{f:Addr}{cd:Value}{A:Around}{outer:List Env}{s s1:Shared}{H:Hp}{E:XK}{us:List Value}{vs:List V}
  (S:bc N ps scope) (hd:A.handled=none) (e0:SN P w K mg base A outer s H) (hl:vs.length=ps.length) (r:Vals vs us)
  (x:InCallC s s.heap.objs.size (bindL (envOfC qual scope s.heap.objs.size f cd).kindOf (ps.zip us) fun _=>none) (cellsFrom (s.heap.objs.size+1) scope.names []) (bindC (envOfC qual scope s.heap.objs.size f cd).kindOf (ps.zip us) fun _=>none) s1) :
  Inv (rH CX P w K mg base N qual scope f cd A outer s H E) [] (start N vs) H s1:=by
 have hpl:ps.length<=N.length:=by have:=congrArg List.length S.pre;rw[List.length_take] at this;omega
 obtain⟨h1,tk,rfl,hk⟩:=x.done
 have noA:∀b:Addr,b∉(rH CX P w K mg base N qual scope f cd A outer s H E).ex:=fun b z=>absurd (show b∈([]:List Addr) from z) (by simp)
 refine⟨⟨e0.mod,S.kind,rfl,rfl,Nat.le_refl _,fun y z c h1 h2=>?_,fun y hy=>?_,fun y c _ h=>?_,fun _=>hd,Around.frames_deeper e0.frames,.inr ⟨rfl,rfl⟩,fun b z=>absurd z (noA b),e0.bs,e0.bsz,fun b _ _=>noA b,fun b z=>absurd z (noA b),e0.qW,e0.frf⟩,
  rfl,e0.bare,Un.kept hk,⟨_,x.toInCall.ns,fun i y v h1 h2 h3=>?_⟩,fun y c h=>⟨_,x.cell y c h⟩,e0.hok.fresh (Nat.le_refl _),fun y c h=>?_,fun p hp=>absurd (show p∈([]:List (Addr×Obj)) from hp) (by simp),e0.hok.kept hk,?_⟩
 ·exact name_of_addr x.apart (PySem.mem_of_lookup h1) (PySem.mem_of_lookup h2)
 ·have hy:scope.names.lookup y=some .cell\/scope.names.lookup y=some .free:=hy
  rcases hy with hy | hy
  ·exact Bg hy
  ·exact absurd rfl (S.nofree _ (PySem.mem_of_lookup hy))
 ·exact Nat.le_of_lt (x.above y c (PySem.mem_of_lookup h))
 ·have hi:i<vs.length:=by
   unfold start at h2
   by_cases hi:i<vs.length
   ·exact hi
   ·rw[List.getElem?_append_right (by simpa using hi)] at h2
    rw[List.getElem?_replicate] at h2
    split at h2 <;> cases h2
  have ha:vs[i]?=some v:=by
   unfold start at h2
   rw[List.getElem?_append_left (by simpa using hi),List.getElem?_map] at h2
   cases e:vs[i]? with
   |none=>rw[e] at h2;cases h2
   |some a=>rw[e] at h2;cases h2;rfl
  obtain⟨u,hu,rv⟩:=r.get ha
  have hp:ps[i]?=some y:=by
   rw[←S.pre,List.getElem?_take_of_lt (by omega)];exact h1
  have ndP:ps.Nodup:=by rw[←S.pre];exact S.nd.sublist (List.take_sublist _ _)
  refine⟨u,rv,?_⟩
  rcases S.par y (List.mem_of_getElem? hp) with k | k
  ·exact .inl ⟨k,xX ndP hp hu k⟩
  ·obtain⟨c,e⟩:=Bg (n:=s.heap.objs.size+1) k
   refine .inr ⟨.inl k,c,e,?_⟩
   have q:=x.cell y c e
   rw[yd ndP hp hu (by show scope.names.lookup y≠_;rw[k];decide)] at q
   exact q
 ·exact e0.hok.fresh (Nat.le_of_lt (x.above y c (PySem.mem_of_lookup h)))
 ·unfold start
  show _=N.length
  rw[List.length_append,List.length_map,List.length_replicate]
  omega
theorem Vn{CX:U5}{P:Program}{w:World}{K:PySem.W.Frag}{mg:Str->Option Value}{base:Heap}{k:Nat}{f:Addr}{name qual:Str}{params:Arguments}{body:List Stmt}{scope:Scope}{dV kV doc pm cdv ct oc:Value}{an od:Option Addr}
  {osl:Array (Option Value)} {N ps:List Str} {sp:Sp} (lk:K.lookup f=some ⟨oc,od,.func (PySem.W.fnOf name qual params body scope dV kV doc pm an cdv ct),osl⟩) (hcd:PySem.W.codeIn K cdv qual=true) (S:bc N ps scope)
  (len:∀vs H Q E,sp vs H Q E->vs.length=ps.length)
  (hbody:∀ (A:Around) (outer:List Env) (s:Shared) (H:Hp) (vs:List V) (Q:VK) (E:XK),eO k (A.deeper (envOfC qual scope s.heap.objs.size f cdv))→sp vs H Q E →
   ∃t,Ck (rH CX P w K mg base N qual scope f cdv A outer s H E) body t/\t { nx:=fun _ H'=>Q .non H',rt:=Q } (start N vs) H) :
  vX P w K mg base CX (k+1) f (PySem.W.fnOf name qual params body scope dV kV doc pm an cdv ct) ps sp:=by
 refine⟨len,fun A outer s H args us vs Q E hr e0 hb r hsp=>?_⟩
 have hl:=len _ _ _ _ hsp
 have KX:K.In s.heap:=e0.mod.kin.keeps fun b o e=>(e0.bs b o e).1
 have lim:s.heap.NoLimit:=e0.mod.nolimit.keeps fun b o e=>(e0.bs b o e).1
 have hkind:∀y∈ps.zip us,scope.names.lookup y.1=some .local\/(scope.names.lookup y.1=some .cell/\((cellsFrom (s.heap.objs.size+1) scope.names []).lookup y.1).isSome=true):=fun ⟨n,v⟩ hy=>by
  rcases S.par n (List.of_mem_zip hy).1 with q | q
  ·exact .inl q
  ·exact .inr ⟨q,PySem.W.cellsFrom_some _ _ _ (.inl q)⟩
 refine codeAny_call_function hr.depth (KX _ _ lk) rfl S.co S.gen rfl (PySem.W.codeRec_of KX hcd) (hb _ _ _ _ ?_)
 refine wpAny_newFunctionEnv_cells S.kind hkind fun env he s1 x=>?_
 subst he
 refine⟨lim.keeps x.toInCall.keep,codeAny_func ?_⟩
 obtain⟨t,ht,hq⟩:=hbody A outer s H vs Q E (hr.deeper _) hsp
 have I:Inv (rH CX P w K mg base N qual scope f cdv A outer s H E) [] (start N vs) H s1:=yo S hr.hd e0 hl r x
 refine wpAny_mono (ht [] s1 (start N vs) H _ I hq) (fun fl s' hs=>?_) fun e s' hs=>hs
 have fin:∀ {σ':St} {H':Hp} {v:V} {u:Value},Inv (rH CX P w K mg base N qual scope f cdv A outer s H E) [] σ' H' s'->RelV v u->Q v H'->CE outer P w H s Q u s' :=
  fun {σ' H' v u} J rv q=>⟨v,H',J.os,J.bare,J.base,J.hok,rv,q⟩
 cases fl with
 |ret u=>
  obtain⟨v,σ',H',J,rv,q⟩:=hs
  exact fin J rv q
 |next=>
  obtain⟨σ',H',J,q⟩:=hs
  exact fin (v:=V.non) (u:=Value.none) J rfl q
 |brk=>
  obtain⟨_,_,_,q⟩:=hs
  exact False.elim q
 |cont=>
  obtain⟨_,_,_,q⟩:=hs
  exact False.elim q
section
variable{X:Cx}{x:Str}{p pos:Pos}{e:Expr}{es:List Expr}{t:TA}{id T:String}{r:List V->Hp->VK->Prop}
def tCB(r:List V->Hp->VK->Prop)(t:TA):TE:=fun σ H Q=>t σ H fun vs H1=>r vs H1 Q
theorem Qx(hc:cR X (.builtin id) r)(hg:Gl X x)(hm:X.mg x=none)(hv:bootBuiltins x=some (.builtin id))(ha:PA X (e::es) t)(hn:x ≠ "__name__":=by decide)(hdb:(x==("__debug__" : Str))=false:=by decide)
  (he:starEach (e::es) X.env=(false,eval e X.env)::starEach es X.env:=by rfl) (hpl:(backTo pos (starEach es X.env)).any (·.1)=false:=by rfl):PE X (.Call (.Name x p) (e::es) [] pos) (tCB r t):=by
 intro pins s σ H Q I h
 refine wpAny_Call_Name_kw (iB I hg hm hv ?_ hn hdb)
 exact PyProof.Rows.callWith_builtin1 (cJ (ha pos pins s σ H _ I h) fun us s1 ⟨vs,H1,I1,r1,q1⟩=>hc pins s1 σ H1 vs us Q I1 r1 q1) he hpl
theorem Kq(hc:cR X (.type T) r)(hg:Gl X x)(hm:X.mg x=none)(hv:bootBuiltins x=some (.type T))(ha:PA X (e::es) t)(hn:x ≠ "__name__":=by decide)(hdb:(x==("__debug__" : Str))=false:=by decide)
  (he:starEach (e::es) X.env=(false,eval e X.env)::starEach es X.env:=by rfl) (hpl:(backTo pos (starEach es X.env)).any (·.1)=false:=by rfl):PE X (.Call (.Name x p) (e::es) [] pos) (tCB r t):=by
 intro pins s σ H Q I h
 refine wpAny_Call_Name_kw (iB I hg hm hv ?_ hn hdb)
 exact PyProof.Rows.callWith_type1 (cJ (ha pos pins s σ H _ I h) fun us s1 ⟨vs,H1,I1,r1,q1⟩=>hc pins s1 σ H1 vs us Q I1 r1 q1) he hpl
end
end L2
namespace HT
open PySem PyProof.Rows
def lexLt:List Int->List Int->Bool
 |[],[]=>false
 |[],_::_=>true
 |_::_,[]=>false
 |x::xs,y::ys=>if x=y then lexLt xs ys else decide (x<y)
theorem G8(x y:Int)(xs ys:List Int):lexLt (x::xs) (y::ys)=if x=y then lexLt xs ys else decide (x<y):=rfl
theorem wF:lexLt [] []=false:=rfl
theorem vm(y:Int)(ys:List Int):lexLt [] (y::ys)=true:=rfl
theorem uC(x:Int)(xs:List Int):lexLt (x::xs) []=false:=rfl
theorem M9(A:Around)(s:Shared)(a:Int)(t:Tok)(c:Int)(u:Tok):∃e,SeqAt.EqAt A s (.int a t) (.int c u) e/\(e=true↔a=c) :=
 ⟨(a==c),SeqAt.EqAt.int_int a t c u,by simp⟩
theorem O2(A:Around)(s:Shared)(a:Int)(t:Tok)(c:Int)(u:Tok)(prog:Program)(w:World)(E:Value->Shared->Prop)(Q:Value->Shared->Prop)(h:Q (.bool (decide (a<c))) s) :
  wpAny (model prog w) A (richCompare .Lt (.int a t) (.int c u)) Q E s :=
 (PyProof.Rows.lt_int h:wpAny (model prog w) A (compareOp .Lt (.int a t) (.int c u)) Q E s)
section
open PySem.SeqAt
open PySem.AutoSeq1 (wpAny_loadPart')
open PySem.MeetsSeq PySem.MeetsSeq2 PySem.MeetsSeq3
theorem wD(l b:Addr)(items items2:Array Value)(n n2:Nat)(dd dd2:Option Addr)(sl sl2:Array (Option Value))(ns ms:List Int)(hi:IntsAre items.toList ns)(hj:IntsAre items2.toList ms) :
  Meets (Builtin.«tuple.__lt__» ⟨[.ref l,.ref b],[]⟩)
   (fun _ R s => s.heap.get? l = some { cls:=.type "tuple",dict:=dd,data:=.seq items n,slots:=sl }∧s.heap.get? b = some { cls:=.type "tuple",dict:=dd2,data:=.seq items2 n2,slots:=sl2 } ∧
    R (.ok (.ret (.bool (lexLt ns ms)))) s) :=
 .of_wp fun prog w A R s h=>by
  obtain⟨hp,g,d,tk,os⟩:=s;obtain⟨hl,hb,h⟩:=h
  have f2:=AutoSeq1.sub_tuple_tuple
  have z1:items.size=ns.length:=by rw[←hi.length];simp
  have z2:items2.size=ms.length:=by rw[←hj.length];simp
  wp_walk using wpAny_loadPart' hl,wpAny_loadPart' hb,wpAny_forIn_list _ (fun rest b s'=>b.1=none/\s'=⟨hp,g,d,tk,os⟩/\∃(vs ws:List Value) (ns' ms':List Int),rest=vs.zip ws /\
   IntsAre vs ns'/\IntsAre ws ms'/\ns'.length+items2.size=ms'.length+items.size/\R (.ok (.ret (.bool (lexLt ns' ms')))) ⟨hp,g,d,tk,os⟩) _
  case turn=>
   rintro⟨y,x⟩ rest b s' ⟨hb',rfl,vs,ws,ns',ms',hz,hvi,hwi,hlen,hR⟩
   cases hvi with
   |nil=>rw[List.zip_nil_left] at hz;cases hz
   |cons a t hvi'=>
    cases hwi with
    |nil=>rw[List.zip_nil_right] at hz;cases hz
    |cons c u hwi'=>
     rw[List.zip_cons_cons] at hz
     injection hz with hyx hrest
     injection hyx with hy hx
     subst hy hx
     rw[G8] at hR
     simp only[List.length_cons] at hlen
     obtain⟨e,he,hiff⟩:=M9 A.in1 ⟨hp,g,d,tk,os⟩ a t c u
     refine wpAny_bind (he prog w _ _ ?_)
     cases e with
     |true=>
      rw[if_pos (hiff.mp rfl)] at hR
      wp_walk
      exact⟨rfl,rfl,_,_,_,_,hrest,hvi',hwi',by omega,hR⟩
     |false=>
      rw[if_neg (fun q=>absurd (hiff.mpr q) Bool.false_ne_true)] at hR
      have hri:=O2 A.in1 ⟨hp,g,d,tk,os⟩ a t c u prog w
      wp_walk using hri
      exact⟨_,rfl,by simpa using hR⟩
  case fin=>
   rintro⟨b1,b2⟩ s' ⟨hb',rfl,vs,ws,ns',ms',hz,hvi,hwi,hlen,hR⟩
   simp only at hb'
   subst hb'
   have hv:lexLt ns' ms'=decide (items.size<items2.size):=by
    cases hvi with
    |nil=>
     cases hwi with
     |nil=>
      simp only[List.length_nil] at hlen
      rw[wF]
      exact (decide_eq_false (by omega)).symm
     |cons c u hw=>
      simp only[List.length_nil,List.length_cons] at hlen
      rw[vm]
      exact (decide_eq_true (by omega)).symm
    |cons a t hv=>
     cases hwi with
     |nil=>
      simp only[List.length_nil,List.length_cons] at hlen
      rw[uC]
      exact (decide_eq_false (by omega)).symm
     |cons c u hw=>
      rw[List.zip_cons_cons] at hz
      cases hz
   rw[hv] at hR
   wp_walk
   exact⟨_,rfl,by simpa [Builtin.Tuple.tupleCompareSizes] using hR⟩
  case h=>
   exact⟨rfl,rfl,items.toList,items2.toList,ns,ms,rfl,hi,hj,by omega,h⟩
end
section
variable{prog:Program}{w:World}{A:Around}{E:Value->Shared->Prop}{s:Shared}
theorem Ex{l b:Addr}{items items2:Array Value}{ns ms:List Int}{Q:Value->Shared->Prop}(hl:IsTup s.heap l items)(hb:IsTup s.heap b items2)(hi:IntsAre items.toList ns)(hj:IntsAre items2.toList ms)
  (hu:A.units<cLine) (h:Q (.bool (lexLt ns ms)) s):wpAny (model prog w) A (compareOp .Lt (.ref l) (.ref b)) Q E s:=by
 obtain⟨⟨cls,dd,data,sl⟩,ho,hc,n,hd⟩:=id hl
 obtain⟨⟨cls2,dd2,data2,sl2⟩,ho2,hc2,n2,hd2⟩:=id hb
 simp only at hc hd hc2 hd2
 subst hc hd hc2 hd2
 exact richCompare_meets_room (op:=.Lt) ⟨_,ho,rfl⟩ ⟨_,ho2,rfl⟩ PySem.F.slot_tuple_lt PySem.F.entry_tuple_lt (PySem.F.args_tuple_lt_2 _ _) (wD l b items items2 n n2 dd dd2 sl sl2 ns ms hi hj)
  ⟨ho,ho2,show Value.bool (lexLt ns ms)≠Value.notImplemented/\Q (.bool (lexLt ns ms)) s from ⟨(fun x=>nomatch x),h⟩⟩ hu
def eQ(n d:Nat):Option Int->Nat
 |none=>d
 |some v=>if v<0 then (v+(n:Int)).toNat else min v.toNat n
theorem Zf(n d:Nat)(hd:d<=n)(o:Option Int):eQ n d o<=n:=by
 cases o with
 |none=>exact hd
 |some v=>
  show (if v<0 then (v+(n:Int)).toNat else min v.toNat n)<=n
  by_cases hv:v<0
  ·rw[if_pos hv];omega
  ·rw[if_neg hv];exact Nat.min_le_right _ _
theorem HH(v:Int)(n d:Nat):(if v<0 then max (v+(n:Int)) 0 else min v (n:Int))=((eQ n d (some v):Nat):Int):=by
 show (if v<0 then max (v+(n:Int)) 0 else min v (n:Int))=(((if v<0 then (v+(n:Int)).toNat else min v.toNat n):Nat):Int)
 by_cases hv:v<0
 ·simp only[if_pos hv];omega
 ·simp only[if_neg hv];omega
theorem Gq(lo hi:Option Int)(n:Nat):Builtin.Slice.sliceAdjust lo hi 1 (n:Int)=(((eQ n 0 lo:Nat):Int),((eQ n n hi:Nat):Int)):=by
 have h1:¬((1:Int)<0):=by omega
 unfold Builtin.Slice.sliceAdjust
 simp only[h1,if_false]
 refine Prod.ext ?_ ?_
 ·cases lo with
  |none=>rfl
  |some v=>exact HH v n 0
 ·cases hi with
  |none=>rfl
  |some v=>exact HH v n n
theorem Fj(i j:Nat):Builtin.Slice.slicePlaces (i:Int) (j:Int) 1=j-i:=by
 unfold Builtin.Slice.slicePlaces
 have h1:(1:Int)>0:=by omega
 simp only[h1,if_true,Int.ediv_one]
 split <;> omega
theorem uE{v:Value}{o:Option Int}{Q:Option Int->Shared->Prop}(p:IsPart v o)(h:Q o s):wpAny (model prog w) A (Builtin.Slice.slicePartIndex v) Q E s:=by
 cases p with
 |none=>exact slicePart_none h
 |int i t=>exact slicePart_int h
theorem qN{sl:Addr}{vl vu:Value}{lo hi:Option Int}{n:Nat}{Q:Int×Int×Nat->Shared->Prop}(hs:s.heap.IsSliceOf sl vl vu .none)(pl:IsPart vl lo)(pu:IsPart vu hi)
  (h:Q (((eQ n 0 lo:Nat):Int),1,eQ n n hi-eQ n 0 lo) s):wpAny (model prog w) A (Builtin.Slice.sliceApplied (.ref sl) (pure (n:Int))) Q E s:=by
 obtain⟨os,hos,hcs,hds⟩:=id hs
 unfold Builtin.Slice.sliceApplied Builtin.Slice.sliceFields
 refine wpAny_bind (wpAny_bind (wpAny_field hos hds (x:=vl) rfl (wpAny_bind (wpAny_field hos hds (x:=vu) rfl (wpAny_bind (wpAny_field hos hds (x:=.none) rfl (wpAny_pure ?_)))))))
 refine wpAny_bind (slicePart_none ?_)
 show wpAny _ _ (if ((1:Int)==0)=true then _ else _) _ _ s
 rw[if_neg (by decide)]
 refine wpAny_bind (uE pl (wpAny_bind (uE pu (wpAny_bind (wpAny_pure ?_)))))
 show wpAny _ _ (match Builtin.Slice.sliceAdjust lo hi 1 (n:Int) with | (lo,hi)=>pure (lo,(1:Int),Builtin.Slice.slicePlaces lo hi 1)) _ _ s
 rw[Gq lo hi n]
 show wpAny _ _ (pure (((eQ n 0 lo:Nat):Int),(1:Int),Builtin.Slice.slicePlaces ((eQ n 0 lo:Nat):Int) ((eQ n n hi:Nat):Int) 1)) _ _ s
 rw[Fj]
 exact wpAny_pure h
theorem MF(xs:Array Value)(i k:Nat):((List.range k).filterMap fun (m:Nat)=>xs[((i:Int)+(m:Int)*1).toNat]?).toArray=((xs.toList.drop i).take k).toArray:=by
 have e:(fun (m:Nat)=>xs[((i:Int)+(m:Int)*1).toNat]?)=fun m=>xs[i+m]?:=by
  funext m
  have:((i:Int)+(m:Int)*1).toNat=i+m:=by omega
  rw[this]
 rw[e]
 have:=pick_run xs i k
 rw[List.filterMap_map] at this
 have e2:((fun x=>xs[x]?)∘fun x=>i+x)=fun m=>xs[i+m]?:=rfl
 rw[e2] at this
 rw[this]
theorem pR{t sl:Addr}{items:Array Value}{vl vu:Value}{lo hi:Option Int}{Q:Value->Shared->Prop}(ht:IsTup s.heap t items)(hs:s.heap.IsSliceOf sl vl vu .none)(pl:IsPart vl lo)(pu:IsPart vu hi)
  (hw:¬(eQ items.size 0 lo=0/\eQ items.size items.size hi=items.size))
  (h:Q (.ref s.heap.objs.size) { s with heap:=s.heap.push { cls:=.type "tuple",data:=.seq ((items.toList.drop (eQ items.size 0 lo)).take (eQ items.size items.size hi-eQ items.size 0 lo)).toArray } })
  (hsz:items.size<=sizeLine):wpAny (model prog w) A (getItem (.ref t) (.ref sl)) Q E s:=by
 have htake:sizeOk (.seq ((items.toList.drop (eQ items.size 0 lo)).take (eQ items.size items.size hi-eQ items.size 0 lo)).toArray):=by
  show ((items.toList.drop (eQ items.size 0 lo)).take (eQ items.size items.size hi-eQ items.size 0 lo)).toArray.size<=sizeLine
  rw[List.size_toArray,List.length_take,List.length_drop,Array.length_toList]
  omega
 have hj:eQ items.size items.size hi<=items.size:=Zf _ _ (Nat.le_refl _) hi
 obtain⟨os,hos,hcs,hds⟩:=id hs
 have hTs:s.TypeIs (.ref sl) "slice":=⟨os,hos,hcs⟩
 unfold getItem
 try with_reducible refine wpAny_holding ?_
 first | refine wpAny_bind (wpAny_pure ?_) | skip
 refine wpAny_bind (wpAny_sequenceKey ht.typeIs (by decide) ?_)
 refine wpAny_bind (wpAny_callSpecial?_slot (name:=Str.ofString "__getitem__") ht.typeIs PyProof.Rows.slot_tuple_getitem
  (wpAny_call_entry PyProof.Rows.slot_tuple_getitem ht.typeIs entry_tuple_getitem ?_ (args_tuple_getitem _ _)))
 show wpAny _ _ (Builtin.Tuple.tupleItemsOf (.ref t) >>= _) _ _ s
 refine wpAny_bind (tupleItemsOf_ ht ?_)
 refine wpAny_bind (wpAny_typeOf hTs ?_)
 rw[if_pos (by decide)]
 refine wpAny_bind (qN hs pl pu ?_)
 have hno:¬((((eQ items.size 0 lo:Nat):Int)==0&&(1:Int)==1&&(eQ items.size items.size hi-eQ items.size 0 lo)==items.size)=true):=by
  intro q
  rw[Bool.and_eq_true,Bool.and_eq_true] at q
  have q1:((eQ items.size 0 lo:Nat):Int)=0:=eq_of_beq q.1.1
  have q2:eQ items.size items.size hi-eQ items.size 0 lo=items.size:=eq_of_beq q.2
  exact hw ⟨by omega,by omega⟩
 show wpAny _ _ (if (((eQ items.size 0 lo:Nat):Int)==0&&(1:Int)==1&&(eQ items.size items.size hi-eQ items.size 0 lo)==items.size)=true then _ else _) _ _ s
 rw[if_neg hno,MF]
 first
  |exact wpAny_bind (m:=Builtin.Tuple.tupleExact _) (wpAny_newObj_type (wpAny_pure ⟨_,rfl,wpAny_pure h⟩) htake)
  |exact wpAny_bind (m:=Builtin.Tuple.tupleExact _) (wpAny_newObj_type (wpAny_bind (wpAny_pure (wpAny_pure ⟨_,rfl,wpAny_pure h⟩))) htake)
  |exact wpAny_bind (wpAny_bind (m:=Builtin.Tuple.tupleExact _) (wpAny_newObj_type (wpAny_pure (wpAny_pure ⟨_,rfl,wpAny_pure h⟩)) htake))
  |exact wpAny_bind (wpAny_bind (m:=Builtin.Tuple.tupleExact _) (wpAny_newObj_type (wpAny_pure ⟨_,rfl,wpAny_pure h⟩) htake))
end
end HT
namespace L2
open PySem PySem.Spec PyProof.Rows
abbrev TO:=St->Hp->(Option Int->Hp->Prop)->Prop
def PO(X:Cx)(e:Option Expr)(t:TO):Prop :=
 ∀(pins:List (Addr×Obj)) (s:Shared) (σ:St) (H:Hp) (Q:Option Int->Hp->Prop),Inv X pins σ H s->t σ H Q ->
  wpAny (model X.prog X.w) X.A (evalPart e X.env) (fun u s'=>∃o H',Inv X pins σ H' s'/\IsPart u o/\Q o H') X.xe s
def RW:TO:=fun _ H Q=>Q none H
def aaP(t:TE):TO:=fun σ H Q=>t σ H fun x H1=>∃i,x=.int i/\Q (some i) H1
theorem intsAre_of{ns:List Int}:∀ {us:List Value},Vals (ns.map V.int) us->IntsAre us ns:=by
 induction ns with
 |nil=>intro us r;rw[List.map_nil] at r;cases r;exact .nil
 |cons n ns ih=>
  intro us r
  rw[List.map_cons] at r
  cases r with
  |cons r1 r2=>
   obtain⟨t,e⟩:=r1
   subst e
   exact .cons n t (ih r2)
section
variable{X:Cx}{e:Expr}{te:TE}{lo hi:Option Expr}{tl th:TO}{pos p2:Pos}
theorem Tw:PO X none RW:=by
 intro pins s σ H Q I h
 rw[evalPart_none]
 exact wpAny_pure ⟨none,H,I,.none,h⟩
theorem RL(h:PE X e te):PO X (some e) (aaP te):=by
 intro pins s σ H Q I hw
 rw[evalPart_some]
 refine cJ (h pins s σ H _ I hw) fun u s1 zz=>?_
 obtain⟨x,H1,I1,r1,q1⟩:=zz
 obtain⟨i,rfl,q⟩:=q1
 obtain⟨t,rfl⟩:=r1
 exact⟨some i,H1,I1,.int i t,q⟩
def ZC(X:Cx)(r:V->Option Int->Option Int->Hp->VK->Prop):Prop :=
 ∀(pins:List (Addr×Obj)) (s:Shared) (σ:St) (H:Hp) (x:V) (v vl vu:Value) (lo hi:Option Int) (sl:Addr) (Q:VK),Inv X pins σ H s->RelV x v->s.heap.IsSliceOf sl vl vu .none->IsPart vl lo->IsPart vu hi->r x lo hi H Q ->
  ∃T id,typeLookup (.type T) "__getitem__" = pure (some (.builtin id))/\s.TypeIs v T/\wpAny (model X.prog X.w) X.A (getItem v (.ref sl)) (EP X pins σ Q) X.xe s
def tSl(r:V->Option Int->Option Int->Hp->VK->Prop)(te:TE)(tl th:TO):TE:=fun σ H Q=>te σ H fun x H1=>tl σ H1 fun l H2=>th σ H2 fun u H3=>r x l u H3 Q
theorem Ov{r:V->Option Int->Option Int->Hp->VK->Prop}(hr:ZC X r)(he:PE X e te)(hl:PO X lo tl)(hu:PO X hi th):PE X (.Subscript e (.Slice lo hi none p2) pos) (tSl r te tl th):=by
 intro pins s σ H Q I h
 refine Subscript_ (cJ (he pins s σ H _ I h) fun v s1 zz=>?_)
 obtain⟨x,H1,I1,r1,q1⟩:=zz
 refine wpAny_Slice (cJ (hl pins s1 σ H1 _ I1 q1) fun vl s2 ⟨l,H2,I2,pl,q2⟩=>cJ (hu pins s2 σ H2 _ I2 q2) fun vu s3 zz=>?_)
 obtain⟨u,H3,I3,pu,q3⟩:=zz
 rw[evalPart_none]
 refine wpAny_pure ?_
 have I4:Inv X pins σ H3 { s3 with heap:=s3.heap.push { cls:=.type "slice",data:=.fields #[vl,vu,.none] } }:=I3.kept (t':=s3.toks) fun b ob q=>Heap.get?_push_of_some _ q
 obtain⟨T,id,hT,ht,hg⟩:=hr pins { s3 with heap:=s3.heap.push { cls:=.type "slice",data:=.fields #[vl,vu,.none] } } σ H3 x v vl vu l u s3.heap.objs.size Q I4 r1 (Heap.IsSliceOf.new ..) pl pu q3
 show wpAny (model X.prog X.w) X.A (subscriptTail e (.Slice lo hi none p2) v (.ref s3.heap.objs.size)) (EP X pins σ Q) X.xe { s3 with heap:=s3.heap.push { cls:=.type "slice",data:=.fields #[vl,vu,.none] } }
 exact tail_any (ops:=[.ref s3.heap.objs.size,v]) ht hT hg (by with_unfolding_all rfl)
def Lr(xs:List V)(lo hi:Option Int):List V:=(xs.drop (HT.eQ xs.length 0 lo)).take (HT.eQ xs.length xs.length hi-HT.eQ xs.length 0 lo)
theorem Bd(xs:List V)(lo hi:Option Int):(Lr xs lo hi).length<=xs.length:=by
 unfold Lr
 rw[List.length_take,List.length_drop]
 exact Nat.le_trans (Nat.min_le_right _ _) (Nat.sub_le _ _)
def acx(K:PySem.W.Frag):V->Option Int->Option Int->Hp->VK->Prop:=fun x lo hi H Q=>∃a xs,x=.ref a/\jz K H a xs /\
 ¬(HT.eQ xs.length 0 lo=0/\HT.eQ xs.length xs.length hi=xs.length)/\∀p,H p=none->Q (.ref p) (upd H p (.tup (Lr xs lo hi)))
theorem YK:ZC X (acx X.K):=by
 intro pins s σ H x v vl vu lo hi sl Q I rx hs pl pu h
 obtain⟨a,xs,rfl,hx,hw,q⟩:=h
 cases rx
 obtain⟨its,r,ht,hz⟩:=I.tuple hx
 have hlen:its.toArray.size=xs.length:=by rw[List.size_toArray];exact r.length.symm
 refine⟨"tuple",_,PyProof.Rows.slot_tuple_getitem.lookup,ht.typeIs,?_⟩
 refine HT.pR ht hs pl pu (by rw[hlen];exact hw) ?_ (by rw[hlen];exact hz)
 rw[hlen]
 refine⟨.ref s.heap.objs.size,_,I.laid (t':=s.toks) (o:=.tup (Lr xs lo hi)) (fun b ob q=>Heap.get?_push_of_some _ q) (Nat.le_refl _) ?_,rfl,q _ (I.hok.fresh (Nat.le_refl _))⟩
 exact⟨Nat.le_trans (Bd xs lo hi) hz,_,(r.drop (HT.eQ xs.length 0 lo)).take (HT.eQ xs.length xs.length hi-HT.eQ xs.length 0 lo),yN.new _ _⟩
def abz(K:PySem.W.Frag):R2:=fun x y H Q=>∃a b ns ms,x=.ref a/\y=.ref b/\jz K H a (ns.map V.int)/\jz K H b (ms.map V.int)/\Q (.bl (HT.lexLt ns ms)) H
theorem Xe(hu:X.A.units<cLine):gJ X (compareOp .Lt) (abz X.K):=by
 intro pins s σ H x y v u Q I rx ry h
 obtain⟨a,b,ns,ms,rfl,rfl,ha,hb,q⟩:=h
 cases rx
 cases ry
 obtain⟨its,r1,p1,_⟩:=I.tuple ha
 obtain⟨its2,r2,p2,_⟩:=I.tuple hb
 have i1:IntsAre its.toArray.toList ns:=intsAre_of r1
 have i2:IntsAre its2.toArray.toList ms:=intsAre_of r2
 exact HT.Ex p1 p2 i1 i2 hu ⟨.bl (HT.lexLt ns ms),H,I,rfl,q⟩
end
def RC(n:Nat)(i:Int):Option Nat:=if 0<=i then (if i<n then some i.toNat else none) else if -(n:Int)<=i then some (i+n).toNat else none
def nA{α:Type}(xs:List α)(i:Int):Option α:=(RC xs.length i).bind fun j=>xs[j]?
theorem RQ{n:Nat}{i:Int}{j:Nat}(h:RC n i=some j):seqIndex? i n=some j/\j<n/\-(n:Int)<=i/\i<n:=by
 unfold RC at h
 by_cases h0:0<=i
 ·rw[if_pos h0] at h
  by_cases h1:i<n
  ·rw[if_pos h1] at h
   have e:i.toNat=j:=Option.some.inj h
   exact⟨by rw[seqIndex_of h0 h1,e],by omega,by omega,h1⟩
  ·rw[if_neg h1] at h;cases h
 ·rw[if_neg h0] at h
  by_cases h1 : -(n:Int)<=i
  ·rw[if_pos h1] at h
   have e:(i+n).toNat=j:=Option.some.inj h
   exact⟨by rw[seqIndex_neg (by omega) h1,e],by omega,h1,by omega⟩
  ·rw[if_neg h1] at h;cases h
theorem yG{α:Type}{xs:List α}{i:Int}{v:α}(h:nA xs i=some v):∃j,seqIndex? i xs.length=some j/\xs[j]?=some v/\j<xs.length/\-(xs.length:Int)<=i/\i<xs.length:=by
 unfold nA at h
 cases e:RC xs.length i with
 |none=>rw[e] at h;cases h
 |some j=>
  rw[e] at h
  obtain⟨h1,h2,h3,h4⟩:=RQ e
  exact⟨j,h1,h,h2,h3,h4⟩
def Ji(b:Expr):Prop:=∀o i,subscripted b false o i=operate [o,i] (getItem o i)
def Zm(X:Cx)(r:R2):Prop :=
 ∀(value slice:Expr) (pins:List (Addr×Obj)) (s:Shared) (σ:St) (H:Hp) (x y:V) (v u:Value) (Q:VK),Inv X pins σ H s->RelV x v->RelV y u->r x y H Q ->
  subscripted slice false v u=operate [v,u] (getItem v u)->wpAny (model X.prog X.w) X.A (subscriptTail value slice v u) (EP X pins σ Q) X.xe s
def HQ(X:Cx)(id:String)(r:V->List V->Hp->VK->Prop):Prop :=
 ∀(pins:List (Addr×Obj)) (s:Shared) (σ:St) (H:Hp) (x:V) (xs:List V) (v:Value) (us:List Value) (Q:VK),Inv X pins σ H s->RelV x v->Vals xs us->r x xs H Q ->
  wpAny (model X.prog X.w) X.A (call (.builtin id) (v::us)) (EP X pins σ Q) X.xe s
section
variable{X:Cx}{a b:Expr}{ta tb:TE}{pos:Pos}
theorem aaS{r:R2}(hr:Zm X r)(ha:PE X a ta)(hb:PE X b tb)(hs:Ji b):PE X (.Subscript a b pos) (tOp r ta tb):=by
 intro pins s σ H Q I h
 exact Subscript_ (Wg ha hb I h fun v u s2 x y H2 I2 rx ry q=>hr a b pins s2 σ H2 x y v u Q I2 rx ry q (hs _ _))
def acI(K:PySem.W.Frag):R2:=fun x y H Q=>∃p xs i v,x=.ref p/\y=.int i/\jF K H p xs/\nA xs i=some v/\Q v H
def abF(K:PySem.W.Frag):R2:=fun x y H Q=>∃p xs i v,x=.ref p/\y=.int i/\jz K H p xs/\nA xs i=some v/\Q v H
def ab7:R2:=fun x y H Q=>∃z i c,x=.str z/\y=.int i/\z.length<=sizeLine/\nA z.cps.toList i=some c/\Q (.str ⟨#[c]⟩) H
theorem Hj:Zm X (acI X.K):=by
 intro value slice pins s σ H x y v u Q I rx ry h hs
 obtain⟨p,xs,i,z,rfl,rfl,hq,he,q⟩:=h
 cases rx
 obtain⟨t,rfl⟩:=ry
 obtain⟨its,r,pl,hz⟩:=I.list hq
 obtain⟨j,h1,h2,h3,h4,h5⟩:=yG he
 obtain⟨w,ew,rw'⟩:=r.get h2
 have hl:=r.length
 have hn:=uF
 have fin:EP X pins σ Q w s:=⟨z,H,I,rw',q⟩
 by_cases h0:0<=i
 ·have hj:i.toNat=j:=by
   rw[seqIndex_of h0 h5] at h1
   exact Option.some.inj h1
  exact item_listR pl.isList h0 (by omega) (by rw[hj];simpa using ew) fin hs
 ·have hj:(i+(its.toArray.size:Int)).toNat=j:=by
   rw[seqIndex_neg (by omega) h4] at h1
   rw[List.size_toArray,←hl]
   exact Option.some.inj h1
  exact subscriptTail_builtinR (x:=w) pl.isList.typeIs slot_list_getitem.lookup
   (wpAny_getItem_list_neg (Q:=fun r s'=>r=w/\EP X pins σ Q r s') pl.isList (by omega) (by rw[List.size_toArray] <;> omega) (by omega) (by rw[hj];simpa using ew) ⟨rfl,fin⟩) hs
theorem Qe:Zm X (abF X.K):=by
 intro value slice pins s σ H x y v u Q I rx ry h hs
 obtain⟨p,xs,i,z,rfl,rfl,hq,he,q⟩:=h
 cases rx
 obtain⟨t,rfl⟩:=ry
 obtain⟨its,r,pl,hz⟩:=I.tuple hq
 obtain⟨j,h1,h2,h3,h4,h5⟩:=yG he
 obtain⟨w,ew,rw'⟩:=r.get h2
 have hl:=r.length
 have hn:=uF
 have fin:EP X pins σ Q w s:=⟨z,H,I,rw',q⟩
 exact subscriptTail_builtinR (x:=w) pl.typeIs slot_tuple_getitem.lookup
  (getItem_tuple (j:=j) (Q:=fun r s'=>r=w/\EP X pins σ Q r s') pl (by omega) (by omega) (by rw[List.size_toArray,←hl];exact h1) (by simpa using ew) ⟨rfl,fin⟩) hs
theorem X8:Zm X ab7:=by
 intro value slice pins s σ H x y v u Q I rx ry h hs
 obtain⟨z,i,c,rfl,rfl,hz,he,q⟩:=h
 obtain⟨t,rfl⟩:=rx
 obtain⟨t',rfl⟩:=ry
 obtain⟨j,h1,h2,h3,h4,h5⟩:=yG he
 have hl:z.cps.toList.length=z.length:=by simp[Str.length]
 rw[hl] at h1 h4 h5
 have hn:=uF
 exact tail_any (typeIs_str s z t) slot_str_getitem.lookup (getItem_str (c:=c) (by
  have e1:decide (i < -(2 ^ 63:Int))=false:=decide_eq_false (by omega)
  have e2:decide (i≥2 ^ 63)=false:=decide_eq_false (by omega)
  rw[e1,e2,Bool.or_false]) (by rw[h1];simpa using h2) ⟨.str ⟨#[c]⟩,H,I.tok _,⟨_,rfl⟩,q⟩) hs
theorem kW:cR X (.builtin "len") (fun xs H Q=>∃p ys,xs=[.ref p]/\(jF X.K H p ys\/jz X.K H p ys)/\Q (.int ys.length) H):=by
 intro pins s σ H xs us Q I r h
 obtain⟨p,ys,rfl,hq,q⟩:=h
 obtain⟨u,rfl,rx⟩:=vals1 r
 cases rx
 have hn:=uF
 rcases hq with hq | hq
 ·obtain⟨its,r',pl,hz⟩:=I.list hq
  have hlen:=r'.length
  exact Calls.call_len_list pl.isList (by simp only[List.size_toArray] <;> omega) ⟨.int ys.length,H,I.tok _,⟨s.toks+1,by rw[List.size_toArray,hlen]⟩,q⟩
 ·obtain⟨its,r',pl,hz⟩:=I.tuple hq
  have hlen:=r'.length
  exact len_tuple pl (by simp only[List.size_toArray] <;> omega) ⟨.int ys.length,H,I.tok _,⟨s.toks+1,by rw[List.size_toArray,hlen]⟩,q⟩
theorem zF:cR X (.builtin "len") (fun xs H Q=>∃z,xs=[.str z]/\z.length<=sizeLine/\Q (.int z.length) H):=by
 intro pins s σ H xs us Q I r h
 obtain⟨z,rfl,hz,q⟩:=h
 obtain⟨u,rfl,t,rfl⟩:=vals1 r
 have hn:=uF
 exact len_str (by omega) ⟨.int z.length,H,I.tok _,⟨_,rfl⟩,q⟩
theorem kZ:cR X (.type "list") (fun xs H Q=>∃p ys,xs=[.ref p]/\(jF X.K H p ys\/jz X.K H p ys)/\∀l,H l=none->Q (.ref l) (upd H l (.lst ys))):=by
 intro pins s σ H xs us Q I r h
 obtain⟨p,ys,rfl,hq,q⟩:=h
 obtain⟨u,rfl,rx⟩:=vals1 r
 cases rx
 have fin:∀(its:List Value),Vals ys its->ys.length<=sizeLine->∀(h':Heap) (c':Nat),(∀b o',s.heap.get? b=some o'->h'.get? b=some o') ->
   h'.get? s.heap.objs.size=some { cls:=.type "list",dict:=none,data:=.seq its.toArray c',slots:=#[] }->EP X pins σ Q (.ref s.heap.objs.size) { s with heap:=h' }:=fun its r' hz h' c' kp e=>
  ⟨.ref s.heap.objs.size,_,I.laid (t':=s.toks) kp (Nat.le_refl _) (show bZ X.prog X.w _ h' _ (.lst ys) from ⟨hz,its,c',r',e⟩),rfl,q _ (I.hok.fresh (Nat.le_refl _))⟩
 rcases hq with hq | hq
 ·obtain⟨its,r',pl,hz⟩:=I.list hq
  have hlen:=r'.length
  obtain⟨o,ho,hc,n,hd⟩:=pl.isList
  exact call_list_seq p (.inl rfl) ho hc hd (fun h' c' kp e=>fin its r' hz h' c' kp e) (by simp only[List.size_toArray] <;> omega)
 ·obtain⟨its,r',pl,hz⟩:=I.tuple hq
  have hlen:=r'.length
  obtain⟨o,ho,hc,n,hd⟩:=pl
  exact call_list_seq p (.inr rfl) ho hc hd (fun h' c' kp e=>fin its r' hz h' c' kp e) (by simp only[List.size_toArray] <;> omega)
theorem jy:cR X (.type "tuple") (fun xs H Q=>∃p ys,xs=[.ref p]/\((jF X.K H p ys/\∀l,H l=none->Q (.ref l) (upd H l (.tup ys)))\/(jz X.K H p ys/\Q (.ref p) H))):=by
 intro pins s σ H xs us Q I r h
 obtain⟨p,ys,rfl,h⟩:=h
 obtain⟨u,rfl,rx⟩:=vals1 r
 cases rx
 rcases h with ⟨hq,q⟩ | ⟨hq,q⟩
 ·obtain⟨its,r',pl,hz⟩:=I.list hq
  have hlen:=r'.length
  refine call_tuple_list pl.isList (fun h' kp=>?_) (by simp only[List.size_toArray] <;> omega)
  have I1:Inv X pins σ H { s with heap:=h' }:=I.kept (t':=s.toks) kp
  have I2:Inv X pins σ (upd H h'.objs.size (.tup ys)) { s with heap:=h'.push { cls:=.type "tuple",data:=.seq its.toArray } } :=
   I1.laid (t':=s.toks) (fun b o e=>Heap.get?_push_of_some _ e) (Nat.le_refl _) (show bZ X.prog X.w _ _ _ (.tup ys) from ⟨hz,its,r',yN.new _ _⟩)
  exact⟨.ref h'.objs.size,_,I2,rfl,q _ (I1.hok.fresh (Nat.le_refl _))⟩
 ·obtain⟨its,r',pl,hz⟩:=I.tuple hq
  exact call_tuple_same pl ⟨.ref p,H,I,rfl,q⟩
def tyV(K:PySem.W.Frag)(T:String)(x:V)(H:Hp):Prop:=match x with
 |.str _=>T = "str"
 |.int _=>T = "int"
 |.ref p=>(T = "list"/\∃xs,jF K H p xs)\/(T = "tuple"/\∃o,K.lookup p=some o/\o.cls=.type "tuple"/\o.dict=none) \/
   (T = "dict"/\((∃kvs,H p=some (.dK kvs))\/∃kvs,H p=some (.dT kvs)))\/(T = "set"/\∃S n,H p=some (.set S n))
 |_=>False
theorem Rx{pins:List (Addr×Obj)}{σ:St}{H:Hp}{s:Shared}{T:String}{x:V}{v:Value}(I:Inv X pins σ H s)(r:RelV x v)(ty:tyV X.K T x H) :
  s.TypeIs v T/\∀a,v=.ref a->∃ob,s.heap.get? a=some ob/\ob.dict=none:=by
 cases x with
 |str z=>
  obtain⟨t,rfl⟩:=r
  cases (show T = "str" from ty)
  exact⟨typeIs_str s z t,fun _ e=>nomatch e⟩
 |int i=>
  obtain⟨t,rfl⟩:=r
  cases (show T = "int" from ty)
  exact⟨typeIs_int s i t,fun _ e=>nomatch e⟩
 |ref p=>
  cases r
  rcases ty with ⟨rfl,xs,hq⟩ | ⟨rfl,o,hk,hc,hd⟩ | ⟨rfl,hk⟩ | ⟨rfl,S,n,hk⟩
  ·obtain⟨its,_,pl,_⟩:=I.list hq
   refine⟨pl.isList.typeIs,fun a e=>?_⟩
   cases e
   obtain⟨o,n,e,c,hd,_⟩:=pl
   exact⟨o,e,hd⟩
  ·refine⟨⟨o,I.tV p o hk,hc⟩,fun a e=>?_⟩
   cases e
   exact⟨o,I.tV _ o hk,hd⟩
  ·have z:∃o,s.heap.get? p=some o/\o.ExactDict:=by
    rcases hk with ⟨kvs,hk⟩ | ⟨kvs,hk⟩
    ·obtain⟨_,_,_,_,o,_,_,e,ex,_⟩:=I.hok p _ hk
     exact⟨o,e,ex⟩
    ·obtain⟨_,_,_,_,o,_,_,e,ex,_⟩:=I.hok p _ hk
     exact⟨o,e,ex⟩
   obtain⟨o,e,ex⟩:=z
   refine⟨⟨o,e,ex.1⟩,fun a e2=>?_⟩
   cases e2
   exact⟨o,e,ex.2.1⟩
  ·obtain⟨o,_,_,_,e,ex,_⟩:=I.hok p _ hk
   refine⟨⟨o,e,ex.1⟩,fun a e2=>?_⟩
   cases e2
   exact⟨o,e,ex.2.1⟩
 |_=>exact False.elim ty
def abv(K:PySem.W.Frag)(T:String)(r:V->List V->Hp->VK->Prop)(to:TE):TE:=fun σ H Q=>to σ H fun x H1=>tyV K T x H1/\r x [] H1 Q
def tBM(K:PySem.W.Frag)(T:String)(r:V->List V->Hp->VK->Prop)(to:TE)(t:TA):TE:=fun σ H Q=>to σ H fun x H1=>tyV K T x H1/\t σ H1 fun xs H2=>r x xs H2 Q
variable{o e:Expr}{es:List Expr}{to:TE}{t:TA}{name:Str}{apos cpos:Pos}{T id:String}{r:V->List V->Hp->VK->Prop}
theorem Ys(pa:PlainAttrs T)(slot:Slot T name id)(hty:typeOf (.builtin id)=pure (.type "method_descriptor"))(hm:HQ X id r)(ho:PE X o to)
  (hbase:attributeBase o name X.env (eval o X.env)=eval o X.env:=by rfl) (hline:(apos.endLine==cpos.line)=true:=by rfl):PE X (.Call (.Attribute o name apos) [] [] cpos) (abv X.K T r to):=by
 intro pins s σ H Q I h
 refine wpAny_Call_method0_late hbase hline (cJ (ho pins s σ H _ I h) fun v s1 zz=>?_)
 obtain⟨x,H1,I1,r1,ty,q1⟩:=zz
 obtain⟨h1,h2⟩:=Rx I1 r1 ty
 exact⟨T,id,pa,slot,hty,h1,h2,Calls.callWith_builtin rfl (PySem.evalArgs_none (hm pins s1 σ H1 x [] v [] Q I1 r1 .nil q1))⟩
theorem V1(pa:PlainAttrs T)(slot:Slot T name id)(hty:typeOf (.builtin id)=pure (.type "method_descriptor"))(hm:HQ X id r)(ho:PE X o to)(ha:PA X (e::es) t)
  (hbase:attributeBase o name X.env (eval o X.env)=eval o X.env:=by rfl)
  (hfew:((backTo cpos (starEach (e::es) X.env)).all (fun x => !x.1) && (backToKw cpos (keywordEach [] X.env)).all (fun x => x.1.isSome)
   && decide ((e::es).length+([]:List Keyword).length+(if ([]:List Keyword).isEmpty then 0 else 1)<30))=true:=by rfl)
  (hline:(apos.endLine==cpos.line)=true:=by rfl) (hs:starEach (e::es) X.env=(false,eval e X.env)::starEach es X.env:=by rfl) (hplain:(backTo cpos (starEach es X.env)).any (·.1)=false:=by rfl) :
  PE X (.Call (.Attribute o name apos) (e::es) [] cpos) (tBM X.K T r to t):=by
 intro pins s σ H Q I h
 refine wpAny_Call_method_late hbase hfew hline rfl (cJ (ho pins s σ H _ I h) fun v s1 zz=>?_)
 obtain⟨x,H1,I1,r1,ty,q1⟩:=zz
 obtain⟨h1,h2⟩:=Rx I1 r1 ty
 refine⟨T,id,pa,slot,hty,h1,h2,?_⟩
 have hA:=ha cpos pins s1 σ H1 _ I1 q1
 rw[hs] at hA ⊢
 refine Calls.callWith_builtin (by show (false||(backTo cpos (starEach es X.env)).any (·.1))=false;rw[hplain] <;> rfl) (Calls.evalArgs_plain ?_)
 exact cJ hA fun us s2 ⟨vs,H2,I2,r2,q2⟩=>hm pins s2 σ H2 x vs v us Q I2 r1 r2 q2
/- xs.append(e),list.index on a module's tuple .. are HQ facts of 06m -/
end
def MtM(X:Cx)(id:String)(r:V->List V->Hp->VK->Prop):Prop :=
 ∀(pins:List (Addr×Obj)) (s:Shared) (σ:St) (H:Hp) (x:V) (xs:List V) (v:Value) (us:List Value) (Q:VK),Inv X pins σ H s->RelV x v->Vals xs us->r x xs H Q ->
  wpAny (model X.prog X.w) X.A (call (.builtin id) (v::us)) (EP X pins σ Q) X.xe s
theorem Vals.one{x:V}{us:List Value}(h:Vals [x] us):∃u,us=[u]/\RelV x u:=by
 cases h with
 |cons r t=>cases t;exact⟨_,rfl,r⟩
theorem Vals.zero:∀ {us:List Value},Vals [] us->us=[]
 |_,.nil=>rfl
theorem Vals.dropLast{xs:List V}{us:List Value}(h:Vals xs us):Vals xs.dropLast us.dropLast:=by
 induction h with
 |nil=>exact .nil
 |cons r t ih=>
  cases t with
  |nil=>exact .nil
  |cons q t'=>exact .cons r ih
theorem Gx{α:Type}(l:List α):l.eraseIdx (l.length-1)=l.dropLast:=by
 induction l with
 |nil=>rfl
 |cons a r ih=>
  cases r with
  |nil=>rfl
  |cons b r=>
   have e:(a::b::r).length-1=((b::r).length-1)+1:=by
    have h1:(a::b::r).length=r.length+2:=rfl
    have h2:(b::r).length=r.length+1:=rfl
    omega
   rw[e,List.eraseIdx_cons_succ,ih]
   all_goals rfl
section
variable{X:Cx}{pins:List (Addr×Obj)}{σ:St}{H:Hp}{s:Shared}{l b:Addr}{xs ys zs:List V}
theorem Inv.Xf{its its':List Value}{n:Nat}{f:Array Value->Array Value}{t':Nat}(I:Inv X pins σ H s)(hH:H l=some (.lst xs))
  (e:s.heap.get? l=some { cls:=.type "list",data:=.seq its.toArray n }) (hf:f its.toArray=its'.toArray) (hv:Vals ys its') (hz:ys.length<=sizeLine) :
  Inv X pins σ (upd H l (.lst ys)) { s with heap:=s.heap.update l (Obj.mapSeq f),toks:=t' }:=by
 have q:=PySem.IsL.update e f
 rw[hf] at q
 refine I.write (x:=l) (e:=l) (by rw[hH];exact trivial) (.inl rfl) (fun b' u hb hu=>(Heap.get?_update_other s.heap (Obj.mapSeq f) (Ne.symm hb)).trans hu) ⟨_,q⟩ ?_
 exact⟨hz,its',_,hv,q⟩
theorem Inv.Z1{its:List Value}{t':Nat}(I:Inv X pins σ H s)(hv:Vals ys its)(hz:ys.length<=sizeLine) :
  Inv X pins σ (upd H s.heap.objs.size (.lst ys)) { s with heap:=s.heap.push { cls:=.type "list",data:=.seq its.toArray },toks:=t' } :=
 I.laid (fun _ _ q=>Heap.get?_push_of_some _ q) (Nat.le_refl _) ⟨hz,its,0,hv,Heap.get?_push_size _ rfl⟩
theorem Inv.fresh(I:Inv X pins σ H s):H s.heap.objs.size=none:=I.hok.fresh (Nat.le_refl _)
theorem Inv.KQ(I:Inv X pins σ H s)(hH:H l=some (.lst xs)):xs.length<=sizeLine/\∃(its:List Value) (n:Nat),Vals xs its/\xs.length=its.length/\s.heap.get? l=some { cls:=.type "list",data:=.seq its.toArray n }:=by
 obtain⟨z,its,n,r,e⟩:=I.hok l _ hH
 exact⟨z,its,n,r,r.length,e⟩
theorem Pu{n:Nat}(h:n<=sizeLine):Builtin.List.listTooLong n=false:=by
 unfold Builtin.List.listTooLong
 exact decide_eq_false (by omega)
end
section
variable{X:Cx}
def Uo:V->List V->Hp->VK->Prop:=fun x vs H Q=>∃l xs y,x=.ref l/\vs=[y]/\H l=some (.lst xs)/\xs.length<sizeLine/\Q .non (upd H l (.lst (xs++[y])))
theorem wM:MtM X "list.append" Uo:=by
 intro pins s σ H x vs v us Q I rx rv h
 obtain⟨l,xs,y,rfl,rfl,hH,hz,q⟩:=h
 cases rx
 obtain⟨u,rfl,ru⟩:=rv.one
 obtain⟨z,its,n,r,hl,e⟩:=I.KQ hH
 refine call_meets F.slot_list_append ⟨_,e,rfl⟩ F.entry_list_append (F.args_list_append_2 _ _) (PySem.list_append l its.toArray n u (by rw[List.size_toArray];omega)) ⟨e,?_⟩
 refine⟨.non,_,I.Xf (its':=its++[u]) hH e (by simp) (r.append (.cons ru .nil)) ?_,rfl,q⟩
 rw[List.length_append,List.length_singleton]
 omega
def Sv:V->List V->Hp->VK->Prop:=fun x vs H Q=>∃l b xs zs,x=.ref l/\vs=[.ref b]/\H l=some (.lst xs)/\H b=some (.lst zs)/\xs.length+zs.length<=sizeLine/\Q .non (upd H l (.lst (xs++zs)))
theorem JL:MtM X "list.extend" Sv:=by
 intro pins s σ H x vs v us Q I rx rv h
 obtain⟨l,b,xs,zs,rfl,rfl,hH,hB,hz,q⟩:=h
 cases rx
 obtain⟨u,rfl,ru⟩:=rv.one
 cases ru
 obtain⟨z,its,n,r,hl,e⟩:=I.KQ hH
 obtain⟨z2,its2,n2,r2,hl2,e2⟩:=I.KQ hB
 have hsz:its.toArray.size+its2.toArray.size<=sizeLine:=by rw[List.size_toArray,List.size_toArray];omega
 have hlong:¬(!its.toArray.isEmpty&&Builtin.List.listTooLong (its.toArray.size+its2.toArray.size))=true:=by
  rw[Pu hsz,Bool.and_false]
  exact Bool.false_ne_true
 refine call_meets F.slot_list_extend ⟨_,e,rfl⟩ F.entry_list_extend (F.args_list_extend_2 _ _)
  (AutoSeq1.list_extend_list_list_0 l its.toArray n b its2.toArray n2 hlong (by rw[List.size_toArray];omega) (by omega)) ⟨e,e2,?_⟩
 refine⟨.non,_,I.Xf (its':=its++its2) hH e (by simp) (r.append r2) ?_,rfl,q⟩
 rw[List.length_append]
 omega
def ab8:V->List V->Hp->VK->Prop:=fun x vs H Q=>∃l xs y,x=.ref l/\vs=[]/\H l=some (.lst xs)/\xs[xs.length-1]?=some y/\Q y (upd H l (.lst xs.dropLast))
theorem Wx:MtM X "list.pop" ab8:=by
 intro pins s σ H x vs v us Q I rx rv h
 obtain⟨l,xs,y,rfl,rfl,hH,hy,q⟩:=h
 cases rx
 have hus:=rv.zero
 subst hus
 obtain⟨z,its,n,r,hl,e⟩:=I.KQ hH
 obtain⟨u,hu,ru⟩:=r.get hy
 have hy':its.toArray[its.toArray.size-1]?=some u:=by
  show its.toArray[its.length-1]?=some u
  rw[←Array.getElem?_toList,←hl]
  exact hu
 refine call_meets F.slot_list_pop ⟨_,e,rfl⟩ F.entry_list_pop (F.args_list_pop_1 _) (MeetsSeq.list_pop_last l its.toArray n u hy' (by rw[List.size_toArray];omega)) ⟨e,?_⟩
 refine⟨y,_,I.Xf (its':=its.dropLast) hH e ?_ r.dropLast ?_,ru,q⟩
 ·show its.toArray.eraseIdxIfInBounds (its.toArray.size-1)=its.dropLast.toArray
  rw[List.size_toArray,List.eraseIdxIfInBounds_toArray,Gx]
 ·rw[List.length_dropLast]
  omega
def abS:R2:=fun x y H Q=>∃l b xs zs,x=.ref l/\y=.ref b/\H l=some (.lst xs)/\H b=some (.lst zs)/\xs.length+zs.length<=sizeLine/\∀p,H p=none->Q (.ref p) (upd H p (.lst (xs++zs)))
theorem Xp:gJ X (binaryOp .Add) abS:=by
 intro pins s σ H x y v u Q I rx ry h
 obtain⟨l,b,xs,zs,rfl,rfl,hH,hB,hz,q⟩:=h
 cases rx
 cases ry
 obtain⟨z,its,n,r,hl,e⟩:=I.KQ hH
 obtain⟨z2,its2,n2,r2,hl2,e2⟩:=I.KQ hB
 refine PySem.P.add_list e e2 ?_ (by rw[List.size_toArray,List.size_toArray];omega)
 have ea:its.toArray++its2.toArray=(its++its2).toArray:=by simp
 rw[ea]
 exact⟨.ref _,_,I.Z1 (t':=s.toks) (r.append r2) (by rw[List.length_append];omega),rfl,q _ I.fresh⟩
end
end L2
namespace Att
open PySem PySem.W PySem.Calls PyProof.Rows
theorem tL{P:Params}{h:Heap}:∀(ns:List Int) (vs:List Value),WellAll P h vs (ns.map WData.int)->IntsAre vs ns:=by
 intro ns
 induction ns with
 |nil=>
  intro vs w
  rw[List.map_nil] at w
  cases w
  exact .nil
 |cons n ns ih=>
  intro vs w
  rw[List.map_cons] at w
  cases w with
  |cons a b=>
   cases a
   exact .cons _ _ (ih _ b)
theorem JD{l:OpenLaw}{n:Nat}(hn:l.most=some n){P:Params}{h:Heap}{args:List WData}{vals:List Value}
  (hpre:l.row.toRowW.claim.pre args=true) (hwl:WellAll P h vals args) :
  ∃a vs ns,vals=[Value.ref a]/\args=[WData.list (ns.map WData.int)]/\h.get? a=some { cls:=.type "list",data:=.seq vs.toArray }/\IntsAre vs ns/\ns.length<=n:=by
 have hsh:WShape.hasAll [] args [.list .int]=true:=(pre_splitW hpre).1
 have hc:l.pre.holds [] { args:=args }=true:=(pre_splitW hpre).2
 obtain⟨d,r,rfl,h1,h2⟩:=hasAllW_cons hsh
 obtain rfl:=hasAllW_nil h2
 obtain⟨xs,rfl,h3⟩:=hasW_list h1
 obtain⟨ns,rfl⟩:=items_int h3
 have hlen:ns.length<=n:=by
  unfold OpenLaw.pre at hc
  have h4:(WTm.not (.lt (.lit (.int (n:Int))) (.len (.arg 0)))).holds [] { args:=[.list (ns.map .int)] }=true:=by
   have h4:=(holds_andW hc).1
   rw[hn] at h4
   exact h4
  have h5:=condW_of h4 (w_not (w_lt w_lit (w_len_list (w_arg rfl))))
  rw[List.length_map] at h5
  refine Nat.le_of_not_lt fun q=>?_
  have q':(n:Int)<((ns.length:Nat):Int):=by omega
  first
   |(rw[decide_eq_true q'] at h5;exact absurd h5 (by decide))
   |(simp at h5;omega)
 cases hwl with
 |cons w1 w2=>
  cases w2
  cases w1 with
  |list ho hall=>exact⟨_,_,ns,rfl,rfl,ho,tL ns _ hall,hlen⟩
theorem Jo(l:OpenLaw)(args:List WData):l.row.toRowW.claim.post args (.bool true) args=true :=
 postW_of (r:=l.row.toRowW) (X:=(true==true))
  (show WShape.has [] (.bool true) .bool=true by first | rfl | decide | simp[WShape.has,WShape.arms,WShape.armsAll])
  (show (WTm.eq .res (.lit (.bool true))).value [] { args:=args,res:=some (.bool true),after:=args }=some (.bool (true==true)) from w_eq_bool (w_res rfl) w_lit) rfl
theorem CP{l:OpenLaw}{n:Nat}{q:Program}{loose:List Str}{XP:(Str->Option Value)->Heap->Prop}{YP:World->Heap->Prop}{d:DefRec}
  (hn:l.most=some n) (hdf:d.params.defaults=[])
  (call:∀ (w:World) (s₀ s₁:Shared) (mg mb:Str→Option Value) (fa:Addr) (o:Obj) (pm cd doc:Value) (a:Addr) (vs:List Value) (ns:List Int),
   Ground q loose [] XP w s₀ mg mb s₁.heap->YP w s₁.heap ->
   s₁.heap.get? fa=some o->o.data=.func (docDef d.name d.params d.body d.scope pm cd doc)->s₁.heap.CodeRec cd d.name->mg d.name=some (.ref fa) ->
   s₁.heap.get? a=some { cls:=.type "list",data:=.seq vs.toArray }->IntsAre vs ns->ns.length<=n->s₁.gens=#[] ->
   codeAny (model l.prog w) callerA (.call (.ref fa) ⟨[.ref a],[]⟩) (fun r s'=>r=.ok (.ret (.bool true))/\OldK s₁.heap s'.heap/\s'.os=s₁.os/\AllBare s'.gens) s₁) :
  WalkO q loose XP YP l.row.toRowW d [] (fun f vs=>PySem.call f vs):=by
 intro w s₀ s₁ mg mb G Y fa o pm cd doc dV kV ho hd hcd hD hmg hg args vals as hpre hlay hrd hwl hlo
 obtain rfl:dV=.none:=Dflts.none hD hdf
 obtain rfl:kV=.none:=Dflts.noKw hD
 obtain⟨a,vs,ns,rfl,rfl,hobj,hints,hlen⟩:=JD hn hpre hwl
 refine enter_call (codeAny_mono (call w s₀ s₁ mg mb fa o pm cd doc a vs ns G Y ho (fd_plain hd) hcd hmg hobj hints hlen hg) fun r s' hq=>?_)
 obtain⟨rfl,h2,h3,h4⟩:=hq
 exact⟨.inl ⟨.bool true,.bool true,[],rfl,fun _=>rfl,.bool true,Jo l _,fun _=>⟨List.Pairwise.nil,fun _ hm=>(nomatch hm)⟩⟩,h2,h3,h4⟩
section
variable{prog:Program}{w:World}{A:Around}{E:Value->Shared->Prop}{s:Shared}{K:Frag}
def ledger(h:Heap)(L d:Addr):List (Addr×Obj):=(List.range h.objs.size).filterMap fun a=>if a=L\/a=d then none else (h.get? a).map fun o=>(a,o)
end
end Att
namespace L2
open PySem PySem.Spec PyProof.Rows
theorem rB:∀ {vs:List Value} {ns:List Int},IntsAre vs ns->Vals (ns.map V.int) vs
 |_,_,.nil=>.nil
 |_,_,.cons n t h=>.cons ⟨t,rfl⟩ (rB h)
end L2
namespace L2
open PySem PySem.Spec PyProof.Rows
abbrev zZ:U5:=fun _ _ _ _ _ _=>False
abbrev E0:XK:=fun _ _ _=>False
theorem aaf{X:Cx}:Passes zZ X E0:=fun _ _ _ _ _ _ _ h=>h.elim
structure N8(K:PySem.W.Frag)(x qual:Str)(st:Stmt)(f:Addr)(fd:FuncData):Prop where
 ex:∃(oc:Value) (od:Option Addr) (kV doc pm:Value) (an:Option Addr) (cdv ct:Value) (osl:Array (Option Value)),
  fd=PySem.W.fnOf x qual (bh st) (aR st) (aA st) .none kV doc pm an cdv ct/\K.lookup f=some ⟨oc,od,.func fd,osl⟩/\PySem.W.codeIn K cdv qual=true
 kp:PySem.W.keepIn K (.ref f)=true
section
variable{P:Program}{w:World}{K:PySem.W.Frag}{mg:Str->Option Value}{base:Heap}
theorem N8.ok{x qual:Str}{st:Stmt}{f:Addr}{fd:FuncData}{N ps:List Str}{k:Nat}{sp:Sp}(F:N8 K x qual st f fd)(S:bc N ps (aA st))(len:∀vs H Q E,sp vs H Q E->vs.length=ps.length)
  (hbody:∀ (cdv:Value) (A:Around) (outer:List Env) (s:Shared) (H:Hp) (vs:List V) (Q:VK) (E:XK),eO k (A.deeper (envOfC qual (aA st) s.heap.objs.size f cdv))→sp vs H Q E →
   ∃t,Ck (rH zZ P w K mg base N qual (aA st) f cdv A outer s H E).Mp (aR st) t/\t { nx:=fun _ H'=>Q .non H',rt:=Q } (start N vs) H):vX P w K mg base zZ (k+1) f fd ps sp:=by
 obtain⟨oc,od,kV,doc,pm,an,cdv,ct,osl,rfl,lk,hcd⟩:=F.ex
 refine Vn lk hcd S len fun A outer s H vs Q E hr hsp=>?_
 obtain⟨t,h,q⟩:=hbody cdv A outer s H vs Q E hr hsp
 exact⟨t,h.Mp,q⟩
theorem N8.binds{x qual:Str}{st:Stmt}{f:Addr}{fd:FuncData}{ps:List Str}(F:N8 K x qual st f fd)
  (h:∀(kV doc pm:Value) (an:Option Addr) (cdv ct:Value) (us:List Value),us.length=ps.length->bindArgs (PySem.W.fnOf x qual (bh st) (aR st) (aA st) .none kV doc pm an cdv ct) ⟨us,[]⟩=pure (ps.zip us)):Binds K fd ps []:=by
 obtain⟨oc,od,kV,doc,pm,an,cdv,ct,osl,rfl,lk,hcd⟩:=F.ex
 exact .all (h kV doc pm an cdv ct)
theorem Ec{x qual:Str}{st:Stmt}{f:Addr}{oc:Value}{od an:Option Addr}{osl:Array (Option Value)}{kV doc pm cdv ct:Value}(l:K.lookup f=some ⟨oc,od,.func (PySem.W.fnOf x qual (bh st) (aR st) (aA st) .none kV doc pm an cdv ct),osl⟩)
  (c:PySem.W.codeIn K cdv qual=true) (k:PySem.W.keepIn K (.ref f)=true):N8 K x qual st f (PySem.W.fnOf x qual (bh st) (aR st) (aA st) .none kV doc pm an cdv ct):=⟨⟨oc,od,kV,doc,pm,an,cdv,ct,osl,rfl,l,c⟩,k⟩
end
theorem xF{n:Nat}(h:n<=1000):n<sizeLine:=Nat.lt_of_le_of_lt h (by decide)
section
variable{X:Cx}
theorem pv(i:Nat){x:Str}{pos:Pos}(hN:X.N[i]?=some x:=by rfl)(hv:Vis X.env.scope x:=by first | exact Or.inl rfl | exact Or.inr (Or.inl rfl) | exact Or.inr (Or.inr rfl))(hd:(x==("__debug__" : Str))=false:=by decide)
  (hcd:(x==("__classdict__" : Str))=false:=by decide):PE X (.Name x pos) (Z2 i):=XC hN hv hd hcd
end
section
variable{κ:Type}[DecidableEq κ]
def qM(kvs:List (κ×V))(k:κ):Option V:=(kvs.find? fun kv=>decide (kv.1=k)).map (·.2)
def putK(kvs:List (κ×V))(k:κ)(v:V):List (κ×V) :=
 if (kvs.any fun kv=>decide (kv.1=k))=true then kvs.map (fun kv=>if kv.1=k then (kv.1,v) else kv) else kvs++[(k,v)]
theorem oW{p:κ×V}{r:List (κ×V)}{k:κ}(e:p.1=k):qM (p::r) k=some p.2:=by simp[qM,List.find?_cons,e]
theorem qz{p:κ×V}{r:List (κ×V)}{k:κ}(e:¬p.1=k):qM (p::r) k=qM r k:=by simp[qM,List.find?_cons,e]
theorem Dw(k:κ):∀kvs:List (κ×V),(kvs.any fun kv=>decide (kv.1=k))=(qM kvs k).isSome
 |[]=>rfl
 |p::r=>by
  rw[List.any_cons]
  by_cases e:p.1=k
  ·simp only[oW e,decide_eq_true e,Bool.true_or,Option.isSome_some]
  ·rw[qz e,decide_eq_false e,Bool.false_or];exact Dw k r
theorem mD(kvs:List (κ×V))(k:κ)(v:V):(putK kvs k v).length<=kvs.length+1:=by
 unfold putK
 split
 ·rw[List.length_map];omega
 ·rw[List.length_append,List.length_cons,List.length_nil];omega
theorem uD.jP{o:Option V}{u:Option Value}(r:uD o u):o.isSome=u.isSome:=by
 cases o with
 |none=>cases u with
  |none=>rfl
  |some _=>exact (show False from r).elim
 |some _=>cases u with
  |none=>exact (show False from r).elim
  |some _=>rfl
theorem KV.val{kvs:List (κ×V)}{vs:List (κ×Value)}(r:KV kvs vs)(k:κ):uD (qM kvs k) (valueAt vs k):=by
 unfold KV at r
 induction r with
 |nil=>exact True.intro
 |@cons p q ps qs h t ih=>
  obtain⟨h1,h2⟩:=h
  by_cases e:p.1=k
  ·have e':q.1=k:=h1.symm.trans e
   have b:valueAt (q::qs) k=some q.2:=by simp[valueAt,List.find?_cons,e']
   rw[oW e,b];exact h2
  ·have e':¬q.1=k:=fun z=>e (h1.trans z)
   have b:valueAt (q::qs) k=valueAt qs k:=by simp[valueAt,List.find?_cons,e']
   rw[qz e,b];exact ih
theorem KV.any{kvs:List (κ×V)}{vs:List (κ×Value)}(r:KV kvs vs)(k:κ):(kvs.any fun kv=>decide (kv.1=k))=vs.any fun kv=>decide (kv.1=k):=by
 unfold KV at r
 induction r with
 |nil=>rfl
 |cons h t ih=>rw[List.any_cons,List.any_cons,ih,h.1]
theorem KV.repl{kvs:List (κ×V)}{vs:List (κ×Value)}(r:KV kvs vs)(k:κ){y:V}{u:Value}(ry:RelV y u) :
  KV (kvs.map fun kv=>if kv.1=k then (kv.1,y) else kv) (vs.map fun kv=>if kv.1=k then (kv.1,u) else kv):=by
 unfold KV at r ⊢
 induction r with
 |nil=>exact .nil
 |@cons p q ps qs h t ih=>
  rw[List.map_cons,List.map_cons]
  refine .cons ?_ ih
  obtain⟨h1,h2⟩:=h
  by_cases e:p.1=k
  ·rw[if_pos e,if_pos (h1.symm.trans e)];exact⟨h1,ry⟩
  ·rw[if_neg e,if_neg (fun z=>e (h1.trans z))];exact⟨h1,h2⟩
theorem KV.put{kvs:List (κ×V)}{vs:List (κ×Value)}(r:KV kvs vs)(k:κ){y:V}{u:Value}(ry:RelV y u):KV (putK kvs k y) (stored vs k u):=by
 unfold putK stored
 rw[r.any k]
 by_cases e:(vs.any fun kv=>decide (kv.1=k))=true
 ·rw[if_pos e,if_pos e];exact r.repl k ry
 ·rw[if_neg e,if_neg e];exact Paired.snoc r ⟨rfl,ry⟩
theorem KV.length{kvs:List (κ×V)}{vs:List (κ×Value)}(r:KV kvs vs):kvs.length=vs.length:=Paired.length r
end
theorem xf{P:Program}{w:World}{k:Key}{u:Value}(r:RelV (kV k) u):(bW P w).is k u=true:=by
 cases k with
 |inl i=>obtain⟨t,e⟩:=(show ∃t,u=Value.int i t from r);subst e;exact Dq P w i t
 |inr x=>obtain⟨t,e⟩:=(show ∃t,u=Value.str x t from r);subst e;exact lJ P w x t
theorem xP{P:Program}{w:World}:∀ {ks:List Key} {us:List Value},Vals (ks.map kV) us->ItemsAre (bW P w) ks us
 |[],_,r=>by rw[List.map_nil] at r;cases r;exact .nil
 |k::ks,_,r=>by
  rw[List.map_cons] at r
  cases r with
  |cons h t=>exact .cons (xf h) (xP t)
abbrev KT(H:Hp):List (List Key×V)->List (List Key×Addr×Value)->Prop:=Paired fun p q=>p.1=q.1/\H q.2.1=some (.tup (p.1.map kV))/\RelV p.2 q.2.2
theorem KT.val{H:Hp}{kvs:List (List Key×V)}{xs:List (List Key×Addr×Value)}(r:KT H kvs xs)(k:List Key):uD (qM kvs k) ((atKey xs k).map (·.2)):=by
 induction r with
 |nil=>exact True.intro
 |@cons p q ps qs h t ih=>
  obtain⟨h1,_,h2⟩:=h
  by_cases e:p.1=k
  ·have e':q.1=k:=h1.symm.trans e
   have b:atKey (q::qs) k=some q.2:=by simp[atKey,List.find?_cons,e']
   rw[oW e,b];exact h2
  ·have e':¬q.1=k:=fun z=>e (h1.trans z)
   have b:atKey (q::qs) k=atKey qs k:=by simp[atKey,List.find?_cons,e']
   rw[qz e,b];exact ih
theorem KT.repl{H:Hp}{kvs:List (List Key×V)}{xs:List (List Key×Addr×Value)}(r:KT H kvs xs)(k:List Key){y:V}{u:Value}(ry:RelV y u) :
  KT H (kvs.map fun kv=>if kv.1=k then (kv.1,y) else kv) (xs.map (putAt k u)):=by
 induction r with
 |nil=>exact .nil
 |@cons p q ps qs h t ih=>
  rw[List.map_cons,List.map_cons]
  refine .cons ?_ ih
  obtain⟨h1,h2,h3⟩:=h
  unfold putAt
  by_cases e:p.1=k
  ·rw[if_pos e,if_pos (h1.symm.trans e)];exact⟨h1,h2,ry⟩
  ·rw[if_neg e,if_neg (fun z=>e (h1.trans z))];exact⟨h1,h2,h3⟩
theorem KT.put{H:Hp}{kvs:List (List Key×V)}{xs:List (List Key×Addr×Value)}(r:KT H kvs xs)(k:List Key){b:Addr}{y:V}{u:Value}(hb:H b=some (.tup (k.map kV)))(ry:RelV y u) :
  KT H (putK kvs k y) (storedH xs k b u):=by
 have e:(kvs.any fun kv=>decide (kv.1=k))=(atKey xs k).isSome:=by
  rw[Dw,(r.val k).jP,Option.isSome_map]
 unfold putK storedH
 rw[e]
 by_cases q:(atKey xs k).isSome=true
 ·rw[if_pos q,if_pos q];exact r.repl k ry
 ·rw[if_neg q,if_neg q];exact Paired.snoc r ⟨rfl,hb,ry⟩
theorem KT.keeps{H H':Hp}{kvs:List (List Key×V)}{xs:List (List Key×Addr×Value)}(r:KT H kvs xs)(ht:∀b ys,H b=some (.tup ys)->H' b=some (.tup ys)):KT H' kvs xs :=
 Paired.Du r fun _ _ z=>⟨z.1,ht _ _ z.2.1,z.2.2⟩
section
variable{P:Program}{w:World}{H:Hp}{h:Heap}{a:Addr}
theorem Vv{u:HO}(ok:oH P w H h)(e:Rd H a u):bZ P w H h a u:=e.ok ok
theorem Bx{kvs:List (Key×V)}(ok:oH P w H h)(e:Rd H a (.dK kvs)):kvs.length<=sizeLine/\(a==sysModules)=false/\∃vs,KV kvs vs/\h.DictOf (bW P w) a vs :=
 show bZ P w H h a (.dK kvs) from Vv ok e
theorem Z6{kvs:List (Key×V)}(ok:oH P w H h)(e:H a=some (.dK kvs)):kvs.length<=sizeLine/\(a==sysModules)=false/\∃vs,KV kvs vs/\h.DictOf (bW P w) a vs:=Bx ok (.inl e)
theorem su{ks:List Key}(ok:oH P w H h)(e:H a=some (.tup (ks.map kV))):(tupleKind (bW P w)).is h ks a:=by
 obtain⟨_,its,r,o,h1,h2,n,h3,_⟩:=(show bZ P w H h a (.tup (ks.map kV)) from ok a _ e)
 exact⟨o,its.toArray,n,h1,h2,h3,by simpa using xP r⟩
theorem BX{kvs:List (List Key×V)}(ok:oH P w H h)(e:Rd H a (.dT kvs)):kvs.length<=sizeLine/\(a==sysModules)=false /\
  ∃xs,KT H kvs xs/\h.DictOfH (tupleKind (bW P w)) a xs:=by
 obtain⟨z,y,xs,r,o,es,ep,h1,h2,h3,h4,h5⟩:=(show bZ P w H h a (.dT kvs) from Vv ok e)
 refine⟨z,y,xs,r,o,es,ep,h1,h2,h3,h4,fun x hx=>?_,h5⟩
 have all:∀ {l:List (List Key×V)} {m:List (List Key×Addr×Value)},KT H l m->∀x∈m,(tupleKind (bW P w)).is h x.1 x.2.1:=by
  intro l m q
  induction q with
  |nil=>intro x hx;exact nomatch hx
  |@cons p q ps qs hq t ih=>
   intro x hx
   rcases List.mem_cons.mp hx with e | hx
   ·subst e
    exact su ok (by rw[←hq.1];exact hq.2.1)
   ·exact ih x hx
 exact all r x hx
theorem QQ{kvs:List (List Key×V)}(ok:oH P w H h)(e:H a=some (.dT kvs)):kvs.length<=sizeLine/\(a==sysModules)=false /\
  ∃xs,KT H kvs xs/\h.DictOfH (tupleKind (bW P w)) a xs:=BX ok (.inl e)
end
def wI(H:Hp)(a:Addr)(y:V)(r:Option V):Prop :=
 (∃kvs k,Rd H a (.dK kvs)/\y=kV k/\r=qM kvs k)\/∃kvs k b,Rd H a (.dT kvs)/\y=.ref b/\H b=some (.tup (k.map kV))/\r=qM kvs k
def Nx(H:Hp)(a:Addr)(y v:V)(H':Hp):Prop :=
 (∃kvs k,H a=some (.dK kvs)/\y=kV k/\kvs.length<sizeLine/\H'=upd H a (.dK (putK kvs k v))) \/
 ∃kvs k b,H a=some (.dT kvs)/\y=.ref b/\H b=some (.tup (k.map kV))/\kvs.length<sizeLine/\H'=upd H a (.dT (putK kvs k v))
theorem wI.t{H:Hp}{a b:Addr}{kvs:List (List Key×V)}{k:List Key}(e:H a=some (.dT kvs))(eb:H b=some (.tup (k.map kV))):wI H a (.ref b) (qM kvs k):=.inr ⟨kvs,k,b,.inl e,rfl,eb,rfl⟩
theorem Nx.t{H:Hp}{a b:Addr}{kvs:List (List Key×V)}{k:List Key}{v:V}(e:H a=some (.dT kvs))(eb:H b=some (.tup (k.map kV)))(hl:kvs.length<sizeLine) :
  Nx H a (.ref b) v (upd H a (.dT (putK kvs k v))):=.inr ⟨kvs,k,b,e,rfl,eb,hl,rfl⟩
section
variable{X:Cx}{pins:List (Addr×Obj)}{σ:St}{H:Hp}{s:Shared}{a:Addr}{y v:V}{u r:Value}{o:Option V}{A:Around}{E:Value->Shared->Prop}
theorem Inv.big(I:Inv X pins σ H s):sysModules<s.heap.objs.size:=by
 have h:mainGlobals<s.heap.objs.size:=(I.mod.glob.keeps I.bk).lt
 exact Nat.lt_trans (by decide) h
theorem Km{Q:Value->Shared->Prop}(hu:A.units+1<cLine)(I:Inv X pins σ H s)(g:wI H a y (some v))(ry:RelV y u)(h:∀w' s',Inv X pins σ H s'->RelV v w'->Q w' s') :
  wpAny (model X.prog X.w) A (getItem (.ref a) u) Q E s:=by
 rcases g with ⟨kvs,k,e,ey,l⟩ | ⟨kvs,k,b,e,ey,eb,l⟩
 ·subst ey
  obtain⟨z,hd,vs,rel,dd⟩:=Bx I.hok e
  obtain⟨w',hw,rw'⟩:=uD.some_of (v:=v) (o:=valueAt vs k) (by rw[l];exact rel.val k)
  exact wpAny_getItem_of (xf ry) dd.mapOf hw (h w' _ (I.tok _) rw')
 ·subst ey
  cases (show u=Value.ref b from ry)
  obtain⟨z,hd,xs,rel,dd⟩:=BX I.hok e
  obtain⟨w',hw,rw'⟩:=uD.some_of (v:=v) (o:=(atKey xs k).map (·.2)) (by rw[l];exact rel.val k)
  obtain⟨p,hp,hp2⟩:=Option.map_eq_some_iff.mp hw
  refine wpAny_getItem_heap (tupleKind_room_in1 hu) (su I.hok eb) dd hp ?_
  rw[hp2]
  exact h w' _ (I.tok _) rw'
theorem ack{Q:Value->Shared->Prop}(hu:A.units+1<cLine)(I:Inv X pins σ H s)(g:wI H a y o)(ry:RelV y u)(h:∀s',Inv X pins σ H s'->Q (.bool o.isSome) s') :
  wpAny (model X.prog X.w) A (compareOp .In u (.ref a)) Q E s:=by
 rcases g with ⟨kvs,k,e,ey,l⟩ | ⟨kvs,k,b,e,ey,eb,l⟩
 ·subst ey
  obtain⟨z,hd,vs,rel,dd⟩:=Bx I.hok e
  refine wpAny_in_of (xf ry) hd dd.mapOf ?_
  rw[←(rel.val k).jP,←l]
  exact h _ (I.tok _)
 ·subst ey
  cases (show u=Value.ref b from ry)
  obtain⟨z,hd,xs,rel,dd⟩:=BX I.hok e
  refine wpAny_in_heap (tupleKind_room_in1 hu) (su I.hok eb) hd dd ?_
  have q:=(rel.val k).jP
  rw[Option.isSome_map] at q
  rw[←q,←l]
  exact h _ (I.tok _)
theorem Ux{Q:Value->Shared->Prop}(hu:A.units+1<cLine)(I:Inv X pins σ H s)(g:wI H a y o)(ry:RelV y u)(h:∀s',Inv X pins σ H s'->Q (.bool (!o.isSome)) s') :
  wpAny (model X.prog X.w) A (compareOp .NotIn u (.ref a)) Q E s:=by
 rcases g with ⟨kvs,k,e,ey,l⟩ | ⟨kvs,k,b,e,ey,eb,l⟩
 ·subst ey
  obtain⟨z,hd,vs,rel,dd⟩:=Bx I.hok e
  refine wpAny_notIn_of (xf ry) hd dd.mapOf ?_
  rw[←(rel.val k).jP,←l]
  exact h _ (I.tok _)
 ·subst ey
  cases (show u=Value.ref b from ry)
  obtain⟨z,hd,xs,rel,dd⟩:=BX I.hok e
  refine wpAny_notIn_heap (tupleKind_room_in1 hu) (su I.hok eb) hd dd ?_
  have q:=(rel.val k).jP
  rw[Option.isSome_map] at q
  rw[←q,←l]
  exact h _ (I.tok _)
theorem zQ{h':Heap}{t':Nat}{ob:HO}(I:Inv X pins σ H s)(mu:Mut (H a))(hs:Heap.SameBut a s.heap h')(he:∃q,h'.get? a=some q)(new:bZ X.prog X.w (upd H a ob) h' a ob) :
  Inv X pins σ (upd H a ob) { s with heap:=h',toks:=t' } :=
 I.write (x:=a) (e:=a) mu (.inl rfl) (fun b q hb z=>(hs.2 b hb).trans z) he new
theorem W6{P:Program}{w:World}{H':Hp}{h':Heap}{kvs:List (Key×V)}{vs:List (Key×Value)}(z:kvs.length<=sizeLine)(hd:(a==sysModules)=false)(rel:KV kvs vs)(dd:h'.DictOf (bW P w) a vs) :
  bZ P w H' h' a (.dK kvs):=⟨z,hd,vs,rel,dd⟩
theorem Jp{H':Hp}{Q:Unit->Shared->Prop}(hu:A.units+1<cLine)(I:Inv X pins σ H s)(g:Nx H a y v H')(ry:RelV y u)(rv:RelV v r)(h:∀s',Inv X pins σ H' s'->Q () s') :
  wpAny (model X.prog X.w) A (setItem (.ref a) u r) Q E s:=by
 rcases g with ⟨kvs,k,e,ey,l,eH⟩ | ⟨kvs,k,b,e,ey,eb,l,eH⟩
 ·subst ey eH
  obtain⟨z,hd,vs,rel,dd⟩:=Z6 I.hok e
  have hz:vs.length<=sizeLine:=by rw[←rel.length];exact z
  have hl:(putK kvs k v).length<=sizeLine:=by have:=mD kvs k v;omega
  refine wpAny_setItem_pairs (hsz:=hz) (xf ry) dd fun h' dd' hs=>h _ ?_
  have he:∃q,h'.get? a=some q:=let ⟨q,_,_,hq,_⟩:=dd';⟨q,hq⟩
  exact zQ I (by rw[e];exact True.intro) hs he (W6 hl hd (rel.put k rv) dd')
 ·subst ey eH
  cases (show u=Value.ref b from ry)
  obtain⟨z,hd,xs,rel,dd⟩:=QQ I.hok e
  have hz:xs.length<=sizeLine:=by rw[←Paired.length rel];exact z
  have hl:(putK kvs k v).length<=sizeLine:=by have:=mD kvs k v;omega
  refine wpAny_setItem_heap (hsz:=hz) (tupleKind_room_in1 hu) (su I.hok eb) dd fun h' dd' hs=>h _ ?_
  obtain⟨q,es,ep,hq,h2,h3,h4,_,h5⟩:=dd'
  refine zQ I (by rw[e];exact True.intro) hs ⟨q,hq⟩ ⟨hl,hd,_,(rel.put k eb rv).keeps fun c ys ec=>?_,q,es,ep,hq,h2,h3,h4,h5⟩
  rw[aD (sG ec e (fun z=>nomatch z))]
  exact ec
end
def Ru(i:Expr):Prop:=∀ov iv,subscripted i false ov iv=operate [ov,iv] (getItem ov iv)
theorem Jd{prog:Program}{w:World}{A:Around}{E:Value->Shared->Prop}{s:Shared}{env:Env}{value slice:Expr}{pos:Pos}{T id:String}{Q:Value->Shared->Prop}
  (hl:typeLookup (.type T) "__getitem__" = pure (some (.builtin id))) (hs:Ru slice)
  (h:wpAny (model prog w) A (eval value env) (fun o s₁=>wpAny (model prog w) A (eval slice env) (fun i s₂=>s₂.TypeIs o T/\wpAny (model prog w) A (getItem o i) Q E s₂) E s₁) E s) :
  wpAny (model prog w) A (eval (.Subscript value slice pos) env) Q E s:=by
 refine Subscript_ (wpAny_mono h (fun o s₁ h₁=>wpAny_mono h₁ (fun i s₂ h₂=>?_) fun _ _ x=>x) fun _ _ x=>x)
 obtain⟨hT,h₂⟩:=h₂
 unfold subscriptTail
 refine wpAny_bind ?_
 rw[getitemInPython_of_ne hT.not_modules]
 refine wpAny_bind (wpAny_specialOf hT hl ?_)
 have fin:wpAny (model prog w) A (subscripted slice false o i) (fun r s₃=>wpAny (model prog w) A (letTemporaryGo value o r >>= fun _=>pure r) Q E s₃) E s₂:=by
  rw[hs o i]
  exact wpAny_operating (wpAny_mono h₂ (fun r s₃ h₃=>wpAny_bind (wpAny_letTemporaryGo (wpAny_pure h₃))) fun _ _ x=>x)
 first
  |exact wpAny_pure (wpAny_bind fin)
  |exact wpAny_bind (wpAny_pure (wpAny_bind fin))
  |exact wpAny_bind fin
theorem Bl{X:Cx}{pins:List (Addr×Obj)}{σ:St}{H:Hp}{s:Shared}{a:Addr}{y:V}{o:Option V}(I:Inv X pins σ H s)(g:wI H a y o):s.TypeIs (.ref a) "dict":=by
 rcases g with ⟨kvs,k,e,_,_⟩ | ⟨kvs,k,b,e,_,_,_⟩
 ·obtain⟨_,_,vs,_,dd⟩:=Bx I.hok e
  exact dd.typeIs
 ·obtain⟨_,_,xs,_,dd⟩:=BX I.hok e
  exact dd.typeIs
def aaz(td ty:TE):TE:=fun σ H Q=>td σ H fun x H1=>ty σ H1 fun y H2=>∃a v,x=.ref a/\wI H2 a y (some v)/\Q v H2
def abh(td ty tv:TE):TS:=fun D σ H=>tv σ H fun v H1=>td σ H1 fun x H2=>ty σ H2 fun y H3=>∃a H4,x=.ref a/\Nx H3 a y v H4/\D.nx σ H4
section
variable{X:Cx}{o i e value:Expr}{pos pos' tpos:Pos}{td ty tv:TE}
theorem UL(hu:X.A.units+1<cLine)(ho:PE X o td)(hi:PE X i ty)(hs:Ru i):PE X (.Subscript o i pos) (aaz td ty):=by
 intro pins s σ H Q I h
 refine Jd PySem.F.slot_dict_getitem.lookup hs (cJ (ho pins s σ H _ I h) fun u s1 ⟨x,H1,I1,rx,q1⟩=>cJ (hi pins s1 σ H1 _ I1 q1) fun iv s2 zz=>?_)
 obtain⟨y,H2,I2,ry,a,v,ex,g,q2⟩:=zz
 subst ex
 obtain rfl:u=Value.ref a:=rx
 exact⟨Bl I2 g,Km hu I2 g ry fun w' s3 I3 rw'=>⟨v,H2,I3,rw',q2⟩⟩
theorem TY(hu:X.A.units+1<cLine)(ho:PE X o td)(hi:PE X i ty)(hv:PE X value tv)(hs:swapsWith value (some (.Subscript o i pos')) pos.line X.env=pure false) :
  PS X (.Assign [.Subscript o i pos'] value pos) (abh td ty tv):=by
 intro pins s σ H D I h
 refine wpAny_Assign_Subscript (cJ (hv pins s σ H _ I h) fun r s1 ⟨v,H1,I1,rv,q1⟩=>cJ (ho pins s1 σ H1 _ I1 q1) fun u s2 ⟨x,H2,I2,rx,q2⟩=>cJ (hi pins s2 σ H2 _ I2 q2) fun iv s3 zz=>?_) hs
 obtain⟨y,H3,I3,ry,a,H4,ex,g,q3⟩:=zz
 subst ex
 obtain rfl:u=Value.ref a:=rx
 exact Jp hu I3 g ry rv fun s4 I4=>⟨σ,H4,I4,q3⟩
end
theorem Av{P:Program}{w:World}{H:Hp}(h:Heap)(hb:sysModules<h.objs.size):bZ P w H (h.push { cls:=.type "dict",data:=.dict #[] }) h.objs.size (.dT []) :=
 ⟨Nat.zero_le _,beq_eq_false_iff_ne.mpr (Ne.symm (Nat.ne_of_lt hb)),[],.nil,_,#[],0,Heap.get?_push_size _ rfl,⟨rfl,rfl,rfl⟩,rfl,rfl,List.nodup_nil⟩
def Wt:TE:=fun _ H Q=>∀p,H p=none->Q (.ref p) (upd H p (.dT []))
section
variable{X:Cx}{pos:Pos}
theorem Ob:PE X (.Dict [] [] pos) Wt:=fun pins s σ H Q I h=>
 wpAny_Dict_empty ⟨.ref s.heap.objs.size,_,I.laid (a:=s.heap.objs.size) (o:=.dT []) (t':=s.toks) (fun _ _ q=>Heap.get?_push_of_some _ q) (Nat.le_refl _) (Av s.heap I.big),rfl,h _ (I.hok.fresh (Nat.le_refl _))⟩
end
def Nf:List (TE×TE)->St->Hp->(List (V×V)->Hp->Prop)->Prop
 |[],_,H,Q=>Q [] H
 |(tk,tv)::r,σ,H,Q=>tk σ H fun x H1=>tv σ H1 fun y H2=>Nf r σ H2 fun ps H3=>Q ((x,y)::ps) H3
abbrev VV:List (V×V)->List (Value×Value)->Prop:=Paired fun p q=>RelV p.1 q.1/\RelV p.2 q.2
def PPs(X:Cx)(pos:Pos)(keys:List (Option Expr))(values:List Expr)(trs:List (TE×TE)):Prop :=
 ∀(pins:List (Addr×Obj)) (s:Shared) (σ:St) (H:Hp) (Q:List (V×V)->Hp->Prop),Inv X pins σ H s->Nf trs σ H Q ->
  wpAny (model X.prog X.w) X.A (evalPairs (pairTrees keys values X.env pos)) (fun vs s'=>∃ps H',Inv X pins σ H' s'/\VV ps vs/\Q ps H') X.xe s
theorem Ud{X:Cx}{pos:Pos}:PPs X pos [] [] []:=fun pins s σ H Q I h=>pairTrees_nil_walk ⟨[],H,I,.nil,h⟩
theorem Oj{X:Cx}{pos:Pos}{k v:Expr}{ks:List (Option Expr)}{vs:List Expr}{tk tv:TE}{trs:List (TE×TE)}(hk:PE X k tk)(hv:PE X v tv)(hr:PPs X pos ks vs trs) :
  PPs X pos (some k::ks) (v::vs) ((tk,tv)::trs):=fun pins s σ H Q I h=>
 pairTrees_cons_walk (cJ (hk pins s σ H _ I h) fun u s1 ⟨x,H1,I1,rx,q1⟩=>cJ (hv pins s1 σ H1 _ I1 q1) fun w2 s2 ⟨y,H2,I2,ry,q2⟩=>
  cJ (hr pins s2 σ H2 _ I2 q2) fun ws s3 ⟨ps,H3,I3,rel,q3⟩=>⟨(x,y)::ps,H3,I3,.cons ⟨rx,ry⟩ rel,q3⟩)
end L2
namespace L3
open PySem PySem.Spec PyProof.Rows L2
abbrev St:=L2.St
inductive D where
 |non | bl (b:Bool) | int (i:Int) | str (x:Str) | tup (ds:List D) | fl (ds:List D) | ref (a:Addr) | ty (n:String) | ktup (ds:List D)
def W3(K:PySem.W.Frag)(H:Hp)(a:Addr)(xs:List V):Prop :=
 (∃o,H a=some (.frz o (.lst xs))) \/
  ∃(o:Obj) (its:Array Value) (n:Nat),K.lookup a=some o/\o.cls=.type "list"/\o.dict=none/\o.data=.seq its n/\its.size<=sizeLine/\Vals xs its.toList
theorem W3.sq{K:PySem.W.Frag}{H:Hp}{a:Addr}{xs:List V}(h:W3 K H a xs):jF K H a xs:=by
 rcases h with ⟨o,h⟩ | h
 ·exact .inl (.inr ⟨o,h⟩)
 ·exact .inr h
def KTp(K:PySem.W.Frag)(a:Addr)(xs:List V):Prop:=∃(o:Obj) (its:Array Value) (n:Nat),K.lookup a=some o/\o.cls=.type "tuple"/\o.data=.seq its n/\its.size<=sizeLine/\Vals xs its.toList
theorem KTp.sq{K:PySem.W.Frag}{H:Hp}{a:Addr}{xs:List V}(h:KTp K a xs):jz K H a xs:=.inr h
mutual
inductive Rep(K:PySem.W.Frag)(H:Hp):D->V->Prop
 |non:Rep K H .non .non
 |bl (b:Bool):Rep K H (.bl b) (.bl b)
 |int (i:Int):Rep K H (.int i) (.int i)
 |str (x:Str):Rep K H (.str x) (.str x)
 |ty (n:String):Rep K H (.ty n) (.ty n)
 |ref (a:Addr):Rep K H (.ref a) (.ref a)
 |tup {a:Addr} {xs:List V} {ds:List D}:H a=some (.tup xs)->bj K H ds xs->Rep K H (.tup ds) (.ref a)
 |fl {a:Addr} {xs:List V} {ds:List D}:W3 K H a xs->bj K H ds xs->Rep K H (.fl ds) (.ref a)
 |ktup {a:Addr} {xs:List V} {ds:List D}:KTp K a xs->bj K H ds xs->Rep K H (.ktup ds) (.ref a)
inductive bj(K:PySem.W.Frag)(H:Hp):List D->List V->Prop
 |nil:bj K H [] []
 |cons {d:D} {v:V} {ds:List D} {vs:List V}:Rep K H d v->bj K H ds vs->bj K H (d::ds) (v::vs)
end
structure TK(H H':Hp):Prop where
 tup:∀a xs,H a=some (.tup xs)->H' a=some (.tup xs)
 frz:∀a o u,H a=some (.frz o u)->H' a=some (.frz o u)
theorem TK.refl{H:Hp}:TK H H:=⟨fun _ _ h=>h,fun _ _ _ h=>h⟩
theorem TK.trans{H H1 H2:Hp}(a:TK H H1)(b:TK H1 H2):TK H H2:=⟨fun c xs h=>b.tup c xs (a.tup c xs h),fun c o u h=>b.frz c o u (a.frz c o u h)⟩
theorem TK.fresh{H:Hp}{p:Addr}{o:HO}(n:H p=none):TK H (upd H p o) :=
 ⟨fun a xs h=>by rw[aD (bH h n)];exact h,fun a o' u h=>by rw[aD (bH h n)];exact h⟩
theorem TK.lst{H:Hp}{p:Addr}{o:HO}{xs:List V}(n:H p=some (.lst xs)):TK H (upd H p o) :=
 ⟨fun a ys h=>by rw[aD (sG h n (by intro z;cases z))];exact h,fun a o' u h=>by rw[aD (sG h n (by intro z;cases z))];exact h⟩
theorem TK.dT{H:Hp}{p:Addr}{o:HO}{xs:List (List Key×V)}(n:H p=some (.dT xs)):TK H (upd H p o) :=
 ⟨fun a ys h=>by rw[aD (sG h n (by intro z;cases z))];exact h,fun a o' u h=>by rw[aD (sG h n (by intro z;cases z))];exact h⟩
theorem TK.sqT{K:PySem.W.Frag}{H H':Hp}(t:TK H H'){a:Addr}{xs:List V}(h:jz K H a xs):jz K H' a xs:=by
 rcases h with (h | ⟨o,h⟩) | h
 ·exact .inl (.inl (t.tup _ _ h))
 ·exact .inl (.inr ⟨o,t.frz _ _ _ h⟩)
 ·exact .inr h
theorem TK.fzL{K:PySem.W.Frag}{H H':Hp}(t:TK H H'){a:Addr}{xs:List V}(h:W3 K H a xs):W3 K H' a xs:=by
 rcases h with ⟨o,h⟩ | h
 ·exact .inl ⟨o,t.frz _ _ _ h⟩
 ·exact .inr h
theorem Rep.mono{K:PySem.W.Frag}{H H':Hp}(t:TK H H'){d:D}{v:V}(h:Rep K H d v):Rep K H' d v :=
 Rep.rec (motive_1:=fun d v _=>Rep K H' d v) (motive_2:=fun ds vs _=>bj K H' ds vs) .non .bl .int .str .ty .ref (fun h _ r=>.tup (t.tup _ _ h) r) (fun h _ r=>.fl (t.fzL h) r) (fun h _ r=>.ktup h r) .nil (fun _ _ r s=>.cons r s) h
theorem bj.mono{K:PySem.W.Frag}{H H':Hp}(t:TK H H'){ds:List D}{vs:List V}(h:bj K H ds vs):bj K H' ds vs :=
 bj.rec (motive_1:=fun d v _=>Rep K H' d v) (motive_2:=fun ds vs _=>bj K H' ds vs) .non .bl .int .str .ty .ref (fun h _ r=>.tup (t.tup _ _ h) r) (fun h _ r=>.fl (t.fzL h) r) (fun h _ r=>.ktup h r) .nil (fun _ _ r s=>.cons r s) h
section
variable{K:PySem.W.Frag}{H:Hp}
theorem bj.length{ds:List D}{vs:List V}(h:bj K H ds vs):ds.length=vs.length :=
 bj.rec (motive_1:=fun _ _ _=>True) (motive_2:=fun ds vs _=>ds.length=vs.length) trivial (fun _=>trivial) (fun _=>trivial) (fun _=>trivial) (fun _=>trivial) (fun _=>trivial) (fun _ _ _=>trivial) (fun _ _ _=>trivial) (fun _ _ _=>trivial) rfl (fun _ _ _ i=>congrArg (· + 1) i) h
theorem bj.get:∀ {ds:List D} {vs:List V} {i:Nat} {d:D},bj K H ds vs->ds[i]?=some d->∃v,vs[i]?=some v/\Rep K H d v
 |_,_,_,_,.nil,e=>by simp at e
 |_,_,0,_,.cons r _,e=>by simp at e;subst e;exact⟨_,rfl,r⟩
 |_,_,i+1,d,.cons _ t,e=>by
  obtain⟨u,h1,h2⟩:=bj.get (i:=i) (d:=d) t (by simpa using e)
  exact⟨u,by simpa using h1,h2⟩
theorem bj.SQ:∀ {ds:List D} {vs:List V} {i:Nat} {v:V},bj K H ds vs->vs[i]?=some v->∃d,ds[i]?=some d/\Rep K H d v
 |_,_,_,_,.nil,e=>by simp at e
 |_,_,0,_,.cons r _,e=>by simp at e;subst e;exact⟨_,rfl,r⟩
 |_,_,i+1,v,.cons _ t,e=>by
  obtain⟨u,h1,h2⟩:=bj.SQ (i:=i) (v:=v) t (by simpa using e)
  exact⟨u,by simpa using h1,h2⟩
theorem bj.append{ds es:List D}{vs us:List V}(h:bj K H ds vs)(s:bj K H es us):bj K H (ds++es) (vs++us) :=
 bj.rec (motive_1:=fun _ _ _=>True) (motive_2:=fun ds vs _=>bj K H (ds++es) (vs++us)) trivial (fun _=>trivial) (fun _=>trivial) (fun _=>trivial) (fun _=>trivial) (fun _=>trivial) (fun _ _ _=>trivial) (fun _ _ _=>trivial) (fun _ _ _=>trivial) s (fun r _ _ i=>.cons r i) h
theorem bj.take:∀ {ds:List D} {vs:List V} (n:Nat),bj K H ds vs->bj K H (ds.take n) (vs.take n)
 |_,_,0,_=>.nil
 |_,_,_+1,.nil=>.nil
 |_,_,n+1,.cons r t=>.cons r (bj.take n t)
theorem bj.drop:∀ {ds:List D} {vs:List V} (n:Nat),bj K H ds vs->bj K H (ds.drop n) (vs.drop n)
 |_,_,0,r=>r
 |_,_,_+1,.nil=>.nil
 |_,_,n+1,.cons _ t=>bj.drop n t
theorem bj.snoc{ds:List D}{vs:List V}{d:D}{v:V}(r:bj K H ds vs)(s:Rep K H d v):bj K H (ds++[d]) (vs++[v]):=r.append (.cons s .nil)
theorem bj.dropLast{ds:List D}{vs:List V}(r:bj K H ds vs):bj K H ds.dropLast vs.dropLast:=by
 rw[List.dropLast_eq_take,List.dropLast_eq_take,←r.length];exact r.take _
theorem bj.ints:∀(ns:List Int),bj K H (ns.map D.int) (ns.map V.int)
 |[]=>.nil
 |n::ns=>.cons (.int n) (bj.ints ns)
theorem bj.lW{ns:List Int}:∀ {vs:List V},bj K H (ns.map D.int) vs->vs=ns.map V.int:=by
 induction ns with
 |nil=>intro vs h;cases h;rfl
 |cons n ns ih=>
  intro vs h
  cases h with
  |cons r t=>cases r;rw[List.map_cons,ih t]
end
inductive O3 where
 |lst (ds:List D)
 |dic (kvs:List (List Key×D))
 |dik (kvs:List (Key×D))
 |ins (c:Str) (fs:List (Str×D))
 |exc (c:Str)
 |tab (x:Str)
 |tabd (x:Str) (l k:Nat)
abbrev aF:=Addr->Option O3
def aO(H:aF)(a:Addr)(o:O3):aF:=fun b=>if b=a then some o else H b
theorem aB{H:aF}{a:Addr}{o:O3}:aO H a o a=some o:=by unfold aO;rw[if_pos rfl]
theorem aV{H:aF}{a b:Addr}{o:O3}(h:b≠a):aO H a o b=H b:=by unfold aO;rw[if_neg h]
theorem mK{H:aF}{a:Addr}{o u:O3}:aO (aO H a o) a u=aO H a u:=by
 funext b;unfold aO;split <;> rfl
theorem ne3{H:aF}{a b:Addr}{o:O3}(h:H a=some o)(h':H b=none):a≠b:=by
 intro e;subst e;rw[h] at h';cases h'
def abD(a C:Addr):HO:=.ext fun h=>∃o vs,h.get? a=some o/\o.cls=.ref C/\o.data=.fields vs
structure zf(K:PySem.W.Frag)(H:Hp)(x:Str)(c a:Addr):Prop where
 tab:PySem.W.tabIn K x=some (c,a)
 hd:∀h:Heap,K.In h->PySem.W.CodeHd h c a
 bm:∃bm ob,PySem.W.nsIn K mainGlobals "__builtins__" = some (some (.ref bm))/\bm≠builtinsNs/\H bm=some (.frz ob (.own bm))/\ob.cls=.type "module"/\ob.dict=some builtinsNs/\ob.data=.plain
theorem zf.mono{K:PySem.W.Frag}{H H':Hp}{x:Str}{c a:Addr}(h:zf K H x c a)(t:TK H H'):zf K H' x c a :=
 ⟨h.tab,h.hd,let ⟨bm,ob,h1,h2,h3,h4⟩:=h.bm;⟨bm,ob,h1,h2,t.frz _ _ _ h3,h4⟩⟩
def By(x:Str):Str:=x ++ ".<locals>." ++ "<lambda>"
def OR(K:PySem.W.Frag)(H:Hp)(a:Addr):O3->Prop
 |.lst ds=>∃xs,H a=some (.lst xs)/\bj K H ds xs
 |.dic kvs=>∃ks,H a=some (.dT ks)/\Paired (fun (p:List Key×D) (q:List Key×V)=>p.1=q.1/\Rep K H p.2 q.2) kvs ks
 |.dik kvs=>∃ks,H a=some (.dK ks)/\Paired (fun (p:Key×D) (q:Key×V)=>p.1=q.1/\Rep K H p.2 q.2) kvs ks
 |.ins c fs=>∃C dx xs,PySem.W.nsIn K mainGlobals c=some (some (.ref C))/\H a=some (.ins C dx xs)/\Paired (fun (p:Str×D) (q:Str×V)=>p.1=q.1/\Rep K H p.2 q.2) fs xs
 |.exc c=>∃C,PySem.W.nsIn K mainGlobals c=some (some (.ref C))/\H a=some (abD a C)
 |.tab x=>H a=some (.tbl #[])/\∃c,zf K H x c a
 |.tabd x l k=>∃c' oc vs t,H a=some (.tbl #[rawInt l,rawInt k,.ref c'])/\H c'=some (.frz oc (.own c'))/\oc.data=.fields vs/\vs[1]?=some (.str (By x) t)/\∃c,zf K H x c a
def HR(K:PySem.W.Frag)(H3:aF)(H:Hp):Prop:=∀a o,H3 a=some o->OR K H a o
def aN(H H':aF):Prop:=∀a o,H a=some o->H' a=some o
theorem aN.refl{H:aF}:aN H H:=fun _ _ h=>h
theorem aN.trans{H H1 H2:aF}(a:aN H H1)(b:aN H1 H2):aN H H2:=fun c o h=>b c o (a c o h)
theorem aN.fresh{H:aF}{p:Addr}{o:O3}(n:H p=none):aN H (aO H p o):=fun a u h=>by rw[aV (ne3 h n)];exact h
theorem aN.upd{H H':aF}{p:Addr}{o:O3}(s:aN H H')(n:H p=none):aN H (aO H' p o):=fun a u h=>by rw[aV (ne3 h n)];exact s a u h
section
variable{K:PySem.W.Frag}{H H':Hp}{H3 H3':aF}
theorem HR.sub(h:HR K H3' H)(s:aN H3 H3'):HR K H3 H:=fun a o e=>h a o (s a o e)
theorem HR.fresh(h:HR K H3 H){p:Addr}(n:H p=none):H3 p=none:=by
 cases e:H3 p with
 |none=>rfl
 |some o=>
  cases o with
  |lst ds=>obtain⟨xs,q,_⟩:=h p _ e;rw[n] at q;cases q
  |dic ks=>obtain⟨xs,q,_⟩:=h p _ e;rw[n] at q;cases q
  |dik ks=>obtain⟨xs,q,_⟩:=h p _ e;rw[n] at q;cases q
  |ins c fs=>obtain⟨C,dx,xs,_,q,_⟩:=h p _ e;rw[n] at q;cases q
  |exc c=>obtain⟨C,_,q⟩:=h p _ e;rw[n] at q;cases q
  |tab x=>obtain⟨q,_⟩:=h p _ e;rw[n] at q;cases q
  |tabd x l k=>obtain⟨_,_,_,_,q,_⟩:=h p _ e;rw[n] at q;cases q
theorem OR.keep{a:Addr}{o:O3}(x:OR K H a o)(t:TK H H')(e:H' a=H a):OR K H' a o:=by
 cases o with
 |lst ds=>obtain⟨xs,q,r⟩:=x;exact⟨xs,e.trans q,r.mono t⟩
 |dic ks=>obtain⟨xs,q,r⟩:=x;exact⟨xs,e.trans q,Paired.Du r fun _ _ z=>⟨z.1,z.2.mono t⟩⟩
 |dik ks=>obtain⟨xs,q,r⟩:=x;exact⟨xs,e.trans q,Paired.Du r fun _ _ z=>⟨z.1,z.2.mono t⟩⟩
 |ins c fs=>obtain⟨C,dx,xs,g,q,r⟩:=x;exact⟨C,dx,xs,g,e.trans q,Paired.Du r fun _ _ z=>⟨z.1,z.2.mono t⟩⟩
 |exc c=>obtain⟨C,g,q⟩:=x;exact⟨C,g,e.trans q⟩
 |tab x=>obtain⟨q,c,g⟩:=x;exact⟨e.trans q,c,g.mono t⟩
 |tabd x l k=>obtain⟨c',oc,vs,u,q,q',d,v,c,g⟩:=x;exact⟨c',oc,vs,u,e.trans q,t.frz _ _ _ q',d,v,c,g.mono t⟩
theorem HR.set(h:HR K H3 H){p:Addr}{o:HO}{o3:O3}(t:TK H (upd H p o))(new:OR K (upd H p o) p o3):HR K (aO H3 p o3) (upd H p o):=fun b u e=>by
 by_cases hb:b=p
 ·subst hb;rw[aB] at e;cases e;exact new
 ·rw[aV hb] at e;exact (h b u e).keep t (aD hb)
theorem HR.wJ(h:HR K H3 H){p:Addr}{xs:List V}{ds:List D}(t:TK H (upd H p (.lst xs)))(r:bj K (upd H p (.lst xs)) ds xs):HR K (aO H3 p (.lst ds)) (upd H p (.lst xs)):=h.set (o3:=.lst ds) t ⟨xs,aQ,r⟩
theorem HR.tup(h:HR K H3 H){p:Addr}{xs:List V}(n:H p=none):HR K H3 (upd H p (.tup xs)):=fun b u e=>by
 have hb:b≠p:=ne3 e (h.fresh n)
 exact (h b u e).keep (TK.fresh n) (aD hb)
end
abbrev cO:=List (Option D)
abbrev aY:=D->aF->Prop
abbrev cC:=cO->aF->aY->Prop
abbrev sY:=cO->aF->(Bool->aF->Prop)->Prop
abbrev t8:=cO->aF->(List D->aF->Prop)->Prop
structure iR where
 nx:cO->aF->Prop
 rt:aY
 bk:cO->aF->Prop:=fun _ _=>False
 ct:cO->aF->Prop:=fun _ _=>False
abbrev dw:=iR->cO->aF->Prop
structure SR(K:PySem.W.Frag)(H:Hp)(σ3:cO)(σ:St):Prop where
 len:σ3.length=σ.length
 get:∀(i:Nat) (d:D),σ3[i]?=some (some d)->∃v,σ[i]?=some (some v)/\Rep K H d v
theorem SR.mono{K:PySem.W.Frag}{H H':Hp}{σ3:cO}{σ:St}(s:SR K H σ3 σ)(t:TK H H'):SR K H' σ3 σ :=
 ⟨s.len,fun i d e=>let ⟨v,h1,h2⟩:=s.get i d e;⟨v,h1,h2.mono t⟩⟩
theorem SR.set{K:PySem.W.Frag}{H:Hp}{σ3:cO}{σ:St}(s:SR K H σ3 σ)(i:Nat){d:D}{v:V}(r:Rep K H d v):SR K H (σ3.set i (some d)) (σ.set i (some v)):=by
 refine⟨by simp[s.len],fun j e h=>?_⟩
 by_cases hj:j=i
 ·subst hj
  by_cases hl:j<σ3.length
  ·rw[List.getElem?_set_self hl] at h
   cases h
   exact⟨v,by rw[List.getElem?_set_self (by rw[←s.len];exact hl)],r⟩
  ·rw[List.getElem?_eq_none (by simpa using hl)] at h;cases h
 ·rw[List.getElem?_set_ne (Ne.symm hj)] at h
  obtain⟨u,h1,h2⟩:=s.get j e h
  exact⟨u,by rw[List.getElem?_set_ne (Ne.symm hj)];exact h1,h2⟩
def KE(K:PySem.W.Frag)(H:Hp)(Q3:aY)(Q:VK):Prop:=∀d v H3' H',TK H H'->HR K H3' H'->Rep K H' d v->Q3 d H3'->Q v H'
def KT(K:PySem.W.Frag)(H:Hp)(Q3:Bool->aF->Prop)(Q:Bool->Hp->Prop):Prop:=∀b H3' H',TK H H'->HR K H3' H'->Q3 b H3'->Q b H'
def KA(K:PySem.W.Frag)(H:Hp)(Q3:List D->aF->Prop)(Q:List V->Hp->Prop):Prop:=∀ds vs H3' H',TK H H'->HR K H3' H'->bj K H' ds vs->Q3 ds H3'->Q vs H'
def KN(K:PySem.W.Frag)(H:Hp)(Q3:cO->aF->Prop)(Q:St->Hp->Prop):Prop:=∀σ3 σ H3' H',TK H H'->SR K H' σ3 σ->HR K H3' H'->Q3 σ3 H3'->Q σ H'
structure KS(K:PySem.W.Frag)(H:Hp)(D3:iR)(D:Ends):Prop where
 nx:KN K H D3.nx D.nx
 rt:KE K H D3.rt D.rt
 bk:KN K H D3.bk D.bk
 ct:KN K H D3.ct D.ct
theorem KE.mono{K:PySem.W.Frag}{H H1:Hp}{Q3:aY}{Q:VK}(k:KE K H Q3 Q)(t:TK H H1):KE K H1 Q3 Q:=fun d v H3 H' t'=>k d v H3 H' (t.trans t')
theorem KN.mono{K:PySem.W.Frag}{H H1:Hp}{Q3:cO->aF->Prop}{Q:St->Hp->Prop}(k:KN K H Q3 Q)(t:TK H H1):KN K H1 Q3 Q:=fun d v H3 H' t'=>k d v H3 H' (t.trans t')
theorem KS.mono{K:PySem.W.Frag}{H H1:Hp}{D3:iR}{D:Ends}(k:KS K H D3 D)(t:TK H H1):KS K H1 D3 D:=⟨k.nx.mono t,k.rt.mono t,k.bk.mono t,k.ct.mono t⟩
inductive eV(K:PySem.W.Frag)(t:cC)(σ:St)(H:Hp)(Q:VK):Prop
 |mk (σ3:cO) (H3:aF) (Q3:aY) (_:SR K H σ3 σ) (_:HR K H3 H) (_:t σ3 H3 Q3) (_:KE K H Q3 Q)
theorem eV.ex{K:PySem.W.Frag}{t:cC}{σ:St}{H:Hp}{Q:VK}{G:Prop}(z:eV K t σ H Q)(k:∀(σ3:cO) (H3:aF) (Q3:aY),SR K H σ3 σ->HR K H3 H->t σ3 H3 Q3->KE K H Q3 Q->G):G:=by
 cases z with
 |mk σ3 H3 Q3 h0 h1 h2 h3=>exact k σ3 H3 Q3 h0 h1 h2 h3
inductive liftT(K:PySem.W.Frag)(t:sY)(σ:St)(H:Hp)(Q:Bool->Hp->Prop):Prop
 |mk (σ3:cO) (H3:aF) (Q3:Bool->aF->Prop) (_:SR K H σ3 σ) (_:HR K H3 H) (_:t σ3 H3 Q3) (_:KT K H Q3 Q)
theorem liftT.ex{K:PySem.W.Frag}{t:sY}{σ:St}{H:Hp}{Q:Bool->Hp->Prop}{G:Prop}(z:liftT K t σ H Q)(k:∀(σ3:cO) (H3:aF) (Q3:Bool->aF->Prop),SR K H σ3 σ->HR K H3 H->t σ3 H3 Q3->KT K H Q3 Q->G):G:=by
 cases z with
 |mk σ3 H3 Q3 h0 h1 h2 h3=>exact k σ3 H3 Q3 h0 h1 h2 h3
inductive Jg(K:PySem.W.Frag)(t:t8)(σ:St)(H:Hp)(Q:List V->Hp->Prop):Prop
 |mk (σ3:cO) (H3:aF) (Q3:List D->aF->Prop) (_:SR K H σ3 σ) (_:HR K H3 H) (_:t σ3 H3 Q3) (_:KA K H Q3 Q)
theorem Jg.ex{K:PySem.W.Frag}{t:t8}{σ:St}{H:Hp}{Q:List V->Hp->Prop}{G:Prop}(z:Jg K t σ H Q)(k:∀(σ3:cO) (H3:aF) (Q3:List D->aF->Prop),SR K H σ3 σ->HR K H3 H->t σ3 H3 Q3->KA K H Q3 Q->G):G:=by
 cases z with
 |mk σ3 H3 Q3 h0 h1 h2 h3=>exact k σ3 H3 Q3 h0 h1 h2 h3
inductive Hw(K:PySem.W.Frag)(t:dw)(D:Ends)(σ:St)(H:Hp):Prop
 |mk (σ3:cO) (H3:aF) (D3:iR) (_:SR K H σ3 σ) (_:HR K H3 H) (_:t D3 σ3 H3) (_:KS K H D3 D)
theorem Hw.ex{K:PySem.W.Frag}{t:dw}{D:Ends}{σ:St}{H:Hp}{G:Prop}(z:Hw K t D σ H)(k:∀(σ3:cO) (H3:aF) (D3:iR),SR K H σ3 σ->HR K H3 H->t D3 σ3 H3->KS K H D3 D->G):G:=by
 cases z with
 |mk σ3 H3 D3 h0 h1 h2 h3=>exact k σ3 H3 D3 h0 h1 h2 h3
def cN(X:Cx)(e:Expr)(t:cC):Prop:=PE X e (eV X.K t)
def LR(X:Cx)(e:Expr)(t:sY):Prop:=PT X e (liftT X.K t)
def Yu(X:Cx)(e:Expr)(t:sY):Prop:=PW X e (liftT X.K t)
def Mu(X:Cx)(es:List Expr)(t:t8):Prop:=PA X es (Jg X.K t)
def K6(X:Cx)(st:Stmt)(t:dw):Prop:=PS X st (Hw X.K t)
def tD(X:Cx)(st:List Stmt)(t:dw):Prop:=Ck X st (Hw X.K t)
section
variable{X:Cx}{e:Expr}{es:List Expr}{st:Stmt}{sts:List Stmt}
theorem bL{t t':TE}(h:PE X e t)(i:∀σ H Q,t' σ H Q->t σ H Q):PE X e t':=fun pins s σ H Q I hw=>h pins s σ H Q I (i σ H Q hw)
theorem yD{t t':TT}(h:PT X e t)(i:∀σ H Q,t' σ H Q->t σ H Q):PT X e t':=fun pins s σ H Q I hw=>h pins s σ H Q I (i σ H Q hw)
theorem MJ{t t':TT}(h:PW X e t)(i:∀σ H Q,t' σ H Q->t σ H Q):PW X e t':=fun wh pins s σ H Q I hw=>h wh pins s σ H Q I (i σ H Q hw)
theorem Nz{t t':TA}(h:PA X es t)(i:∀σ H Q,t' σ H Q->t σ H Q):PA X es t':=fun pos pins s σ H Q I hw=>h pos pins s σ H Q I (i σ H Q hw)
theorem jD{t t':TS}(h:PS X st t)(i:∀D σ H,t' D σ H->t D σ H):PS X st t':=fun pins s σ H D I hw=>h pins s σ H D I (i D σ H hw)
theorem Hn{t t':TS}(h:Ck X sts t)(i:∀D σ H,t' D σ H->t D σ H):Ck X sts t':=fun pins s σ H D I hw=>h pins s σ H D I (i D σ H hw)
end
end L3
namespace L3
open PySem PySem.Spec PyProof.Rows L2
abbrev R3:=D->D->aF->aY->Prop
inductive bV(K:PySem.W.Frag)(r:R3)(x y:V)(H:Hp)(Q:VK):Prop
 |mk (dx dy:D) (H3:aF) (Q3:aY) (_:HR K H3 H) (_:Rep K H dx x) (_:Rep K H dy y) (_:r dx dy H3 Q3) (_:KE K H Q3 Q)
inductive Vy(K:PySem.W.Frag)(r:D->aF->aY->Prop)(x:V)(H:Hp)(Q:VK):Prop
 |mk (dx:D) (H3:aF) (Q3:aY) (_:HR K H3 H) (_:Rep K H dx x) (_:r dx H3 Q3) (_:KE K H Q3 Q)
inductive ik(K:PySem.W.Frag)(r:List D->aF->aY->Prop)(xs:List V)(H:Hp)(Q:VK):Prop
 |mk (ds:List D) (H3:aF) (Q3:aY) (_:HR K H3 H) (_:bj K H ds xs) (_:r ds H3 Q3) (_:KE K H Q3 Q)
inductive liftM(K:PySem.W.Frag)(r:D->List D->aF->aY->Prop)(x:V)(xs:List V)(H:Hp)(Q:VK):Prop
 |mk (d:D) (ds:List D) (H3:aF) (Q3:aY) (_:HR K H3 H) (_:Rep K H d x) (_:bj K H ds xs) (_:r d ds H3 Q3) (_:KE K H Q3 Q)
section
variable{X:Cx}{a b c e:Expr}{es:List Expr}{pos:Pos}{ta tb tc te:cC}{tr:t8}{tA tB:sY}
def v3(i:Nat):cC:=fun σ H Q=>match σ[i]? with
 |some (some d)=>Q d H
 |_=>False
def c3(d:D):cC:=fun _ H Q=>Q d H
theorem aa(i:Nat){x:Str}(hN:X.N[i]?=some x:=by rfl)(hv:Vis X.env.scope x:=by first | exact Or.inl rfl | exact Or.inr (Or.inl rfl) | exact Or.inr (Or.inr rfl))(hd:(x==("__debug__" : Str))=false:=by decide)
  (hcd:(x==("__classdict__" : Str))=false:=by decide):cN X (.Name x pos) (v3 i) :=
 bL (pv i hN hv hd hcd) fun σ H Q zz=>zz.ex fun σ3 H3 Q3 sr hr t k=>by
  unfold v3 at t
  split at t
  ·rename_i d h
   obtain⟨v,h1,r⟩:=sr.get i d h
   exact⟨v,h1,k d v H3 H TK.refl hr r t⟩
  ·exact t.elim
theorem aq{i:Int}{j:Nat}:cN X (.Constant (.int i) j pos) (c3 (.int i)):=bL Yc fun _ _ _ ⟨_,_,_,_,hr,t,k⟩=>k _ _ _ _ TK.refl hr (.int i) t
theorem o7{i:Bool}{j:Nat}:cN X (.Constant (.bool i) j pos) (c3 (.bl i)):=bL Z8 fun _ _ _ ⟨_,_,_,_,hr,t,k⟩=>k _ _ _ _ TK.refl hr (.bl i) t
theorem lE{i:Str}{j:Nat}:cN X (.Constant (.str i) j pos) (c3 (.str i)):=bL W9 fun _ _ _ ⟨_,_,_,_,hr,t,k⟩=>k _ _ _ _ TK.refl hr (.str i) t
theorem Q7{x:Str}{T:String}(hg:Gl X x)(hm:X.mg x=none)(hv:bootBuiltins x=some (.type T))(hn:x ≠ "__name__":=by decide)(hd:(x==("__debug__" : Str))=false:=by decide):cN X (.Name x pos) (c3 (.ty T)) :=
 bL (U7 (v:=.ty T) hg hm hv rfl hn hd) fun _ _ _ ⟨_,_,_,_,hr,t,k⟩=>k _ _ _ _ TK.refl hr (.ty T) t
def o3(r:R3)(ta tb:cC):cC:=fun σ H Q=>ta σ H fun x H1=>tb σ H1 fun y H2=>r x y H2 Q
theorem pY{K:PySem.W.Frag}{r:R3}{σ:St}{H:Hp}{Q:VK}(h:eV K (o3 r ta tb) σ H Q):tOp (bV K r) (eV K ta) (eV K tb) σ H Q:=by
 obtain⟨σ3,H3,Q3,sr,hr,t,k⟩:=h
 exact⟨σ3,H3,_,sr,hr,t,fun x v H3a Ha tka hra rx qa=>⟨σ3,H3a,_,sr.mono tka,hra,qa,fun y u H3b Hb tkb hrb ry qb=>
  ⟨x,y,H3b,Q3,hrb,rx.mono tkb,ry,qb,k.mono (tka.trans tkb)⟩⟩⟩
theorem aG{op:Operator}{r:R3}(ho:gJ X (binaryOp op) (bV X.K r))(ha:cN X a ta)(hb:cN X b tb):cN X (.BinOp a op b pos) (o3 r ta tb) :=
 bL (aa3 ho ha hb) fun _ _ _ h=>pY h
theorem zg{op:CmpOp}{r:R3}(ho:gJ X (compareOp op) (bV X.K r))(ha:cN X a ta)(hb:cN X b tb)(hm:behindInMarks op b=false:=by first | exact Nv _ | with_unfolding_all rfl):cN X (.Compare a [op] [b] pos) (o3 r ta tb) :=
 bL (Th ho ha hb hm) fun _ _ _ h=>pY h
theorem aK{r:R3}(hr:Zm X (bV X.K r))(ha:cN X a ta)(hb:cN X b tb)(hs:Ji b:=by exact fun _ _=>rfl):cN X (.Subscript a b pos) (o3 r ta tb) :=
 bL (aaS hr ha hb hs) fun _ _ _ h=>pY h
def u3(r:D->aF->aY->Prop)(ta:cC):cC:=fun σ H Q=>ta σ H fun x H1=>r x H1 Q
theorem vz{op:UnaryOp}{r:D->aF->aY->Prop}(ho:UnR X (unaryOp op) (Vy X.K r))(ha:cN X a ta):cN X (.UnaryOp op a pos) (u3 r ta) :=
 bL (Z9 ho ha) fun _ _ _ zz=>zz.ex fun σ3 H3 Q3 sr hr t k=>⟨σ3,H3,_,sr,hr,t,fun x v H3a Ha tka hra rx qa=>⟨x,H3a,Q3,hra,rx,qa,k.mono tka⟩⟩
def bt(d:D)(H:aF)(Q:Bool->aF->Prop):Prop:=match d with
 |.bl k=>Q k H
 |_=>False
theorem yx{K:PySem.W.Frag}{H:Hp}{Q3:Bool->aF->Prop}{Q:Bool->Hp->Prop}(k:KT K H Q3 Q):KE K H (fun d H1=>bt d H1 Q3) (fun x H'=>∃c,x=.bl c/\Q c H'):=fun d v H3' H' tk hr rep q=>by
 cases rep with
 |bl b=>exact⟨b,rfl,k _ _ _ tk hr q⟩
 |_=>exact q.elim
def oK(t:cC):sY:=fun σ H Q=>t σ H fun d H1=>bt d H1 Q
theorem bR{op:CmpOp}{r:R3}(ho:gJ X (compareOp op) (bV X.K r))(ha:cN X a ta)(hb:cN X b tb)(hm:behindInMarks op b=false:=by first | exact Nv _ | with_unfolding_all rfl):LR X (.Compare a [op] [b] pos) (oK (o3 r ta tb)) :=
 yD (Vi ho ha hb hm) fun _ _ _ zz=>zz.ex fun σ3 H3 Q3 sr hr t k=>pY ⟨σ3,H3,_,sr,hr,t,yx k⟩
theorem pF(h:cN X e te)(he:∀whole,isTrue e X.env whole=(do let v ←whole;standAt e.pos;holding [v] (truthy v)):=by intro _;rfl):LR X e (oK te) :=
 yD (YH h he) fun _ _ _ zz=>zz.ex fun σ3 H3 Q3 sr hr t k=>⟨σ3,H3,_,sr,hr,t,yx k⟩
def an3(t u:sY):sY:=fun σ H Q=>t σ H fun c H1=>if c=true then u σ H1 Q else Q false H1
def or3(t u:sY):sY:=fun σ H Q=>t σ H fun c H1=>if c=true then Q true H1 else u σ H1 Q
def no3(t:sY):sY:=fun σ H Q=>t σ H fun c H1=>Q (!c) H1
variable{rest:List Expr}
theorem KT.mono{K:PySem.W.Frag}{H H1:Hp}{Q3:Bool->aF->Prop}{Q:Bool->Hp->Prop}(k:KT K H Q3 Q)(t:TK H H1):KT K H1 Q3 Q:=fun d H3 H' t'=>k d H3 H' (t.trans t')
theorem Rc(ha:LR X a tA):Yu X (.BoolOp .And [a] pos) tA:=Ti ha
theorem uq(ha:LR X a tA):Yu X (.BoolOp .Or [a] pos) tA:=W2 ha
theorem Ja(ha:LR X a tA)(hb:Yu X (.BoolOp .And (b::rest) pos) tB):Yu X (.BoolOp .And (a::b::rest) pos) (an3 tA tB) :=
 MJ (Yi ha hb) fun _ _ _ zz=>zz.ex fun σ3 H3 Q3 sr hr t k=>⟨σ3,H3,_,sr,hr,t,fun c H3a Ha tka hra qa=>by
  cases c with
  |true=>exact⟨σ3,H3a,Q3,sr.mono tka,hra,qa,k.mono tka⟩
  |false=>exact k _ _ _ tka hra qa⟩
theorem uV(ha:LR X a tA)(hb:Yu X (.BoolOp .Or (b::rest) pos) tB):Yu X (.BoolOp .Or (a::b::rest) pos) (or3 tA tB) :=
 MJ (Z3 ha hb) fun _ _ _ zz=>zz.ex fun σ3 H3 Q3 sr hr t k=>⟨σ3,H3,_,sr,hr,t,fun c H3a Ha tka hra qa=>by
  cases c with
  |false=>exact⟨σ3,H3a,Q3,sr.mono tka,hra,qa,k.mono tka⟩
  |true=>exact k _ _ _ tka hra qa⟩
theorem Df(h:Yu X e tA):LR X e tA:=h.pt
theorem zE(ha:LR X a tA):LR X (.UnaryOp .Not a pos) (no3 tA) :=
 yD (XN ha) fun _ _ _ zz=>zz.ex fun σ3 H3 Q3 sr hr t k=>⟨σ3,H3,_,sr,hr,t,fun c H3a Ha tka hra qa=>k _ _ _ tka hra qa⟩
def Zy(ta tb:cC):cC:=fun σ H Q=>ta σ H fun x H1=>match x with
 |.bl c=>if c=true then tb σ H1 Q else Q (.bl false) H1
 |_=>False
def nv3(ta:cC):cC:=fun σ H Q=>ta σ H fun x H1=>match x with
 |.bl c=>Q (.bl (!c)) H1
 |_=>False
theorem Ry{op:BoolOp}(h:cN X a ta):cN X (.BoolOp op [a] pos) ta:=Xg h
theorem yI(ha:cN X a ta)(hb:cN X (.BoolOp .And (b::rest) pos) tb):cN X (.BoolOp .And (a::b::rest) pos) (Zy ta tb) :=
 bL (X6 ha hb) fun _ _ _ zz=>zz.ex fun σ3 H3 Q3 sr hr t k=>⟨σ3,H3,_,sr,hr,t,fun x v H3a Ha tka hra rx qa=>by
  cases rx with
  |bl c=>
   refine⟨c,rfl,?_⟩
   cases c with
   |true=>exact⟨σ3,H3a,Q3,sr.mono tka,hra,qa,k.mono tka⟩
   |false=>exact k _ _ _ _ tka hra (.bl false) qa
  |_=>exact qa.elim⟩
theorem XJ(ha:cN X a ta):cN X (.UnaryOp .Not a pos) (nv3 ta) :=
 bL (Xh ha) fun _ _ _ zz=>zz.ex fun σ3 H3 Q3 sr hr t k=>⟨σ3,H3,_,sr,hr,t,fun x v H3a Ha tka hra rx qa=>by
  cases rx with
  |bl c=>exact⟨c,rfl,k _ _ _ _ tka hra (.bl _) qa⟩
  |_=>exact qa.elim⟩
def aH:t8:=fun _ H Q=>Q [] H
def au(ta:cC)(tr:t8):t8:=fun σ H Q=>ta σ H fun x H1=>tr σ H1 fun xs H2=>Q (x::xs) H2
theorem az:Mu X [] aH:=Nz Rg fun _ _ _ ⟨_,_,_,_,hr,t,k⟩=>k _ _ _ _ TK.refl hr .nil t
theorem ao(ha:cN X e te)(hr:Mu X es tr)(hs:starEach (e::es) X.env=(false,eval e X.env)::starEach es X.env:=by rfl):Mu X (e::es) (au te tr) :=
 Nz (Hq ha hr hs) fun _ _ _ zz=>zz.ex fun σ3 H3 Q3 sr hr t k=>⟨σ3,H3,_,sr,hr,t,fun x v H3a Ha tka hra rx qa=>⟨σ3,H3a,_,sr.mono tka,hra,qa,fun ds vs H3b Hb tkb hrb rs qb=>
  k _ _ _ _ (tka.trans tkb) hrb (.cons (rx.mono tkb) rs) qb⟩⟩
def jh(t:t8):cC:=fun σ H Q=>t σ H fun ds H1=>ds.length<=1000/\Q (.tup ds) H1
def Il(t:t8):cC:=fun σ H Q=>t σ H fun ds H1=>ds.length<=1000/\∀p,H1 p=none->Q (.ref p) (aO H1 p (.lst ds))
theorem zT{n:Nat}(h:n<=1000):n<=sizeLine:=Nat.le_of_lt (xF h)
theorem aZ{x1:Nat}(h:Mu X es tr):cN X (.Tuple es x1 pos) (jh tr) :=
 bL (YG h) fun _ _ _ zz=>zz.ex fun σ3 H3 Q3 sr hr t k=>⟨σ3,H3,_,sr,hr,t,fun ds vs H3a Ha tka hra rs qa=>
  ⟨by rw[←rs.length];exact zT qa.1,fun p n=>k _ _ _ _ (tka.trans (TK.fresh n)) (hra.tup n) (.tup aQ (rs.mono (TK.fresh n))) qa.2⟩⟩
theorem gr(h:Mu X es tr):cN X (.List es pos) (Il tr) :=
 bL (X5 h) fun _ _ _ zz=>zz.ex fun σ3 H3 Q3 sr hr t k=>⟨σ3,H3,_,sr,hr,t,fun ds vs H3a Ha tka hra rs qa=>
  ⟨by rw[←rs.length];exact zT qa.1,fun p n=>k _ _ _ _ (tka.trans (TK.fresh n)) (hra.wJ (TK.fresh n) (rs.mono (TK.fresh n))) (.ref p) (qa.2 p (hra.fresh n))⟩⟩
end
section
variable{X:Cx}
def bG:R3:=fun x y H Q=>match x,y with
 |.int i,.int j=>Q (.int (i+j)) H
 |.str i,.str j=>i.length+j.length<=sizeLine/\Q (.str (i++j)) H
 | .ref a,.ref b => (match H a,H b with
  |some (.lst xs),some (.lst ys)=>xs.length+ys.length<=sizeLine/\∀p,H p=none->Q (.ref p) (aO H p (.lst (xs++ys)))
  |_,_=>False)
 |_,_=>False
theorem aU:gJ X (binaryOp .Add) (bV X.K bG):=by
 intro pins s σ H x y v u Q I rx ry h
 obtain⟨dx,dy,H3,Q3,hr,rdx,rdy,t,k⟩:=h
 cases rdx with
 |int i=>
  cases rdy with
  |int j=>exact X7 pins s σ H _ _ v u Q I rx ry ⟨i,j,rfl,rfl,k _ _ _ _ TK.refl hr (.int _) t⟩
  |_=>exact t.elim
 |str i=>
  cases rdy with
  |str j=>exact Ge pins s σ H _ _ v u Q I rx ry ⟨i,j,rfl,rfl,t.1,k _ _ _ _ TK.refl hr (.str _) t.2⟩
  |_=>exact t.elim
 |ref a=>
  cases rdy with
  |ref b=>
   (delta bG at t;dsimp only at t)
   split at t
   ·rename_i xs ys ha hb
    obtain⟨vs,ga,ra⟩:=hr a _ ha
    obtain⟨us,gb,rb⟩:=hr b _ hb
    exact Xp pins s σ H _ _ v u Q I rx ry ⟨a,b,vs,us,rfl,rfl,ga,gb,by rw[←ra.length,←rb.length];exact t.1,fun p n=>
     k _ _ _ _ (TK.fresh n) (hr.wJ (TK.fresh n) ((ra.append rb).mono (TK.fresh n))) (.ref p) (t.2 p (hr.fresh n))⟩
   ·exact t.elim
  |_=>exact t.elim
 |_=>exact t.elim
def R7(C:Int->Int->Prop)(g:Int->Int->D):R3:=fun x y H Q=>match x,y with
 |.int i,.int j=>C i j/\Q (g i j) H
 |_,_=>False
def Fd(g:Int->Int->D):R3:=fun x y H Q=>match x,y with
 |.int i,.int j=>Q (g i j) H
 |_,_=>False
theorem yt{f:Value->Value->Sem Value}{g:Int->Int->V}{g3:Int->Int->D}(h:gJ X f (VD g))(e:∀H i j,Rep X.K H (g3 i j) (g i j)):gJ X f (bV X.K (Fd g3)):=by
 intro pins s σ H x y v u Q I rx ry q
 obtain⟨dx,dy,H3,Q3,hr,rdx,rdy,t,k⟩:=q
 cases rdx with
 |int i=>
  cases rdy with
  |int j=>exact h pins s σ H _ _ v u Q I rx ry ⟨i,j,rfl,rfl,k _ _ _ _ TK.refl hr (e _ i j) t⟩
  |_=>exact t.elim
 |_=>exact t.elim
theorem rE{f:Value->Value->Sem Value}{C:Int->Int->Prop}{g:Int->Int->V}{g3:Int->Int->D}(h:gJ X f (rI C g))(e:∀H i j,Rep X.K H (g3 i j) (g i j)):gJ X f (bV X.K (R7 C g3)):=by
 intro pins s σ H x y v u Q I rx ry q
 obtain⟨dx,dy,H3,Q3,hr,rdx,rdy,t,k⟩:=q
 cases rdx with
 |int i=>
  cases rdy with
  |int j=>exact h pins s σ H _ _ v u Q I rx ry ⟨i,j,rfl,rfl,t.1,k _ _ _ _ TK.refl hr (e _ i j) t.2⟩
  |_=>exact t.elim
 |_=>exact t.elim
theorem cu:gJ X (binaryOp .Sub) (bV X.K (Fd fun i j=>.int (i-j))):=yt Xq fun _ _ _=>.int _
theorem cD:gJ X (binaryOp .Mod) (bV X.K (R7 (fun _ j=>0<j) fun i j=>.int (i%j))):=rE YJ fun _ _ _=>.int _
theorem ud:gJ X (binaryOp .Pow) (bV X.K (R7 SJ fun i j=>.int (i ^ j.toNat))):=rE Wu fun _ _ _=>.int _
theorem vQ:gJ X (compareOp .LtE) (bV X.K (Fd fun i j=>.bl (decide (i<=j)))):=yt ZZ fun _ _ _=>.bl _
theorem Ol:gJ X (compareOp .Gt) (bV X.K (Fd fun i j=>.bl (decide (j<i)))):=yt aas fun _ _ _=>.bl _
def intsOf:List D->Option (List Int)
 |[]=>some []
 |.int i::ds=>(intsOf ds).map (i::·)
 |_::_=>none
theorem fU:∀ {ds:List D} {ns:List Int},intsOf ds=some ns->ds=ns.map D.int
 |[],_,h=>by simp only[intsOf,Option.some.injEq] at h;subst h;rfl
 |.int i::ds,ns,h=>by
  simp only[intsOf,Option.map_eq_some_iff] at h
  obtain⟨ms,h1,h2⟩:=h
  subst h2
  rw[fU h1];rfl
 |.non::_,_,h=>by simp[intsOf] at h
 |.bl _::_,_,h=>by simp[intsOf] at h
 |.str _::_,_,h=>by simp[intsOf] at h
 |.tup _::_,_,h=>by simp[intsOf] at h
 |.fl _::_,_,h=>by simp[intsOf] at h
 |.ktup _::_,_,h=>by simp[intsOf] at h
 |.ref _::_,_,h=>by simp[intsOf] at h
 |.ty _::_,_,h=>by simp[intsOf] at h
def Bp:R3:=fun x y H Q=>match x,y with
 |.int i,.int j=>Q (.bl (decide (i<j))) H
 | .tup xs,.tup ys => (match intsOf xs,intsOf ys with
  |some ns,some ms=>Q (.bl (HT.lexLt ns ms)) H
  |_,_=>False)
 |_,_=>False
theorem vH(hu:X.A.units<cLine):gJ X (compareOp .Lt) (bV X.K Bp):=by
 intro pins s σ H x y v u Q I rx ry h
 obtain⟨dx,dy,H3,Q3,hr,rdx,rdy,t,k⟩:=h
 cases rdx with
 |int i=>
  cases rdy with
  |int j=>exact aac pins s σ H _ _ v u Q I rx ry ⟨i,j,rfl,rfl,k _ _ _ _ TK.refl hr (.bl _) t⟩
  |_=>exact t.elim
 |tup ha ra=>
  cases rdy with
  |tup hb rb=>
   (delta Bp at t;dsimp only at t)
   split at t
   ·rename_i ns ms e1 e2
    have z1:=fU e1
    have z2:=fU e2
    subst z1;subst z2
    have w1:=ra.lW
    have w2:=rb.lW
    subst w1;subst w2
    exact Xe hu pins s σ H _ _ v u Q I rx ry ⟨_,_,ns,ms,rfl,rfl,jz.of ha,jz.of hb,k _ _ _ _ TK.refl hr (.bl _) t⟩
   ·exact t.elim
  |_=>exact t.elim
 |_=>exact t.elim
def o9:D->aF->aY->Prop:=fun x H Q=>match x with
 |.int i=>Q (.int (-i)) H
 |_=>False
theorem jY:UnR X (unaryOp .USub) (Vy X.K o9):=by
 intro pins s σ H x v Q I rx h
 obtain⟨dx,H3,Q3,hr,rdx,t,k⟩:=h
 cases rdx with
 |int i=>exact Yl pins s σ H _ v Q I rx ⟨i,rfl,k _ _ _ _ TK.refl hr (.int _) t⟩
 |_=>exact t.elim
theorem uo{K:PySem.W.Frag}{H:Hp}{ds:List D}{vs:List V}{i:Int}{d:D}(r:bj K H ds vs)(h:nA ds i=some d):∃v,nA vs i=some v/\Rep K H d v:=by
 unfold nA at h ⊢
 rw[r.length] at h
 cases e:RC vs.length i with
 |none=>rw[e] at h;cases h
 |some j=>
  rw[e] at h
  exact r.get h
def aP:R3:=fun x y H Q=>match x,y with
 |.tup ds,.int i=>(match nA ds i with | some d=>Q d H | none=>False)
 |.fl ds,.int i=>(match nA ds i with | some d=>Q d H | none=>False)
 |.ktup ds,.int i=>(match nA ds i with | some d=>Q d H | none=>False)
 |.str z,.int i=>z.length<=sizeLine/\(match nA z.cps.toList i with | some c=>Q (.str ⟨#[c]⟩) H | none=>False)
 | .ref a,.int i => (match H a with
  |some (.lst ds)=>(match nA ds i with | some d=>Q d H | none=>False)
  |_=>False)
 |_,_=>False
theorem cL:Zm X (bV X.K aP):=by
 intro value slice pins s σ H x y v u Q I rx ry h hs
 obtain⟨dx,dy,H3,Q3,hr,rdx,rdy,t,k⟩:=h
 cases rdx with
 |tup ha ra=>
  cases rdy with
  |int i=>
   (delta aP at t;dsimp only at t)
   split at t
   ·rename_i d e
    obtain⟨w,ew,rw'⟩:=uo ra e
    exact Qe value slice pins s σ H _ _ v u Q I rx ry ⟨_,_,i,w,rfl,rfl,jz.of ha,ew,k _ _ _ _ TK.refl hr rw' t⟩ hs
   ·exact t.elim
  |_=>exact t.elim
 |ktup ha ra=>
  cases rdy with
  |int i=>
   (delta aP at t;dsimp only at t)
   split at t
   ·rename_i d e
    obtain⟨w,ew,rw'⟩:=uo ra e
    exact Qe value slice pins s σ H _ _ v u Q I rx ry ⟨_,_,i,w,rfl,rfl,ha.sq,ew,k _ _ _ _ TK.refl hr rw' t⟩ hs
   ·exact t.elim
  |_=>exact t.elim
 |fl ha ra=>
  cases rdy with
  |int i=>
   (delta aP at t;dsimp only at t)
   split at t
   ·rename_i d e
    obtain⟨w,ew,rw'⟩:=uo ra e
    exact Hj value slice pins s σ H _ _ v u Q I rx ry ⟨_,_,i,w,rfl,rfl,ha.sq,ew,k _ _ _ _ TK.refl hr rw' t⟩ hs
   ·exact t.elim
  |_=>exact t.elim
 |str z=>
  cases rdy with
  |int i=>
   (delta aP at t;dsimp only at t)
   obtain⟨hz,t⟩:=t
   split at t
   ·rename_i c e
    exact X8 value slice pins s σ H _ _ v u Q I rx ry ⟨z,i,c,rfl,rfl,hz,e,k _ _ _ _ TK.refl hr (.str _) t⟩ hs
   ·exact t.elim
  |_=>exact t.elim
 |ref a=>
  cases rdy with
  |int i=>
   (delta aP at t;dsimp only at t)
   split at t
   ·rename_i ds ha
    obtain⟨vs,ga,ra⟩:=hr a _ ha
    split at t
    ·rename_i d e
     obtain⟨w,ew,rw'⟩:=uo ra e
     exact Hj value slice pins s σ H _ _ v u Q I rx ry ⟨_,_,i,w,rfl,rfl,jF.of ga,ew,k _ _ _ _ TK.refl hr rw' t⟩ hs
    ·exact t.elim
   ·exact t.elim
  |_=>exact t.elim
 |_=>exact t.elim
def lO{α:Type}(xs:List α)(lo hi:Option Int):List α:=(xs.drop (HT.eQ xs.length 0 lo)).take (HT.eQ xs.length xs.length hi-HT.eQ xs.length 0 lo)
theorem Q4{K:PySem.W.Frag}{H:Hp}{ds:List D}{vs:List V}(r:bj K H ds vs)(lo hi:Option Int):bj K H (lO ds lo hi) (Lr vs lo hi):=by
 unfold lO Lr
 rw[r.length]
 exact (r.drop _).take _
abbrev VR:=cO->aF->(Option Int->aF->Prop)->Prop
inductive Nq(K:PySem.W.Frag)(t:VR)(σ:St)(H:Hp)(Q:Option Int->Hp->Prop):Prop
 |mk (σ3:cO) (H3:aF) (Q3:Option Int->aF->Prop) (_:SR K H σ3 σ) (_:HR K H3 H) (_:t σ3 H3 Q3) (_:∀o H3' H',TK H H'->HR K H3' H'->Q3 o H3'->Q o H')
theorem Nq.ex{K:PySem.W.Frag}{t:VR}{σ:St}{H:Hp}{Q:Option Int->Hp->Prop}{G:Prop}(z:Nq K t σ H Q)(k:∀(σ3:cO) (H3:aF) (Q3:Option Int->aF->Prop),SR K H σ3 σ->HR K H3 H->t σ3 H3 Q3->(∀o H3' H',TK H H'->HR K H3' H'->Q3 o H3'->Q o H')->G):G:=by
 cases z with
 |mk σ3 H3 Q3 h0 h1 h2 h3=>exact k σ3 H3 Q3 h0 h1 h2 h3
def PO3(X:Cx)(e:Option Expr)(t:VR):Prop:=PO X e (Nq X.K t)
theorem Qp{e:Option Expr}{t t':TO}(h:PO X e t)(i:∀σ H Q,t' σ H Q->t σ H Q):PO X e t':=fun pins s σ H Q I hw=>h pins s σ H Q I (i σ H Q hw)
def Vu:VR:=fun _ H Q=>Q none H
def UG(t:cC):VR:=fun σ H Q=>t σ H fun x H1=>match x with
 |.int i=>Q (some i) H1
 |_=>False
theorem uW:PO3 X none Vu:=Qp Tw fun _ _ _ ⟨_,_,_,_,hr,t,k⟩=>k _ _ _ TK.refl hr t
theorem je{e:Expr}{te:cC}(h:cN X e te):PO3 X (some e) (UG te):=Qp (RL h) fun _ _ _ zz=>zz.ex fun σ3 H3 Q3 sr hr t k=>
 ⟨σ3,H3,_,sr,hr,t,fun x v H3a Ha tka hra rx qa=>by
  cases rx with
  |int i=>exact⟨i,rfl,k _ _ _ tka hra qa⟩
  |_=>exact qa.elim⟩
abbrev Zz:=D->Option Int->Option Int->aF->aY->Prop
inductive Eu(K:PySem.W.Frag)(r:Zz)(x:V)(lo hi:Option Int)(H:Hp)(Q:VK):Prop
 |mk (d:D) (H3:aF) (Q3:aY) (_:HR K H3 H) (_:Rep K H d x) (_:r d lo hi H3 Q3) (_:KE K H Q3 Q)
def WK(r:Zz)(te:cC)(tl th:VR):cC:=fun σ H Q=>te σ H fun x H1=>tl σ H1 fun l H2=>th σ H2 fun u H3=>r x l u H3 Q
theorem lK{e:Expr}{te:cC}{lo hi:Option Expr}{tl th:VR}{pos p2:Pos}{r:Zz}(hr:ZC X (Eu X.K r))(he:cN X e te)(hl:PO3 X lo tl)(hu:PO3 X hi th):cN X (.Subscript e (.Slice lo hi none p2) pos) (WK r te tl th) :=
 bL (Ov hr he hl hu) fun _ _ _ zz=>zz.ex fun σ3 H3 Q3 sr hr t k=>⟨σ3,H3,_,sr,hr,t,fun x v H3a Ha tka hra rx qa=>⟨σ3,H3a,_,sr.mono tka,hra,qa,fun l H3b Hb tkb hrb qb=>
  ⟨σ3,H3b,_,(sr.mono tka).mono tkb,hrb,qb,fun u H3c Hc tkc hrc qc=>⟨x,H3c,Q3,hrc,(rx.mono tkb).mono tkc,qc,k.mono ((tka.trans tkb).trans tkc)⟩⟩⟩⟩
def dH(r:List D->aF->aY->Prop)(t:t8):cC:=fun σ H Q=>t σ H fun ds H1=>r ds H1 Q
theorem zR{K:PySem.W.Frag}{r:List D->aF->aY->Prop}{t:t8}{σ:St}{H:Hp}{Q:VK}(h:eV K (dH r t) σ H Q):tCB (ik K r) (Jg K t) σ H Q:=by
 obtain⟨σ3,H3,Q3,sr,hr,t,k⟩:=h
 exact⟨σ3,H3,_,sr,hr,t,fun ds vs H3a Ha tka hra rs qa=>⟨ds,H3a,Q3,hra,rs,qa,k.mono tka⟩⟩
theorem bA{x:Str}{p pos:Pos}{e:Expr}{es:List Expr}{t:t8}{id:String}{r:List D->aF->aY->Prop}(hc:cR X (.builtin id) (ik X.K r))(hg:Gl X x)(hm:X.mg x=none)(hv:bootBuiltins x=some (.builtin id))(ha:Mu X (e::es) t)
  (hn:x ≠ "__name__":=by decide) (hdb:(x==("__debug__" : Str))=false:=by decide)
  (he:starEach (e::es) X.env=(false,eval e X.env)::starEach es X.env:=by rfl) (hpl:(backTo pos (starEach es X.env)).any (·.1)=false:=by rfl):cN X (.Call (.Name x p) (e::es) [] pos) (dH r t) :=
 bL (Qx hc hg hm hv ha hn hdb he hpl) fun _ _ _ h=>zR h
theorem wN{x:Str}{p pos:Pos}{e:Expr}{es:List Expr}{t:t8}{T:String}{r:List D->aF->aY->Prop}(hc:cR X (.type T) (ik X.K r))(hg:Gl X x)(hm:X.mg x=none)(hv:bootBuiltins x=some (.type T))(ha:Mu X (e::es) t)
  (hn:x ≠ "__name__":=by decide) (hdb:(x==("__debug__" : Str))=false:=by decide)
  (he:starEach (e::es) X.env=(false,eval e X.env)::starEach es X.env:=by rfl) (hpl:(backTo pos (starEach es X.env)).any (·.1)=false:=by rfl):cN X (.Call (.Name x p) (e::es) [] pos) (dH r t) :=
 bL (Kq hc hg hm hv ha hn hdb he hpl) fun _ _ _ h=>zR h
def dj:List D->aF->aY->Prop:=fun ds H Q=>match ds with
 |[.tup xs]=>Q (.int xs.length) H
 |[.fl xs]=>Q (.int xs.length) H
 |[.str z]=>z.length<=sizeLine/\Q (.int z.length) H
 | [.ref a] => (match H a with
  |some (.lst xs)=>Q (.int xs.length) H
  |_=>False)
 |_=>False
theorem cP:cR X (.builtin "len") (ik X.K dj):=by
 intro pins s σ H xs us Q I rs h
 obtain⟨ds,H3,Q3,hr,rd,t,k⟩:=h
 cases rd with
 |nil=>exact t.elim
 |cons r1 r2=>
  cases r2 with
  |cons _ _=>cases r1 <;> exact t.elim
  |nil=>
   cases r1 with
   |tup ha ra=>exact kW pins s σ H _ us Q I rs ⟨_,_,rfl,.inr (jz.of ha),by rw[←ra.length];exact k _ _ _ _ TK.refl hr (.int _) t⟩
   |fl ha ra=>exact kW pins s σ H _ us Q I rs ⟨_,_,rfl,.inl ha.sq,by rw[←ra.length];exact k _ _ _ _ TK.refl hr (.int _) t⟩
   |str z=>exact zF pins s σ H _ us Q I rs ⟨_,rfl,t.1,k _ _ _ _ TK.refl hr (.int _) t.2⟩
   |ref a=>
    (delta dj at t;dsimp only at t)
    split at t
    ·rename_i ds ha
     obtain⟨vs,ga,ra⟩:=hr a _ ha
     exact kW pins s σ H _ us Q I rs ⟨_,_,rfl,.inl (jF.of ga),by rw[←ra.length];exact k _ _ _ _ TK.refl hr (.int _) t⟩
    ·exact t.elim
   |_=>exact t.elim
def mJ:List D->aF->aY->Prop:=fun ds H Q=>match ds with
 |[.tup xs]=>Q (.tup xs) H
 |[.fl xs]=>Q (.tup xs) H
 | [.ref a] => (match H a with
  |some (.lst xs)=>Q (.tup xs) H
  |_=>False)
 |_=>False
theorem Ku:cR X (.type "tuple") (ik X.K mJ):=by
 intro pins s σ H xs us Q I rs h
 obtain⟨ds,H3,Q3,hr,rd,t,k⟩:=h
 cases rd with
 |nil=>exact t.elim
 |cons r1 r2=>
  cases r2 with
  |cons _ _=>cases r1 <;> exact t.elim
  |nil=>
   cases r1 with
   |tup ha ra=>exact jy pins s σ H _ us Q I rs ⟨_,_,rfl,.inr ⟨jz.of ha,k _ _ _ _ TK.refl hr (.tup ha ra) t⟩⟩
   |fl ha ra=>exact jy pins s σ H _ us Q I rs ⟨_,_,rfl,.inl ⟨ha.sq,fun l n=>k _ _ _ _ (TK.fresh n) (hr.tup n) (.tup aQ (ra.mono (TK.fresh n))) t⟩⟩
   |ref a=>
    (delta mJ at t;dsimp only at t)
    split at t
    ·rename_i ds ha
     obtain⟨vs,ga,ra⟩:=hr a _ ha
     exact jy pins s σ H _ us Q I rs ⟨_,_,rfl,.inl ⟨jF.of ga,fun l n=>k _ _ _ _ (TK.fresh n) (hr.tup n) (.tup aQ (ra.mono (TK.fresh n))) t⟩⟩
    ·exact t.elim
   |_=>exact t.elim
def zG:List D->aF->aY->Prop:=fun ds H Q=>match ds with
 |[.tup xs]=>∀p,H p=none->Q (.ref p) (aO H p (.lst xs))
 |[.fl xs]=>∀p,H p=none->Q (.ref p) (aO H p (.lst xs))
 | [.ref a] => (match H a with
  |some (.lst xs)=>∀p,H p=none->Q (.ref p) (aO H p (.lst xs))
  |_=>False)
 |_=>False
theorem Pa:cR X (.type "list") (ik X.K zG):=by
 intro pins s σ H xs us Q I rs h
 obtain⟨ds,H3,Q3,hr,rd,t,k⟩:=h
 have fin:∀ {ds:List D} {vs:List V},bj X.K H ds vs->(∀p,H3 p=none->Q3 (.ref p) (aO H3 p (.lst ds)))->∀l,H l=none->Q (.ref l) (upd H l (.lst vs)):=fun ra q l n=>
  k _ _ _ _ (TK.fresh n) (hr.wJ (TK.fresh n) (ra.mono (TK.fresh n))) (.ref l) (q l (hr.fresh n))
 cases rd with
 |nil=>exact t.elim
 |cons r1 r2=>
  cases r2 with
  |cons _ _=>cases r1 <;> exact t.elim
  |nil=>
   cases r1 with
   |tup ha ra=>exact kZ pins s σ H _ us Q I rs ⟨_,_,rfl,.inr (jz.of ha),fin ra t⟩
   |fl ha ra=>exact kZ pins s σ H _ us Q I rs ⟨_,_,rfl,.inl ha.sq,fin ra t⟩
   |ref a=>
    (delta zG at t;dsimp only at t)
    split at t
    ·rename_i ds ha
     obtain⟨vs,ga,ra⟩:=hr a _ ha
     exact kZ pins s σ H _ us Q I rs ⟨_,_,rfl,.inl (jF.of ga),fin ra t⟩
    ·exact t.elim
   |_=>exact t.elim
end
end L3
namespace L3
open PySem PySem.Spec PyProof.Rows L2
theorem Ma{P:Program}{w:World}{K:PySem.W.Frag}{tg:Expr}(it:Addr)(lo:Int)(n:Nat):Turn P w K tg (Zw lo n) [it] it (fun i h=>IsLongIter h it (lo+(i:Nat)*1) ((n:Int)-(i:Nat)) 1) where
 mem:=List.mem_singleton.mpr rfl
 obj:=fun i h st b hb=>by
  rw[List.mem_singleton.mp hb]
  exact⟨_,st,fun v z=>by have z':Data.fields _=Data.cell v:=z;cases z'⟩
 keep:=fun i h h' st k=>k it (List.mem_singleton.mpr rfl) _ st
 item:=by
  intro X hP hw hK hc i pins s σ H E I hf st hg
  subst hP hw hK
  obtain⟨f0,f1,f2,f3,f4,f5⟩:=hf it (List.mem_singleton.mpr rfl)
  have hlt:i<n:=hg
  refine wpAny_pyNext_long_item st (by grind) fun h' st' sb=>?_
  have I1:Inv X pins σ H { s with heap:=h',toks:=s.toks+1 }:=I.turned (fun b o hb e=>(sb.2 b hb).trans e) f0 f1 f3 f4 f5
  have st2:IsLongIter h' it (lo+((i+1:Nat):Int)*1) ((n:Int)-((i+1:Nat):Int)) 1:=by
   have e1:lo+(i:Int)*1+1=lo+((i+1:Nat):Int)*1:=by grind
   have e2:(n:Int)-(i:Int)-1=(n:Int)-((i+1:Nat):Int):=by grind
   rw[←e1,←e2];exact st'
  exact⟨_,rfl,xO (s:={ s with heap:=h',toks:=s.toks+1 }) (n := "longrange_iterator") st2 rfl rfl (by decide) ⟨.int (lo+i),H,I1,⟨s.toks,by rw[Int.mul_one]⟩,⟨rfl,rfl⟩,st2,fun b hb=>(hf b hb).1⟩⟩
 done:=by
  intro X hP hw hK hc i pins s σ H E I hf st hg
  subst hP hw hK
  obtain⟨f0,f1,f2,f3,f4,f5⟩:=hf it (List.mem_singleton.mpr rfl)
  have hle:n<=i:=hg
  exact wpAny_pyNext_long_end (I.ok.hd hc) st (by grind) fun h' eb=>⟨rfl,I.turned (t':=s.toks) (fun b o hb e=>eb b o hb e) f0 f1 f3 f4 f5⟩
 self:=fun _ _ _ _ _ st h=>wpAny_pyIter_longiter st h
section
variable{X:Cx}{tg:Expr}
theorem range_any{pins:List (Addr×Obj)}{σ:St}{H:Hp}{s:Shared}{R:It->Hp->Prop}{E:Value->Shared->Prop}{lo hi:Int}{t u v:Tok}{tk:Nat}(I:Inv X pins σ H s)(q:R (Zw lo (hi-lo).toNat) H) :
  wpAny (model X.prog X.w) X.A (pyIter (.ref s.heap.objs.size)) (PIE X pins σ tg R) E { s with heap:=s.heap.push { cls:=.type "range",data:=.fields #[.int lo t,.int hi u,.int 1 v] },toks:=tk }:=by
 have I1:Inv X pins σ H { s with heap:=s.heap.push { cls:=.type "range",data:=.fields #[.int lo t,.int hi u,.int 1 v] },toks:=tk }:=I.kept fun b o e=>Heap.get?_push_of_some _ e
 have e2:(((hi-lo).toNat:Nat):Int)-((0:Nat):Int)=Builtin.Range.rangeSize lo hi 1:=by rw[rangeSize_one];split <;> grind
 have e1:lo+((0:Nat):Int)*1=lo:=by grind
 have hf:∀b∈[(s.heap.push { cls:=.type "range",data:=.fields #[.int lo t,.int hi u,.int 1 v] }).objs.size],fB X pins H b:=fun b hb=>by
  rw[List.mem_singleton.mp hb]
  exact I1.yS (Nat.le_refl _) (I1.hok.fresh (Nat.le_refl _))
 cases hs:Builtin.Range.small lo hi 1 with
 |true=>
  refine wpAny_pyIter_range (IsRange.new ..) hs ⟨_,_,_,_,H,rfl,I1.kept (t':=tk) fun b o e=>Heap.get?_push_of_some _ e,Fg _ lo (hi-lo).toNat,?_,hf,q⟩
  show IsRangeIter _ _ (lo+((0:Nat):Int)*1) ((((hi-lo).toNat:Nat):Int)-((0:Nat):Int)) 1
  rw[e1,e2]
  exact Heap.get?_push_size _ rfl
 |false=>
  refine wpAny_pyIter_longrange (IsRange.new ..) hs ⟨_,_,_,_,H,rfl,I1.kept (t':=tk) fun b o e=>Heap.get?_push_of_some _ e,Ma _ lo (hi-lo).toNat,?_,hf,q⟩
  show IsLongIter _ _ (lo+((0:Nat):Int)*1) ((((hi-lo).toNat:Nat):Int)-((0:Nat):Int)) 1
  rw[e1,e2]
  exact Heap.get?_push_size _ rfl
def aaj(ta:TA):TI:=fun σ H R=>ta σ H fun vs H1=>∃j:Int,vs=[.int j]/\R (Zw 0 j.toNat) H1
def aaG(ta:TA):TI:=fun σ H R=>ta σ H fun vs H1=>∃i j:Int,vs=[.int i,.int j]/\R (Zw i (j-i).toNat) H1
theorem JW{a:Expr}{ta:TA}{p pos:Pos}(hg:Gl X "range")(hm:X.mg "range" = none)(ha:PA X [a] ta)(hs:starEach [a] X.env=[(false,eval a X.env)]:=by rfl):PI X tg (.Call (.Name "range" p) [a] [] pos) (aaj ta):=by
 intro pins s σ H R I h
 refine Call_ (iB I hg hm boot_range (PyProof.Rows.callWith_type1 (cJ (ha pos pins s σ H _ I h) fun us s1 zz=>?_) hs rfl))
 obtain⟨vs,H1,I1,r1,j,e,q⟩:=zz
 subst e
 obtain⟨u,rfl,t,rfl⟩:=vals1 r1
 exact call_range_1 (range_any I1 (by simpa using q))
theorem KJ{a b:Expr}{ta:TA}{p pos:Pos}(hg:Gl X "range")(hm:X.mg "range" = none)(ha:PA X [a,b] ta)(hs:starEach [a,b] X.env=[(false,eval a X.env),(false,eval b X.env)]:=by rfl)(hs2:starEach [b] X.env=[(false,eval b X.env)]:=by rfl) :
  PI X tg (.Call (.Name "range" p) [a,b] [] pos) (aaG ta):=by
 intro pins s σ H R I h
 refine Call_ (iB I hg hm boot_range (PyProof.Rows.callWith_type1 (cJ (ha pos pins s σ H _ I h) fun us s1 zz=>?_) (by rw[hs,hs2]) (by rw[hs2];rfl)))
 obtain⟨vs,H1,I1,r1,i,j,e,q⟩:=zz
 subst e
 obtain⟨u,u',rfl,⟨t,rfl⟩,⟨t',rfl⟩⟩:=vals2 r1
 exact call_range_2 (range_any I1 q)
end
section
variable{X:Cx}{st:Stmt}{rest:List Stmt}{t u:dw}{e:Expr}{te:cC}{pos:Pos}
def DK:dw:=fun D σ H=>D.nx σ H
def cM(t u:dw):dw:=fun D σ H=>t { D with nx:=u D } σ H
theorem eZ:tD X [] DK:=Hn Vd fun _ _ _ ⟨_,_,_,sr,hr,t,k⟩=>k.nx _ _ _ _ TK.refl sr hr t
theorem aC(h1:K6 X st t)(h2:tD X rest u):tD X (st::rest) (cM t u) :=
 Hn (QZ h1 h2) fun _ _ _ zz=>zz.ex fun σ3 H3 D3 sr hr q k=>⟨σ3,H3,{ D3 with nx:=u D3 },sr,hr,q,
  ⟨fun σ3' σ' H3' H' tk sr' hr' q'=>⟨σ3',H3',D3,sr',hr',q',k.mono tk⟩,k.rt,k.bk,k.ct⟩⟩
theorem aL(h1:K6 X st t):tD X [st] t:=Tj h1
def br3:dw:=fun D σ H=>D.bk σ H
theorem Qf:K6 X (.Break pos) br3:=jD Ny fun _ _ _ ⟨_,_,_,sr,hr,t,k⟩=>k.bk _ _ _ _ TK.refl sr hr t
def RG(te:cC):dw:=fun D σ H=>te σ H fun _ H1=>D.nx σ H1
theorem jj(he:cN X e te)(hs:swapsWith e none pos.line X.env=pure false:=by rfl):K6 X (.Expr e pos) (RG te) :=
 jD (Uj he hs) fun _ _ _ zz=>zz.ex fun σ3 H3 D3 sr hr t k=>⟨σ3,H3,_,sr,hr,t,fun x v H3a Ha tka hra rx qa=>k.nx _ _ _ _ tka (sr.mono tka) hra qa⟩
def lD(te:cC):dw:=fun D σ H=>te σ H D.rt
theorem bF(he:cN X e te):K6 X (.Return (some e) pos) (lD te) :=
 jD (Ym he) fun _ _ _ zz=>zz.ex fun σ3 H3 D3 sr hr t k=>⟨σ3,H3,_,sr,hr,t,k.rt⟩
def DP(c:sY)(t u:dw):dw:=fun D σ H=>c σ H fun b H1=>if b=true then t D σ H1 else u D σ H1
theorem jl{c:Expr}{a b:List Stmt}{tc:sY}(hc:LR X c tc)(ha:tD X a t)(hb:tD X b u):K6 X (.If c a b pos) (DP tc t u) :=
 jD (ZR hc ha hb) fun _ _ _ zz=>zz.ex fun σ3 H3 D3 sr hr q k=>⟨σ3,H3,_,sr,hr,q,fun b H3a Ha tka hra qa=>by
  cases b with
  |true=>exact⟨σ3,H3a,D3,sr.mono tka,hra,qa,k.mono tka⟩
  |false=>exact⟨σ3,H3a,D3,sr.mono tka,hra,qa,k.mono tka⟩⟩
def st3(i:Nat)(te:cC):dw:=fun D σ H=>te σ H fun x H1=>D.nx (σ.set i (some x)) H1
theorem aM(i:Nat){x:Str}{pos':Pos}(hN:X.N.Nodup)(he:cN X e te)(hi:X.N[i]?=some x:=by rfl)(hx:Loc X.env.scope x:=by first | exact Or.inl rfl | exact Or.inr rfl)(hs:swapsWith e (some (.Name x pos')) pos.line X.env=pure false:=by rfl)
  (hf:X.fn x=true\/X.env.scope.names.lookup x=some .local:=by first | exact .inl rfl | exact .inr rfl | assumption):K6 X (.Assign [.Name x pos'] e pos) (st3 i te) :=
 jD (Xn hN hi hx he hs hf) fun _ _ _ zz=>zz.ex fun σ3 H3 D3 sr hr t k=>⟨σ3,H3,_,sr,hr,t,fun x v H3a Ha tka hra rx qa=>k.nx _ _ _ _ tka ((sr.mono tka).set i rx) hra qa⟩
abbrev v9:=D->cO->aF->(cO->aF->Prop)->Prop
inductive OD(K:PySem.W.Frag)(t:v9)(v:V)(σ:St)(H:Hp)(Q:St->Hp->Prop):Prop
 |mk (d:D) (σ3:cO) (H3:aF) (Q3:cO->aF->Prop) (_:Rep K H d v) (_:SR K H σ3 σ) (_:HR K H3 H) (_:t d σ3 H3 Q3) (_:KN K H Q3 Q)
def PG3(X:Cx)(tg:Expr)(t:v9):Prop:=PG X tg (OD X.K t)
theorem GX{tg:Expr}{t t':TG}(h:PG X tg t)(i:∀v σ H Q,t' v σ H Q->t v σ H Q):PG X tg t':=fun pins s σ H v u Q I r hw=>h pins s σ H v u Q I r (i v σ H Q hw)
def qD(i:Nat):v9:=fun d σ H Q=>Q (σ.set i (some d)) H
theorem dW(i:Nat){x:Str}(hN:X.N.Nodup)(hi:X.N[i]?=some x:=by rfl)(hx:Loc X.env.scope x:=by first | exact Or.inl rfl | exact Or.inr rfl)(hf:X.fn x=true\/X.env.scope.names.lookup x=some .local:=by first | exact .inl rfl | exact .inr rfl | assumption) :
  PG3 X (.Name x pos) (qD i):=GX (jm hN hi hx hf) fun _ _ _ _ ⟨d,σ3,H3,Q3,rd,sr,hr,t,k⟩=>k _ _ _ _ TK.refl (sr.set i rd) hr t
def Tn(i j:Nat):v9:=fun d σ H Q=>match d with
 |.tup [x,y]=>Q ((σ.set i (some x)).set j (some y)) H
 |_=>False
def Xo(i j l:Nat):v9:=fun d σ H Q=>match d with
 |.tup [x,y,z]=>Q (((σ.set i (some x)).set j (some y)).set l (some z)) H
 |_=>False
theorem Ir(i j:Nat){x y:Str}{p1 p2:Pos}{kk:Nat}(hc:X.calm=true)(hN:X.N.Nodup)(hi:X.N[i]?=some x:=by rfl)(hx:Loc X.env.scope x:=by first | exact Or.inl rfl | exact Or.inr rfl)(hj:X.N[j]?=some y:=by rfl)(hy:Loc X.env.scope y:=by first | exact Or.inl rfl | exact Or.inr rfl)
  (hf:X.fn x=true\/X.env.scope.names.lookup x=some .local:=by first | exact .inl rfl | exact .inr rfl | assumption) (hf':X.fn y=true\/X.env.scope.names.lookup y=some .local:=by first | exact .inl rfl | exact .inr rfl | assumption) :
  PG3 X (.Tuple [.Name x p1,.Name y p2] kk pos) (Tn i j) :=
 GX (O7 (n:=2) hc (lR (jm hN hi hx hf) (lR (jm hN hj hy hf') Ip))) fun v σ H Q ⟨d,σ3,H3,Q3,rd,sr,hr,t,k⟩=>by
  cases rd with
  |tup ha ra=>
   cases ra with
   |nil=>exact t.elim
   |cons r1 ra=>
    cases ra with
    |nil=>exact t.elim
    |cons r2 ra=>
     cases ra with
     |cons _ _=>exact t.elim
     |nil=>exact⟨_,_,rfl,jz.of ha,rfl,_,_,rfl,_,_,rfl,rfl,k _ _ _ _ TK.refl ((sr.set i r1).set j r2) hr t⟩
  |_=>exact t.elim
theorem QM(i j l:Nat){x y z:Str}{p1 p2 p3:Pos}{kk:Nat}(hc:X.calm=true)(hN:X.N.Nodup)(hi:X.N[i]?=some x:=by rfl)(hx:Loc X.env.scope x:=by first | exact Or.inl rfl | exact Or.inr rfl)(hj:X.N[j]?=some y:=by rfl)(hy:Loc X.env.scope y:=by first | exact Or.inl rfl | exact Or.inr rfl)
  (hl:X.N[l]?=some z:=by rfl) (hz:Loc X.env.scope z:=by first | exact Or.inl rfl | exact Or.inr rfl)
  (hf:X.fn x=true\/X.env.scope.names.lookup x=some .local:=by first | exact .inl rfl | exact .inr rfl | assumption) (hf':X.fn y=true\/X.env.scope.names.lookup y=some .local:=by first | exact .inl rfl | exact .inr rfl | assumption)
  (hf'':X.fn z=true\/X.env.scope.names.lookup z=some .local:=by first | exact .inl rfl | exact .inr rfl | assumption) :
  PG3 X (.Tuple [.Name x p1,.Name y p2,.Name z p3] kk pos) (Xo i j l) :=
 GX (O7 (n:=3) hc (lR (jm hN hi hx hf) (lR (jm hN hj hy hf') (lR (jm hN hl hz hf'') Ip)))) fun v σ H Q ⟨d,σ3,H3,Q3,rd,sr,hr,t,k⟩=>by
  cases rd with
  |tup ha ra=>
   cases ra with
   |nil=>exact t.elim
   |cons r1 ra=>
    cases ra with
    |nil=>exact t.elim
    |cons r2 ra=>
     cases ra with
     |nil=>exact t.elim
     |cons r3 ra=>
      cases ra with
      |cons _ _=>exact t.elim
      |nil=>exact⟨_,_,rfl,jz.of ha,rfl,_,_,rfl,_,_,rfl,_,_,rfl,rfl,k _ _ _ _ TK.refl (((sr.set i r1).set j r2).set l r3) hr t⟩
  |_=>exact t.elim
def as3(te:cC)(g:v9):dw:=fun D σ H=>te σ H fun x H1=>g x σ H1 D.nx
theorem Xw{tg:Expr}{g:v9}(he:cN X e te)(hg:PG3 X tg g)(hs:swapsWithSole [tg] e pos.line X.env=pure false:=by rfl)(hw:swappedStores [tg] e X.env=pure none:=by rfl)
  (h1:(assignEach [tg] X.env).map (·.2)=[assign tg X.env]:=by rfl):K6 X (.Assign [tg] e pos) (as3 te g) :=
 jD (YX he hg hs hw h1) fun _ _ _ zz=>zz.ex fun σ3 H3 D3 sr hr t k=>⟨σ3,H3,_,sr,hr,t,fun x v H3a Ha tka hra rx qa=>⟨x,σ3,H3a,_,rx,sr.mono tka,hra,qa,k.nx.mono tka⟩⟩
def Zx(c:sY)(tb:dw):dw:=fun D σ H=>∃(P:cO->aF->Prop) (μ:cO->aF->Nat),P σ H/\∀σ H,P σ H ->
 c σ H fun b H1=>if b=true then tb { D with nx:=fun σ' H'=>P σ' H'/\μ σ' H'<μ σ H,ct:=fun σ' H'=>P σ' H'/\μ σ' H'<μ σ H,bk:=D.nx } σ H1 else D.nx σ H1
theorem pK{c:Expr}{body:List Stmt}{tc:sY}{tb:dw}(hp:PassesOwn (model X.prog X.w) X.A X.env X.xe)(hc:LR X c tc)(hb:tD X body tb):K6 X (.While c body [] pos) (Zx tc tb) :=
 jD (Qg hp hc hb) fun D σ H zz=>zz.ex fun σ3 H3 D3 sr hr t k=>by
  obtain⟨P,μ,p0,turn⟩:=t
  refine⟨fun m σ' H'=>∃σ3' H3',TK H H'/\SR X.K H' σ3' σ'/\HR X.K H3' H'/\P σ3' H3'/\m=μ σ3' H3',⟨_,σ3,H3,TK.refl,sr,hr,p0,rfl⟩,?_⟩
  rintro m σ1 H1 ⟨σ31,H31,tk1,sr1,hr1,p1,rfl⟩
  refine⟨σ31,H31,_,sr1,hr1,turn σ31 H31 p1,fun b H3a Ha tka hra qa=>?_⟩
  cases b with
  |false=>exact k.nx _ _ _ _ (tk1.trans tka) (sr1.mono tka) hra qa
  |true=>
   refine⟨fun σ' H'=>∃σ3' H3',TK H H'/\SR X.K H' σ3' σ'/\HR X.K H3' H'/\P σ3' H3'/\μ σ3' H3'<μ σ31 H31,?_,?_⟩
   ·rintro σ' H' ⟨σ3',H3',z1,z2,z3,z4,z5⟩
    exact⟨_,z5,σ3',H3',z1,z2,z3,z4,rfl⟩
   ·have kk:=k.mono (tk1.trans tka)
    exact⟨σ31,H3a,_,sr1.mono tka,hra,qa,⟨fun σ3' σ' H3' H' tk' sr' hr' q'=>⟨σ3',H3',(tk1.trans tka).trans tk',sr',hr',q'.1,q'.2⟩,kk.rt,kk.nx,
     fun σ3' σ' H3' H' tk' sr' hr' q'=>⟨σ3',H3',(tk1.trans tka).trans tk',sr',hr',q'.1,q'.2⟩⟩⟩
abbrev Fw:=cO->aF->(List D->(aF->Prop)->aF->Prop)->Prop
def GD(K:PySem.W.Frag)(H0:Hp)(ds:List D)(keep:aF->Prop)(J:It):Prop :=
 ∀H3 H,TK H0 H->HR K H3 H->keep H3->(∀i,i<ds.length->J.go i H/\∀x H',J.yld i H x H'->TK H H'/\HR K H3 H'/\∃d,ds[i]?=some d/\Rep K H' d x)/\J.stop ds.length H
inductive V4(K:PySem.W.Frag)(t:Fw)(σ:St)(H:Hp)(R:It->Hp->Prop):Prop
 |mk (σ3:cO) (H3:aF) (R3:List D->(aF->Prop)->aF->Prop) (_:SR K H σ3 σ) (_:HR K H3 H) (_:t σ3 H3 R3) (_:∀ds keep J H3' H',TK H H'->HR K H3' H'->GD K H' ds keep J->R3 ds keep H3'->R J H')
def Tt(X:Cx)(tg iter:Expr)(t:Fw):Prop:=PI X tg iter (V4 X.K t)
theorem rT{tg iter:Expr}{t t':TI}(h:PI X tg iter t)(i:∀σ H R,t' σ H R->t σ H R):PI X tg iter t':=fun pins s σ H R I hw=>h pins s σ H R I (i σ H R hw)
def DR(te:cC):Fw:=fun σ H R=>te σ H fun x H1=>match x with
 | .ref a => (match H1 a with
  |some (.lst ds)=>R ds (fun H'=>H' a=some (.lst ds)) H1
  |_=>False)
 |.fl ds=>R ds (fun _=>True) H1
 |_=>False
def it3(te:cC):Fw:=fun σ H R=>te σ H fun x H1=>match x with
 |.tup ds=>R ds (fun _=>True) H1
 |_=>False
theorem JV{K:PySem.W.Frag}{H:Hp}{a:Addr}{ds:List D}:GD K H ds (fun H'=>H' a=some (.lst ds)) (Itl K a):=fun H3 H' _ hr hk=>by
 obtain⟨vs,ga,ra⟩:=hr a _ hk
 refine⟨fun i hi=>⟨⟨vs,vs[i]'(by rw[←ra.length];exact hi),jF.of ga,by simp⟩,fun x H'' y=>?_⟩,⟨vs,jF.of ga,by rw[ra.length];exact Nat.le_refl _⟩⟩
 obtain⟨e,y⟩:=y
 subst e
 exact⟨TK.refl,hr,ra.SQ (y vs (jF.of ga))⟩
theorem T8{K:PySem.W.Frag}{H:Hp}{a:Addr}{xs:List V}{ds:List D}(ha:W3 K H a xs)(ra:bj K H ds xs):GD K H ds (fun _=>True) (Itl K a):=fun H3 H' tk hr _=>by
 have hq:=(tk.fzL ha).sq
 have ra':=ra.mono tk
 refine⟨fun i hi=>⟨⟨xs,xs[i]'(by rw[←ra.length];exact hi),hq,by simp⟩,fun x H'' y=>?_⟩,⟨xs,hq,by rw[ra.length];exact Nat.le_refl _⟩⟩
 obtain⟨e,y⟩:=y
 subst e
 exact⟨TK.refl,hr,ra'.SQ (y xs hq)⟩
theorem NZ{K:PySem.W.Frag}{H:Hp}{a:Addr}{xs:List V}{ds:List D}(ha:jz K H a xs)(ra:bj K H ds xs):GD K H ds (fun _=>True) (Itt K a):=fun H3 H' tk hr _=>by
 have hq:=tk.sqT ha
 have ra':=ra.mono tk
 refine⟨fun i hi=>⟨⟨xs,xs[i]'(by rw[←ra.length];exact hi),hq,by simp⟩,fun x H'' y=>?_⟩,⟨xs,hq,by rw[ra.length];exact Nat.le_refl _⟩⟩
 obtain⟨e,y⟩:=y
 subst e
 exact⟨TK.refl,hr,ra'.SQ (y xs hq)⟩
theorem cZ{tg:Expr}(h:cN X e te):Tt X tg e (DR te) :=
 rT (R4 h) fun _ _ _ ⟨σ3,H3,R3,sr,hr,t,k⟩=>⟨σ3,H3,_,sr,hr,t,fun x v H3a Ha tka hra rx qa=>by
  cases rx with
  |ref a=>
   simp only[] at qa
   split at qa
   ·rename_i ds ha
    obtain⟨vs,ga,ra⟩:=hra a _ ha
    exact⟨a,rfl,⟨vs,jF.of ga⟩,k _ _ _ _ _ tka hra JV qa⟩
   ·exact qa.elim
  |fl ha ra=>exact⟨_,rfl,⟨_,ha.sq⟩,k _ _ _ _ _ tka hra (T8 ha ra) qa⟩
  |_=>exact qa.elim⟩
theorem Eo{tg:Expr}(h:cN X e te):Tt X tg e (it3 te) :=
 rT (Xz h) fun _ _ _ ⟨σ3,H3,R3,sr,hr,t,k⟩=>⟨σ3,H3,_,sr,hr,t,fun x v H3a Ha tka hra rx qa=>by
  cases rx with
  |tup ha ra=>exact⟨_,rfl,⟨_,jz.of ha⟩,k _ _ _ _ _ tka hra (NZ (jz.of ha) ra) qa⟩
  |_=>exact qa.elim⟩
def rQ(lo:Int)(n:Nat):List D:=(List.range n).map fun (i:Nat)=>D.int (lo+(i:Int))
theorem tQ(lo:Int)(n:Nat):(rQ lo n).length=n:=by simp[rQ]
theorem Hx{lo:Int}{n i:Nat}(h:i<n):(rQ lo n)[i]?=some (.int (lo+i)):=by simp[rQ,h]
theorem Dl{K:PySem.W.Frag}{H:Hp}{lo:Int}{n:Nat}:GD K H (rQ lo n) (fun _=>True) (Zw lo n):=fun H3 H' tk hr _=>by
 refine⟨fun i hi=>?_,?_⟩
 ·rw[tQ] at hi
  refine⟨hi,fun x H'' y=>?_⟩
  obtain⟨e,y⟩:=y
  subst y
  subst e
  exact⟨TK.refl,hr,_,Hx hi,.int _⟩
 ·rw[tQ];exact Nat.le_refl _
def rg1(x:D)(H:aF)(R:List D->(aF->Prop)->aF->Prop):Prop:=match x with
 |.int j=>R (rQ 0 j.toNat) (fun _=>True) H
 |_=>False
def rg2(x y:D)(H:aF)(R:List D->(aF->Prop)->aF->Prop):Prop:=match x,y with
 |.int i,.int j=>R (rQ i (j-i).toNat) (fun _=>True) H
 |_,_=>False
def Zi(ta:cC):Fw:=fun σ H R=>ta σ H fun x H1=>rg1 x H1 R
def ir2(ta tb:cC):Fw:=fun σ H R=>ta σ H fun x H1=>tb σ H1 fun y H2=>rg2 x y H2 R
theorem uh{tg a:Expr}{ta:cC}{p pos:Pos}(hm:X.mg "range" = none)(ha:cN X a ta)(hg:Gl X "range":=by rfl)(hs:starEach [a] X.env=[(false,eval a X.env)]:=by rfl)(hs':starEach [a] X.env=(false,eval a X.env)::starEach [] X.env:=by rfl):Tt X tg (.Call (.Name "range" p) [a] [] pos) (Zi ta) :=
 rT (JW hg hm (ao ha az hs') hs) fun _ _ _ ⟨σ3,H3,R3,sr,hr,t,k⟩=>by
  refine⟨σ3,H3,fun ds H1=>(match ds with | [x]=>rg1 x H1 R3 | _=>False),sr,hr,t,fun ds vs H3a Ha tka hra rs qa=>?_⟩
  cases rs with
  |nil=>exact qa.elim
  |cons r1 r2=>
   cases r2 with
   |cons _ _=>exact qa.elim
   |nil=>
    cases r1 with
    |int j=>exact⟨j,rfl,k _ _ _ _ _ tka hra Dl qa⟩
    |_=>exact qa.elim
theorem Hl{tg a b:Expr}{ta tb:cC}{p pos:Pos}(hm:X.mg "range" = none)(ha:cN X a ta)(hb:cN X b tb)(hg:Gl X "range":=by rfl)(hs:starEach [a,b] X.env=[(false,eval a X.env),(false,eval b X.env)]:=by rfl)
  (hs1:starEach [a,b] X.env=(false,eval a X.env)::starEach [b] X.env:=by rfl) (hs2:starEach [b] X.env=(false,eval b X.env)::starEach [] X.env:=by rfl) (hs3:starEach [b] X.env=[(false,eval b X.env)]:=by rfl):Tt X tg (.Call (.Name "range" p) [a,b] [] pos) (ir2 ta tb) :=
 rT (KJ hg hm (ao ha (ao hb az hs2) hs1) hs hs3) fun _ _ _ ⟨σ3,H3,R3,sr,hr,t,k⟩=>by
  refine⟨σ3,H3,fun ds H1=>(match ds with | [x,y]=>rg2 x y H1 R3 | _=>False),sr,hr,t,fun ds vs H3a Ha tka hra rs qa=>?_⟩
  cases rs with
  |nil=>exact qa.elim
  |cons r1 r2=>
   cases r2 with
   |nil=>exact qa.elim
   |cons r2 r3=>
    cases r3 with
    |cons _ _=>exact qa.elim
    |nil=>
     cases r1 with
     |int i=>
      cases r2 with
      |int j=>exact⟨i,j,rfl,k _ _ _ _ _ tka hra Dl qa⟩
      |_=>exact qa.elim
     |_=>exact qa.elim
def DQ(wi:Fw)(g:v9)(tb:dw):dw:=fun D σ H=>wi σ H fun ds keep H1=>∃P:Nat->cO->aF->Prop,P 0 σ H1/\(∀i σ H,i<=ds.length->P i σ H->keep H) /\
 (∀i d σ H,ds[i]?=some d->P i σ H->g d σ H fun σ2 H2=>tb { D with nx:=P (i+1),ct:=P (i+1),bk:=D.nx } σ2 H2)/\∀σ H,P ds.length σ H->D.nx σ H
theorem fu{tg iter:Expr}{body:List Stmt}{wi:Fw}{g:v9}{tb:dw}(hp:PassesOwn (model X.prog X.w) X.A X.env X.xe)(hc:X.calm=true)(hi:Tt X tg iter wi)(hg:PG3 X tg g)(hb:tD X body tb)
  (hs:∀x,foldedSetIterable iter X.env x=pure x:=by intro _;rfl):K6 X (.For tg iter body [] pos) (DQ wi g tb) :=
 jD (Yg hp hc hi hg hb hs) fun D σ H zz=>zz.ex fun σ3 H3 D3 sr hr t k=>⟨σ3,H3,_,sr,hr,t,fun ds keep J H3' H' tk' hr' ok q=>by
  obtain⟨P,p0,pk,pstep,pd⟩:=q
  refine⟨fun i m σ1 H1=>m=ds.length-i/\i<=ds.length/\∃σ31 H31,TK H' H1/\SR X.K H1 σ31 σ1/\HR X.K H31 H1/\P i σ31 H31,⟨ds.length,by simp,Nat.zero_le _,σ3,H3',TK.refl,sr.mono tk',hr',p0⟩,?_⟩
  rintro i m σ1 H1 ⟨rfl,hi,σ31,H31,tk1,sr1,hr1,p1⟩
  obtain⟨go,stop⟩:=ok H31 H1 tk1 hr1 (pk i σ31 H31 hi p1)
  by_cases hlt:i<ds.length
  ·obtain⟨g1,g2⟩:=go i hlt
   refine .inr ⟨g1,fun σ' H''=>i+1<=ds.length/\∃σ3' H3'',TK H' H''/\SR X.K H'' σ3' σ'/\HR X.K H3'' H''/\P (i+1) σ3' H3'',fun σ' H'' z=>⟨ds.length-(i+1),by omega,rfl,z.1,z.2⟩,fun x H'' y=>?_⟩
   obtain⟨tky,hry,d,ed,rd⟩:=g2 x H'' y
   refine⟨d,σ31,H31,_,rd,sr1.mono tky,hry,pstep i d σ31 H31 ed p1,fun σ3b σb H3b Hb tkb srb hrb qb=>⟨σ3b,H3b,_,srb,hrb,qb,?_⟩⟩
   have kk:=k.mono (tk'.trans ((tk1.trans tky).trans tkb))
   exact⟨fun σ3c σc H3c Hc tkc src hrc qc=>⟨hlt,σ3c,H3c,((tk1.trans tky).trans tkb).trans tkc,src,hrc,qc⟩,kk.rt,kk.nx,fun σ3c σc H3c Hc tkc src hrc qc=>⟨hlt,σ3c,H3c,((tk1.trans tky).trans tkb).trans tkc,src,hrc,qc⟩⟩
  ·have e:i=ds.length:=by omega
   subst e
   exact .inl ⟨stop,k.nx _ _ _ _ (tk'.trans tk1) sr1 hr1 (pd σ31 H31 p1)⟩⟩
end
abbrev mL:=List D->aF->aY->Prop
def vG(K:PySem.W.Frag)(sp:mL):Sp:=fun vs H Q _=>ik K sp vs H Q
structure Fn(P:Program)(w:World)(K:PySem.W.Frag)(mg:Str->Option Value)(base:Heap)(k:Nat)(x:Str)(ps:List Str)(sp:mL):Prop where
 ex:∃f fd,vX P w K mg base zZ k f fd ps (vG K sp)/\mg x=some (.ref f)/\PySem.W.keepIn K (.ref f)=true/\Binds K fd ps []
theorem bz{X:Cx}{k:Nat}{x:Str}{ps:List Str}{sp:mL}{p pos:Pos}{e:Expr}{es:List Expr}{t:t8}(F:Fn X.prog X.w X.K X.mg X.base k x ps sp)(hr:eO k X.A)(ha:Mu X (e::es) t)
  (hg:Gl X x:=by rfl) (hdb:(x==("__debug__" : Str))=false:=by decide) (he:starEach (e::es) X.env=(false,eval e X.env)::starEach es X.env:=by rfl) (hpl:(backTo pos (starEach es X.env)).any (·.1)=false:=by rfl) :
  cN X (.Call (.Name x p) (e::es) [] pos) (dH sp t):=by
 obtain⟨f,fd,F,hm,hk,hb⟩:=F.ex
 refine bL (Vb (E:=E0) F hr hg hm hk hb .nil aaf ha hdb he hpl) fun _ _ _ h=>?_
 obtain⟨σ3,H3,Q3,sr,hr,t,k⟩:=h
 exact⟨σ3,H3,_,sr,hr,t,fun ds vs H3a Ha tka hra rs qa=>⟨ds,H3a,Q3,hra,by rw[List.append_nil];exact rs,qa,k.mono tka⟩⟩
def aJ(N:List Str)(ds:List D):cO:=ds.map some++List.replicate (N.length-ds.length) none
theorem vf{K:PySem.W.Frag}{H:Hp}{N:List Str}{ds:List D}{vs:List V}(r:bj K H ds vs):SR K H (aJ N ds) (L2.start N vs):=by
 have hl:=r.length
 refine⟨by simp[aJ,L2.start,hl],fun i d h=>?_⟩
 unfold aJ at h
 by_cases hi:i<ds.length
 ·rw[List.getElem?_append_left (by simpa using hi),List.getElem?_map] at h
  cases e:ds[i]? with
  |none=>rw[e] at h;cases h
  |some d'=>
   rw[e] at h
   cases h
   obtain⟨v,hv,rv⟩:=r.get e
   refine⟨v,?_,rv⟩
   unfold L2.start
   rw[List.getElem?_append_left (by rw[List.length_map,←hl];exact hi),List.getElem?_map,hv]
   rfl
 ·rw[List.getElem?_append_right (by simpa using hi),List.getElem?_replicate] at h
  split at h <;> cases h
def dX(Q:aY):iR:={ nx:=fun _ H'=>∃H'',aN H'' H'/\Q .non H'',rt:=fun d H'=>∃H'',aN H'' H'/\Q d H'' }
theorem V6{P:Program}{w:World}{K:PySem.W.Frag}{mg:Str->Option Value}{base:Heap}{x qual:Str}{st:Stmt}{f:Addr}{fd:FuncData}{N ps:List Str}{k:Nat}{sp:mL}(F:N8 K x qual st f fd)(S:bc N ps (aA st))
  (len:∀ds H Q,sp ds H Q->ds.length=ps.length)
  (hbody:∀ (cdv:Value) (A:Around) (outer:List Env) (s:Shared) (H:Hp) (E:XK),eO k (A.deeper (envOfC qual (aA st) s.heap.objs.size f cdv)) →
   ∃t,tD (rH zZ P w K mg base N qual (aA st) f cdv A outer s H E).Mp (aR st) t/\∀ds H3 Q3,sp ds H3 Q3->t (dX Q3) (aJ N ds) H3):vX P w K mg base zZ (k+1) f fd ps (vG K sp):=by
 refine F.ok S (fun vs H Q E h=>?_) (fun cdv A outer s H vs Q E hr h=>?_)
 ·obtain⟨ds,H3,Q3,_,rs,q,_⟩:=h
  rw[←rs.length]
  exact len ds H3 Q3 q
 ·obtain⟨ds,H3,Q3,hr3,rs,q,k⟩:=h
  obtain⟨t,ht,hq⟩:=hbody cdv A outer s H E hr
  refine⟨_,ht,aJ N ds,H3,_,vf rs,hr3,hq ds H3 Q3 q,⟨fun σ3 σ H3' H' tk sr hr' z=>?_,fun d v H3' H' tk hr' rd z=>?_,fun _ _ _ _ _ _ _ z=>z.elim,fun _ _ _ _ _ _ _ z=>z.elim⟩⟩
  ·obtain⟨H'',sub,q'⟩:=z
   exact k _ _ _ _ tk (hr'.sub sub) .non q'
  ·obtain⟨H'',sub,q'⟩:=z
   exact k _ _ _ _ tk (hr'.sub sub) rd q'
theorem fn3{P:Program}{w:World}{K:PySem.W.Frag}{mg:Str->Option Value}{base:Heap}{x qual:Str}{st:Stmt}{f:Addr}{fd:FuncData}{N ps:List Str}{k:Nat}{sp:mL}(F:N8 K x qual st f fd)(S:bc N ps (aA st))
  (hm:mg x=some (.ref f)) (hb:Binds K fd ps []) (len:∀ds H Q,sp ds H Q->ds.length=ps.length)
  (hbody:∀ (cdv:Value) (A:Around) (outer:List Env) (s:Shared) (H:Hp) (E:XK),eO k (A.deeper (envOfC qual (aA st) s.heap.objs.size f cdv)) →
   ∃t,tD (rH zZ P w K mg base N qual (aA st) f cdv A outer s H E).Mp (aR st) t/\∀ds H3 Q3,sp ds H3 Q3->t (dX Q3) (aJ N ds) H3):Fn P w K mg base (k+1) x ps sp :=
 ⟨f,fd,V6 F S len hbody,hm,F.kp,hb⟩
def jd{α β:Type}(f:α->Option β):List α->Option (List β)
 |[]=>some []
 |d::ds=>match f d with
  |none=>none
  |some p=>match jd f ds with
   |none=>none
   |some ps=>some (p::ps)
def qC:Nat->D->Option PyData
 |0,d=>match d with
  |.non=>some .none
  |.bl b=>some (.bool b)
  |.int i=>some (.int i)
  |.str x=>if PyData.strOk x=true then some (.str x) else none
  |_=>none
 |n+1,d=>match d with
  |.non=>some .none
  |.bl b=>some (.bool b)
  |.int i=>some (.int i)
  |.str x=>if PyData.strOk x=true then some (.str x) else none
  |.tup ds=>(jd (qC n) ds).map .tuple
  |.ktup ds=>(jd (qC n) ds).map .tuple
  |_=>none
def Uy(H:aF)(d:D):Option PyData:=match d with
 | .ref a => (match H a with
  |some (.lst ds)=>(jd (qC 4) ds).map .list
  |_=>none)
 |.fl ds=>(jd (qC 4) ds).map .list
 |d=>qC 5 d
section
variable{X:Cx}{pins:List (Addr×Obj)}{σ:St}{H:Hp}{s:Shared}
theorem rY{f:D->Option PyData}{d:D}{ds:List D}{ps:List PyData}(h:jd f (d::ds)=some ps):∃p ps',f d=some p/\jd f ds=some ps'/\ps=p::ps':=by
 unfold jd at h
 cases e1:f d with
 |none=>rw[e1] at h;cases h
 |some p=>
  rw[e1] at h
  cases e2:jd f ds with
  |none=>rw[e2] at h;cases h
  |some ps'=>rw[e2] at h;cases h;exact⟨p,ps',rfl,rfl,rfl⟩
theorem nO{f:D->Option PyData}{n:Nat}(hf:∀ {d:D} {v:V} {u:Value} {p:PyData},Rep X.K H d v->RelV v u->f d=some p->(∃as,Reads s.heap u p as)/\p.canLay0=true/\p.depth<=n) :
  ∀ {ds:List D} {vs:List V} {us:List Value} {ps:List PyData},bj X.K H ds vs->Vals vs us->jd f ds=some ps->(∃as,ReadsAll s.heap us ps as)/\PyData.canLayAll0 ps=true/\PyData.depthAll ps<=n:=by
 intro ds vs us ps hr hv h
 induction hv generalizing ds ps with
 |nil=>
  cases hr
  cases h
  exact⟨⟨[],.nil⟩,rfl,Nat.zero_le _⟩
 |cons q qs ih=>
  cases hr with
  |cons r rs=>
   obtain⟨p,ps',e1,e2,rfl⟩:=rY h
   obtain⟨⟨as,h1⟩,h2,h3⟩:=hf r q e1
   obtain⟨⟨bs,g1⟩,g2,g3⟩:=ih rs e2
   exact⟨⟨_,.cons h1 g1⟩,by rw[PyData.canLayAll0,h2,g2];rfl,Nat.max_le.mpr ⟨h3,g3⟩⟩
theorem cG(I:Inv X pins σ H s):∀(n:Nat) {d:D} {v:V} {u:Value} {p:PyData},Rep X.K H d v->RelV v u->qC n d=some p->(∃as,Reads s.heap u p as)/\p.canLay0=true/\p.depth<=n:=by
 intro n
 induction n with
 |zero=>
  intro d v u p r q h
  cases r with
  |non=>cases h;cases q;exact⟨⟨_,.none⟩,rfl,Nat.zero_le _⟩
  |bl b=>cases h;cases q;exact⟨⟨_,.bool b⟩,rfl,Nat.zero_le _⟩
  |int i=>cases h;obtain⟨t,rfl⟩:=q;exact⟨⟨_,.int i t⟩,rfl,Nat.zero_le _⟩
  |str x=>
   replace h:(if PyData.strOk _=true then some (PyData.str _) else none)=some p:=h
   split at h
   ·rename_i hx
    cases h;obtain⟨t,rfl⟩:=q;exact⟨⟨_,.str x t⟩,hx,Nat.zero_le _⟩
   ·cases h
  |_=>cases h
 |succ n ih=>
  intro d v u p r q h
  cases r with
  |non=>cases h;cases q;exact⟨⟨_,.none⟩,rfl,Nat.zero_le _⟩
  |bl b=>cases h;cases q;exact⟨⟨_,.bool b⟩,rfl,Nat.zero_le _⟩
  |int i=>cases h;obtain⟨t,rfl⟩:=q;exact⟨⟨_,.int i t⟩,rfl,Nat.zero_le _⟩
  |str x=>
   replace h:(if PyData.strOk _=true then some (PyData.str _) else none)=some p:=h
   split at h
   ·rename_i hx
    cases h;obtain⟨t,rfl⟩:=q;exact⟨⟨_,.str x t⟩,hx,Nat.zero_le _⟩
   ·cases h
  |tup ha ra=>
   replace h:(jd (qC n) _).map PyData.tuple=some p:=h
   rw[Option.map_eq_some_iff] at h
   obtain⟨ps,h1,rfl⟩:=h
   cases q
   obtain⟨its,rv,⟨o,ho,hc,m,hd⟩,_⟩:=I.tuple (jz.of ha)
   obtain⟨⟨as,g1⟩,g2,g3⟩:=nO (f:=qC n) (n:=n) ih ra rv h1
   exact⟨⟨_,.tuple ho hc hd (by simpa using g1)⟩,g2,by simp only[PyData.depth];omega⟩
  |ktup ha ra=>
   replace h:(jd (qC n) _).map PyData.tuple=some p:=h
   rw[Option.map_eq_some_iff] at h
   obtain⟨ps,h1,rfl⟩:=h
   cases q
   obtain⟨its,rv,⟨o,ho,hc,m,hd⟩,_⟩:=I.tuple ha.sq
   obtain⟨⟨as,g1⟩,g2,g3⟩:=nO (f:=qC n) (n:=n) ih ra rv h1
   exact⟨⟨_,.tuple ho hc hd (by simpa using g1)⟩,g2,by simp only[PyData.depth];omega⟩
  |_=>cases h
theorem mV(I:Inv X pins σ H s){H3:aF}(hr:HR X.K H3 H){d:D}{v:V}{u:Value}{p:PyData}(r:Rep X.K H d v)(q:RelV v u)(h:Uy H3 d=some p):(∃as,Reads s.heap u p as)/\p.canLay0=true/\p.depth<=5:=by
 have lst:∀ {a:Addr} {xs:List V} {ds:List D},jF X.K H a xs->bj X.K H ds xs->(jd (qC 4) ds).map PyData.list=some p->(∃as,Reads s.heap (.ref a) p as)/\p.canLay0=true/\p.depth<=5:=fun hq ra h=>by
  simp only[Option.map_eq_some_iff] at h
  obtain⟨ps,h1,rfl⟩:=h
  obtain⟨its,rv,pl,_⟩:=I.list hq
  obtain⟨o,ho,hc,m,hd⟩:=pl.isList
  obtain⟨⟨as,g1⟩,g2,g3⟩:=nO (f:=qC 4) (n:=4) (cG I 4) ra rv h1
  exact⟨⟨_,.list ho hc hd (by simpa using g1)⟩,g2,by simp only[PyData.depth];omega⟩
 cases r with
 |ref a=>
  (delta Uy at h;dsimp only at h)
  split at h
  ·rename_i ds ha
   obtain⟨vs,ga,ra⟩:=hr a _ ha
   cases q
   exact lst (jF.of ga) ra h
  ·cases h
 |fl ha ra=>cases q;exact lst ha.sq ra h
 |non=>exact cG I 5 .non q h
 |bl b=>exact cG I 5 (.bl b) q h
 |int b=>exact cG I 5 (.int b) q h
 |str b=>exact cG I 5 (.str b) q h
 |ty b=>exact cG I 5 (.ty b) q h
 |tup a b=>exact cG I 5 (.tup a b) q h
 |ktup a b=>exact cG I 5 (.ktup a b) q h
end
def vU:R3:=fun x y H Q=>match Uy H x,Uy H y with
 |some p,some q=>Q (.bl (PyData.eqv p q)) H
 |_,_=>False
def qF:R3:=fun x y H Q=>match Uy H x,Uy H y with
 |some p,some q=>Q (.bl (!PyData.eqv p q)) H
 |_,_=>False
section
variable{X:Cx}
theorem rO(hu:X.A.units+64<cLine):gJ X (compareOp .Eq) (bV X.K vU):=by
 intro pins s σ H x y v u Q I rx ry h
 obtain⟨dx,dy,H3,Q3,hr,rdx,rdy,t,k⟩:=h
 simp only[vU] at t
 split at t
 ·rename_i p q e1 e2
  obtain⟨⟨as,h1⟩,h2,h3⟩:=mV I hr rdx rx e1
  obtain⟨⟨bs,g1⟩,g2,g3⟩:=mV I hr rdy ry e2
  exact SeqAt.compareEq_reads h1 g1 h2 g2 (by have:=Nat.min_le_left p.depth q.depth;omega) ⟨.bl _,H,I,rfl,k _ _ _ _ TK.refl hr (.bl _) t⟩
 ·exact t.elim
theorem oh(hu:X.A.units+64<cLine):gJ X (compareOp .NotEq) (bV X.K qF):=by
 intro pins s σ H x y v u Q I rx ry h
 obtain⟨dx,dy,H3,Q3,hr,rdx,rdy,t,k⟩:=h
 simp only[qF] at t
 split at t
 ·rename_i p q e1 e2
  obtain⟨⟨as,h1⟩,h2,h3⟩:=mV I hr rdx rx e1
  obtain⟨⟨bs,g1⟩,g2,g3⟩:=mV I hr rdy ry e2
  exact SeqAt.compareNe_reads h1 g1 h2 g2 (by have:=Nat.min_le_left p.depth q.depth;omega) ⟨.bl _,H,I,rfl,k _ _ _ _ TK.refl hr (.bl _) t⟩
 ·exact t.elim
def yU(H:aF)(d:D):Option (List D):=match d with
 | .ref a => (match H a with
  |some (.lst ds)=>some ds
  |_=>none)
 |.fl ds=>some ds
 |.tup ds=>some ds
 |_=>none
def Ce(neg:Bool):R3:=fun x y H Q=>match qC 4 x,(yU H y).bind (jd (qC 4)) with
 |some p,some ps=>Q (.bl (if neg then !ps.any (fun q=>PyData.eqv q p) else ps.any fun q=>PyData.eqv q p)) H
 |_,_=>False
open Classical in
def tW(h:Heap)(p:PyData)(u:Value):Bool:=decide (∃q as,Reads h u q as/\q.canLay0=true/\PyData.eqv q p=true)
open Classical in
theorem G9{h:Heap}{p q:PyData}{u:Value}{as:List Addr}(r:Reads h u q as)(c:q.canLay0=true):tW h p u=PyData.eqv q p:=by
 unfold tW
 cases e:PyData.eqv q p with
 |true=>exact decide_eq_true ⟨q,as,r,c,e⟩
 |false=>
  refine decide_eq_false fun z=>?_
  obtain⟨q',as',r',c',e'⟩:=z
  have z:=SeqAt.Reads.unique q q' u as as' c r r'
  subst z
  rw[e] at e'
  cases e'
theorem il{pins:List (Addr×Obj)}{σ:St}{H:Hp}{s:Shared}(I:Inv X pins σ H s)(p:PyData) :
  ∀ {ds:List D} {vs:List V} {us:List Value} {ps:List PyData},bj X.K H ds vs->Vals vs us->jd (qC 4) ds=some ps ->
   us.any (tW s.heap p)=ps.any (fun q=>PyData.eqv q p)/\∀u∈us,∃q as,Reads s.heap u q as/\q.canLay0=true/\q.depth<=4:=by
 intro ds vs us ps hr hv h
 induction hv generalizing ds ps with
 |nil=>
  cases hr
  cases h
  exact⟨rfl,fun _ z=>nomatch z⟩
 |cons q qs ih=>
  cases hr with
  |cons r rs=>
   obtain⟨p',ps',e1,e2,rfl⟩:=rY h
   obtain⟨⟨as,h1⟩,h2,h3⟩:=cG I 4 r q e1
   obtain⟨g1,g2⟩:=ih rs e2
   refine⟨by rw[List.any_cons,List.any_cons,G9 h1 h2,g1],fun u hu=>?_⟩
   rcases List.mem_cons.mp hu with e | hu
   ·rw[e];exact⟨_,_,h1,h2,h3⟩
   ·exact g2 u hu
theorem vN{A:Around}{pins:List (Addr×Obj)}{σ:St}{H:Hp}{s:Shared}(I:Inv X pins σ H s)(hu:A.units+8<cLine){x:D}{vx:V}{ux:Value}{p:PyData}(rx:Rep X.K H x vx)(qx:RelV vx ux)(ex:qC 4 x=some p)
  {us:List Value} (h:∀u∈us,∃q as,Reads s.heap u q as/\q.canLay0=true/\q.depth<=4):∀u,u∈us.toArray->SeqAt.EqAt A s u ux (tW s.heap p u):=fun u hm=>by
 obtain⟨q,as,h1,h2,h3⟩:=h u (by simpa using hm)
 obtain⟨⟨bs,g1⟩,g2,g3⟩:=cG I 4 rx qx ex
 rw[G9 h1 h2]
 exact SeqAt.eqAt_reads _ _ A s _ _ _ _ h1 g1 h2 g2 (by have:=Nat.min_le_left q.depth p.depth;omega)
theorem in1_units{A:Around}(h:A.units+64<cLine):A.in1.units+8<cLine:=by
 have e:A.in1.units=A.units+1:=rfl
 omega
theorem Ww(hu:X.A.units+64<cLine):gJ X (compareOp .In) (bV X.K (Ce false)):=by
 intro pins s σ H x y v u Q I rx ry h
 obtain⟨dx,dy,H3,Q3,hr,rdx,rdy,t,k⟩:=h
 simp only[Ce] at t
 split at t
 ·rename_i p ps e1 e2
  simp only[Option.bind_eq_some_iff] at e2
  obtain⟨ds,e2,e3⟩:=e2
  have fin:=k _ _ _ _ TK.refl hr (.bl _) t
  cases rdy with
  |ref a=>
   (delta yU at e2;dsimp only at e2)
   split at e2
   ·rename_i ds' ha
    cases e2
    obtain⟨vs,ga,ra⟩:=hr a _ ha
    cases ry
    obtain⟨its,rv,pl,_⟩:=I.list (jF.of ga)
    obtain⟨g1,g2⟩:=il I p ra rv e3
    refine SeqAt.in_listAt (tW s.heap p) pl.isList (vN I (in1_units hu) rdx rx e1 g2) ⟨.bl _,H,I,rfl,?_⟩
    rw[show its.toArray.any (tW s.heap p)=its.any (tW s.heap p) by simp,g1]
    exact fin
   ·cases e2
  |fl ha ra=>
   cases e2
   cases ry
   obtain⟨its,rv,pl,_⟩:=I.list ha.sq
   obtain⟨g1,g2⟩:=il I p ra rv e3
   refine SeqAt.in_listAt (tW s.heap p) pl.isList (vN I (in1_units hu) rdx rx e1 g2) ⟨.bl _,H,I,rfl,?_⟩
   rw[show its.toArray.any (tW s.heap p)=its.any (tW s.heap p) by simp,g1]
   exact fin
  |tup ha ra=>
   cases e2
   cases ry
   obtain⟨its,rv,pl,_⟩:=I.tuple (jz.of ha)
   obtain⟨g1,g2⟩:=il I p ra rv e3
   refine SeqAt.in_tupleAt (tW s.heap p) pl (vN I (in1_units hu) rdx rx e1 g2) ⟨.bl _,H,I,rfl,?_⟩
   rw[show its.toArray.any (tW s.heap p)=its.any (tW s.heap p) by simp,g1]
   exact fin
  |_=>cases e2
 ·exact t.elim
theorem Jx(hu:X.A.units+64<cLine):gJ X (compareOp .NotIn) (bV X.K (Ce true)):=by
 intro pins s σ H x y v u Q I rx ry h
 obtain⟨dx,dy,H3,Q3,hr,rdx,rdy,t,k⟩:=h
 simp only[Ce] at t
 split at t
 ·rename_i p ps e1 e2
  simp only[Option.bind_eq_some_iff] at e2
  obtain⟨ds,e2,e3⟩:=e2
  have fin:=k _ _ _ _ TK.refl hr (.bl _) t
  cases rdy with
  |ref a=>
   (delta yU at e2;dsimp only at e2)
   split at e2
   ·rename_i ds' ha
    cases e2
    obtain⟨vs,ga,ra⟩:=hr a _ ha
    cases ry
    obtain⟨its,rv,pl,_⟩:=I.list (jF.of ga)
    obtain⟨g1,g2⟩:=il I p ra rv e3
    refine SeqAt.notIn_listAt (tW s.heap p) pl.isList (vN I (in1_units hu) rdx rx e1 g2) ⟨.bl _,H,I,rfl,?_⟩
    rw[show its.toArray.any (tW s.heap p)=its.any (tW s.heap p) by simp,g1]
    exact fin
   ·cases e2
  |fl ha ra=>
   cases e2
   cases ry
   obtain⟨its,rv,pl,_⟩:=I.list ha.sq
   obtain⟨g1,g2⟩:=il I p ra rv e3
   refine SeqAt.notIn_listAt (tW s.heap p) pl.isList (vN I (in1_units hu) rdx rx e1 g2) ⟨.bl _,H,I,rfl,?_⟩
   rw[show its.toArray.any (tW s.heap p)=its.any (tW s.heap p) by simp,g1]
   exact fin
  |tup ha ra=>
   cases e2
   cases ry
   obtain⟨its,rv,pl,_⟩:=I.tuple (jz.of ha)
   obtain⟨g1,g2⟩:=il I p ra rv e3
   refine SeqAt.notIn_tupleAt (tW s.heap p) pl (vN I (in1_units hu) rdx rx e1 g2) ⟨.bl _,H,I,rfl,?_⟩
   rw[show its.toArray.any (tW s.heap p)=its.any (tW s.heap p) by simp,g1]
   exact fin
  |_=>cases e2
 ·exact t.elim
def tyH(H:aF)(d:D):Option String:=match d with
 |.non=>some "NoneType"
 |.bl _=>some "bool"
 |.int _=>some "int"
 |.str _=>some "str"
 |.tup _=>some "tuple"
 |.fl _=>some "list"
 | .ref a => (match H a with
  |some (.lst _)=>some "list"
  |some (.dic _)=>some "dict"
  |_=>none)
 |.ty _=>none
 |.ktup _=>some "tuple"
def Zu(U T:String):Bool:=U==T||(U == "bool" && T == "int")
def kinds:List String:=["int", "bool", "str", "tuple", "list", "dict"]
def pH:List D->aF->aY->Prop:=fun ds H Q=>match ds with
 | [x,.ty T] => (match tyH H x with
  |some U=>T∈kinds/\Q (.bl (Zu U T)) H
  |none=>False)
 |_=>False
theorem Wz(K:PySem.W.Frag)(U T:String)(hU:U ∈ "NoneType"::kinds)(hT:T∈kinds):PySem.W.kitOne K (.type U) (.type T)=some (Zu U T):=by
 simp only[kinds,List.mem_cons,List.not_mem_nil,or_false] at hU hT
 rcases hU with rfl | rfl | rfl | rfl | rfl | rfl | rfl <;> rcases hT with rfl | rfl | rfl | rfl | rfl | rfl <;> kernel_rfl
theorem JF{ds:List D}{H:aF}{Q:aY}(t:pH ds H Q):∃x T U,ds=[x,.ty T]/\tyH H x=some U/\T∈kinds/\Q (.bl (Zu U T)) H:=by
 unfold pH at t
 split at t
 ·split at t
  ·exact⟨_,_,_,rfl,by assumption,t⟩
  ·exact t.elim
 ·exact t.elim
theorem yp:cR X (.builtin "isinstance") (ik X.K pH):=by
 intro pins s σ H xs us Q I rs h
 obtain⟨ds,H3,Q3,hr,rd,t,k⟩:=h
 obtain⟨x,T,U,rfl,eU,hT,t⟩:=JF t
 cases rd with | cons r1 r2=>cases r2 with | cons r2 r3=>cases r3 with | nil=>cases r2 with | ty _=>
 obtain⟨u,w,rfl,ru,rw'⟩:=vals2 rs
 obtain rfl:w=Value.type T:=rw'
 have fin:∀tk,EP X pins σ Q (.bool (Zu U T)) { s with toks:=tk }:=fun tk=>⟨.bl _,H,I.tok tk,rfl,k _ _ _ _ TK.refl hr (.bl _) t⟩
 have e:∀(hU:U ∈ "NoneType"::kinds),PySem.W.kitOne X.K (.type U) (.type T)=some (Zu U T):=fun hU=>Wz X.K U T hU hT
 cases r1 with
 |non=>cases eU;exact gR I ru (.non) (e (.head _)) fin
 |bl b=>cases eU;exact gR I ru (.bl b) (e (.tail _ (.tail _ (.head _)))) fin
 |int b=>cases eU;exact gR I ru (.int b) (e (.tail _ (.head _))) fin
 |str b=>cases eU;exact gR I ru (.str b) (e (.tail _ (.tail _ (.tail _ (.head _))))) fin
 |ty b=>cases eU
 |tup ha ra=>
  cases eU
  cases ru
  obtain⟨its,_,⟨o,h1,h2,_⟩,_⟩:=I.tuple (jz.of ha)
  exact PySem.W.kia_one PySem.W.kitx_tuple I.tV ⟨o,h1,h2⟩ (e (.tail _ (.tail _ (.tail _ (.tail _ (.head _)))))) (fun z=>nomatch z) fin
 |ktup ha ra=>
  cases eU
  cases ru
  obtain⟨its,_,⟨o,h1,h2,_⟩,_⟩:=I.tuple ha.sq
  exact PySem.W.kia_one PySem.W.kitx_tuple I.tV ⟨o,h1,h2⟩ (e (.tail _ (.tail _ (.tail _ (.tail _ (.head _)))))) (fun z=>nomatch z) fin
 |fl ha ra=>
  cases eU
  cases ru
  obtain⟨its,_,pl,_⟩:=I.list ha.sq
  obtain⟨o,h1,h2,_⟩:=pl.isList
  exact PySem.W.kia_one PySem.W.kitx_list I.tV ⟨o,h1,h2⟩ (e (.tail _ (.tail _ (.tail _ (.tail _ (.tail _ (.head _))))))) (fun z=>nomatch z) fin
 |ref a=>
  (delta tyH at eU;dsimp only at eU)
  split at eU
  ·rename_i ds ha
   cases eU
   obtain⟨vs,ga,ra⟩:=hr a _ ha
   exact gR I ru (.lst ga) (e (.tail _ (.tail _ (.tail _ (.tail _ (.tail _ (.head _))))))) fin
  ·rename_i ds ha
   cases eU
   obtain⟨vs,ga,ra⟩:=hr a _ ha
   exact gR I ru (.dT ga) (e (.tail _ (.tail _ (.tail _ (.tail _ (.tail _ (.tail _ (.head _)))))))) fin
  all_goals cases eU
def m3(r:D->List D->aF->aY->Prop)(to:cC)(t:t8):cC:=fun σ H Q=>to σ H fun x H1=>(match x with
 | .ref a => (match H1 a with
  |some (.lst _)=>t σ H1 fun xs H2=>r x xs H2 Q
  |_=>False)
 |_=>False)
theorem sO{o e:Expr}{es:List Expr}{to:cC}{t:t8}{name:Str}{apos cpos:Pos}{id:String}{r:D->List D->aF->aY->Prop}(slot:Slot "list" name id)(hty:typeOf (.builtin id)=pure (.type "method_descriptor"))(hm:HQ X id (liftM X.K r))(ho:cN X o to)(ha:Mu X (e::es) t)
  (hbase:attributeBase o name X.env (eval o X.env)=eval o X.env:=by rfl)
  (hfew:((backTo cpos (starEach (e::es) X.env)).all (fun x => !x.1) && (backToKw cpos (keywordEach [] X.env)).all (fun x => x.1.isSome)
   && decide ((e::es).length+([]:List Keyword).length+(if ([]:List Keyword).isEmpty then 0 else 1)<30))=true:=by rfl)
  (hline:(apos.endLine==cpos.line)=true:=by rfl) (hs:starEach (e::es) X.env=(false,eval e X.env)::starEach es X.env:=by rfl) (hplain:(backTo cpos (starEach es X.env)).any (·.1)=false:=by rfl) :
  cN X (.Call (.Attribute o name apos) (e::es) [] cpos) (m3 r to t) :=
 bL (V1 PySem.F.plainAttrs_list slot hty hm ho ha hbase hfew hline hs hplain) fun _ _ _ zz=>zz.ex fun σ3 H3 Q3 sr hr t k=>⟨σ3,H3,_,sr,hr,t,fun x v H3a Ha tka hra rx qa=>by
  cases rx with
  |ref a=>
   simp only[] at qa
   split at qa
   ·rename_i ds ha
    obtain⟨vs,ga,ra⟩:=hra a _ ha
    exact⟨.inl ⟨rfl,vs,jF.of ga⟩,σ3,H3a,_,sr.mono tka,hra,qa,fun ds us H3b Hb tkb hrb rs qb=>⟨.ref a,ds,H3b,Q3,hrb,.ref a,rs,qb,k.mono (tka.trans tkb)⟩⟩
   ·exact qa.elim
  |_=>exact qa.elim⟩
theorem Yy{o:Expr}{to:cC}{name:Str}{apos cpos:Pos}{id:String}{r:D->List D->aF->aY->Prop}(slot:Slot "list" name id)(hty:typeOf (.builtin id)=pure (.type "method_descriptor"))(hm:HQ X id (liftM X.K r))(ho:cN X o to)
  (hbase:attributeBase o name X.env (eval o X.env)=eval o X.env:=by rfl) (hline:(apos.endLine==cpos.line)=true:=by rfl) :
  cN X (.Call (.Attribute o name apos) [] [] cpos) (m3 r to aH) :=
 bL (Ys PySem.F.plainAttrs_list slot hty hm ho hbase hline) fun _ _ _ zz=>zz.ex fun σ3 H3 Q3 sr hr t k=>⟨σ3,H3,_,sr,hr,t,fun x v H3a Ha tka hra rx qa=>by
  cases rx with
  |ref a=>
   simp only[] at qa
   split at qa
   ·rename_i ds ha
    obtain⟨vs,ga,ra⟩:=hra a _ ha
    exact⟨.inl ⟨rfl,vs,jF.of ga⟩,.ref a,[],H3a,Q3,hra,.ref a,.nil,qa,k.mono tka⟩
   ·exact qa.elim
  |_=>exact qa.elim⟩
def o8:D->List D->aF->aY->Prop:=fun x xs H Q=>match x,xs with
 | .ref a,[y] => (match H a with
  |some (.lst ds)=>ds.length<sizeLine/\Q .non (aO H a (.lst (ds++[y])))
  |_=>False)
 |_,_=>False
theorem pM:HQ X "list.append" (liftM X.K o8):=by
 intro pins s σ H x xs v us Q I rx rs h
 obtain⟨d,ds,H3,Q3,hr,rd,rds,t,k⟩:=h
 cases rd with
 |ref a=>
  cases rds with
  |nil=>exact t.elim
  |cons r1 r2=>
   cases r2 with
   |cons _ _=>exact t.elim
   |nil=>
    (delta o8 at t;dsimp only at t)
    split at t
    ·rename_i ds ha
     obtain⟨vs,ga,ra⟩:=hr a _ ha
     exact wM pins s σ H _ _ v us Q I rx rs ⟨a,vs,_,rfl,rfl,ga,by rw[←ra.length];exact t.1,k _ _ _ _ (TK.lst ga) (hr.wJ (TK.lst ga) ((ra.snoc r1).mono (TK.lst ga))) .non t.2⟩
    ·exact t.elim
 |_=>exact t.elim
def xG:D->List D->aF->aY->Prop:=fun x xs H Q=>match x,xs with
 | .ref a,[.ref b] => (match H a,H b with
  |some (.lst ds),some (.lst es)=>ds.length+es.length<=sizeLine/\Q .non (aO H a (.lst (ds++es)))
  |_,_=>False)
 |_,_=>False
theorem Ie:HQ X "list.extend" (liftM X.K xG):=by
 intro pins s σ H x xs v us Q I rx rs h
 obtain⟨d,ds,H3,Q3,hr,rd,rds,t,k⟩:=h
 cases rd with
 |ref a=>
  cases rds with
  |nil=>exact t.elim
  |cons r1 r2=>
   cases r2 with
   |cons _ _=>cases r1 <;> exact t.elim
   |nil=>
    cases r1 with
    |ref b=>
     (delta xG at t;dsimp only at t)
     split at t
     ·rename_i ds es ha hb
      obtain⟨vs,ga,ra⟩:=hr a _ ha
      obtain⟨ws,gb,rb⟩:=hr b _ hb
      exact JL pins s σ H _ _ v us Q I rx rs ⟨a,b,vs,ws,rfl,rfl,ga,gb,by rw[←ra.length,←rb.length];exact t.1,k _ _ _ _ (TK.lst ga) (hr.wJ (TK.lst ga) ((ra.append rb).mono (TK.lst ga))) .non t.2⟩
     ·exact t.elim
    |_=>exact t.elim
 |_=>exact t.elim
def Ao:D->List D->aF->aY->Prop:=fun x xs H Q=>match x,xs with
 | .ref a,[] => (match H a with
  |some (.lst ds)=>(match ds[ds.length-1]? with | some y=>Q y (aO H a (.lst ds.dropLast)) | none=>False)
  |_=>False)
 |_,_=>False
theorem Tv:HQ X "list.pop" (liftM X.K Ao):=by
 intro pins s σ H x xs v us Q I rx rs h
 obtain⟨d,ds,H3,Q3,hr,rd,rds,t,k⟩:=h
 cases rd with
 |ref a=>
  cases rds with
  |cons _ _=>exact t.elim
  |nil=>
   (delta Ao at t;dsimp only at t)
   split at t
   ·rename_i ds ha
    split at t
    ·rename_i y ey
     obtain⟨vs,ga,ra⟩:=hr a _ ha
     obtain⟨w,ew,rw'⟩:=ra.get ey
     exact Wx pins s σ H _ _ v us Q I rx rs ⟨a,vs,w,rfl,rfl,ga,by rw[←ra.length];exact ew,k _ _ _ _ (TK.lst ga) (hr.wJ (TK.lst ga) (ra.dropLast.mono (TK.lst ga))) (rw'.mono (TK.lst ga)) t⟩
    ·exact t.elim
   ·exact t.elim
 |_=>exact t.elim
end
theorem Gp{scope:Scope}{env:Env}(h:∀y,(y,NameKind.free)∈scope.names->∃c,env.cells.lookup y=some c) :
  ∃cl,closureFor scope env=pure cl/\(∀y c,cl.lookup y=some c->env.cells.lookup y=some c)/\∀y,(y,NameKind.free)∈scope.names->∃c,cl.lookup y=some c:=by
 have go:∀(names:List (Str×NameKind)) (cs:List (Str×Addr)),(∀y,(y,NameKind.free)∈names->∃c,env.cells.lookup y=some c)->(∀y c,cs.lookup y=some c->env.cells.lookup y=some c) ->
   ∃cl,(forIn (m:=Sem) names cs fun (x:Str×NameKind) r=>match x with
    |(name,kind)=>if (kind==NameKind.free)=true then do let c ←cellOf env name;pure (ForInStep.yield ((name,c)::r)) else pure (ForInStep.yield r))=pure cl /\
    (∀y c,cl.lookup y=some c->env.cells.lookup y=some c)/\(∀y,(y,NameKind.free)∈names->∃c,cl.lookup y=some c)/\∀y c,cs.lookup y=some c->∃c',cl.lookup y=some c':=by
  intro names
  induction names with
  |nil=>intro cs _ h2;exact⟨cs,rfl,h2,(fun _ z=>nomatch z),fun y c e=>⟨c,e⟩⟩
  |cons x r ih=>
   intro cs h1 h2
   obtain⟨n,k⟩:=x
   by_cases hk:k=NameKind.free
   ·subst hk
    obtain⟨c,hc⟩:=h1 n List.mem_cons_self
    have ec:cellOf env n=pure c:=by unfold cellOf;rw[hc]
    have h2':∀y c',((n,c)::cs).lookup y=some c'->env.cells.lookup y=some c':=fun y c' e=>by
     rw[List.lookup_cons] at e
     split at e
     ·rename_i he
      cases e
      rw[eq_of_beq he];exact hc
     ·exact h2 y c' e
    obtain⟨cl,e1,e2,e3,e4⟩:=ih ((n,c)::cs) (fun y hy=>h1 y (List.mem_cons_of_mem _ hy)) h2'
    have hn:∃c',cl.lookup n=some c':=e4 n c (by rw[List.lookup_cons];simp)
    refine⟨cl,?_,e2,fun y hy=>?_,fun y c' e=>?_⟩
    ·rw[List.forIn_cons]
     simp only[beq_self_eq_true,if_true,ec]
     exact e1
    ·rcases List.mem_cons.mp hy with z | z
     ·cases z;exact hn
     ·exact e3 y z
    ·by_cases hy:y=n
     ·rw[hy];exact hn
     ·exact e4 y c' (by rw[List.lookup_cons,beq_eq_false_iff_ne.mpr hy];exact e)
   ·have hb:(k==NameKind.free)=false:=by simpa using hk
    obtain⟨cl,e1,e2,e3,e4⟩:=ih cs (fun y hy=>h1 y (List.mem_cons_of_mem _ hy)) h2
    refine⟨cl,?_,e2,fun y hy=>?_,e4⟩
    ·rw[List.forIn_cons]
     simp only[hb,Bool.false_eq_true,if_false]
     exact e1
    ·rcases List.mem_cons.mp hy with z | z
     ·cases z;exact absurd rfl hk
     ·exact e3 y z
 obtain⟨cl,e1,e2,e3,_⟩:=go scope.names [] h (fun _ _ e=>by simp at e)
 refine⟨cl,?_,e2,e3⟩
 unfold closureFor
 refine Eq.trans (congrArg (fun t=>t >>= fun cs=>pure cs) e1) ?_
 rfl
theorem Ky{prog:Program}{w:World}{A:Around}{R:Result->Shared->Prop}{s:Shared}{elt target iter:Expr}{ifs:List Expr}{scope:Scope}{pos:Pos}{it acc:Value}{env:Env}(I:Nat->Shared->Prop)
  (turn:∀ n s,I n s→wpAny (model prog w) A (pyNext it) (fun r s₁ => match r with
   |none=>R (.ok .next) s₁
   | some v => wpAny (model prog w) A (letOwnedTupleGo target it v) (fun _ s₁' => wpAny (model prog w) A (assign target env v) (fun _ s₂ =>
     wpAny (model prog w) A (forIn ifs true fun c r=>if r=true then do let ok ←isTrue c env (eval c env);pure (ForInStep.yield ok) else pure (ForInStep.yield r)) (fun ok s₃=>
      if ok=true then wpAny (model prog w) A (eval elt env) (fun x s₄=>
       wpAny (model prog w) A (call (.builtin "list.append") [acc,x]) (fun _ s₅=>∃m,m<n/\I m s₅) (fun _ _=>False) s₄) (fun _ _=>False) s₃
      else ∃m,m<n/\I m s₃) (fun _ _=>False) s₂) (fun _ _=>False) s₁') (fun _ _=>False) s₁) (fun _ _=>False) s)
  (n:Nat) (h:I n s) :
  codeAny (model prog w) A (.compLoop (.ListComp elt [⟨target,iter,ifs,0⟩] scope pos) 0 it acc env) R s:=by
 refine codeAny_loop rfl I (fun n s hI=>?_) n h
 show wpAny _ A ((compTurn (.ListComp elt [⟨target,iter,ifs,0⟩] scope pos) 0 it acc env).onRaise (fun x=>do noteFrame x env;theTreesLotGoes x)) _ _ s
 refine wpAny_noted ?_
 rw[compTurn_list]
 refine wpAny_bind (wpAny_standAt (wpAny_bind (wpAny_mono (turn n s hI) (fun r s₁ h₁=>?_) fun _ _ h'=>h'.elim)))
 cases r with
 |none=>exact wpAny_pure h₁
 |some v=>
  refine wpAny_bind (wpAny_mono h₁ (fun _ s₁' h₁'=>?_) fun _ _ h'=>h'.elim)
  refine wpAny_bind (wpAny_mono h₁' (fun _ s₂ h₂=>wpAny_bind (wpAny_mono h₂ (fun ok s₃ h₃=>?_) fun _ _ h'=>h'.elim)) fun _ _ h'=>h'.elim)
  cases ok with
  |false=>exact wpAny_pure ⟨rfl,h₃⟩
  |true=>
   exact wpAny_bind (wpAny_bind (wpAny_mono h₃ (fun x s₄ h₄=>wpAny_bind (wpAny_mono h₄ (fun _ s₅ h₅=>wpAny_pure (wpAny_pure ⟨rfl,h₅⟩)) fun _ _ h'=>h'.elim)) fun _ _ h'=>h'.elim))
def tY(X:Cx)(N':List Str)(scope:Scope)(cl:List (Str×Addr))(s₁:Shared)(H₁:Hp)(fp:List Addr)(pins:List (Addr×Obj)):Cx where
 prog:=X.prog
 w:=X.w
 K:=X.K
 mg:=X.mg
 base:=X.base
 A:=X.A
 N:=N'
 s₀:=s₁
 H₀:=H₁
 env:=compEnvC scope cl s₁.heap.objs.size X.env
 outer:=X.stack
 stack:=X.stack
 ex:=fp
 fn:=fun _=>false
 calm:=X.calm
 pn:=X.pn++pins
 xe:=fun _ _=>False
abbrev FV:=List (Nat×Str)
def ab0(scope sc:Scope):Scope:={ scope with names:=scope.names.map fun (n,k)=>if (k == .free&&sc.kind == .function&&sc.names.lookup n==some .cell) then (n,.cell) else (n,k) }
structure cF(sc:Scope)(N:List Str)(scope:Scope)(N':List Str)(own:List Str)(fv:FV):Prop where
 kind:scope.kind=.function
 nocell:∀y∈scope.names,y.2≠.cell
 loc:∀y∈scope.names,y.2=.local->scope.names.lookup y.1=some .local
 fre':∀y∈scope.names,y.2=.free->sc.names.lookup y.1=some .cell
 eqN:N'=own++fv.map (·.2)
 nd:N'.Nodup
 slot:∀p∈fv,N[p.1]?=some p.2/\sc.names.lookup p.2=some .cell/\(ab0 scope sc).names.lookup p.2=some .cell
theorem cF.fre{sc scope:Scope}{N N' own:List Str}{fv:FV}(c:cF sc N scope N' own fv):∀y,(y,NameKind.free)∈scope.names->sc.names.lookup y=some .cell:=fun y hy=>c.fre' _ hy rfl
def blk(own:List Str)(fv:FV)(σ:St):St:=own.map (fun _=>none)++fv.map fun p=>(σ[p.1]?).join
theorem iH{scope:Scope}{env:Env}:∀ {names:List (Str×NameKind)} {y:Str} {k:NameKind},
  (names.map fun (n,k)=>if (k==NameKind.free&&env.scope.kind == .function&&env.kindOf n==some .cell) then (n,NameKind.cell) else (n,k)).lookup y=some k->k=.cell\/k=.free->(∀z∈names,z.2≠.cell)->(y,NameKind.free)∈names
 |[],_,_,h,_,_=>by simp at h
 |(n,k0)::r,y,k,h,hk,hc=>by
  rw[List.map_cons] at h
  by_cases hf:k0=NameKind.free
  ·by_cases hy:y=n
   ·subst hy;subst hf;exact List.mem_cons_self
   ·refine List.mem_cons_of_mem _ (iH (env:=env) (scope:=scope) (k:=k) ?_ hk fun z hz=>hc z (List.mem_cons_of_mem _ hz))
    dsimp only at h
    have hyb:(y==n)=false:=beq_eq_false_iff_ne.mpr hy
    split at h <;> (rw[List.lookup_cons,hyb] at h;exact h)
  ·have hb:(k0==NameKind.free)=false:=by simpa using hf
   simp only[hb,Bool.false_and,Bool.false_eq_true,if_false] at h
   rw[List.lookup_cons] at h
   by_cases hy:y=n
   ·subst hy
    simp only[beq_self_eq_true] at h
    cases h
    rcases hk with z | z
    ·exact absurd z (hc _ List.mem_cons_self)
    ·exact absurd z hf
   ·have hyb:(y==n)=false:=beq_eq_false_iff_ne.mpr hy
    rw[hyb] at h
    exact List.mem_cons_of_mem _ (iH (env:=env) (scope:=scope) (k:=k) h hk fun z hz=>hc z (List.mem_cons_of_mem _ hz))
section
variable{X:Cx}{pins:List (Addr×Obj)}{σ:St}{H₁:Hp}{s₁ s₂:Shared}{scope:Scope}{cl:List (Str×Addr)}{N' own:List Str}{fv:FV}{fp:List Addr}
theorem Wq(I:Inv X pins σ H₁ s₁)(c:cF X.env.scope X.N scope N' own fv)(h1:∀y c,cl.lookup y=some c->X.env.cells.lookup y=some c)(h2:∀y,(y,NameKind.free)∈scope.names->∃c,cl.lookup y=some c)
  (hf:∀b∈fp,fB X pins H₁ b/\b<s₁.heap.objs.size):(tY X N' scope cl s₁ H₁ fp pins).Ok where
 mod:=I.ok.mod
 kind:=c.kind
 glob:=I.ok.glob
 blt:=I.ok.blt
 above:=Nat.le_refl _
 inj:=fun x y a e1 e2=>I.ok.inj x y a (h1 x a e1) (h1 y a e2)
 has:=fun x hx=>by
  have hx':(relabel scope X.env).names.lookup x=some .cell\/(relabel scope X.env).names.lookup x=some .free:=hx
  rcases hx' with z | z
  ·exact h2 x (iH (scope:=scope) (env:=X.env) z (.inl rfl) c.nocell)
  ·exact h2 x (iH (scope:=scope) (env:=X.env) z (.inr rfl) c.nocell)
 cab:=fun x a e=>by cases e
 hd:=I.ok.hd
 frames:=I.ok.frames
 stk:=.inl rfl
 exf:=fun b hb=>⟨Nat.ne_of_lt (hf b hb).2,fun x a e=>(hf b hb).1.2.2.2.2.1 x a (h1 x a e)⟩
 bs:=I.bs
 bsz:=Nat.le_trans I.ok.bsz I.sz
 noex:=fun b o e hb=>by
  rcases (hf b hb).1.2.2.2.1 with z | z
  ·exact I.ok.noex b o e z
  ·exact absurd (Nat.lt_of_lt_of_le (Heap.lt_size (I.ok.bs b o e).1) z) (Nat.lt_irrefl _)
 exfs:=fun b hb hm=>by
  rcases List.mem_cons.mp (I.vq b hm) with z | z
  ·exact (hf b hb).1.2.1 z
  ·exact (hf b hb).1.2.2.1 z
 qW:=I.stack
 frf:=I.Ii
theorem T9:(blk own fv σ).length=(own++fv.map (·.2)).length:=by simp[blk]
theorem KC(I:Inv X pins σ H₁ s₁)(c:cF X.env.scope X.N scope N' own fv)(h1:∀y c,cl.lookup y=some c->X.env.cells.lookup y=some c)(h2:∀y,(y,NameKind.free)∈scope.names->∃c,cl.lookup y=some c)
  (hf:∀b∈fp,fB X pins H₁ b/\b<s₁.heap.objs.size) {h':Heap} {m:Str->Option Value} {tk:Nat} (hn:h'.Ns s₁.heap.objs.size m) (kp:∀b o,s₁.heap.get? b=some o->h'.get? b=some o) :
  Inv (tY X N' scope cl s₁ H₁ fp pins) [] (blk own fv σ) H₁ { s₁ with heap:=h',toks:=tk } where
 ok:=Wq I c h1 h2 hf
 os:=rfl
 bare:=I.bare
 base:=Un.kept kp
 loc:=by
  refine⟨m,hn,fun i x v e1 e2 e3=>?_⟩
  have e1':(own++fv.map (·.2))[i]?=some x:=by rw[←c.eqN];exact e1
  have hi:¬i<own.length:=fun hi=>by
   unfold blk at e2
   rw[List.getElem?_append_left (by simpa using hi),List.getElem?_map] at e2
   cases z:own[i]? with
   |none=>rw[z] at e2;cases e2
   |some y=>rw[z] at e2;cases e2
  unfold blk at e2
  rw[List.getElem?_append_right (by simpa using hi),List.length_map,List.getElem?_map] at e2
  rw[List.getElem?_append_right (by simpa using hi),List.getElem?_map] at e1'
  cases z:fv[i-own.length]? with
  |none=>rw[z] at e2;cases e2
  |some p=>
   rw[z] at e2 e1'
   have ex:p.2=x:=Option.some.inj e1'
   subst ex
   obtain⟨g1,g2,g3⟩:=c.slot p (List.mem_of_getElem? z)
   have e2':(σ[p.1]?).join=some v:=Option.some.inj e2
   have e2'':σ[p.1]?=some (some v):=by
    cases q:σ[p.1]? with
    |none=>rw[q] at e2';cases e2'
    |some o=>rw[q] at e2';rw[show o=some v from e2']
   obtain⟨m0,hn0,hl0⟩:=I.loc
   obtain⟨u,ru,lu⟩:=hl0 p.1 p.2 v g1 e2'' (.inr (.inl g2))
   refine⟨u,ru,.inr ⟨.inl g3,?_⟩⟩
   rcases lu with ⟨k,_⟩ | ⟨_,cc,ec,ic⟩
   ·exact absurd (show X.env.scope.names.lookup p.2=some NameKind.local from k) (by rw[g2];intro z;cases z)
   ·have hfree:(p.2,NameKind.free)∈scope.names:=iH (scope:=scope) (env:=X.env) g3 (.inl rfl) c.nocell
    obtain⟨c',ec'⟩:=h2 _ hfree
    have:=h1 _ _ ec'
    rw[ec] at this
    cases this
    obtain⟨o,ho,hd⟩:=ic
    exact⟨cc,ec',o,kp _ _ ho,hd⟩
 cell:=fun x a e=>by
  obtain⟨v,o,ho,hd⟩:=I.cell x a (h1 x a e)
  exact⟨v,o,kp _ _ ho,hd⟩
 free:=I.hok.fresh (Nat.le_refl _)
 freeC:=fun x a e=>I.freeC x a (h1 x a e)
 pin:=fun p hp=>by
  rw[List.append_nil] at hp
  obtain⟨g1,g2,g3,g4,g5⟩:=I.pin p hp
  refine⟨kp _ _ g1,g2,Nat.ne_of_lt (Heap.lt_size g1),fun hm=>?_,g5⟩
  rcases List.mem_cons.mp (I.vq p.1 hm) with z | z
  ·exact g3 z
  ·exact g4 z
 hok:=I.hok.kept kp
 len:=by rw[T9,←c.eqN];rfl
theorem Qv{σ':St}{H':Hp}(I:Inv X pins σ H₁ s₁)(hf:∀b∈fp,fB X pins H₁ b/\b<s₁.heap.objs.size)(J:Inv (tY X N' scope cl s₁ H₁ fp pins) [] σ' H' s₂) :
  Inv X pins σ H' s₂/\fB X pins H' s₁.heap.objs.size/\∃m,s₂.heap.Ns s₁.heap.objs.size m:=by
 have I2:Inv X pins σ H' s₂:=I.call' (ch:=fp) J.os J.base J.hok J.bare fun b hb=>⟨(hf b hb).1.2.2.2.1,(hf b hb).1.2.1,(hf b hb).1.2.2.2.2.1,(hf b hb).1.2.2.2.2.2⟩
 obtain⟨m,hn,_⟩:=J.loc
 exact⟨I2,⟨J.free,(I.yS (H':=H') (Nat.le_refl _) J.free).2⟩,m,hn⟩
end
def KZ(X:Cx)(ifs:List Expr)(t:TT):Prop:=∀(pins:List (Addr×Obj)) (s:Shared) (σ:St) (H:Hp) (Q:Bool->Hp->Prop),Inv X pins σ H s->t σ H Q ->
 wpAny (model X.prog X.w) X.A (forIn ifs true fun c r=>if r=true then do let ok ←isTrue c X.env (eval c X.env);pure (ForInStep.yield ok) else pure (ForInStep.yield r)) (TP X pins σ Q) X.xe s
theorem Ow{X:Cx}:KZ X [] (fun _ H Q=>Q true H):=fun _ _ _ H _ I h=>wpAny_tests_nil ⟨H,I,h⟩
theorem PJ{X:Cx}{c:Expr}{t:TT}(h:PT X c t):KZ X [c] t:=fun pins s σ H Q I hw=>wpAny_tests_one (h pins s σ H Q I hw)
def Hm(wi:TI)(g:TG)(tc:TT)(te:TE)(own:List Str)(fv:FV):TE:=fun σ H Q=>wi σ H fun J H1=>∀p,H1 p=none->∃W:Nat->Nat->Hp->Prop,(∃m,W 0 m (upd H1 p (.lst [])))/\∀i m H2,W i m H2 ->
 (J.stop i H2∧Q (.ref p) H2)∨(J.go i H2∧∀ x H3,J.yld i H2 x H3→g x (blk own fv σ) H3 fun σ2 H4 => tc σ2 H4 fun b H5 => if b = true then te σ2 H5 fun v H6 => ∃ acc,H6 p = some (.lst acc)∧acc.length < sizeLine ∧
  ∃m',m'<m/\W (i+1) m' (upd H6 p (.lst (acc++[v]))) else ∃m',m'<m/\W (i+1) m' H5)
theorem wU{X:Cx}{pins:List (Addr×Obj)}{σ:St}{H:Hp}{s:Shared}{elt target iter:Expr}{ifs:List Expr}{scope:Scope}{pos fpos:Pos}{N' own:List Str}{fv:FV}{wi:TI}{g:TG}{tc:TT}{te:TE}{R:VK}{use:Option (Value->Sem Unit)}{Q':Value->Shared->Prop}
  (c:cF X.env.scope X.N scope N' own fv) (hcalm:X.calm=true) (hi:PI X target iter wi)
  (hgk:∀x σ H Q,g x σ H Q->g x σ H fun σ' H'=>(σ'.length=σ.length/\∀i,own.length<=i->σ'[i]?=σ[i]?)/\Q σ' H')
  (hb:∀cl s₁ H₁ fp,PG (tY X N' scope cl s₁ H₁ fp pins) target g/\KZ (tY X N' scope cl s₁ H₁ fp pins) ifs tc/\PE (tY X N' scope cl s₁ H₁ fp pins) elt te)
  (hs:∀x,foldedSetIterable iter X.env x=pure x) (I:Inv X pins σ H s) (h:Hm wi g tc te own fv σ H R)
  (fin:∀(p C:Addr) (H':Hp) (s':Shared) (m:Str->Option Value),Inv X pins σ H' s'->fB X pins H' C->s'.heap.Ns C m->R (.ref p) H'->compPost (model X.prog X.w) X.A X.xe use Q' (.ref p) C (.ok .next) s') :
  wpAny (model X.prog X.w) X.A (comprehension (.ListComp elt [⟨target,iter,ifs,0⟩] scope pos) scope X.env fpos (newList []) false (eval iter X.env) use) Q' X.xe s:=by
 obtain⟨cl,hclos,h1,h2⟩:=Gp (scope:=scope) (env:=X.env) fun y hy=>I.ok.has y (.inl (c.fre y hy))
 refine wpAny_comprehension_free (use:=use) rfl hs hclos c.kind c.loc (wpAny_mono (hi pins s σ H _ I h) (fun v s1 h1'=>wpAny_mono h1' (fun itv s2 h2'=>?_) fun _ _ e=>e) fun _ _ e=>e)
 obtain⟨it,fp,tn,J,H2,rfl,I2,T,st2,f2,q2⟩:=h2'
 refine wpAny_newObj_type ?_
 have I3:Inv X pins σ (upd H2 s2.heap.objs.size (.lst [])) { s2 with heap:=s2.heap.push { cls:=.type "list",data:=.seq ([]:List Value).toArray } }:=I2.Z1 (t':=s2.toks) (ys:=[]) (its:=[]) .nil (Nat.zero_le _)
 have np:H2 s2.heap.objs.size=none:=I2.fresh
 generalize hs3:({ s2 with heap:=s2.heap.push { cls:=.type "list",data:=.seq ([]:List Value).toArray } }:Shared)=s3 at I3
 have e3:s3.heap=s2.heap.push { cls:=.type "list",data:=.seq ([]:List Value).toArray }:=by rw[←hs3]
 have old3:∀b o,s2.heap.get? b=some o->s3.heap.get? b=some o:=fun b o e=>by rw[e3];exact Heap.get?_push_of_some _ e
 have f3:∀b∈fp,fB X pins (upd H2 s2.heap.objs.size (.lst [])) b/\b<s3.heap.objs.size:=fun b hb=>by
  obtain⟨o,ho,_⟩:=T.obj 0 _ st2 b hb
  have hlt:=Heap.lt_size ho
  refine⟨⟨?_,(f2 b hb).2⟩,Heap.lt_size (old3 b o ho)⟩
  rw[aD (Nat.ne_of_lt hlt)]
  exact (f2 b hb).1
 have st3:tn 0 s3.heap:=T.keep 0 _ _ st2 fun b hb o e=>old3 b o e
 refine wpAny_newFunctionEnv c.nocell (by intro y hy;simp at hy) (fun h' hns hsb=>?_) c.kind
 have kp:∀b o,s3.heap.get? b=some o->h'.get? b=some o:=fun b o e=>(hsb.2 b (Nat.ne_of_lt (Heap.lt_size e))).trans (Heap.get?_push_of_some _ e)
 have J0:Inv (tY X N' scope cl s3 (upd H2 s2.heap.objs.size (.lst [])) fp pins) [] (blk own fv σ) (upd H2 s2.heap.objs.size (.lst [])) { s3 with heap:=h',toks:=s3.toks+([]:List (Str×Value)).length }:=KC I3 c h1 h2 f3 hns kp
 have st4:tn 0 h':=T.keep 0 _ _ st3 fun b hb o e=>kp b o e
 obtain⟨W,⟨m0,w0⟩,turn⟩:=q2 s2.heap.objs.size np
 obtain⟨hg,hifs,helt⟩:=hb cl s3 (upd H2 s2.heap.objs.size (.lst [])) fp
 have noP:∀b∈fp,b≠s3.heap.objs.size:=fun b hb=>Nat.ne_of_lt (f3 b hb).2
 have stat:∀ {H':Hp},(∀b∈fp,H' b=none)->∀b∈fp,fB (tY X N' scope cl s3 (upd H2 s2.heap.objs.size (.lst [])) fp pins) [] H' b:=fun hn b hb=>by
  obtain⟨⟨_,g1,g2,g3,g4,g5⟩,g6⟩:=f3 b hb
  refine⟨hn b hb,Nat.ne_of_lt g6,fun hm=>?_,.inl hb,fun x a e=>g4 x a (h1 x a e),fun p hp=>g5 p (by simpa [tY] using hp)⟩
  rcases List.mem_cons.mp (I3.vq b hm) with z | z
  ·exact g1 z
  ·exact g2 z
 have loop:codeAny (model X.prog X.w) X.A (.compLoop (.ListComp elt [⟨target,iter,ifs,0⟩] scope pos) 0 (.ref it) (.ref s2.heap.objs.size) (compEnvC scope cl s3.heap.objs.size X.env))
   (compPost (model X.prog X.w) X.A X.xe use Q' (.ref s2.heap.objs.size) s3.heap.objs.size) { s3 with heap:=h',toks:=s3.toks+([]:List (Str×Value)).length }:=by
  refine Ky (fun n s'=>∃i H' σ',Inv (tY X N' scope cl s3 (upd H2 s2.heap.objs.size (.lst [])) fp pins) [] (blk own fv σ) H' s'/\σ'=blk own fv σ/\tn i s'.heap/\(∀b∈fp,H' b=none)/\W i n H') ?_ m0 ⟨0,_,_,J0,rfl,st4,fun b hb=>(f3 b hb).1.1,w0⟩
  rintro n s5 ⟨i,H5,_,J5,rfl,st5,fr5,w5⟩
  rcases turn i n H5 w5 with ⟨stop,qn⟩ | ⟨go,step⟩
  ·refine cJ (T.done (tY X N' scope cl s3 (upd H2 s2.heap.objs.size (.lst [])) fp pins) rfl rfl rfl hcalm i [] s5 _ H5 _ J5 (stat fr5) st5 stop) fun r s6 hr=>?_
   obtain⟨rfl,J6⟩:=hr
   obtain⟨I6,f6,m6,n6⟩:=Qv I3 f3 J6
   exact fin _ _ H5 s6 m6 I6 f6 n6 qn
  ·refine cJ (T.item (tY X N' scope cl s3 (upd H2 s2.heap.objs.size (.lst [])) fp pins) rfl rfl rfl hcalm i [] s5 _ H5 _ J5 (stat fr5) st5 go) fun r s6 hr=>?_
   obtain⟨u,rfl,h6⟩:=hr
   refine cJ h6 fun _ s7 h7=>?_
   obtain⟨x,H7,J7,r7,y7,st7,fr7⟩:=h7
   have J7':=J7.pinned (stat fr7) (T.obj _ _ st7)
   refine cJ (hg _ s7 _ H7 x u _ J7' r7 (hgk _ _ _ _ (step x H7 y7))) fun _ s8 h8=>?_
   obtain⟨σ8,H8,J8,⟨l8,k8⟩,q8⟩:=h8
   refine cJ (hifs _ s8 σ8 H8 _ J8 q8) fun ok s9 h9=>?_
   obtain⟨H9,J9,q9⟩:=h9
   have weak:∀ {H':Hp} {s':Shared},Inv (tY X N' scope cl s3 (upd H2 s2.heap.objs.size (.lst [])) fp pins) ([]++vP fp s7.heap) σ8 H' s' ->
     Inv (tY X N' scope cl s3 (upd H2 s2.heap.objs.size (.lst [])) fp pins) [] (blk own fv σ) H' s'/\tn (i+1) s'.heap/\∀b∈fp,H' b=none:=fun {H' s'} J'=>by
    refine⟨J'.oV.weak l8.symm fun j v e=>?_,T.keep _ _ _ st7 fun b hb o e=>(J'.pin (b,o) (List.mem_append_right _ (List.mem_append_right _ (jV hb e)))).1,fun b hb=>?_⟩
    ·have hj:own.length<=j:=Nat.le_of_not_lt fun hj=>by
      unfold blk at e
      rw[List.getElem?_append_left (by simpa using hj),List.getElem?_map] at e
      cases z:own[j]? with
      |none=>rw[z] at e;cases e
      |some y=>rw[z] at e;cases e
     rw[k8 j hj];exact e
    ·obtain⟨o,e,d⟩:=T.obj _ _ st7 b hb
     exact (J'.pin (b,o) (List.mem_append_right _ (List.mem_append_right _ (jV hb e)))).2.1
   cases ok with
   |false=>
    rw[if_neg Bool.false_ne_true] at q9 ⊢
    obtain⟨m',hm,w9⟩:=q9
    obtain⟨g1,g2,g3⟩:=weak J9
    exact⟨m',hm,i+1,H9,_,g1,rfl,g2,g3,w9⟩
   |true=>
    rw[if_pos rfl] at q9 ⊢
    refine cJ (helt _ s9 σ8 H9 _ J9 q9) fun xv s10 h10=>?_
    obtain⟨v,H10,J10,r10,acc,ea,hl,m',hm,w10⟩:=h10
    refine cJ (wM _ s10 σ8 H10 (.ref s2.heap.objs.size) [v] (.ref s2.heap.objs.size) [xv] (fun z H'=>z=.non/\H'=upd H10 s2.heap.objs.size (.lst (acc++[v]))) J10 rfl (.cons r10 .nil) ⟨_,acc,v,rfl,rfl,ea,hl,rfl,rfl⟩) fun _ s11 h11=>?_
    obtain⟨z,H11,J11,_,_,rfl⟩:=h11
    obtain⟨g1,g2,g3⟩:=weak J11
    exact⟨m',hm,i+1,_,_,g1,rfl,g2,g3,w10⟩
 exact codeAny_compStart_list loop (T.self X.A 0 _ _ _ st4 loop)
theorem S7{X:Cx}{elt target iter:Expr}{ifs:List Expr}{scope:Scope}{pos:Pos}{N' own:List Str}{fv:FV}{wi:TI}{g:TG}{tc:TT}{te:TE}
  (c:cF X.env.scope X.N scope N' own fv) (hcalm:X.calm=true) (hi:PI X target iter wi)
  (hgk:∀x σ H Q,g x σ H Q->g x σ H fun σ' H'=>(σ'.length=σ.length/\∀i,own.length<=i->σ'[i]?=σ[i]?)/\Q σ' H')
  (hb:∀pins cl s₁ H₁ fp,PG (tY X N' scope cl s₁ H₁ fp pins) target g/\KZ (tY X N' scope cl s₁ H₁ fp pins) ifs tc/\PE (tY X N' scope cl s₁ H₁ fp pins) elt te)
  (hs:∀x,foldedSetIterable iter X.env x=pure x:=by intro _;rfl):PE X (.ListComp elt [⟨target,iter,ifs,0⟩] scope pos) (Hm wi g tc te own fv):=by
 intro pins s σ H Q I h
 rw[eval_ListComp]
 refine wU (use:=none) (R:=Q) c hcalm hi hgk (hb pins) hs I h fun p C H' s' m J f n q=>?_
 refine⟨m,n,fun h' hs'=>⟨.ref p,H',J.turned (t':=s'.toks) (it:=C) (fun b o hb e=>(hs'.2 b hb).trans e) f.1 f.2.1 f.2.2.2.1 f.2.2.2.2.1 f.2.2.2.2.2,rfl,q⟩⟩
theorem DW{X:Cx}{elt target iter:Expr}{ifs:List Expr}{scope:Scope}{pos spos py:Pos}{y:Str}{j:Nat}{N' own:List Str}{fv:FV}{wi:TI}{g:TG}{tc:TT}{te:TE}
  (hN:X.N.Nodup) (hj:X.N[j]?=some y) (hy:Loc X.env.scope y) (hsw:swapsWith (.ListComp elt [⟨target,iter,ifs,0⟩] scope pos) (some (.Name y py)) spos.line X.env=pure true)
  (c:cF X.env.scope X.N scope N' own fv) (hcalm:X.calm=true) (hi:PI X target iter wi)
  (hgk:∀x σ H Q,g x σ H Q->g x σ H fun σ' H'=>(σ'.length=σ.length/\∀i,own.length<=i->σ'[i]?=σ[i]?)/\Q σ' H')
  (hb:∀pins cl s₁ H₁ fp,PG (tY X N' scope cl s₁ H₁ fp pins) target g/\KZ (tY X N' scope cl s₁ H₁ fp pins) ifs tc/\PE (tY X N' scope cl s₁ H₁ fp pins) elt te)
  (hs:∀x,foldedSetIterable iter X.env x=pure x:=by intro _;rfl) (hf:X.fn y=true\/X.env.scope.names.lookup y=some .local:=by first | exact .inl rfl | exact .inr rfl | assumption) :
  PS X (.Assign [.Name y py] (.ListComp elt [⟨target,iter,ifs,0⟩] scope pos) spos) (Ye (Hm wi g tc te own fv) (sS j)):=by
 intro pins s σ H Dd I h
 rw[exec_Assign_Name_used _ _ _ _ hsw]
 refine wpAny_bind (wpAny_standAt (wpAny_bind ?_))
 show wpAny _ X.A (do let _ ←comprehension (.ListComp elt [⟨target,iter,ifs,0⟩] scope pos) scope X.env _ (newList []) false (eval iter X.env) (some (assign (.Name y py) X.env))) _ _ s
 refine wpAny_bind (wpAny_mono (wU (use:=some (assign (.Name y py) X.env)) (Q':=fun _ s'=>SP X pins Dd .next s') c hcalm hi hgk (hb pins) hs I h fun p C H' s' m J f n q=>?_) (fun _ s' hq=>wpAny_pure (wpAny_pure hq)) fun _ _ e=>e)
 show wpAny _ X.A (assign (.Name y py) X.env (.ref p)) _ _ s'
 refine wpAny_assign_Name (wW J hN hj hy (v:=.ref p) rfl (fun s'' J' hs''=>?_) hf)
 obtain⟨a,sb,ha⟩:=hs''
 have hC:C≠a:=by
  rcases ha with z | z
  ·rw[z];exact f.2.1
  ·exact fun w=>f.2.2.2.2.1 _ _ z w.symm
 refine⟨m,n.sameBut sb hC,fun h' hs'=>⟨_,H',J'.turned (t':=s''.toks) (it:=C) (fun b o hb e=>(hs'.2 b hb).trans e) f.1 f.2.1 f.2.2.2.1 f.2.2.2.2.1 f.2.2.2.2.2,q⟩⟩
theorem FW{n:Nat}(h:n<=10000):n<sizeLine:=by rw[show sizeLine=16777216 by decide];omega
def Er(wi:Fw)(g:v9)(tc:sY)(te:cC)(own:List Str)(fv:FV):cC:=fun σ H Q=>wi σ H fun ds keep H1=>(∀H2:aF,aN H1 H2->keep H2)/\ds.length<=10000/\∃rs:List (Option D),rs.length=ds.length /\
 (∀ (i:Nat) (d:D),ds[i]? = some d→∀ H2:aF,aN H1 H2→g d (own.map (fun _ => none)++fv.map fun p => (σ[p.1]?).join) H2 fun σ2 H4 => tc σ2 H4 fun b H5 =>
  if b=true then te σ2 H5 fun v H6=>aN H2 H6/\rs[i]?=some (some v) else aN H2 H5/\rs[i]?=some none) /\
 ∀p,H1 p=none->Q (.ref p) (aO H1 p (.lst (rs.filterMap id)))
theorem Xd{K:PySem.W.Frag}{H:Hp}{σ3:cO}{σ:St}{own:List Str}{fv:FV}(s:SR K H σ3 σ):SR K H (own.map (fun _=>none)++fv.map fun p=>(σ3[p.1]?).join) (blk own fv σ):=by
 refine⟨by simp[blk],fun i d h=>?_⟩
 have hi:¬i<own.length:=fun hi=>by
  rw[List.getElem?_append_left (by simpa using hi),List.getElem?_map] at h
  cases z:own[i]? with
  |none=>rw[z] at h;cases h
  |some y=>rw[z] at h;cases h
 rw[List.getElem?_append_right (by simpa using hi),List.length_map,List.getElem?_map] at h
 unfold blk
 rw[List.getElem?_append_right (by simpa using hi),List.length_map,List.getElem?_map]
 cases z:fv[i-own.length]? with
 |none=>rw[z] at h;cases h
 |some p=>
  rw[z] at h
  have h':(σ3[p.1]?).join=some d:=Option.some.inj h
  have e:σ3[p.1]?=some (some d):=by
   cases q:σ3[p.1]? with
   |none=>rw[q] at h';cases h'
   |some o=>rw[q] at h';rw[show o=some d from h']
  obtain⟨v,hv,rv⟩:=s.get _ _ e
  exact⟨v,by show some (σ[p.1]?).join=some (some v);rw[hv];rfl,rv⟩
theorem gB{rs:List (Option D)}{i:Nat}{o:Option D}(h:rs[i]?=some o):(rs.take (i+1)).filterMap id=(rs.take i).filterMap id++o.toList:=by
 rw[List.take_add_one,h,List.filterMap_append]
 cases o <;> rfl
theorem yc{K:PySem.W.Frag}{wi:Fw}{g:v9}{g2:TG}{tc:sY}{te:cC}{own:List Str}{fv:FV}{σ:St}{H:Hp}{Q:VK}(hgr:∀v σ H Q,OD K g v σ H Q->g2 v σ H Q)(h:eV K (Er wi g tc te own fv) σ H Q):Hm (V4 K wi) g2 (liftT K tc) (eV K te) own fv σ H Q:=by
 obtain⟨σ3,H3,Q3,sr,hr,t,k⟩:=h
 refine⟨σ3,H3,_,sr,hr,t,fun ds keep J H3' H' tk' hr' ok q p np=>?_⟩
 obtain⟨hkeep,hlen,rs,hrl,hel,hfin⟩:=q
 have Vu:H3' p=none:=hr'.fresh np
 have hrs:∀i,((rs.take i).filterMap id).length<=i:=fun i=>Nat.le_trans (List.length_filterMap_le _ _) (by rw[List.length_take];grind)
 refine⟨fun i m H2=>m=ds.length-i/\i<=ds.length/\TK H' H2/\HR K (aO H3' p (.lst ((rs.take i).filterMap id))) H2,⟨ds.length,by simp,Nat.zero_le _,TK.fresh np,hr'.wJ (TK.fresh np) (.nil)⟩,?_⟩
 rintro i m H2 ⟨rfl,hi,tk2,hr2⟩
 have sub2:aN H3' (aO H3' p (.lst ((rs.take i).filterMap id))):=aN.fresh Vu
 obtain⟨go,stop⟩:=ok _ H2 tk2 hr2 (hkeep _ sub2)
 by_cases hlt:i<ds.length
 ·obtain⟨g1,g2⟩:=go i hlt
  refine .inr ⟨g1,fun x H2' y=>?_⟩
  obtain⟨tky,hry,d,ed,rd⟩:=g2 x H2' y
  replace tk2:=tk2.trans tky
  refine hgr _ _ _ _ ⟨d,_,_,_,rd,(Xd sr).mono (tk'.trans tk2),hry,hel i d ed _ sub2,fun σ3a σa H3a Ha tka sra hra qa=>⟨σ3a,H3a,_,sra,hra,qa,fun b H3b Hb tkb hrb qb=>?_⟩⟩
  cases b with
  |true=>
   rw[if_pos rfl] at qb ⊢
   refine⟨σ3a,H3b,_,sra.mono tkb,hrb,qb,fun v u H3c Hc tkc hrc rv qc=>?_⟩
   obtain⟨sub,ers⟩:=qc
   obtain⟨acc,gacc,racc⟩:=hrc p _ (sub p _ aB)
   refine⟨acc,gacc,?_,ds.length-(i+1),by grind,rfl,hlt,((tk2.trans tka).trans (tkb.trans tkc)).trans (TK.lst gacc),?_⟩
   ·rw[←racc.length]
    exact FW (Nat.le_trans (hrs i) (Nat.le_trans hi hlen))
   ·rw[gB ers,←mK]
    exact (hrc.sub sub).wJ (TK.lst gacc) ((racc.snoc rv).mono (TK.lst gacc))
  |false=>
   rw[if_neg Bool.false_ne_true] at qb ⊢
   obtain⟨sub,ers⟩:=qb
   refine⟨ds.length-(i+1),by grind,rfl,hlt,(tk2.trans tka).trans tkb,?_⟩
   rw[gB ers]
   simp only[Option.toList,List.append_nil]
   exact hrb.sub sub
 ·have e:i=ds.length:=by grind
  subst e
  refine .inl ⟨stop,k _ _ _ _ (tk'.trans tk2) hr2 (.ref p) ?_⟩
  rw[List.take_of_length_le (by rw[hrl];exact Nat.le_refl _)]
  exact hfin p Vu
def rG:sY:=fun _ H Q=>Q true H
def HS(X:Cx)(ifs:List Expr)(t:sY):Prop:=KZ X ifs (liftT X.K t)
theorem dR{X:Cx}:HS X [] rG:=fun pins s σ H Q I h=>by
 obtain⟨σ3,H3,Q3,sr,hr,t,k⟩:=h
 exact Ow pins s σ H Q I (k _ _ _ TK.refl hr t)
theorem QK{X:Cx}{c:Expr}{t:sY}(h:LR X c t):HS X [c] t:=PJ h
theorem gr_name{K:PySem.W.Frag}{i:Nat}:∀v σ H Q,OD K (qD i) v σ H Q->sS i v σ H Q:=fun _ _ _ _ ⟨_,_,_,_,rd,sr,hr,t,k⟩=>k _ _ _ _ TK.refl (sr.set i rd) hr t
theorem Ho{n i:Nat}(hi:i<n):∀x σ H Q,sS i x σ H Q->sS i x σ H fun σ' H'=>(σ'.length=σ.length/\∀j,n<=j->σ'[j]?=σ[j]?)/\Q σ' H':=fun x σ H Q h=>
 ⟨⟨by simp,fun j hj=>List.getElem?_set_ne (by grind)⟩,h⟩
section
variable{X:Cx}{elt iter:Expr}{ifs:List Expr}{scope:Scope}{pos px py pt spos:Pos}{x x' y:Str}{fv:FV}{wi:Fw}{tc:sY}{te:cC}{kk:Nat}
theorem gH(c:cF X.env.scope X.N scope (x::fv.map (·.2)) [x] fv)(hcalm:X.calm=true)(hi:Tt X (.Name x px) iter wi)
  (hifs:∀pins cl s₁ H₁ fp,HS (tY X (x::fv.map (·.2)) scope cl s₁ H₁ fp pins) ifs tc) (helt:∀pins cl s₁ H₁ fp,cN (tY X (x::fv.map (·.2)) scope cl s₁ H₁ fp pins) elt te)
  (hx:(relabel scope X.env).names.lookup x=some .local:=by rfl) (hs:∀x,foldedSetIterable iter X.env x=pure x:=by intro _;rfl):cN X (.ListComp elt [⟨.Name x px,iter,ifs,0⟩] scope pos) (Er wi (qD 0) tc te [x] fv) :=
 bL (S7 (g:=sS 0) (tc:=liftT X.K tc) (te:=eV X.K te) c hcalm hi (Ho (Nat.zero_lt_one)) (fun pins cl s₁ H₁ fp=>⟨jm c.nd rfl (.inl hx) (.inr hx),hifs pins cl s₁ H₁ fp,helt pins cl s₁ H₁ fp⟩) hs) fun _ _ _ h=>yc gr_name h
theorem vJ(j:Nat)(hN:X.N.Nodup)(c:cF X.env.scope X.N scope (x::fv.map (·.2)) [x] fv)(hcalm:X.calm=true)(hi:Tt X (.Name x px) iter wi)
  (hifs:∀pins cl s₁ H₁ fp,HS (tY X (x::fv.map (·.2)) scope cl s₁ H₁ fp pins) ifs tc) (helt:∀pins cl s₁ H₁ fp,cN (tY X (x::fv.map (·.2)) scope cl s₁ H₁ fp pins) elt te)
  (hj:X.N[j]?=some y:=by rfl) (hy:Loc X.env.scope y:=by first | exact Or.inl rfl | exact Or.inr rfl) (hsw:swapsWith (.ListComp elt [⟨.Name x px,iter,ifs,0⟩] scope pos) (some (.Name y py)) spos.line X.env=pure true:=by rfl)
  (hx:(relabel scope X.env).names.lookup x=some .local:=by rfl) (hs:∀x,foldedSetIterable iter X.env x=pure x:=by intro _;rfl) (hf:X.fn y=true\/X.env.scope.names.lookup y=some .local:=by first | exact .inl rfl | exact .inr rfl | assumption) :
  K6 X (.Assign [.Name y py] (.ListComp elt [⟨.Name x px,iter,ifs,0⟩] scope pos) spos) (st3 j (Er wi (qD 0) tc te [x] fv)) :=
 jD (DW (g:=sS 0) (tc:=liftT X.K tc) (te:=eV X.K te) hN hj hy hsw c hcalm hi (Ho (Nat.zero_lt_one)) (fun pins cl s₁ H₁ fp=>⟨jm c.nd rfl (.inl hx) (.inr hx),hifs pins cl s₁ H₁ fp,helt pins cl s₁ H₁ fp⟩) hs hf)
  fun _ _ _ zz=>zz.ex fun σ3 H3 D3 sr hr t k=>yc gr_name ⟨σ3,H3,_,sr,hr,t,fun x v H3a Ha tka hra rx qa=>k.nx _ _ _ _ tka ((sr.mono tka).set j rx) hra qa⟩
end
end L3
namespace L3
open PySem L2
def fH:R3:=Fd fun i j=>.int (i-j)
def fG:R3:=R7 (fun _ j=>0<j) fun i j=>.int (i%j)
def xZ:R3:=R7 SJ fun i j=>.int (i ^ j.toNat)
def Ko:R3:=Fd fun i j=>.bl (decide (i<=j))
def Wy:R3:=Fd fun i j=>.bl (decide (j<i))
theorem iT:∀ns:List Int,intsOf (ns.map D.int)=some ns
 |[]=>rfl
 |n::ns=>by simp only[List.map_cons,intsOf,iT ns,Option.map_some]
def jg:List Int->Int
 |[]=>0
 |[x]=>x
 |x::y::r=>min x (jg (y::r))
def ji:List Int->Int
 |[]=>0
 |[x]=>x
 |x::y::r=>max x (ji (y::r))
theorem mC:∀ {ns:List Int} {a:Int},a∈ns->jg ns<=a
 |[x],a,h=>by simp at h;subst h;exact Int.le_refl _
 |x::y::r,a,h=>by
  rcases List.mem_cons.mp h with rfl | h
  ·exact Int.min_le_left _ _
  ·exact Int.le_trans (Int.min_le_right _ _) (mC (ns:=y::r) h)
theorem rF:∀ {ns:List Int},ns≠[]->jg ns∈ns
 |[x],_=>List.mem_cons_self
 |x::y::r,_=>by
  have ih:=rF (ns:=y::r) (by simp)
  have e:jg (x::y::r)=min x (jg (y::r)):=rfl
  rw[e]
  rcases Int.le_total x (jg (y::r)) with h | h
  ·rw[Int.min_eq_left h];exact List.mem_cons_self
  ·rw[Int.min_eq_right h];exact List.mem_cons_of_mem _ ih
theorem ur:∀ {ns:List Int} {a:Int},a∈ns->a<=ji ns
 |[x],a,h=>by simp at h;subst h;exact Int.le_refl _
 |x::y::r,a,h=>by
  rcases List.mem_cons.mp h with rfl | h
  ·exact Int.le_max_left _ _
  ·exact Int.le_trans (ur (ns:=y::r) h) (Int.le_max_right _ _)
theorem jT:∀ {ns:List Int},ns≠[]->ji ns∈ns
 |[x],_=>List.mem_cons_self
 |x::y::r,_=>by
  have ih:=jT (ns:=y::r) (by simp)
  have e:ji (x::y::r)=max x (ji (y::r)):=rfl
  rw[e]
  rcases Int.le_total x (ji (y::r)) with h | h
  ·rw[Int.max_eq_right h];exact List.mem_cons_of_mem _ ih
  ·rw[Int.max_eq_left h];exact List.mem_cons_self
def Lx(f:List Int->Int):List D->aF->aY->Prop:=fun ds H Q=>match ds with
 | [.ref a] => (match H a with
  | some (.lst xs) => (match intsOf xs with
   |some ns=>ns≠[]/\Q (.int (f ns)) H
   |none=>False)
  |_=>False)
 |_=>False
abbrev BK:List D->aF->aY->Prop:=Lx jg
abbrev Be:List D->aF->aY->Prop:=Lx ji
abbrev Pt:=Int×Int
def bQ(p:Pt):D:=.tup [.int p.1,.int p.2]
def uO:List D->Option (List Pt)
 |[]=>some []
 |.tup [.int x,.int y]::ds=>(uO ds).map ((x,y)::·)
 |_::_=>none
theorem xR:∀ps:List Pt,uO (ps.map bQ)=some ps
 |[]=>rfl
 |p::ps=>by simp only[List.map_cons,bQ,uO];rw[xR ps];rfl
theorem La:∀ {ds:List D} {ps:List Pt},uO ds=some ps->ds=ps.map bQ:=by
 intro ds
 induction ds with
 |nil=>intro ps h;simp only[uO,Option.some.injEq] at h;subst h;rfl
 |cons d ds ih=>
  intro ps h
  unfold uO at h
  split at h
  ·rename_i a;cases a
  ·rename_i x y r heq
   cases heq
   simp only[Option.map_eq_some_iff] at h
   obtain⟨qs,h1,h2⟩:=h
   subst h2
   rw[ih h1];rfl
  ·cases h
def t7(c r:Pt):Bool:=HT.lexLt [r.2,r.1] [c.2,c.1]
def FJ(row:List Pt)(c:Pt):List Pt:=row.takeWhile (t7 c)++c::row.dropWhile (t7 c)
def lL(ps:List Pt):List Pt:=ps.foldl FJ []
theorem zy(c r:Pt):t7 c r=true↔r.2<c.2\/(r.2=c.2/\r.1<c.1):=by
 unfold t7 HT.lexLt
 by_cases h:r.2=c.2
 ·rw[if_pos h]
  unfold HT.lexLt
  by_cases h2:r.1=c.1
  ·rw[if_pos h2];unfold HT.lexLt;simp[h,h2]
  ·rw[if_neg h2];simp[h]
 ·rw[if_neg h]
  simp[h]
theorem mH(c r:Pt):t7 c r=false↔c.2<r.2\/(c.2=r.2/\c.1<=r.1):=by
 rw[←Bool.not_eq_true,zy]
 omega
theorem KD(row:List Pt)(c:Pt):(FJ row c).Perm (c::row):=by
 unfold FJ
 have e:=List.takeWhile_append_dropWhile (p:=t7 c) (l:=row)
 have h:(row.takeWhile (t7 c)++c::row.dropWhile (t7 c)).Perm (c::(row.takeWhile (t7 c)++row.dropWhile (t7 c))):=List.perm_middle
 rw[e] at h
 exact h
theorem lV:∀(ps row:List Pt),(ps.foldl FJ row).Perm (row++ps)
 |[],row=>by simp
 |p::ps,row=>by
  rw[List.foldl_cons]
  refine (lV ps _).trans ?_
  refine ((KD row p).append_right ps).trans ?_
  rw[List.cons_append]
  exact List.perm_middle.symm
theorem iU(ps:List Pt):(lL ps).Perm ps:=by
 have:=lV ps []
 simpa [lL] using this
theorem xQ(ps:List Pt):(lL ps).length=ps.length:=(iU ps).length_eq
def vY(a b:Pt):Prop:=t7 a b=false
theorem Lg{a b c:Pt}(h1:vY a b)(h2:vY b c):vY a c:=by
 unfold vY at *
 rw[mH] at *
 grind
theorem Fl{c r:Pt}(h:t7 c r=true):vY r c:=by
 unfold vY
 rw[zy] at h
 rw[mH]
 grind
theorem yF{a b:Pt}(h1:vY a b)(h2:vY b a):a=b:=by
 unfold vY at *
 rw[mH] at *
 exact Prod.ext (by grind) (by grind)
theorem Cq{row:List Pt}{c:Pt}(h:row.Pairwise vY):(FJ row c).Pairwise vY:=by
 unfold FJ
 have e:=List.takeWhile_append_dropWhile (p:=t7 c) (l:=row)
 have ht:∀r∈row.takeWhile (t7 c),t7 c r=true:=fun r hr=>by
  have:=List.all_takeWhile (p:=t7 c) (l:=row)
  rw[List.all_eq_true] at this
  exact this r hr
 have hd:∀r∈row.dropWhile (t7 c),vY c r:=by
  have hs:(row.dropWhile (t7 c)).Pairwise vY:=by rw[←e] at h;exact (List.pairwise_append.mp h).2.1
  cases hq:row.dropWhile (t7 c) with
  |nil=>intro r hr;cases hr
  |cons x xs=>
   have hx:t7 c x=false:=by
    have:=List.head?_dropWhile_not (t7 c) row
    rw[hq] at this
    simpa using this
   rw[hq] at hs
   intro r hr
   rcases List.mem_cons.mp hr with rfl | hr
   ·exact hx
   ·exact Lg hx ((List.pairwise_cons.mp hs).1 r hr)
 rw[←e] at h
 obtain⟨h1,h2,h3⟩:=List.pairwise_append.mp h
 refine List.pairwise_append.mpr ⟨h1,List.pairwise_cons.mpr ⟨hd,h2⟩,fun a ha b hb=>?_⟩
 rcases List.mem_cons.mp hb with rfl | hb
 ·exact Fl (ht a ha)
 ·exact h3 a ha b hb
theorem jL:∀(ps row:List Pt),row.Pairwise vY->(ps.foldl FJ row).Pairwise vY
 |[],_,h=>h
 |_::ps,_,h=>jL ps _ (Cq h)
theorem qp(ps:List Pt):(lL ps).Pairwise vY:=jL ps [] List.Pairwise.nil
theorem vW{as bs:List Pt}(hp:as.Perm bs)(ha:as.Pairwise vY)(hb:bs.Pairwise vY):as=bs:=hp.eq_of_pairwise (fun _ _ _ _ h1 h2=>yF h1 h2) ha hb
theorem O6{as ps:List Pt}(hp:as.Perm ps)(ha:as.Pairwise vY):lL ps=as:=vW ((iU ps).trans hp.symm) (qp ps) ha
def zc(M:Int)(c:Pt):Int:=c.2*(2*M+1)+c.1
theorem Vl{M:Int}{c r:Pt}(hc : -M<=c.1/\c.1<=M)(hr : -M<=r.1/\r.1<=M):t7 c r=decide (zc M r<zc M c):=by
 have hB:0<2*M+1:=by grind
 rw[Bool.eq_iff_iff,zy,decide_eq_true_iff]
 unfold zc
 constructor
 ·rintro (h | ⟨h1,h2⟩)
  ·have:=Int.mul_le_mul_of_nonneg_right (show r.2+1<=c.2 by grind) (Int.le_of_lt hB)
   rw[Int.add_mul,Int.one_mul] at this
   grind
  ·rw[h1];grind
 ·intro h
  by_cases h1:r.2<c.2
  ·exact .inl h1
  ·by_cases h2:r.2=c.2
   ·rw[h2] at h;exact .inr ⟨h2,by grind⟩
   ·exfalso
    have:=Int.mul_le_mul_of_nonneg_right (show c.2+1<=r.2 by grind) (Int.le_of_lt hB)
    rw[Int.add_mul,Int.one_mul] at this
    grind
theorem Ca:∀ps:List Pt,∃M:Int,0<=M/\∀c∈ps,-M<=c.1/\c.1<=M
 |[]=>⟨0,by grind,fun _ h=>nomatch h⟩
 |p::ps=>by
  obtain⟨M,h0,h⟩:=Ca ps
  refine⟨M+p.1.natAbs,by grind,fun c hc=>?_⟩
  rcases List.mem_cons.mp hc with rfl | hc
  ·grind
  ·have:=h c hc;grind
end L3
namespace L3
open PySem PySem.Spec PyProof.Rows L2
section
variable{X:Cx}
theorem IV:∀ {ns:List Int} {a:Int},a∈ns->jg ns<=a
 |[x],a,h=>by simp at h;subst h;exact Int.le_refl _
 |x::y::r,a,h=>by
  rcases List.mem_cons.mp h with rfl | h
  ·exact Int.min_le_left _ _
  ·exact Int.le_trans (Int.min_le_right _ _) (IV (ns:=y::r) h)
theorem Cy:∀ {ns:List Int},ns≠[]->jg ns∈ns
 |[x],_=>List.mem_cons_self
 |x::y::r,_=>by
  have ih:=Cy (ns:=y::r) (by simp)
  have e:jg (x::y::r)=min x (jg (y::r)):=rfl
  rw[e]
  rcases Int.le_total x (jg (y::r)) with h | h
  ·rw[Int.min_eq_left h];exact List.mem_cons_self
  ·rw[Int.min_eq_right h];exact List.mem_cons_of_mem _ ih
theorem Ig:∀ {ns:List Int} {a:Int},a∈ns->a<=ji ns
 |[x],a,h=>by simp at h;subst h;exact Int.le_refl _
 |x::y::r,a,h=>by
  rcases List.mem_cons.mp h with rfl | h
  ·exact Int.le_max_left _ _
  ·exact Int.le_trans (Ig (ns:=y::r) h) (Int.le_max_right _ _)
theorem Cr:∀ {ns:List Int},ns≠[]->ji ns∈ns
 |[x],_=>List.mem_cons_self
 |x::y::r,_=>by
  have ih:=Cr (ns:=y::r) (by simp)
  have e:ji (x::y::r)=max x (ji (y::r)):=rfl
  rw[e]
  rcases Int.le_total x (ji (y::r)) with h | h
  ·rw[Int.max_eq_right h];exact List.mem_cons_of_mem _ ih
  ·rw[Int.max_eq_left h];exact List.mem_cons_self
theorem Lw(hc:X.calm=true):cR X (.builtin "min") (fun xs H Q=>∃a ns,xs=[.ref a]/\jF X.K H a (ns.map V.int)/\ns≠[]/\Q (.int (jg ns)) H):=by
 intro pins s σ H xs us Q I r h
 obtain⟨a,ns,rfl,hq,hne,q⟩:=h
 obtain⟨u,rfl,ru⟩:=vals1 r
 cases ru
 obtain⟨its,rv,pl,_⟩:=I.list hq
 have hi:=intsAre_of rv
 obtain⟨zs,e⟩:=hi.allInts.items
 have hns:zs.toList.map (·.1)=ns:=by rw[←nums_intItems,←e];exact hi.numsOf
 have hpos:0<zs.size:=Nat.pos_of_ne_zero fun z=>hne (by rw[←hns,Array.eq_empty_of_size_eq_zero z];rfl)
 have hl:=pl.isList
 rw[e] at hl
 refine min_intList (I.ok.hd hc) hl hpos fun v h' tk hv hk=>?_
 obtain⟨t,rfl⟩:=intItems_at hv
 obtain⟨h1,h2⟩:=argBest_lt (numAt zs) (zs.size-1)
 have hm:numAt zs (argBest (fun i j=>decide (numAt zs i<numAt zs j)) (zs.size-1))=jg ns:=by
  refine Int.le_antisymm ?_ (IV ?_)
  ·obtain⟨j,hj,ej⟩:=mem_getD (Cy hne)
   rw[←hns,List.length_map,Array.length_toList] at hj
   have:=h2 j (by omega)
   rw[numAt_eq zs j,hns,ej] at this
   exact this
  ·rw[numAt_eq,hns]
   exact getD_mem (by rw[←hns,List.length_map,Array.length_toList];omega)
 exact⟨.int (jg ns),H,I.kept hk,⟨t,by rw[hm]⟩,q⟩
theorem Ks(hc:X.calm=true):cR X (.builtin "max") (fun xs H Q=>∃a ns,xs=[.ref a]/\jF X.K H a (ns.map V.int)/\ns≠[]/\Q (.int (ji ns)) H):=by
 intro pins s σ H xs us Q I r h
 obtain⟨a,ns,rfl,hq,hne,q⟩:=h
 obtain⟨u,rfl,ru⟩:=vals1 r
 cases ru
 obtain⟨its,rv,pl,_⟩:=I.list hq
 have hi:=intsAre_of rv
 obtain⟨zs,e⟩:=hi.allInts.items
 have hns:zs.toList.map (·.1)=ns:=by rw[←nums_intItems,←e];exact hi.numsOf
 have hpos:0<zs.size:=Nat.pos_of_ne_zero fun z=>hne (by rw[←hns,Array.eq_empty_of_size_eq_zero z];rfl)
 have hl:=pl.isList
 rw[e] at hl
 refine max_intList (I.ok.hd hc) hl hpos fun v h' tk hv hk=>?_
 obtain⟨t,rfl⟩:=intItems_at hv
 obtain⟨h1,h2⟩:=argBest_gt (numAt zs) (zs.size-1)
 have hm:numAt zs (argBest (fun i j=>decide (numAt zs i>numAt zs j)) (zs.size-1))=ji ns:=by
  refine Int.le_antisymm (Ig ?_) ?_
  ·rw[numAt_eq,hns]
   exact getD_mem (by rw[←hns,List.length_map,Array.length_toList];omega)
  ·obtain⟨j,hj,ej⟩:=mem_getD (Cr hne)
   rw[←hns,List.length_map,Array.length_toList] at hj
   have:=h2 j (by omega)
   rw[numAt_eq zs j,hns,ej] at this
   exact this
 exact⟨.int (ji ns),H,I.kept hk,⟨t,by rw[hm]⟩,q⟩
theorem Ih{id:String}{f:List Int->Int}(h:cR X (.builtin id) (fun xs H Q=>∃a ns,xs=[.ref a]/\jF X.K H a (ns.map V.int)/\ns≠[]/\Q (.int (f ns)) H)):cR X (.builtin id) (ik X.K (Lx f)):=by
 intro pins s σ H xs us Q I rs t
 obtain⟨ds,H3,Q3,hr,rd,t,k⟩:=t
 cases rd with
 |nil=>exact t.elim
 |cons r1 r2=>
  cases r2 with
  |cons _ _=>cases r1 <;> exact t.elim
  |nil=>
   cases r1 with
   |ref a=>
    (delta Lx at t;dsimp only at t)
    split at t
    ·rename_i ds ha
     split at t
     ·rename_i ns e
      obtain⟨vs,ga,ra⟩:=hr a _ ha
      have z:=fU e
      subst z
      have z:=ra.lW
      subst z
      exact h pins s σ H _ us Q I rs ⟨a,ns,rfl,jF.of ga,t.1,k _ _ _ _ TK.refl hr (.int _) t.2⟩
     ·exact t.elim
    ·exact t.elim
   |_=>exact t.elim
theorem Ib(hc:X.calm=true):cR X (.builtin "min") (ik X.K BK):=Ih (Lw hc)
theorem Hu(hc:X.calm=true):cR X (.builtin "max") (ik X.K Be):=Ih (Ks hc)
end
end L3
namespace L3
open PySem L2
theorem bK:sizeLine=16777216:=by decide
theorem nM{n:Nat}(h:n<=1000):n<sizeLine:=by rw[bK];omega
theorem bC{H:aF}{a p:Addr}{o u:O3}(h:H a=some o)(n:H p=none):aO H p u a=some o:=by rw[aV (ne3 h n)];exact h
theorem mQ{H H2:aF}{p:Addr}{o:O3}(s:aN H H2)(h:H2 p=some o):aN (aO H p o) H2:=fun b u e=>by
 by_cases hb:b=p
 ·subst hb;rw[aB] at e;cases e;exact h
 ·rw[aV hb] at e;exact s b u e
theorem iy{H H2:aF}{p:Addr}(s:aN H H2)(h:H2 p=none):H p=none:=by
 cases e:H p with
 |none=>rfl
 |some o=>have:=s p o e;rw[h] at this;cases this
section
variable{σ:cO}{H:aF}{Q:aY}{D0:iR}{i j:Int}{a b:Addr}{d x y:D}{ds es:List D}{ta tb te tc:cC}{tr:t8}{t u:dw}{cA cB:sY}{QL:List D->aF->Prop}{QB:Bool->aF->Prop}
theorem We{k:Nat}(h:σ[k]?=some (some d))(q:Q d H):v3 k σ H Q:=by unfold v3;rw[h];exact q
theorem Y4(q:Q d H):c3 d σ H Q:=q
theorem YW{r:R3}(h:ta σ H fun x H1=>tb σ H1 fun y H2=>r x y H2 Q):o3 r ta tb σ H Q:=h
theorem ab6{r:D->aF->aY->Prop}(h:ta σ H fun x H1=>r x H1 Q):u3 r ta σ H Q:=h
theorem abe(q:Q (.int (-i)) H):o9 (.int i) H Q:=q
theorem ZX(q:Q (.int (i-j)) H):fH (.int i) (.int j) H Q:=q
theorem aaw(q:Q (.int (i+j)) H):bG (.int i) (.int j) H Q:=q
theorem Wc(ha:H a=some (.lst ds))(hb:H b=some (.lst es))(hl:ds.length+es.length<=sizeLine)(q:∀p,H p=none->Q (.ref p) (aO H p (.lst (ds++es)))):bG (.ref a) (.ref b) H Q:=by
 (delta bG;simp only[ha,hb]);exact⟨hl,q⟩
theorem Q0(c:0<j)(q:Q (.int (i%j)) H):fG (.int i) (.int j) H Q:=⟨c,q⟩
theorem ZV(c:SJ i j)(q:Q (.int (i ^ j.toNat)) H):xZ (.int i) (.int j) H Q:=⟨c,q⟩
theorem ab1(q:Q (.bl (decide (i<=j))) H):Ko (.int i) (.int j) H Q:=q
theorem acv(q:Q (.bl (decide (j<i))) H):Wy (.int i) (.int j) H Q:=q
theorem abE(q:Q (.bl (decide (i<j))) H):Bp (.int i) (.int j) H Q:=q
theorem Vw(i:Int):qC 4 (.int i)=some (.int i):=rfl
theorem aae(q:Q (.bl (decide (i=j))) H):vU (.int i) (.int j) H Q:=by
 have e:(i==j)=decide (i=j):=rfl
 (delta vU Uy;simp only[Vw,PyData.eqv,e]);exact q
theorem ZP(q:Q (.bl (!decide (i=j))) H):qF (.int i) (.int j) H Q:=by
 have e:(i==j)=decide (i=j):=rfl
 (delta qF Uy;simp only[Vw,PyData.eqv,e]);exact q
theorem Cd(h:nA ds i=some d)(q:Q d H):aP (.tup ds) (.int i) H Q:=by (delta aP;simp only[h]);exact q
theorem VF(h:nA ds i=some d)(q:Q d H):aP (.fl ds) (.int i) H Q:=by (delta aP;simp only[h]);exact q
theorem uT(ha:H a=some (.lst ds))(h:nA ds i=some d)(q:Q d H):aP (.ref a) (.int i) H Q:=by (delta aP;simp only[ha,h]);exact q
theorem abT(h:te σ H fun d H1=>bt d H1 QB):oK te σ H QB:=h
theorem abC{k:Bool}(q:QB k H):bt (.bl k) H QB:=q
theorem acf(h:cA σ H fun c H1=>if c=true then cB σ H1 QB else QB false H1):an3 cA cB σ H QB:=h
theorem abj(h:cA σ H fun c H1=>if c=true then QB true H1 else cB σ H1 QB):or3 cA cB σ H QB:=h
theorem aby(h:cA σ H fun c H1=>QB (!c) H1):no3 cA σ H QB:=h
def avk(tb:cC)(σ:cO)(x:D)(H1:aF)(Q:aY):Prop:=match x with
 |.bl c=>if c=true then tb σ H1 Q else Q (.bl false) H1
 |_=>False
def nvk(x:D)(H1:aF)(Q:aY):Prop:=match x with
 |.bl c=>Q (.bl (!c)) H1
 |_=>False
theorem acE(h:ta σ H fun x H1=>avk tb σ x H1 Q):Zy ta tb σ H Q:=h
theorem aaE{c:Bool}(h:if c=true then tb σ H Q else Q (.bl false) H):avk tb σ (.bl c) H Q:=h
theorem abU(h:ta σ H fun x H1=>nvk x H1 Q):nv3 ta σ H Q:=h
theorem ZQ{c:Bool}(q:Q (.bl (!c)) H):nvk (.bl c) H Q:=q
theorem Vt(q:QL [] H):aH σ H QL:=q
theorem Gb(h:ta σ H fun x H1=>tr σ H1 fun xs H2=>QL (x::xs) H2):au ta tr σ H QL:=h
theorem aaY(h:tr σ H fun ds H1=>ds.length<=1000/\Q (.tup ds) H1):jh tr σ H Q:=h
theorem abr(h:tr σ H fun ds H1=>ds.length<=1000/\∀p,H1 p=none->Q (.ref p) (aO H1 p (.lst ds))):Il tr σ H Q:=h
theorem aaq{q:Prop}{n:Nat}(h:Nat.ble ds.length n=true)(h2:q):ds.length<=n/\q:=⟨Nat.le_of_ble_eq_true h,h2⟩
theorem abi{r:List D->aF->aY->Prop}(h:tr σ H fun ds H1=>r ds H1 Q):dH r tr σ H Q:=h
theorem YQ(q:Q (.int ds.length) H):dj [.tup ds] H Q:=q
theorem XR(q:Q (.int ds.length) H):dj [.fl ds] H Q:=q
theorem Xl(ha:H a=some (.lst ds))(q:Q (.int ds.length) H):dj [.ref a] H Q:=by (delta dj;simp only[ha]);exact q
theorem WD(ha:H a=some (.lst ds))(q:Q (.tup ds) H):mJ [.ref a] H Q:=by (delta mJ;simp only[ha]);exact q
theorem Ua(q:∀p,H p=none->Q (.ref p) (aO H p (.lst ds))):zG [.tup ds] H Q:=q
theorem acC{tl th:VR}{r:Zz}(h:te σ H fun x H1=>tl σ H1 fun l H2=>th σ H2 fun u H3=>r x l u H3 Q):WK r te tl th σ H Q:=h
theorem acK{QO:Option Int->aF->Prop}(q:QO none H):Vu σ H QO:=q
def ptk(x:D)(H1:aF)(QO:Option Int->aF->Prop):Prop:=match x with
 |.int i=>QO (some i) H1
 |_=>False
theorem acy{QO:Option Int->aF->Prop}(h:te σ H fun x H1=>ptk x H1 QO):UG te σ H QO:=h
theorem aa1{QO:Option Int->aF->Prop}(q:QO (some i) H):ptk (.int i) H QO:=q
theorem abG(h:t { D0 with nx:=u D0 } σ H):cM t u D0 σ H:=h
theorem abO{k:Nat}(h:te σ H fun x H1=>D0.nx (σ.set k (some x)) H1):st3 k te D0 σ H:=h
theorem aar(h:D0.nx σ H):DK D0 σ H:=h
theorem aaC(h:D0.bk σ H):br3 D0 σ H:=h
theorem acO(h:te σ H fun _ H1=>D0.nx σ H1):RG te D0 σ H:=h
theorem aaF(h:te σ H fun d H1=>D0.rt d H1):lD te D0 σ H:=h
theorem acp(h:cA σ H fun b H1=>if b=true then t D0 σ H1 else u D0 σ H1):DP cA t u D0 σ H:=h
theorem acw{g:v9}(h:te σ H fun x H1=>g x σ H1 D0.nx):as3 te g D0 σ H:=h
theorem acN{k:Nat}{R:cO->aF->Prop}(h:R (σ.set k (some d)) H):qD k d σ H R:=h
theorem acs{k l:Nat}{R:cO->aF->Prop}(h:R ((σ.set k (some x)).set l (some y)) H):Tn k l (.tup [x,y]) σ H R:=h
theorem acu{k l m:Nat}{z:D}{R:cO->aF->Prop}(h:R (((σ.set k (some x)).set l (some y)).set m (some z)) H):Xo k l m (.tup [x,y,z]) σ H R:=h
theorem aca{n:cO->aF->Prop}{r:aY}{bk ct:cO->aF->Prop}(h:n σ H):iR.nx ⟨n,r,bk,ct⟩ σ H:=h
theorem acF{n:cO->aF->Prop}{r:aY}{bk ct:cO->aF->Prop}(h:bk σ H):iR.bk ⟨n,r,bk,ct⟩ σ H:=h
theorem bT{H':aF}(h:Q d H')(s:aN H' H):iR.rt (dX Q) d H:=⟨H',s,h⟩
def Lp(g:v9)(tb:dw)(D0:iR)(σ:cO)(ds:List D)(keep:aF->Prop)(H1:aF):Prop:=∃P:Nat->cO->aF->Prop,P 0 σ H1/\(∀i σ H,i<=ds.length->P i σ H->keep H) /\
 (∀i d σ H,ds[i]?=some d->P i σ H->g d σ H fun σ2 H2=>tb { D0 with nx:=P (i+1),ct:=P (i+1),bk:=D0.nx } σ2 H2)/\∀σ H,P ds.length σ H->D0.nx σ H
theorem acA{wi:Fw}{g:v9}(h:wi σ H fun ds keep H1=>Lp g t D0 σ ds keep H1):DQ wi g t D0 σ H:=h
theorem Lp.by{g:v9}{keep:aF->Prop}(P:Nat->cO->aF->Prop)(h0:P 0 σ H)(hk:∀i σ H,i<=ds.length->P i σ H->keep H)
  (turn:∀i d σ H,ds[i]?=some d->P i σ H->g d σ H fun σ2 H2=>t { D0 with nx:=P (i+1),ct:=P (i+1),bk:=D0.nx } σ2 H2) (fin:∀σ H,P ds.length σ H->D0.nx σ H):Lp g t D0 σ ds keep H:=⟨P,h0,hk,turn,fin⟩
theorem Lp.rQ{g:v9}{lo:Int}{n:Nat}(P:Nat->cO->aF->Prop)(h0:P 0 σ H)
  (turn:∀(i:Nat) σ H,i<n->P i σ H->g (.int (lo+(i:Int))) σ H fun σ2 H2=>t { D0 with nx:=P (i+1),ct:=P (i+1),bk:=D0.nx } σ2 H2) (fin:∀σ H,P n σ H->D0.nx σ H):Lp g t D0 σ (rQ lo n) (fun _=>True) H :=
 ⟨P,h0,fun _ _ _ _ _=>trivial,fun i d σ H hd p=>by
  have hi:i<n:=by
   have:=(List.getElem?_eq_some_iff.mp hd).1
   rwa [tQ] at this
  rw[Hx hi] at hd
  cases hd
  exact turn i σ H hi p,fun σ H p=>fin σ H (by rw[tQ] at p;exact p)⟩
theorem aaH{R:List D->(aF->Prop)->aF->Prop}(h:ta σ H fun x H1=>rg1 x H1 R):Zi ta σ H R:=h
theorem ZM{R:List D->(aF->Prop)->aF->Prop}(h:ta σ H fun x H1=>tb σ H1 fun y H2=>rg2 x y H2 R):ir2 ta tb σ H R:=h
theorem aaK{R:List D->(aF->Prop)->aF->Prop}(h:R (rQ 0 j.toNat) (fun _=>True) H):rg1 (.int j) H R:=h
theorem Z4{R:List D->(aF->Prop)->aF->Prop}(h:R (rQ i (j-i).toNat) (fun _=>True) H):rg2 (.int i) (.int j) H R:=h
def ilk(x:D)(H1:aF)(R:List D->(aF->Prop)->aF->Prop):Prop:=match x with
 | .ref a => (match H1 a with
  |some (.lst ds)=>R ds (fun H'=>H' a=some (.lst ds)) H1
  |_=>False)
 |.fl ds=>R ds (fun _=>True) H1
 |_=>False
def itk(x:D)(H1:aF)(R:List D->(aF->Prop)->aF->Prop):Prop:=match x with
 |.tup ds=>R ds (fun _=>True) H1
 |_=>False
theorem abL{R:List D->(aF->Prop)->aF->Prop}(h:te σ H fun x H1=>ilk x H1 R):DR te σ H R:=h
theorem Vz{R:List D->(aF->Prop)->aF->Prop}(ha:H a=some (.lst ds))(h:R ds (fun H'=>H' a=some (.lst ds)) H):ilk (.ref a) H R:=by (delta ilk;simp only[ha]);exact h
theorem abA{R:List D->(aF->Prop)->aF->Prop}(h:te σ H fun x H1=>itk x H1 R):it3 te σ H R:=h
theorem aaT{R:List D->(aF->Prop)->aF->Prop}(h:R ds (fun _=>True) H):itk (.tup ds) H R:=h
theorem Ui(P:cO->aF->Prop)(μ:cO->aF->Nat)(h0:P σ H)(turn:∀σ H,P σ H->cA σ H fun b H1=>if b=true then t { D0 with nx:=fun σ' H'=>P σ' H'/\μ σ' H'<μ σ H,ct:=fun σ' H'=>P σ' H'/\μ σ' H'<μ σ H,bk:=D0.nx } σ H1 else D0.nx σ H1):Zx cA t D0 σ H:=⟨P,μ,h0,turn⟩
def mtk(r:D->List D->aF->aY->Prop)(t:t8)(σ:cO)(x:D)(H1:aF)(Q:aY):Prop:=match x with
 | .ref a => (match H1 a with
  |some (.lst _)=>t σ H1 fun xs H2=>r x xs H2 Q
  |_=>False)
 |_=>False
theorem abm{r:D->List D->aF->aY->Prop}(h:te σ H fun x H1=>mtk r tr σ x H1 Q):m3 r te tr σ H Q:=h
theorem Vx{r:D->List D->aF->aY->Prop}(ha:H a=some (.lst ds))(h:tr σ H fun xs H2=>r (.ref a) xs H2 Q):mtk r tr σ (.ref a) H Q:=by (delta mtk;simp only[ha]);exact h
theorem CK(ha:H a=some (.lst ds))(hl:ds.length<sizeLine)(q:Q .non (aO H a (.lst (ds++[y])))):o8 (.ref a) [y] H Q:=by (delta o8;simp only[ha]);exact⟨hl,q⟩
theorem VL(ha:H a=some (.lst ds))(hb:H b=some (.lst es))(hl:ds.length+es.length<=sizeLine)(q:Q .non (aO H a (.lst (ds++es)))):xG (.ref a) [.ref b] H Q:=by (delta xG;simp only[ha,hb]);exact⟨hl,q⟩
theorem aay(ha:H a=some (.lst ds))(hy:ds[ds.length-1]?=some y)(q:Q y (aO H a (.lst ds.dropLast))):Ao (.ref a) [] H Q:=by (delta Ao;simp only[ha,hy]);exact q
theorem Sg(ha:H a=some (.lst ds)):yU H (.ref a)=some ds:=by (delta yU;simp only[ha])
theorem ZW{U T:String}(h:tyH H x=some U)(hT:T∈kinds)(q:Q (.bl (Zu U T)) H):pH [x,.ty T] H Q:=by
 (delta pH;simp only[h]);exact⟨hT,q⟩
theorem uf{α:Type}{xs:List α}{f:α->D}{k:Int}(h0:0<=k)(h1:k.toNat<xs.length):nA (xs.map f) k=some (f (xs[k.toNat]'h1)):=by
 have hl:k<((xs.map f).length:Int):=by rw[List.length_map];omega
 unfold nA RC
 rw[if_pos h0,if_pos hl,Option.bind_some,List.getElem?_map,List.getElem?_eq_getElem h1]
 rfl
theorem NQ:∀ps:List Pt,jd (qC 4) (ps.map bQ)=some (ps.map fun p=>PyData.tuple [.int p.1,.int p.2])
 |[]=>rfl
 |p::ps=>by
  have e:qC 4 (bQ p)=some (PyData.tuple [.int p.1,.int p.2]):=rfl
  simp only[List.map_cons,jd,e,NQ ps]
theorem YT(p q:Pt):PyData.eqv (PyData.tuple [.int p.1,.int p.2]) (PyData.tuple [.int q.1,.int q.2])=decide (p=q):=by
 obtain⟨a,b⟩:=p
 obtain⟨c,d⟩:=q
 simp only[PyData.eqv,PyData.eqvAll,Bool.and_true,Prod.mk.injEq,Bool.decide_and];rfl
theorem O9(p:Pt):∀ps:List Pt,(ps.map fun p=>PyData.tuple [.int p.1,.int p.2]).any (fun q=>PyData.eqv q (PyData.tuple [.int p.1,.int p.2]))=decide (p∈ps)
 |[]=>by simp
 |q::ps=>by
  rw[List.map_cons,List.any_cons,O9 p ps,YT]
  by_cases h:q=p
  ·subst h;simp
  ·have h':¬p=q:=fun e=>h e.symm
   simp[h,h']
theorem Wj{p1 p2:Int}{ps:List Pt}(h:yU H y=some (ps.map bQ))(q:Q (.bl (!decide ((p1,p2)∈ps))) H):Ce true (.tup [.int p1,.int p2]) y H Q:=by
 have e:qC 4 (.tup [.int p1,.int p2])=some (PyData.tuple [.int p1,.int p2]):=rfl
 (delta Ce;simp only[e,h,Option.bind_some,NQ])
 rw[←O9 (p1,p2) ps] at q
 exact q
def Cp(g:v9)(tc:sY)(te:cC)(σ0:cO)(ds:List D)(keep:aF->Prop)(H1:aF)(Q:aY):Prop:=(∀H2:aF,aN H1 H2->keep H2)/\ds.length<=10000/\∃rs:List (Option D),rs.length=ds.length /\
 (∀ (i:Nat) (d:D),ds[i]? = some d→∀ H2:aF,aN H1 H2→g d σ0 H2 fun σ2 H4 => tc σ2 H4 fun b H5 =>
  if b=true then te σ2 H5 fun v H6=>aN H2 H6/\rs[i]?=some (some v) else aN H2 H5/\rs[i]?=some none) /\
 ∀p,H1 p=none->Q (.ref p) (aO H1 p (.lst (rs.filterMap id)))
def aci(own:List Str)(fv:FV)(σ:cO):cO:=own.map (fun _=>none)++fv.map fun p=>(σ[p.1]?).join
theorem acn{wi:Fw}{g:v9}{own:List Str}{fv:FV}(h:wi σ H fun ds keep H1=>Cp g cA te (aci own fv σ) ds keep H1 Q):Er wi g cA te own fv σ H Q:=h
theorem Cp.map{α:Type}{g:v9}{keep:aF->Prop}{σ0:cO}{as:List α}{E:α->D}(F:α->D)(hk:∀H2:aF,aN H H2->keep H2)(hl:as.length<=1000)
  (hel:∀(i:Nat) a,as[i]?=some a->∀(R:aY) (H2:aF),aN H H2->(∀H6,aN H2 H6->R (F a) H6)->g (E a) σ0 H2 fun σ2 H4=>te σ2 H4 R)
  (fin:∀p,H p=none->Q (.ref p) (aO H p (.lst (as.map F)))):Cp g rG te σ0 (as.map E) keep H Q:=by
 refine⟨hk,by rw[List.length_map];exact Nat.le_trans hl (by decide),as.map (fun a=>some (F a)),by simp,fun i d hd H2 hs=>?_,fun p hp=>?_⟩
 ·rw[List.getElem?_map] at hd
  cases e:as[i]? with
  |none=>rw[e] at hd;cases hd
  |some a=>
   rw[e] at hd
   cases hd
   have er:(as.map fun a=>some (F a))[i]?=some (some (F a)):=by rw[List.getElem?_map,e];rfl
   exact hel i a e _ H2 hs fun H6 h6=>⟨h6,er⟩
 ·have e:∀as:List α,(as.map fun a=>some (F a)).filterMap id=as.map F:=by
   intro as
   induction as with
   |nil=>rfl
   |cons a as ih=>rw[List.map_cons,List.filterMap_cons,List.map_cons,←ih];rfl
  rw[e]
  exact fin p hp
theorem V2{ns:List Int}(ha:H a=some (.lst (ns.map D.int)))(hn:ns≠[])(q:Q (.int (jg ns)) H):BK [.ref a] H Q:=by
 simp only[BK,Lx,ha,iT];exact⟨hn,q⟩
theorem V3{ns:List Int}(ha:H a=some (.lst (ns.map D.int)))(hn:ns≠[])(q:Q (.int (ji ns)) H):Be [.ref a] H Q:=by
 simp only[Be,Lx,ha,iT];exact⟨hn,q⟩
theorem Ro{α:Type}(xs:List α)(f:α->D)(lo hi:Option Int):lO (xs.map f) lo hi=(lO xs lo hi).map f:=by
 unfold lO;rw[List.length_map,List.map_take,List.map_drop]
theorem DN{p A B:Prop}[Decidable p](h1:p->A)(h2:¬p->B):if decide p=true then A else B:=by
 by_cases h:p
 ·rw[if_pos (decide_eq_true h)];exact h1 h
 ·rw[if_neg (by simpa using h)];exact h2 h
theorem U9{p A B:Prop}[Decidable p](h1:¬p->A)(h2:p->B):if (!decide p)=true then A else B:=by
 by_cases h:p
 ·rw[if_neg (by simpa using h)];exact h2 h
 ·rw[if_pos (by simpa using h)];exact h1 h
theorem ifB{c:Bool}{A B:Prop}(h1:c=true->A)(h2:c=false->B):if c=true then A else B:=by
 cases c
 ·rw[if_neg Bool.false_ne_true];exact h2 rfl
 ·rw[if_pos rfl];exact h1 rfl
theorem ifY{c:Bool}{A B:Prop}(hc:c=true)(h:A):if c=true then A else B:=by rw[if_pos hc];exact h
theorem U8{c:Bool}{A B:Prop}(hc:c=false)(h:B):if c=true then A else B:=by subst hc;exact h
end
end L3
namespace L3
open PySem PySem.W PyProof.Rows
section
variable{cmp:Nat->Nat->(Bool->Shared->Prop)->Shared->Prop}{n:Nat}{z:Nat->Int}{s:Shared}
def ak(z:Nat->Int)(p:Array Nat)(t:Nat):Int:=z (p.getD t 0)
theorem yV{p:Array Nat}{t:Nat}:p.getD t 0=(p[t]?).getD 0:=by simp[Array.getD_eq_getD_getElem?]
theorem mF{p q:Array Nat}{t u:Nat}(h:p[t]?=q[u]?):ak z p t=ak z q u:=by unfold ak;rw[yV,yV,h]
def Pm(n:Nat)(p:Array Nat):Prop:=p.Perm (List.range n).toArray
theorem Pm.size{p:Array Nat}(h:Pm n p):p.size=n:=by have:=Array.Perm.size_eq h;simpa using this
theorem Pm.lt{p:Array Nat}(h:Pm n p){t:Nat}(ht:t<n):p.getD t 0<n:=by
 have hs:t<p.size:=by rw[h.size];exact ht
 have e:p.getD t 0=p[t]:=by rw[yV,Array.getElem?_eq_getElem hs];rfl
 have hm:p[t]∈p:=Array.getElem_mem hs
 have:=(Array.Perm.mem_iff h).mp hm
 rw[e]
 simpa using this
theorem Pm.rev{p:Array Nat}(h:Pm n p)(i j:Nat):Pm n (kas_rev p i j):=(mirror_perm p i j _).trans h
theorem Pm.bub{p:Array Nat}(h:Pm n p)(k d:Nat):Pm n (bubble p k d):=(bubble_perm p k d).trans h
theorem Fe{p:Array Nat}{i j:Nat}(hj:j<=p.size)(k:Nat):ak z (kas_rev p i j) k=if i<=k/\k<j then ak z p (i+j-1-k) else ak z p k:=by
 have e:=getElem?_mirror_all (i:=i) hj k
 by_cases h:i<=k/\k<j
 ·rw[if_pos h] at e ⊢;exact mF e
 ·rw[if_neg h] at e ⊢;exact mF e
theorem qX{p:Array Nat}{i j:Nat}(hj:j<=p.size)(heq:∀t,i<=t->t<j->ak z p t=ak z p (j-1))(k:Nat):ak z (kas_rev p i j) k=ak z p k:=by
 rw[Fe hj]
 split
 ·rw[heq _ (by omega) (by omega),heq k (by omega) (by omega)]
 ·rfl
def pq(cmp:Nat->Nat->(Bool->Shared->Prop)->Shared->Prop)(n:Nat)(z:Nat->Int)(s:Shared):Prop:=∀i j C,i<n->j<n->C (decide (z i<z j)) s->cmp i j C s
theorem PL(hc:pq cmp n z s){p:Array Nat}(hp:Pm n p){Q:Nat->Shared->Prop}:∀(f m:Nat),1<=m->m+f<=n ->
  (∀r,m<=r->r<=m+f->(∀t,m<=t->t<r->ak z p (t-1)<=ak z p t)->(r<m+f->ak z p r<ak z p (r-1))->Q r s)->(kas_asc p f m).kasWp cmp Q s
 |0,m,_,_,h=>h m (Nat.le_refl _) (Nat.le_refl _) (fun t h1 h2=>absurd h1 (by grind)) (fun z=>absurd z (by grind))
 |f+1,m,h1,h2,h=>by
  refine hc _ _ _ (hp.lt (by grind)) (hp.lt (by grind)) ?_
  by_cases hlt:z (p.getD m 0)<z (p.getD (m-1) 0)
  ·rw[decide_eq_true hlt]
   exact h m (Nat.le_refl _) (by grind) (fun t g1 g2=>absurd g1 (by grind)) (fun _=>hlt)
  ·rw[decide_eq_false hlt]
   refine PL hc hp f (m+1) (by grind) (by grind) fun r r1 r2 r3 r4=>h r (by grind) (by grind) (fun t t1 t2=>?_) (fun z=>r4 (by grind))
   by_cases ht:t=m
   ·subst ht;exact Int.not_lt.mp hlt
   ·exact r3 t (by grind) t2
def nU(z:Nat->Int)(p:Array Nat)(k:Nat):Prop:=∀i j,i<=j->j<k->ak z p i<=ak z p j
def Wm(z:Nat->Int)(p:Array Nat)(k:Nat):Prop:=∀i j,i<=j->j<k->ak z p j<=ak z p i
theorem Rn{p:Array Nat}{m r:Nat}(h0:nU z p m)(h1:1<=m)(h:∀t,m<=t->t<r->ak z p (t-1)<=ak z p t):nU z p r:=by
 intro i j hij hj
 induction j with
 |zero=>have:i=0:=(by grind);subst this;exact Int.le_refl _
 |succ j ih=>
  by_cases e:i=j+1
  ·subst e;exact Int.le_refl _
  ·by_cases hm:j+1<m
   ·exact h0 i (j+1) hij hm
   ·exact Int.le_trans (ih (by grind) (by grind)) (h (j+1) (by grind) hj)
theorem zb(hc:pq cmp n z s){Q:Array Nat×Nat×Nat->Shared->Prop}:∀(f:Nat) (p:Array Nat) (m q:Nat),Pm n p->1<=m->m+f<=n->q<m->Wm z p m->(∀t,m-1-q<=t->t<m->ak z p t=ak z p (m-1)) ->
  (∀p' r q',Pm n p'->1<=r->r<=m+f->q'<r->Wm z p' r->(∀t,r-1-q'<=t->t<r->ak z p' t=ak z p' (r-1))->Q (p',r,q') s)->(kas_desc f p m q).kasWp cmp Q s
 |0,p,m,q,hp,h1,h2,hq,hn,he,h=>h p m q hp h1 (Nat.le_refl _) hq hn he
 |f+1,p,m,q,hp,h1,h2,hq,hn,he,h=>by
  have hsz:=hp.size
  refine hc _ _ _ (hp.lt (by grind)) (hp.lt (by grind)) ?_
  by_cases hlt:ak z p m<ak z p (m-1)
  ·rw[decide_eq_true (show z (p.getD m 0)<z (p.getD (m-1) 0) from hlt)]
   by_cases hq0:q>0
   ·have ek:∀k,ak z (kas_rev p (m-(q+1)) m) k=ak z p k:=qX (by grind) (fun t t1 t2=>he t (by grind) t2)
    show (if q>0 then kas_desc f (kas_rev p (m-(q+1)) m) (m+1) 0 else kas_desc f p (m+1) 0).kasWp cmp Q s
    rw[if_pos hq0]
    refine zb hc f _ (m+1) 0 (hp.rev _ _) (by grind) (by grind) (by grind) ?_ ?_ fun p' r q' a1 a2 a3 a4 a5 a6=>h p' r q' a1 a2 (by grind) a4 a5 a6
    ·intro i j hij hj
     rw[ek,ek]
     by_cases e:j=m
     ·subst e
      by_cases e2:i=j
      ·subst e2;exact Int.le_refl _
      ·exact Int.le_trans (Int.le_of_lt hlt) (hn i (j-1) (by grind) (by grind))
     ·exact hn i j hij (by grind)
    ·intro t t1 t2
     have:t=m:=by grind
     subst this;rfl
   ·show (if q>0 then kas_desc f (kas_rev p (m-(q+1)) m) (m+1) 0 else kas_desc f p (m+1) 0).kasWp cmp Q s
    rw[if_neg hq0]
    refine zb hc f _ (m+1) 0 hp (by grind) (by grind) (by grind) ?_ ?_ fun p' r q' a1 a2 a3 a4 a5 a6=>h p' r q' a1 a2 (by grind) a4 a5 a6
    ·intro i j hij hj
     by_cases e:j=m
     ·subst e
      by_cases e2:i=j
      ·subst e2;exact Int.le_refl _
      ·exact Int.le_trans (Int.le_of_lt hlt) (hn i (j-1) (by grind) (by grind))
     ·exact hn i j hij (by grind)
    ·intro t t1 t2
     have:t=m:=by grind
     subst this;rfl
  ·rw[decide_eq_false (show ¬z (p.getD m 0)<z (p.getD (m-1) 0) from hlt)]
   refine hc _ _ _ (hp.lt (by grind)) (hp.lt (by grind)) ?_
   by_cases hgt:ak z p (m-1)<ak z p m
   ·rw[decide_eq_true (show z (p.getD (m-1) 0)<z (p.getD m 0) from hgt)]
    exact h p m q hp h1 (by grind) hq hn he
   ·rw[decide_eq_false (show ¬z (p.getD (m-1) 0)<z (p.getD m 0) from hgt)]
    have eq:ak z p m=ak z p (m-1):=by grind
    refine zb hc f p (m+1) (q+1) hp (by grind) (by grind) (by grind) ?_ ?_ fun p' r q' a1 a2 a3 a4 a5 a6=>h p' r q' a1 a2 (by grind) a4 a5 a6
    ·intro i j hij hj
     by_cases e:j=m
     ·subst e
      by_cases e2:i=j
      ·subst e2;exact Int.le_refl _
      ·rw[eq];exact hn i (j-1) (by grind) (by grind)
     ·exact hn i j hij (by grind)
    ·intro t t1 t2
     show ak z p t=ak z p m
     by_cases e:t=m
     ·subst e;rfl
     ·rw[eq];exact he t (by grind) (by grind)
theorem Qw(hc:pq cmp n z s){p:Array Nat}{m:Nat}(hp:Pm n p)(h1:1<=m)(hm:m<=n)(hn:Wm z p m){Q:Nat×Array Nat->Shared->Prop}
  (h:∀r p',Pm n p'->1<=r->r<=n->nU z p' r->Q (r,p') s):(kas_tail3 m n p).kasWp cmp Q s:=by
 unfold kas_tail3
 rw[KasT.kasWp_bind]
 have hsz:=hp.size
 have hs:nU z (kas_rev p 0 m) m:=fun i j hij hj=>by
  rw[Fe (by grind),Fe (by grind),if_pos ⟨by grind,by grind⟩,if_pos ⟨by grind,by grind⟩]
  exact hn _ _ (by grind) (by grind)
 refine PL hc (hp.rev 0 m) _ m h1 (by grind) fun r r1 r2 r3 _=>h r _ (hp.rev 0 m) (by grind) (by grind) (Rn hs h1 r3)
theorem uY(hc:pq cmp n z s){p:Array Nat}{m:Nat}(hp:Pm n p)(h1:1<=m)(hm:m+1<=n)(hn:∀t,t<m->ak z p t=ak z p (m-1))(hd:ak z p m<ak z p (m-1)){Q:Nat×Array Nat->Shared->Prop}
  (h:∀r p',Pm n p'->1<=r->r<=n->nU z p' r->Q (r,p') s):(kas_descPart m n p).kasWp cmp Q s:=by
 unfold kas_descPart
 rw[KasT.kasWp_bind]
 refine zb hc _ p (m+1) 0 hp (by grind) (by grind) (by grind) ?_ ?_ ?_
 ·intro i j hij hj
  by_cases e:j=m
  ·subst e
   by_cases e2:i=j
   ·subst e2;exact Int.le_refl _
   ·rw[hn i (by grind)];exact Int.le_of_lt hd
  ·rw[hn i (by grind),hn j (by grind)];exact Int.le_refl _
 ·intro t t1 t2
  have:t=m:=by grind
  subst this;rfl
 ·intro p' r q' a1 a2 a3 a4 a5 a6
  have hsz:=a1.size
  show (if q'>0 then kas_tail3 r n (kas_rev p' (r-(q'+1)) r) else kas_tail3 r n p').kasWp cmp Q s
  by_cases hq:q'>0
  ·rw[if_pos hq]
   have ek:∀k,ak z (kas_rev p' (r-(q'+1)) r) k=ak z p' k:=qX (by grind) (fun t t1 t2=>a6 t (by grind) t2)
   exact Qw hc (a1.rev _ _) a2 (by grind) (fun i j hij hj=>by rw[ek,ek];exact a5 i j hij hj) h
  ·rw[if_neg hq]
   exact Qw hc a1 a2 (by grind) a5 h
theorem S8(hc:pq cmp n z s){p:Array Nat}(hp:Pm n p)(hn:1<=n){Q:Nat×Array Nat->Shared->Prop}(h:∀r p',Pm n p'->1<=r->r<=n->nU z p' r->Q (r,p') s):(kas_count n p).kasWp cmp Q s:=by
 unfold kas_count
 rw[KasT.kasWp_bind]
 have hsz:=hp.size
 refine PL hc hp _ 1 (Nat.le_refl _) (by grind) fun r r1 r2 r3 r4=>?_
 have hs:nU z p r:=Rn (m:=1) (fun i j hij hj=>by
  have e1:i=0:=by grind
  have e2:j=0:=by grind
  subst e1;subst e2;exact Int.le_refl _) (Nat.le_refl _) r3
 by_cases e:r=n
 ·rw[if_pos (by rw[e];exact beq_self_eq_true n)]
  exact h r p hp r1 (by grind) hs
 ·rw[if_neg (by simpa using e)]
  have hd:=r4 (by grind)
  by_cases hr:r>1
  ·rw[if_pos hr]
   refine hc _ _ _ (hp.lt (by grind)) (hp.lt (by grind)) ?_
   by_cases hlt:ak z p 0<ak z p (r-1)
   ·rw[decide_eq_true (show z (p.getD 0 0)<z (p.getD (r-1) 0) from hlt)]
    exact h r p hp r1 (by grind) hs
   ·rw[decide_eq_false (show ¬z (p.getD 0 0)<z (p.getD (r-1) 0) from hlt)]
    have heq:∀t,t<r->ak z p t=ak z p (r-1):=fun t ht=>by
     have g1:=hs 0 t (by grind) ht
     have g2:=hs t (r-1) (by grind) (by grind)
     grind
    have ek:∀k,ak z (kas_rev p 0 r) k=ak z p k:=qX (by grind) (fun t t1 t2=>heq t t2)
    exact uY hc (hp.rev 0 r) r1 (by grind) (fun t ht=>by rw[ek,ek];exact heq t ht) (by rw[ek,ek];exact hd) h
  ·rw[if_neg hr]
   have e1:r=1:=by grind
   subst e1
   exact uY hc hp r1 (by grind) (fun t ht=>by have:t=0:=(by grind);subst this;rfl) hd h
theorem zB(hc:pq cmp n z s){p:Array Nat}{k:Nat}(hp:Pm n p)(hk:k<n)(hs:nU z p k){Q:Nat->Shared->Prop}:∀(f l r:Nat),l<=r->r<=k->r-l<=f->(∀t,t<l->ak z p t<=ak z p k)->(∀t,r<=t->t<k->ak z p k<ak z p t) ->
  (∀l',l'<=k->(∀t,t<l'->ak z p t<=ak z p k)->(∀t,l'<=t->t<k->ak z p k<ak z p t)->Q l' s)->(kas_place p k f l r).kasWp cmp Q s
 |0,l,r,h1,h2,h3,h4,h5,h=>h l (by grind) h4 (fun t t1 t2=>h5 t (by grind) t2)
 |f+1,l,r,h1,h2,h3,h4,h5,h=>by
  show (if l≥r then KasT.ret l else .ask (p.getD k 0) (p.getD ((l+r) / 2) 0) fun c=>if c=true then kas_place p k f l ((l+r) / 2) else kas_place p k f ((l+r) / 2+1) r).kasWp cmp Q s
  by_cases hlr:l≥r
  ·rw[if_pos hlr]
   exact h l (by grind) h4 (fun t t1 t2=>h5 t (by grind) t2)
  ·rw[if_neg hlr]
   refine hc _ _ _ (hp.lt (by grind)) (hp.lt (by grind)) ?_
   by_cases hlt:ak z p k<ak z p ((l+r) / 2)
   ·rw[decide_eq_true (show z (p.getD k 0)<z (p.getD ((l+r) / 2) 0) from hlt)]
    exact zB hc hp hk hs f l ((l+r) / 2) (by grind) (by grind) (by grind) h4 (fun t t1 t2=>by
     have:=hs ((l+r) / 2) t t1 t2
     grind) h
   ·rw[decide_eq_false (show ¬z (p.getD k 0)<z (p.getD ((l+r) / 2) 0) from hlt)]
    exact zB hc hp hk hs f ((l+r) / 2+1) r (by grind) h2 (by grind) (fun t ht=>by
     have:=hs t ((l+r) / 2) (by grind) (by grind)
     grind) h5 h
theorem VH(hc:pq cmp n z s){Q:Array Nat->Shared->Prop}:∀(f:Nat) (p:Array Nat) (k:Nat),k+f=n->Pm n p->nU z p k->(∀p',Pm n p'->nU z p' n->Q p' s)->(kas_bin f p k).kasWp cmp Q s
 |0,p,k,h1,hp,hs,h=>h p hp (by rw[←h1];exact hs)
 |f+1,p,k,h1,hp,hs,h=>by
  show ((kas_place p k k 0 k).bind fun l=>kas_bin f (bubble p k (k-l)) (k+1)).kasWp cmp Q s
  rw[KasT.kasWp_bind]
  have hsz:=hp.size
  refine zB hc hp (by grind) hs k 0 k (Nat.zero_le _) (Nat.le_refl _) (by grind) (fun t ht=>absurd ht (by grind)) (fun t t1 t2=>absurd t1 (by grind)) fun l l1 l2 l3=>?_
  refine VH hc f _ (k+1) (by grind) (hp.bub _ _) ?_ h
  have eb:∀t,ak z (bubble p k (k-l)) t=if t=l then ak z p k else if l<t/\t<=k then ak z p (t-1) else ak z p t:=fun t=>by
   have e:=getElem?_bubble (xs:=p) (src:=k) (by grind) (k-l) (by grind) t
   rw[show k-(k-l)=l by grind] at e
   by_cases g1:t=l
   ·rw[if_pos g1] at e ⊢;exact mF e
   ·rw[if_neg g1] at e ⊢
    by_cases g2:l<t/\t<=k
    ·rw[if_pos g2] at e ⊢;exact mF e
    ·rw[if_neg g2] at e ⊢;exact mF e
  intro i j hij hj
  rw[eb,eb]
  by_cases i1:i=l
  ·rw[if_pos i1]
   by_cases j1:j=l
   ·rw[if_pos j1];exact Int.le_refl _
   ·rw[if_neg j1,if_pos ⟨by grind,by grind⟩]
    exact Int.le_of_lt (l3 (j-1) (by grind) (by grind))
  ·rw[if_neg i1]
   by_cases i2:l<i/\i<=k
   ·rw[if_pos i2,if_neg (by grind),if_pos ⟨by grind,by grind⟩]
    exact hs _ _ (by grind) (by grind)
   ·rw[if_neg i2]
    by_cases j1:j=l
    ·rw[if_pos j1];exact l2 i (by grind)
    ·rw[if_neg j1]
     by_cases j2:l<j/\j<=k
     ·rw[if_pos j2];exact hs _ _ (by grind) (by grind)
     ·rw[if_neg j2];exact hs _ _ hij (by grind)
theorem Za(hc:pq cmp n z s)(hn:1<=n){Q:Array Nat->Shared->Prop}(h:∀p,Pm n p->nU z p n->Q p s):(kas_sort n).kasWp cmp Q s:=by
 unfold kas_sort
 rw[KasT.kasWp_bind]
 refine S8 hc (Array.Perm.refl _) hn fun r p hp h1 h2 hs=>?_
 show (if r<n then kas_bin (n-max r 1) p (max r 1) else .ret p).kasWp cmp Q s
 have e:max r 1=r:=by grind
 by_cases hr:r<n
 ·rw[if_pos hr,e]
  exact VH hc _ p r (by grind) hp hs h
 ·rw[if_neg hr]
  have:r=n:=by grind
  subst this
  exact h p hp hs
end
end L3
namespace L3
open PySem PySem.Spec PySem.W PyProof.Rows
section
variable{prog:Program}{w:World}{A:Around}{E:Value->Shared->Prop}{s:Shared}
structure QR(prog:Program)(w:World)(A:Around)(s:Shared)(vs:List Value)(f:Value)(z:Nat->Int)(Q:Value->Shared->Prop)(D kS:Addr)(J:Nat->List Value->Nat->Shared->Prop):Prop where
 start:∀e1 h',(∀b o,s.heap.get? b=some o->h'.get? b=some o)->h'.get? D=some (seqObj "list" #[] e1)->h'.get? kS=some (seqObj "list" #[] 0)->J e1 [] 0 { s with heap:=h' }
 stand:∀e1 ks e s1,J e1 ks e s1->s1.heap.get? kS=some (seqObj "list" (List.toArray ks) e)/\s1.heap.get? D=some (seqObj "list" #[] e1)
 turn:∀e1 ks e s1 x,J e1 ks e s1->vs[ks.length]?=some x->wpAny (model prog w) A (call f [x]) (fun k s2=>s2.heap.get? kS=some (seqObj "list" (List.toArray ks) e) /\
  ∀c h',Heap.SameBut kS s2.heap h'->h'.get? kS=some (seqObj "list" (List.toArray (ks++[k])) c)->J e1 (ks++[k]) c { s2 with heap:=h' }) (fun _ _=>False) s1
 order:∀e1 ks e s1,J e1 ks e s1->ks.length=vs.length->2<=vs.length->wpAny (model prog w) A (keyKind' (List.toArray ks)) (fun κ s2=>s2=s1/\pq (kas_ask prog w A κ ks) vs.length z s1) (fun _ _=>False) s1
 fin:∀e1 ks e s1 (p:Array Nat),J e1 ks e s1->ks.length=vs.length->Pm vs.length p->nU z p vs.length->∀h' c,(∀b o,b≠kS->b≠D->s1.heap.get? b=some o->h'.get? b=some o) ->
  h'.get? D=some (seqObj "list" (List.toArray (p.toList.map fun i=>vs.getD i Value.none)) c)->Q (.ref D) { s1 with heap:=h' }
theorem xW{D kS:Addr}{ks:List Value}{e e1:Nat}{st:SortSt}{out:List Value}{P:PySem.Fin->Shared->Prop}(hk:s.heap.get? kS=some (seqObj "list" (List.toArray ks) e))(hD:s.heap.get? D=some (seqObj "list" #[] e1))(ne:D≠kS)
  (ho:(arrOf st).map (·.2)=List.toArray out) (hf:failedOf st=none) (h1:ks.length<64) (h2:out.length<64)
  (h:∀h' c,(∀b o,b≠kS->b≠D->s.heap.get? b=some o->h'.get? b=some o)->h'.get? D=some (seqObj "list" (List.toArray out) c)->P (.done (.ret .none)) { s with heap:=h' }):wpAny (model prog w) A (ksk_tail D false e1 (.ref kS) st) P E s:=by
 have s1:=Heap.SameBut.update s.heap kS (Obj.mapSeq fun _=>(#[]:Array Value))
 have hD1:(s.heap.update kS (Obj.mapSeq fun _=>(#[]:Array Value))).get? D=some (seqObj "list" #[] e1):=(s1.2 D ne).trans hD
 have s2:=Heap.SameBut.update (s.heap.update kS (Obj.mapSeq fun _=>(#[]:Array Value))) D (Obj.mapSeq fun _=>List.toArray out)
 unfold ksk_tail
 dsimp only
 rw[ho]
 refine wpAny_bind (listUpdate_at hk rfl (wpAny_bind (wpAny_letGo (wpAny_bind (seqEpoch_at hD1 rfl (wpAny_bind (listUpdate_at hD1 rfl ?_ (Nat.zero_le _) ?_)))))) ?_ (Nat.zero_le _))
 ·rw[hf]
  simp only[bne_self_eq_false,Bool.false_eq_true,if_false]
  exact wpAny_pure (h _ _ (fun b o n1 n2 q=>(s2.2 b n2).trans ((s1.2 b n1).trans q)) (get?_update_seq hD1 fun _=>List.toArray out))
 ·simp only[Bool.false_eq_true,if_false,List.size_toArray]
  rw[sizeLine_eq];grind
 ·rw[List.size_toArray,sizeLine_eq];grind
theorem MT{D kS:Addr}{J:Nat->List Value->Nat->Shared->Prop}{s0:Shared}{vs ks:List Value}{f:Value}{z:Nat->Int}{Q:Value->Shared->Prop}{e e1:Nat}{P:PySem.Fin->Shared->Prop}(T:QR prog w A s0 vs f z Q D kS J)(ne:D≠kS)(h64:vs.length<64)
  (hJ:J e1 ks e s) (hl:ks.length=vs.length) (hP:∀s',Q (.ref D) s'->P (.done (.ret .none)) s'):wpAny (model prog w) A (ksk_end D false vs.toArray e1 (.ref kS) (List.toArray ks)) P E s:=by
 obtain⟨hk,hD⟩:=T.stand _ _ _ _ hJ
 unfold ksk_end
 dsimp only
 simp only[Bool.false_eq_true,if_false]
 by_cases h2:vs.toArray.size<2
 ·rw[if_pos h2,if_pos h2]
  rw[List.size_toArray] at h2
  refine wpAny_bind (wpAny_pure ?_)
  rw[StateT.run_pure]
  refine wpAny_bind (wpAny_pure ?_)
  have hz:(List.range vs.length).map (fun i=>vs.getD i Value.none)=vs:=by
   apply List.ext_getElem?
   intro i
   rw[List.getElem?_map]
   by_cases hi:i<vs.length
   ·rw[List.getElem?_range hi,List.getElem?_eq_getElem hi]
    simp[hi]
   ·rw[List.getElem?_eq_none (by simpa using hi),List.getElem?_eq_none (by simpa using hi)];rfl
  refine xW (out:=vs) hk hD ne ?_ rfl (by grind) h64 fun h' c g1 g2=>hP _ (T.fin e1 ks e s (List.toArray (List.range vs.length)) hJ hl (Array.Perm.refl _) ?_ h' c g1 ?_)
  ·show Array.map (·.2) ((List.toArray ks).zip vs.toArray)=vs.toArray
   apply Array.toList_inj.mp
   simp only[Array.toList_map,Array.toList_zip]
   exact List.map_snd_zip (by grind)
  ·intro i j hij hj
   have:i=j:=by grind
   subst this;exact Int.le_refl _
  ·rw[g2]
   simp only[List.toList_toArray] at hz ⊢
   rw[hz]
 ·rw[if_neg h2,if_neg h2]
  rw[List.size_toArray] at h2
  refine wpAny_bind (wpAny_mono (T.order _ _ _ _ hJ hl (by grind)) (fun κ s2 hk2=>?_) fun _ _ x=>x.elim)
  obtain⟨rfl,hc⟩:=hk2
  refine wpAny_bind (wpAny_mono (kat_run (Q:=fun st' s'=>s'=s2/\∃p:Array Nat,Pm vs.length p/\nU z p vs.length/\arrOf st'=p.map (kas_item ((List.toArray ks).zip vs.toArray))/\failedOf st'=none) (G:=fun p s'=>s'=s2/\Pm vs.length p/\nU z p vs.length)
   hl (by grind) h64 (fun p st' s' a1 a2 a3 a4=>⟨a4.1,p,a4.2.1,a4.2.2,a2,a3⟩) (Za hc (by grind) fun p g1 g2=>⟨rfl,g1,g2⟩)) ?_ fun _ _ x=>x)
  rintro⟨⟨⟩,st'⟩ s' ⟨rfl,p,pm,so,har,hf⟩
  dsimp only
  refine xW hk hD ne (kat_snds hl har) hf (by grind) ?_ fun h' c g1 g2=>hP _ (T.fin e1 ks e _ p hJ hl pm so h' c g1 g2)
  rw[List.length_map,Array.length_toList,pm.size];exact h64
theorem Kw{D:Addr}{vs:List Value}{f:Value}{z:Nat->Int}{Q:Value->Shared->Prop}{s0:Shared}{n:Nat}{P:PySem.Fin->Shared->Prop}(hD:s.heap.get? D=some (seqObj "list" vs.toArray n))(h64:vs.length<64)
  (kp:∀b o,s0.heap.get? b=some o->s.heap.get? b=some o/\b≠D) (hs:∃h,s={ s0 with heap:=h })
  (T:∀kS,s.heap.objs.size<=kS->∃J,QR prog w A s0 vs f z Q D kS J) (hP:∀s',Q (.ref D) s'->P (.done (.ret .none)) s'):wpAny (model prog w) A (ksk_tree D f false) P E s:=by
 have s1:=Heap.SameBut.update s.heap D (Obj.mapSeq fun _=>(#[]:Array Value))
 obtain⟨e1,hD1⟩:∃e1,(s.heap.update D (Obj.mapSeq fun _=>(#[]:Array Value))).get? D=some (seqObj "list" #[] e1):=⟨_,get?_update_seq hD fun _=>#[]⟩
 have hz:(((s.heap.update D (Obj.mapSeq fun _=>(#[]:Array Value))).push (seqObj "tuple" vs.toArray 0))).objs.size=s.heap.objs.size+1:=by rw[size_push',Heap.size_update]
 have hlt:D<s.heap.objs.size:=Heap.lt_size hD
 have hne:D≠(((s.heap.update D (Obj.mapSeq fun _=>(#[]:Array Value))).push (seqObj "tuple" vs.toArray 0))).objs.size:=Nat.ne_of_lt (by rw[hz];exact Nat.lt_succ_of_lt hlt)
 obtain⟨J,T⟩:=T (((s.heap.update D (Obj.mapSeq fun _=>(#[]:Array Value))).push (seqObj "tuple" vs.toArray 0))).objs.size (by rw[hz];exact Nat.le_succ _)
 unfold ksk_tree
 refine wpAny_bind (listItems_at hD rfl (wpAny_bind (listUpdate_at hD rfl (wpAny_bind (seqEpoch_at hD1 rfl (wpAny_bind (wpAny_newTuple (wpAny_bind (wpAny_newList (wpAny_holding ?_) (Nat.zero_le _))) ?_)))) ?_ (Nat.zero_le _))))
 ·unfold ksk_rest
  obtain⟨h0,rfl⟩:=hs
  have J0:=T.start e1 ((((h0.update D (Obj.mapSeq fun _=>(#[]:Array Value))).push (seqObj "tuple" vs.toArray 0))).push (seqObj "list" #[] 0)) (fun b o q=>Heap.get?_push_of_some _ (Heap.get?_push_of_some _ ((s1.2 b (kp b o q).2).trans (kp b o q).1))) (Heap.get?_push_of_some _ (Heap.get?_push_of_some _ hD1)) (Heap.get?_push_size _ rfl)
  refine wpAny_bind (wpAny_rule ?_)
  rw[List.forIn_toArray]
  refine wpAny_bind (ksk_fold (fun i s'=>∃ks e,ks.length=i/\J e1 ks e s') vs 0 _ ⟨[],0,rfl,J0⟩ (fun j x s' hx hI=>?_) fun s' hI=>?_)
  ·obtain⟨ks,e,hl,hJ⟩:=hI
   have hj:ks.length=j:=by grind
   have hjl:j<vs.length:=(List.getElem?_eq_some_iff.mp hx).1
   refine wpAny_bind (wpAny_attempt (wpAny_mono (T.turn _ _ _ _ x hJ (by rw[hj];exact hx)) (fun k s2 hk=>?_) fun _ _ hF=>hF.elim))
   obtain⟨hk,fin⟩:=hk
   dsimp only
   refine wpAny_bind (listUpdate_at hk rfl ?_ ?_ ?_)
   ·have hu:=get?_update_seq hk (·.push k)
    rw[show (List.toArray ks).push k=List.toArray (ks++[k]) by simp] at hu
    exact wpAny_pure ⟨rfl,ks++[k],_,by simp;grind,fin _ _ (Heap.SameBut.update ..) hu⟩
   ·rw[List.size_toArray,sizeLine_eq];grind
   ·rw[Array.size_push,List.size_toArray,sizeLine_eq];grind
  ·obtain⟨ks,e,hl,hJ⟩:=hI
   have hl':ks.length=vs.length:=by grind
   dsimp only
   refine wpAny_bind (listItems_at (T.stand _ _ _ _ hJ).1 rfl ?_)
   exact MT T hne h64 hJ hl' hP
 ·show vs.length<=_;rw[sizeLine_eq];grind
 ·rw[List.size_toArray,sizeLine_eq];grind
theorem Jv{l q:Addr}{vs:List Value}{z:Nat->Int}{Q:Value->Shared->Prop}(hl:s.heap.IsList l vs.toArray)(h64:vs.length<64)
  (T:∀D kS,s.heap.objs.size<=D->D<kS->∃J,QR prog w A.in1.in1 s vs (.ref q) z Q D kS J):wpAny (model prog w) A (call (.builtin "sorted") [.ref l] [(Str.ofString "key",.ref q)]) Q E s:=by
 refine call_function_entry_kw kind_sorted plain_sorted entry_sorted (ksk_s1 _ _) ?_
 unfold Builtin.«sorted»
 have hz:((s.heap.push (seqObj "list" #[] 0)).update s.heap.objs.size (Obj.mapSeq (·++vs.toArray))).objs.size=s.heap.objs.size+1:=(Heap.size_update ..).trans (size_push' ..)
 refine wpAny_bind (m:=checkCount "sorted" 1 1 _) (wpAny_pure (wpAny_bind (collect_list hl (wpAny_bind (wpAny_newList ?_ ?_)) ?_)))
 ·have kp:∀b o,s.heap.get? b=some o->(((s.heap.push (seqObj "list" #[] 0)).update s.heap.objs.size (Obj.mapSeq (·++vs.toArray))).push (seqObj "list" vs.toArray 0)).get? b=some o:=fun b o q=>by
   have hb:b<s.heap.objs.size:=Heap.lt_size q
   rw[Heap.get?_push_ne _ _ _ (by rw[hz];exact Nat.ne_of_lt (Nat.lt_succ_of_lt hb)),Heap.get?_update_ne _ _ _ _ (Nat.ne_of_lt hb),Heap.get?_push_ne _ _ _ (Nat.ne_of_lt hb)]
   exact q
  have hD:(((s.heap.push (seqObj "list" #[] 0)).update s.heap.objs.size (Obj.mapSeq (·++vs.toArray))).push (seqObj "list" vs.toArray 0)).get? ((s.heap.push (seqObj "list" #[] 0)).update s.heap.objs.size (Obj.mapSeq (·++vs.toArray))).objs.size=some (seqObj "list" vs.toArray 0):=Heap.get?_push_size _ rfl
  refine wpAny_bind (wpAny_holding (wpAny_call_entry_kw slot_list_sort ⟨_,hD,rfl⟩ entry_list_sort ?_ (ksk_l1 _ _)))
  refine Kw (s0:=s) (Q:=Q) hD h64 (fun b o q=>⟨kp b o q,Nat.ne_of_lt (by rw[hz];exact Nat.lt_succ_of_lt (Heap.lt_size q))⟩) ⟨_,rfl⟩ (fun kS hk=>T _ kS (by rw[hz];exact Nat.le_succ _) (Nat.lt_of_lt_of_le (Heap.lt_size hD) hk)) fun s' hq=>⟨_,rfl,wpAny_pure ⟨_,rfl,hq⟩⟩
 ·rw[sizeLine_eq];grind
 ·rw[sizeLine_eq];grind
end
end L3
namespace L3
open PySem PySem.Spec PyProof.Rows L2
def Cx.GJ(X:Cx):Cx:={ X with A:=X.A.in1.in1,xe:=fun _ _=>False }
theorem Ok.GJ{X:Cx}(k:X.Ok):(Cx.GJ X).Ok:=⟨k.mod,k.kind,k.glob,k.blt,k.above,k.inj,k.has,k.cab,k.hd,k.frames,k.stk,k.exf,k.bs,k.bsz,k.noex,k.exfs,k.qW,k.frf⟩
section
variable{X:Cx}{pins:List (Addr×Obj)}{σ:St}{H H':Hp}{s:Shared}
theorem Inv.GJ(I:Inv X pins σ H s):Inv (Cx.GJ X) pins σ H s:=⟨Ok.GJ I.ok,I.os,I.bare,I.base,I.loc,I.cell,I.free,I.freeC,I.pin,I.hok,I.len⟩
theorem Inv.ab9(k:X.Ok)(I:Inv (Cx.GJ X) pins σ H s):Inv X pins σ H s:=⟨k,I.os,I.bare,I.base,I.loc,I.cell,I.free,I.freeC,I.pin,I.hok,I.len⟩
theorem Inv.adopt{D kS:Addr}{xs:List V}{its:List Value}{n:Nat}{h':Heap}(I:Inv X pins σ H s)(fD:fB X pins H D)(fk:fB X pins H kS)(g:∀b o,b≠kS->b≠D->s.heap.get? b=some o->h'.get? b=some o)
  (hD:h'.get? D=some (seqObj "list" its.toArray n)) (hv:Vals xs its) (hz:xs.length<=sizeLine):Inv X pins σ (upd H D (.lst xs)) { s with heap:=h' }:=by
 have nD:∀b u,H b=some u->b≠D:=fun b u e z=>by rw[z,fD.1] at e;cases e
 have nK:∀b u,H b=some u->b≠kS:=fun b u e z=>by rw[z,fk.1] at e;cases e
 have out:∀b,b∉[kS,D]->b≠kS/\b≠D:=fun b hb=>⟨fun z=>hb (by simp[z]),fun z=>hb (by simp[z])⟩
 refine I.step (g':=s.gens) (d':=s.drawn) (t':=s.toks) (ch:=[kS,D]) (fun b hb=>?_) (fun b o _ _ hc e _=>g b o (out b hc).1 (out b hc).2 e) (fun b o _ _ hc e _=>⟨o.slots,g b o (out b hc).1 (out b hc).2 e⟩) (fun b o hc _ z=>by rw[aD (out b hc).2];exact z) ?_
  (fun b ys e=>by rw[aD (nD b _ e)];exact e) (fun b o u e=>by rw[aD (nD b _ e)];exact e) (fun b ps e=>⟨#[],by rw[aD (nD b _ e),e];simp⟩) (fun m hm=>?_) (fun b u e=>?_) I.bare
 ·rcases List.mem_cons.mp hb with z | hb
  ·rw[z];exact⟨fk.2.2.2.1,fk.2.1,fk.2.2.2.2.1,fk.2.2.2.2.2⟩
  ·rw[List.mem_singleton.mp hb];exact⟨fD.2.2.2.1,fD.2.1,fD.2.2.2.2.1,fD.2.2.2.2.2⟩
 ·exact fun b o hc e=>⟨o,g b o (out b hc).1 (out b hc).2 e⟩
 ·obtain⟨o,es,ep,ho,r⟩:=hm
  exact⟨o,es,ep,g _ o (Ne.symm fk.2.1) (Ne.symm fD.2.1) ho,r⟩
 ·by_cases hb:b=D
  ·subst hb
   rw[aQ] at e
   cases e
   exact⟨hz,its,n,hv,hD⟩
  ·rw[aD hb] at e
   refine (I.hok b u e).stay (fun c v hc q=>?_) (fun c q=>by rw[aD (nD c _ q)];exact q) fun c ys q=>by rw[aD (nD c _ q)];exact q
   rcases hc with z | z
   ·exact g c v (by rw[z];exact nK b u e) (by rw[z];exact hb) q
   ·exact g c v (nK c _ z) (nD c _ z) q
end
def LC(K:PySem.W.Frag)(H:Hp):List Pt->List Value->Prop:=Paired fun c k=>∃a,k=.ref a/\jz K H a [.int c.2,.int c.1]
theorem LC.mono{K:PySem.W.Frag}{H H':Hp}(t:TK H H'){cs:List Pt}{ks:List Value}(h:LC K H cs ks):LC K H' cs ks:=Paired.Du h fun _ _ ⟨a,e,q⟩=>⟨a,e,t.sqT q⟩
theorem Paired.snoc{α β:Type}{R:α->β->Prop}{as:List α}{bs:List β}{a:α}{b:β}(t:Paired R as bs)(h:R a b):Paired R (as++[a]) (bs++[b]):=by
 induction t with
 |nil=>exact .cons h .nil
 |cons r _ ih=>exact .cons r ih
theorem Paired.at{α β:Type}{R:α->β->Prop}:∀ {as:List α} {bs:List β} {i:Nat} {a:α},Paired R as bs->as[i]?=some a->∃b,bs[i]?=some b/\R a b
 |_,_,_,_,.nil,e=>by simp at e
 |_,_,0,_,.cons r _,e=>by simp at e;subst e;exact⟨_,rfl,r⟩
 |_,_,i+1,a,.cons _ t,e=>by
  obtain⟨b,h1,h2⟩:=Paired.at (i:=i) (a:=a) t (by simpa using e)
  exact⟨b,by simpa using h1,h2⟩
section
variable{X:Cx}
theorem vB{pins:List (Addr×Obj)}{σ:St}{H:Hp}{s:Shared}(I:Inv X pins σ H s){a:Addr}{y x:Int}(h:jz X.K H a [.int y,.int x]):∃o n t u,s.heap.get? a=some o/\o.cls=.type "tuple"/\o.data=.seq #[.int y t,.int x u] n:=by
 obtain⟨its,rv,⟨o,e,c,n,d⟩,_⟩:=I.tuple h
 obtain⟨u,v,rfl,⟨t,rfl⟩,⟨t',rfl⟩⟩:=vals2 rv
 exact⟨o,n,t,t',e,c,by simpa using d⟩
theorem K8{pins:List (Addr×Obj)}{σ:St}{H:Hp}{s:Shared}(I:Inv X pins σ H s):∀ {cs:List Pt} {ks:List Value},LC X.K H cs ks->∃fs,PySem.W.KatTups s.heap ks fs/\fs.length=ks.length/\∀v∈fs,∃i t,v=Value.int i t:=by
 intro cs ks h
 induction h with
 |nil=>exact⟨[],trivial,rfl,fun _ h=>nomatch h⟩
 |cons r t ih=>
  obtain⟨a,rfl,q⟩:=r
  obtain⟨o,n,t1,t2,e,c,d⟩:=vB I q
  obtain⟨fs,h1,h2,h3⟩:=ih
  refine⟨_::fs,.cons e c d rfl h1,congrArg (· + 1) h2,fun v hv=>?_⟩
  rcases List.mem_cons.mp hv with rfl | hv
  ·exact⟨_,_,rfl⟩
  ·exact h3 v hv
theorem Qj{pins:List (Addr×Obj)}{σ:St}{H:Hp}{s:Shared}{A:Around}{E:Value->Shared->Prop}(I:Inv X pins σ H s){a b:Addr}{c d:Pt}{C:Bool->Shared->Prop}(ha:jz X.K H a [.int c.2,.int c.1])(hb:jz X.K H b [.int d.2,.int d.1])(h:C (t7 d c) s) :
  wpAny (model X.prog X.w) A (keyLt' (tuples' true) (.ref a) (.ref b)) C E s:=by
 obtain⟨oa,na,t1,t2,ea,_,da⟩:=vB I ha
 obtain⟨ob,nb,u1,u2,eb,_,db⟩:=vB I hb
 refine PySem.W.kat_lt ea da eb db (PySem.W.kat_cons (wpAny_eqBool_int ?_))
 have e0:t7 d c=if c.2=d.2 then (if c.1=d.1 then false else decide (c.1<d.1)) else decide (c.2<d.2):=rfl
 by_cases h1:c.2=d.2
 ·rw[show (c.2==d.2)=true by simp[h1]]
  rw[e0,if_pos h1] at h
  refine PySem.W.kat_yes (PySem.W.kat_cons (wpAny_eqBool_int ?_))
  by_cases h2:c.1=d.1
  ·rw[show (c.1==d.1)=true by simp[h2]]
   rw[if_pos h2] at h
   exact PySem.W.kat_yes (PySem.W.kat_nil h)
  ·rw[show (c.1==d.1)=false by simp[h2]]
   rw[if_neg h2] at h
   exact PySem.W.kat_no (PySem.W.kat_one _ _ (lt_int h))
 ·rw[show (c.2==d.2)=false by simp[h1]]
  rw[e0,if_neg h1] at h
  exact PySem.W.kat_no (oneLt_int h)
end
theorem uA{α:Type}(xs:List α)(d:α):(List.range xs.length).map (fun i=>xs.getD i d)=xs:=by
 apply List.ext_getElem?
 intro i
 rw[List.getElem?_map]
 by_cases hi:i<xs.length
 ·rw[List.getElem?_range hi,List.getElem?_eq_getElem hi]
  simp[hi]
 ·rw[List.getElem?_eq_none (by simpa using hi),List.getElem?_eq_none (by simpa using hi)];rfl
theorem xg{vs:List V}{its:List Value}(rv:Vals vs its):∀ {l:List Nat},(∀i∈l,i<vs.length)->Vals (l.map fun i=>vs.getD i .non) (l.map fun i=>its.getD i Value.none)
 |[],_=>.nil
 |i::l,h=>by
  have hi:=h i (by simp)
  obtain⟨u,hu,r⟩:=rv.get (List.getElem?_eq_getElem hi)
  refine .cons ?_ (xg rv fun j hj=>h j (by simp[hj]))
  have e1:vs.getD i .non=vs[i]:=by simp[hi]
  have e2:its.getD i Value.none=u:=by rw[List.getD_eq_getElem?_getD,hu];rfl
  show RelV (vs.getD i .non) (its.getD i Value.none)
  rw[e1,e2];exact r
theorem Dj{K:PySem.W.Frag}{H:Hp}{ps:List Pt}{vs:List V}(ra:bj K H (ps.map bQ) vs):∀ {l:List Nat},(∀i∈l,i<ps.length)->bj K H ((l.map fun i=>ps.getD i (0,0)).map bQ) (l.map fun i=>vs.getD i .non)
 |[],_=>.nil
 |i::l,h=>by
  have hi:=h i (by simp)
  obtain⟨v,hv,r⟩:=ra.get (i:=i) (d:=bQ ps[i]) (by rw[List.getElem?_map,List.getElem?_eq_getElem hi];rfl)
  refine .cons ?_ (Dj ra fun j hj=>h j (by simp[hj]))
  have e1:ps.getD i (0,0)=ps[i]:=by simp[hi]
  have e2:vs.getD i .non=v:=by rw[List.getD_eq_getElem?_getD,hv];rfl
  show Rep K H (bQ (ps.getD i (0,0))) (vs.getD i .non)
  rw[e1,e2];exact r
theorem BP{M:Int}{ps:List Pt}{p:Array Nat}(hM:∀c∈ps,-M<=c.1/\c.1<=M)(pm:Pm ps.length p)(so:nU (fun i=>zc M (ps.getD i (0,0))) p ps.length):lL ps=p.toList.map fun i=>ps.getD i (0,0):=by
 have hmem:∀i,i<ps.length->ps.getD i (0,0)∈ps:=fun i hi=>by rw[show ps.getD i (0,0)=ps[i] by simp[hi]];exact List.getElem_mem hi
 refine O6 ?_ ?_
 ·have h1:p.toList.Perm (List.range ps.length):=by have:=Array.Perm.toList pm;simpa using this
  have h2:=h1.map fun i=>ps.getD i (0,0)
  rw[uA] at h2
  exact h2
 ·rw[List.pairwise_iff_getElem]
  intro i j hi hj hij
  have hsz:=pm.size
  rw[List.length_map,Array.length_toList,hsz] at hi hj
  have key:∀t,t<ps.length->∀h,(p.toList.map fun i=>ps.getD i (0,0))[t]'h=ps.getD (p.getD t 0) (0,0):=fun t ht h=>by
   rw[List.getElem_map]
   have:p.toList[t]'(by simpa [hsz] using ht)=p.getD t 0:=by simp[Array.getD,hsz,ht]
   rw[this]
  rw[key i hi,key j hj]
  have h1:=so i j (Nat.le_of_lt hij) hj
  unfold vY
  rw[Vl (hM _ (hmem _ (pm.lt hi))) (hM _ (hmem _ (pm.lt hj)))]
  exact decide_eq_false (Int.not_lt.mpr h1)
section
variable{X:Cx}{pins:List (Addr×Obj)}{σ:St}{H:Hp}{s:Shared}
theorem JH(I:Inv X pins σ H s){f a:Addr}{vs:List V}{ps:List Pt}{H3:aF}
  (ga:H a=some (.lst vs)) (ra:bj X.K H (ps.map bQ) vs) (hr3:HR X.K H3 H) (h64:ps.length<64) {Q:VK}
  (call1:∀ (pins:List (Addr×Obj)) (H':Hp) (s:Shared) (c:Pt) (v:V) (u:Value),TK H H'→HR X.K H3 H'→Inv (Cx.GJ X) pins σ H' s→Rep X.K H' (bQ c) v→RelV v u →
   wpAny (model X.prog X.w) (Cx.GJ X).A (call (.ref f) [u]) (EP (Cx.GJ X) pins σ fun v H''=>TK H' H''/\HR X.K H3 H''/\Rep X.K H'' (.tup [.int c.2,.int c.1]) v) (fun _ _=>False) s)
  (hQ:∀(D:Addr) (H'':Hp),TK H H''->HR X.K (aO H3 D (.lst ((lL ps).map bQ))) H''->H3 D=none->Q (.ref D) H'') :
  wpAny (model X.prog X.w) X.A (call (.builtin "sorted") [.ref a] [(Str.ofString "key",.ref f)]) (EP X pins σ Q) X.xe s:=by
 obtain⟨its,rv,pl,_⟩:=I.list (jF.of ga)
 have hv:vs.length=ps.length:=by rw[←ra.length,List.length_map]
 have hn:its.length=ps.length:=by rw[←rv.length];exact hv
 obtain⟨M,hM0,hM⟩:=Ca ps
 refine Jv (z:=fun i=>zc M (ps.getD i (0,0))) pl.isList (by grind) fun D kS hD hk=>?_
 have hK:s.heap.objs.size<=kS:=Nat.le_trans hD (Nat.le_of_lt hk)
 have nD:H D=none:=I.hok.fresh hD
 have nK:H kS=none:=I.hok.fresh hK
 have fD:=(Inv.GJ I).yS (H':=H) hD nD
 have fk:=(Inv.GJ I).yS (H':=H) hK nK
 have nc:∀(xs:Array Value) (e:Nat) (v:Option Value),(seqObj "list" xs e).data≠.cell v:=fun _ _ _ z=>by cases z
 refine⟨fun e1 ks e s'=>∃H',Inv (Cx.GJ X) (pins++[(D,seqObj "list" #[] e1)]) σ H' s'/\s'.heap.get? kS=some (seqObj "list" (List.toArray ks) e)/\H' kS=none/\TK H H'/\HR X.K H3 H'/\LC X.K H' (ps.take ks.length) ks,?_⟩
 constructor
 ·intro e1 h' kp hD' hk'
  have I2:=(Inv.GJ I).kept (t':=s.toks) kp
  refine⟨H,I2.ni fun p hp=>?_,hk',nK,TK.refl,hr3,.nil⟩
  rcases List.mem_append.mp hp with hp | hp
  ·exact I2.pin p (List.mem_append_right _ hp)
  ·rw[List.mem_singleton.mp hp]
   exact⟨hD',nD,fD.2.1,fD.2.2.1,nc _ _⟩
 ·rintro e1 ks e s1 ⟨H',J,h1,_⟩
  exact⟨h1,(J.pin (D,seqObj "list" #[] e1) (by simp)).1⟩
 ·rintro e1 ks e s1 x ⟨H',J,hk1,nk1,tk,hr',kr⟩ hx
  have hi:ks.length<ps.length:=by have:=(List.getElem?_eq_some_iff.mp hx).1;grind
  have hc:ps[ks.length]?=some ps[ks.length]:=List.getElem?_eq_getElem hi
  generalize ps[ks.length]=c at hc
  obtain⟨v,hv1,rep⟩:=ra.get (i:=ks.length) (d:=bQ c) (by rw[List.getElem?_map,hc];rfl)
  obtain⟨u,hu,rx⟩:=rv.get hv1
  rw[hx] at hu
  cases hu
  have J2:Inv (Cx.GJ X) (pins++[(D,seqObj "list" #[] e1),(kS,seqObj "list" (List.toArray ks) e)]) σ H' s1:=J.ni fun p hp=>by
   rcases List.mem_append.mp hp with hp | hp
   ·exact J.pin p (by simp[hp])
   ·rcases List.mem_cons.mp hp with rfl | hp
    ·exact J.pin _ (by simp)
    ·rw[List.mem_singleton.mp hp]
     exact⟨hk1,nk1,fk.2.1,fk.2.2.1,nc _ _⟩
  refine wpAny_mono (call1 _ H' s1 c v x tk hr' J2 (rep.mono tk) rx) (fun k s2 hk2=>?_) fun _ _ z=>z
  ·obtain⟨v',H'',J3,rk,tk',hr'',rep'⟩:=hk2
   cases rep' with
   |tup sq rl=>
    cases rk
    have ex:=bj.lW (ns:=[c.2,c.1]) rl
    subst ex
    have pk:=J3.pin (kS,seqObj "list" (List.toArray ks) e) (by simp)
    refine⟨pk.1,fun c' h' sb hk'=>⟨H'',?_,hk',pk.2.1,tk.trans tk',hr'',?_⟩⟩
    ·refine (J3.ni (pins':=pins++[(D,seqObj "list" #[] e1)]) fun p hp=>J3.pin p ?_).turned (it:=kS) (t':=s2.toks) (fun b o hb e=>(sb.2 b hb).trans e) pk.2.1 fk.2.1 fk.2.2.2.1 fk.2.2.2.2.1 fun p hp=>?_
     ·rcases List.mem_append.mp hp with hp | hp
      ·simp[hp]
      ·rw[List.mem_singleton.mp hp];simp
     ·rcases List.mem_append.mp hp with hp | hp
      ·exact fk.2.2.2.2.2 p (List.mem_append_left _ hp)
      ·rcases List.mem_append.mp hp with hp | hp
       ·exact fk.2.2.2.2.2 p (List.mem_append_right _ hp)
       ·rw[List.mem_singleton.mp hp];exact Nat.ne_of_lt hk
    ·rw[List.length_append,List.length_singleton,List.take_add_one,hc]
     exact Paired.snoc (LC.mono tk' kr) ⟨_,rfl,jz.of sq⟩
 ·rintro e1 ks e s1 ⟨H',J,hk1,nk1,tk,hr',kr⟩ hl h2
  rw[List.take_of_length_le (by grind)] at kr
  obtain⟨fs,t1,t2,t3⟩:=K8 J kr
  refine PySem.W.kat_kind (T:=.type "int") t1 (by grind) (fun v hv=>?_) (by decide) ⟨rfl,?_⟩
  ·obtain⟨i,t,rfl⟩:=t3 v hv
   exact PySem.W.Looks.now
  ·intro i j C hi hj hC
   have hi':i<ps.length:=by grind
   have hj':j<ps.length:=by grind
   obtain⟨ki,ei,ai,rfl,qi⟩:=Paired.at kr (List.getElem?_eq_getElem hi')
   obtain⟨kj,ej,aj,rfl,qj⟩:=Paired.at kr (List.getElem?_eq_getElem hj')
   unfold PySem.W.kas_ask
   rw[show ks.getD i Value.none=.ref ai by rw[List.getD_eq_getElem?_getD,ei];rfl,show ks.getD j Value.none=.ref aj by rw[List.getD_eq_getElem?_getD,ej];rfl]
   refine Qj J qi qj ?_
   rw[Vl (hM _ (List.getElem_mem hj')) (hM _ (List.getElem_mem hi'))]
   have e1:ps.getD i (0,0)=ps[i]:=by simp[hi']
   have e2:ps.getD j (0,0)=ps[j]:=by simp[hj']
   have hC':C (decide (zc M (ps.getD i (0,0))<zc M (ps.getD j (0,0)))) s1:=hC
   rw[e1,e2] at hC'
   exact hC'
 ·rintro e1 ks e s1 p ⟨H',J,hk1,nk1,tk,hr',kr⟩ hl pm so h' c g hD'
  have pD:=J.pin (D,seqObj "list" #[] e1) (by simp)
  have nD':H' D=none:=pD.2.1
  rw[hn] at pm so
  have hlt:∀i∈p.toList,i<ps.length:=fun i hi=>by
   have h1:p.toList.Perm (List.range ps.length):=by have:=Array.Perm.toList pm;simpa using this
   simpa using h1.mem_iff.mp hi
  have hvals:=xg rv (l:=p.toList) fun i hi=>by rw[hv];exact hlt i hi
  have J':=Inv.adopt (J.ni (pins':=pins) fun q hq=>J.pin q (by simp[hq])) ⟨nD',fD.2⟩ ⟨nk1,fk.2⟩ g hD' hvals (by rw[List.length_map,Array.length_toList,pm.size,sizeLine_eq];grind)
  refine⟨.ref D,_,Inv.ab9 I.ok J',rfl,hQ D _ (tk.trans (TK.fresh nD')) ?_ (hr3.fresh nD)⟩
  refine hr'.wJ (TK.fresh nD') ?_
  rw[BP hM pm so]
  exact ((Dj ra hlt).mono tk).mono (TK.fresh nD')
end
def keysOf:List D->Option (List Key)
 |[]=>some []
 |.int i::ds=>(keysOf ds).map (Sum.inl i::·)
 |.str x::ds=>(keysOf ds).map (Sum.inr x::·)
 |_::_=>none
theorem jc{K:PySem.W.Frag}{H:Hp}:∀ {ds:List D} {xs:List V} {ks:List Key},bj K H ds xs->keysOf ds=some ks->xs=ks.map kV
 |_,_,_,.nil,h=>by simp only[keysOf,Option.some.injEq] at h;subst h;rfl
 |_,_,_,.cons (d:=d) r t,h=>by
  cases r with
  |int i=>
   simp only[keysOf,Option.map_eq_some_iff] at h
   obtain⟨ms,h1,rfl⟩:=h
   rw[jc t h1];rfl
  |str i=>
   simp only[keysOf,Option.map_eq_some_iff] at h
   obtain⟨ms,h1,rfl⟩:=h
   rw[jc t h1];rfl
  |_=>simp[keysOf] at h
abbrev Tab:=List (List Key×D)
def iI(kvs:Tab)(k:List Key):Option D:=(kvs.find? fun kv=>decide (kv.1=k)).map (·.2)
def dput(kvs:Tab)(k:List Key)(d:D):Tab:=if (kvs.any fun kv=>decide (kv.1=k))=true then kvs.map (fun kv=>if kv.1=k then (kv.1,d) else kv) else kvs++[(k,d)]
abbrev TR(K:PySem.W.Frag)(H:Hp):Tab->List (List Key×V)->Prop:=Paired (fun (p:List Key×D) (q:List Key×V)=>p.1=q.1/\Rep K H p.2 q.2)
theorem TR.look{K:PySem.W.Frag}{H:Hp}{k:List Key}:∀ {kvs:Tab} {ks:List (List Key×V)},TR K H kvs ks->(qM ks k).isSome=(iI kvs k).isSome/\∀d,iI kvs k=some d->∃v,qM ks k=some v/\Rep K H d v
 |_,_,.nil=>⟨rfl,fun _ h=>nomatch h⟩
 |_,_,.cons (a:=p) (b:=q) r t=>by
  have ih:=TR.look (k:=k) t
  by_cases e:p.1=k
  ·have e':q.1=k:=r.1.symm.trans e
   have l1:∀rest:Tab,iI (p::rest) k=some p.2:=fun rest=>by unfold iI;rw[List.find?_cons_of_pos (by simpa using e)];rfl
   rw[oW e',l1]
   exact⟨rfl,fun d h=>⟨_,rfl,by cases h;exact r.2⟩⟩
  ·have e':¬q.1=k:=fun z=>e (r.1.trans z)
   have l1:∀rest:Tab,iI (p::rest) k=iI rest k:=fun rest=>by unfold iI;rw[List.find?_cons_of_neg (by simpa using e)]
   rw[qz e',l1]
   exact ih
theorem TR.any{K:PySem.W.Frag}{H:Hp}{k:List Key}:∀ {kvs:Tab} {ks:List (List Key×V)},TR K H kvs ks->(kvs.any fun kv=>decide (kv.1=k))=ks.any fun kv=>decide (kv.1=k)
 |_,_,.nil=>rfl
 |_,_,.cons r t=>by rw[List.any_cons,List.any_cons,TR.any t,r.1]
theorem TR.repl{K:PySem.W.Frag}{H:Hp}{k:List Key}{d:D}{v:V}(rd:Rep K H d v):∀ {kvs:Tab} {ks:List (List Key×V)},TR K H kvs ks->TR K H (kvs.map fun kv=>if kv.1=k then (kv.1,d) else kv) (ks.map fun kv=>if kv.1=k then (kv.1,v) else kv)
 |_,_,.nil=>.nil
 |_,_,.cons (a:=p) (b:=q) r t=>by
  refine .cons ?_ (TR.repl rd t)
  dsimp only
  by_cases e:p.1=k
  ·rw[if_pos e,if_pos (r.1.symm.trans e)];exact⟨r.1,rd⟩
  ·rw[if_neg e,if_neg (fun z=>e (r.1.trans z))];exact r
theorem TR.put{K:PySem.W.Frag}{H:Hp}{k:List Key}{d:D}{v:V}{kvs:Tab}{ks:List (List Key×V)}(r:TR K H kvs ks)(rd:Rep K H d v):TR K H (dput kvs k d) (putK ks k v):=by
 unfold dput putK
 rw[←TR.any r]
 split
 ·exact TR.repl rd r
 ·exact Paired.snoc r ⟨rfl,rd⟩
theorem TR.mono{K:PySem.W.Frag}{H H':Hp}(t:TK H H'){kvs:Tab}{ks:List (List Key×V)}(r:TR K H kvs ks):TR K H' kvs ks:=Paired.Du r fun _ _ z=>⟨z.1,z.2.mono t⟩
theorem HR.Sd{K:PySem.W.Frag}{H:Hp}{H3:aF}(h:HR K H3 H){p:Addr}{ks:List (List Key×V)}{kvs:Tab}(t:TK H (upd H p (.dT ks)))(r:TR K (upd H p (.dT ks)) kvs ks):HR K (aO H3 p (.dic kvs)) (upd H p (.dT ks)):=h.set (o3:=.dic kvs) t ⟨ks,aQ,r⟩
def Jk(neg:Bool):R3:=fun x y H Q=>match x,y with
 | .tup ds,.ref a => (match keysOf ds,H a with
  |some k,some (.dic kvs)=>Q (.bl (if neg then !(iI kvs k).isSome else (iI kvs k).isSome)) H
  |_,_=>False)
 |_,_=>False
def oN(neg:Bool):R3:=fun x y H Q=>Ce neg x y H Q\/Jk neg x y H Q
section
variable{X:Cx}
theorem R9(hu:X.A.units+64<cLine):gJ X (compareOp .In) (bV X.K (oN false)):=by
 intro pins s σ H x y v u Q I rx ry h
 obtain⟨dx,dy,H3,Q3,hr,rdx,rdy,t,k⟩:=h
 rcases t with t | t
 ·exact Ww hu pins s σ H x y v u Q I rx ry ⟨dx,dy,H3,Q3,hr,rdx,rdy,t,k⟩
 ·cases rdx with
  |tup ha ra=>
   cases rdy with
   |ref a=>
    (delta Jk at t;dsimp only at t)
    split at t
    ·rename_i ks kvs e1 e2
     obtain⟨vs,gd,rd⟩:=hr a _ e2
     cases ry
     have ex:=jc ra e1
     subst ex
     refine ack (by omega) I (wI.t gd ha) rx fun s' I'=>⟨.bl _,H,I',rfl,?_⟩
     rw[(TR.look (k:=ks) rd).1]
     exact k _ _ _ _ TK.refl hr (.bl _) t
    ·exact t.elim
   |_=>exact t.elim
  |_=>exact t.elim
theorem oE(hu:X.A.units+64<cLine):gJ X (compareOp .NotIn) (bV X.K (oN true)):=by
 intro pins s σ H x y v u Q I rx ry h
 obtain⟨dx,dy,H3,Q3,hr,rdx,rdy,t,k⟩:=h
 rcases t with t | t
 ·exact Jx hu pins s σ H x y v u Q I rx ry ⟨dx,dy,H3,Q3,hr,rdx,rdy,t,k⟩
 ·cases rdx with
  |tup ha ra=>
   cases rdy with
   |ref a=>
    (delta Jk at t;dsimp only at t)
    split at t
    ·rename_i ks kvs e1 e2
     obtain⟨vs,gd,rd⟩:=hr a _ e2
     cases ry
     have ex:=jc ra e1
     subst ex
     refine Ux (by omega) I (wI.t gd ha) rx fun s' I'=>⟨.bl _,H,I',rfl,?_⟩
     rw[(TR.look (k:=ks) rd).1]
     exact k _ _ _ _ TK.refl hr (.bl _) t
    ·exact t.elim
   |_=>exact t.elim
  |_=>exact t.elim
def Yj(v x y:D)(σ:cO)(H:aF)(R:cO->aF->Prop):Prop:=match x,y with
 | .ref a,.tup ds => (match keysOf ds,H a with
  |some k,some (.dic kvs)=>kvs.length<1000/\R σ (aO H a (.dic (dput kvs k v)))
  |_,_=>False)
 |_,_=>False
def dp3(td ty tv:cC):dw:=fun D0 σ H=>tv σ H fun v H1=>td σ H1 fun x H2=>ty σ H2 fun y H3=>Yj v x y σ H3 D0.nx
theorem yZ{o i value:Expr}{td ty tv:cC}{pos pos':Pos}(hu:X.A.units+64<cLine)(ho:cN X o td)(hi:cN X i ty)(hv:cN X value tv)(hs:swapsWith value (some (.Subscript o i pos')) pos.line X.env=pure false:=by rfl) :
  K6 X (.Assign [.Subscript o i pos'] value pos) (dp3 td ty tv) :=
 jD (TY (by omega) ho hi hv hs) fun D0 σ H zz=>zz.ex fun σ3 H3 D3 sr hr t k=>⟨σ3,H3,_,sr,hr,t,fun dv v H3a Ha tka hra rv qa=>⟨σ3,H3a,_,sr.mono tka,hra,qa,fun dx x H3b Hb tkb hrb rx qb=>⟨σ3,H3b,_,(sr.mono tka).mono tkb,hrb,qb,fun dy y H3c Hc tkc hrc ry qc=>by
  cases rx with
  |ref a=>
   cases ry with
   |tup hb rb=>
    (delta Yj at qc;dsimp only at qc)
    split at qc
    ·rename_i ks kvs e1 e2
     obtain⟨vs,gd,rd⟩:=hrc a _ e2
     have ex:=jc rb e1
     subst ex
     obtain⟨hl,qc⟩:=qc
     refine⟨a,_,rfl,Nx.t gd hb (by rw[←Paired.length rd];exact xF (Nat.le_of_lt hl)),?_⟩
     have tt:=TK.dT (o:=.dT (putK vs ks v)) gd
     exact k.nx _ _ _ _ ((tka.trans (tkb.trans tkc)).trans tt) ((((sr.mono tka).mono tkb).mono tkc).mono tt) (hrc.Sd tt (TR.put (TR.mono tt rd) (((rv.mono tkb).mono tkc).mono tt))) qc
    ·exact qc.elim
   |_=>exact qc.elim
  |_=>exact qc.elim⟩⟩⟩
def dn3:cC:=fun _ H Q=>∀p,H p=none->Q (.ref p) (aO H p (.dic []))
theorem Up{pos:Pos}:cN X (.Dict [] [] pos) dn3:=bL Ob fun _ _ _ ⟨_,_,_,_,hr,t,k⟩=>fun p n=>k _ _ _ _ (TK.fresh n) (hr.Sd (TK.fresh n) .nil) (.ref p) (t p (hr.fresh n))
theorem Mm{pins:List (Addr×Obj)}{σ:St}{H:Hp}{s:Shared}{a b:Addr}{kvs:List (List Key×V)}{k:List Key}{v:V}{r:Value}{A:Around}{E:Value->Shared->Prop}{Q:Unit->Shared->Prop}(hu:A.units<cLine)(I:Inv X pins σ H s)(e:H a=some (.dT kvs))(eb:H b=some (.tup (k.map kV)))
  (l:kvs.length<sizeLine) (rv:RelV v r) (h:∀s',Inv X pins σ (upd H a (.dT (putK kvs k v))) s'->Q () s'):wpAny (model X.prog X.w) A (dictSet a (.ref b) r) Q E s:=by
 obtain⟨z,hd,xs,rel,dd⟩:=QQ I.hok e
 have hz:xs.length<=sizeLine:=by rw[←Paired.length rel];exact z
 have hl:(putK kvs k v).length<=sizeLine:=Nat.le_trans (mD kvs k v) l
 refine wpAny_dictSet_heap (knd:=tupleKind (bW X.prog X.w)) (hsz:=hz) hu (su I.hok eb) dd fun h' dd' hs=>h _ ?_
 obtain⟨q,es,ep,hq,h2,h3,h4,_,h5⟩:=dd'
 exact zQ I (by rw[e];exact True.intro) hs ⟨q,hq⟩ ⟨hl,hd,_,(rel.put k eb rv).keeps fun c ys ec=>by rw[aD (sG ec e (fun z=>nomatch z))];exact ec,q,es,ep,hq,h2,h3,h4,h5⟩
def Zn(p:Addr)(x y:D)(H:aF)(Q:aY):Prop:=match x with
 | .tup ds => H p = some (.dic [])∧(match keysOf ds with
  |some k=>Q (.ref p) (aO H p (.dic [(k,y)]))
  |none=>False)
 |_=>False
def dd3(tk tv:cC):cC:=fun σ H Q=>∀p,H p=none->tk σ (aO H p (.dic [])) fun x H1=>tv σ H1 fun y H2=>Zn p x y H2 Q
theorem Rv{ke ve:Expr}{tk tv:cC}{pos:Pos}(hu:X.A.units<cLine)(hk:cN X ke tk)(hv:cN X ve tv):cN X (.Dict [some ke] [ve] pos) (dd3 tk tv):=by
 intro pins s σ H Q I h
 obtain⟨σ3,H3,Q3,sr,hr,t,k⟩:=h
 have hn:=I.hok.fresh (Nat.le_refl s.heap.objs.size)
 have I1:=I.laid (a:=s.heap.objs.size) (o:=.dT []) (h':=s.heap.push { cls:=.type "dict",data:=.dict #[] }) (t':=s.toks) (fun _ _ q=>Heap.get?_push_of_some _ q) (Nat.le_refl _) (Av s.heap I.big)
 have pp:PPs X pos [some ke] [ve] [(eV X.K tk,eV X.K tv)]:=Oj hk hv Ud
 have tk0:TK H (upd H s.heap.objs.size (.dT [])):=TK.fresh hn
 refine wpAny_Dict_any rfl rfl (by simp) (by simp) (cJ (pp pins _ σ _ (fun ps H2=>∃dx dy x y H32,ps=[(x,y)]/\TK H H2/\HR X.K H32 H2/\Rep X.K H2 dx x/\Rep X.K H2 dy y/\Zn s.heap.objs.size dx dy H32 Q3) I1 ?_) fun ws s2 hq=>?_)
 ·exact⟨σ3,_,_,sr.mono tk0,hr.Sd tk0 .nil,t _ (hr.fresh hn),fun dx x H3a Ha tka hra rx qa=>⟨σ3,H3a,_,(sr.mono tk0).mono tka,hra,qa,fun dy y H3b Hb tkb hrb ry qb=>⟨dx,dy,x,y,H3b,rfl,(tk0.trans tka).trans tkb,hrb,rx.mono tkb,ry,qb⟩⟩⟩
 ·obtain⟨ps,H2,I2,rel,dx,dy,x,y,H32,rfl,tk2,hr2,rx,ry,q⟩:=hq
  cases rel with
  |cons r1 r2=>
   cases r2
   rename_i w1
   obtain⟨u1,u2⟩:=w1
   obtain⟨r1,r2⟩:=r1
   unfold storeAll
   rw[List.forIn_cons]
   cases rx with
   |tup hb rb=>
    (delta Zn at q;dsimp only at q)
    obtain⟨q0,q⟩:=q
    split at q
    ·rename_i ks e1
     have ex:=jc rb e1
     subst ex
     obtain⟨vs,gd,rd⟩:=hr2 _ _ q0
     cases rd
     cases r1
     refine wpAny_bind (wpAny_bind (Mm hu I2 gd hb (by rw[sizeLine_eq];decide) r2 fun s' I'=>wpAny_pure ?_))
     show wpAny _ _ (forIn [] PUnit.unit _) _ _ s'
     rw[List.forIn_nil]
     have tt:=TK.dT (o:=.dT (putK [] ks y)) gd
     exact wpAny_pure ⟨.ref _,_,I',rfl,k _ _ _ _ (tk2.trans tt) (hr2.Sd tt (.cons ⟨rfl,ry.mono tt⟩ .nil)) (.ref _) q⟩
    ·exact q.elim
   |_=>exact q.elim
end
def ra3:dw:=fun _ _ _=>False
theorem Rw{X:Cx}{st:Stmt}:K6 X st ra3:=fun _ _ _ _ _ _ h=>by obtain⟨_,_,_,_,_,t,_⟩:=h;exact t.elim
end L3
namespace L3
open PySem L2
def kP(c:Pt):List Key:=[Sum.inl c.1,Sum.inl c.2]
theorem uQ{a b:Pt}(h:kP a=kP b):a=b:=by
 unfold kP at h
 simp only[List.cons.injEq,Sum.inl.injEq,and_true] at h
 exact Prod.ext h.1 h.2
def gA(ps:List Pt):Tab:=ps.map fun c=>(kP c,D.bl true)
def j8(ps:List Pt)(c:Pt):List Pt:=if c∈ps then ps else ps++[c]
theorem xY(c:Pt):∀ps:List Pt,(iI (gA ps) (kP c)).isSome=decide (c∈ps)
 |[]=>rfl
 |p::ps=>by
  unfold gA iI
  rw[List.map_cons]
  by_cases e:p=c
  ·subst e
   rw[List.find?_cons_of_pos (by simp)]
   simp
  ·have e':¬kP p=kP c:=fun z=>e (uQ z)
   rw[List.find?_cons_of_neg (by simpa using e')]
   have ih:=xY c ps
   unfold gA iI at ih
   rw[ih]
   have e2:¬c=p:=fun z=>e z.symm
   simp[e2]
theorem Sx(c:Pt)(ps:List Pt):((gA ps).any fun kv=>decide (kv.1=kP c))=decide (c∈ps):=by
 induction ps with
 |nil=>rfl
 |cons p ps ih=>
  have e0:gA (p::ps)=(kP p,D.bl true)::gA ps:=rfl
  rw[e0,List.any_cons,ih]
  by_cases e:p=c
  ·subst e;simp
  ·have e':¬kP p=kP c:=fun z=>e (uQ z)
   have e2:¬c=p:=fun z=>e z.symm
   simp[e',e2]
theorem Nb(ps:List Pt)(c:Pt):dput (gA ps) (kP c) (.bl true)=gA (j8 ps c):=by
 unfold dput j8
 rw[Sx]
 by_cases h:c∈ps
 ·rw[if_pos (decide_eq_true h),if_pos h]
  unfold gA
  rw[List.map_map]
  refine List.map_congr_left fun p _=>?_
  show (if kP p=kP c then (kP p,D.bl true) else (kP p,D.bl true))=_
  split <;> rfl
 ·rw[if_neg (by simpa using h),if_neg h]
  unfold gA
  rw[List.map_append];rfl
theorem Qm{ps:List Pt}{c x:Pt}:x∈j8 ps c↔x∈ps\/x=c:=by
 unfold j8
 split
 ·rename_i h
  constructor
  ·exact .inl
  ·rintro (h1 | rfl)
   ·exact h1
   ·exact h
 ·simp
theorem xK{x:Pt}:∀ {ps acc:List Pt},x∈ps.foldl j8 acc↔x∈acc\/x∈ps
 |[],acc=>by simp
 |p::ps,acc=>by
  rw[List.foldl_cons,xK,Qm,List.mem_cons]
  constructor
  ·rintro ((h | h) | h)
   ·exact .inl h
   ·exact .inr (.inl h)
   ·exact .inr (.inr h)
  ·rintro (h | h | h)
   ·exact .inl (.inl h)
   ·exact .inl (.inr h)
   ·exact .inr h
theorem xq:∀(ps acc:List Pt),(ps.foldl j8 acc).length<=acc.length+ps.length
 |[],acc=>by simp
 |p::ps,acc=>by
  rw[List.foldl_cons]
  have h1:=xq ps (j8 acc p)
  have h2:(j8 acc p).length<=acc.length+1:=by unfold j8;split <;> simp
  rw[List.length_cons];grind
section
variable{σ:cO}{H:aF}{Q:aY}{D0:iR}{a p:Addr}{x y:D}{ta tb te:cC}{p1 p2:Int}{ps:List Pt}
theorem QX(h:yU H y=some (ps.map bQ))(q:Q (.bl (!decide ((p1,p2)∈ps))) H):oN true (.tup [.int p1,.int p2]) y H Q:=.inl (Wj h q)
theorem Y5(h:H a=some (.dic (gA ps)))(q:Q (.bl (!decide ((p1,p2)∈ps))) H):oN true (.tup [.int p1,.int p2]) (.ref a) H Q:=by
 refine .inr ?_
 have e:keysOf [D.int p1,.int p2]=some (kP (p1,p2)):=rfl
 (delta Jk;simp only[e,h,xY])
 exact q
theorem acg(h:te σ H fun v H1=>ta σ H1 fun x H2=>tb σ H2 fun y H3=>Yj v x y σ H3 D0.nx):dp3 ta tb te D0 σ H:=h
theorem VN{R:cO->aF->Prop}(ha:H a=some (.dic (gA ps)))(hl:ps.length<1000)(q:R σ (aO H a (.dic (gA (j8 ps (p1,p2)))))):Yj (.bl true) (.ref a) (.tup [.int p1,.int p2]) σ H R:=by
 have e:keysOf [D.int p1,.int p2]=some (kP (p1,p2)):=rfl
 (delta Yj;simp only[e,ha,Nb])
 exact⟨by unfold gA;rw[List.length_map];exact hl,q⟩
theorem acH(h:∀p,H p=none->Q (.ref p) (aO H p (.dic []))):dn3 σ H Q:=h
theorem abl(h:∀p,H p=none->ta σ (aO H p (.dic [])) fun x H1=>tb σ H1 fun y H2=>Zn p x y H2 Q):dd3 ta tb σ H Q:=h
theorem aa0(h:H p=some (.dic []))(q:Q (.ref p) (aO H p (.dic (gA [(p1,p2)])))):Zn p (.tup [.int p1,.int p2]) (.bl true) H Q:=by
 have e:keysOf [D.int p1,.int p2]=some (kP (p1,p2)):=rfl
 (delta Zn;simp only[e]);exact⟨h,q⟩
end
end L3
namespace L3
open PySem PySem.Spec PyProof.Rows L2
def boolsOf:List D->Option (List Bool)
 |[]=>some []
 |.bl b::ds=>(boolsOf ds).map (b::·)
 |_::_=>none
theorem Bj(bs:List Bool):boolsOf (bs.map D.bl)=some bs:=by
 induction bs with
 |nil=>rfl
 |cons b bs ih=>rw[List.map_cons,boolsOf,ih];rfl
theorem sW:∀ {ds:List D} {bs:List Bool},boolsOf ds=some bs->ds=bs.map D.bl
 |[],bs,h=>by cases h;rfl
 |d::ds,bs,h=>by
  cases d with
  |bl b=>
   rw[boolsOf,Option.map_eq_some_iff] at h
   obtain⟨cs,hc,rfl⟩:=h
   rw[sW hc];rfl
  |_=>cases h
def O4(f:List Bool->Bool):List D->aF->aY->Prop:=fun ds H Q=>match ds with
 | [.ref a] => (match H a with
  | some (.lst xs) => (match boolsOf xs with
   |some bs=>Q (.bl (f bs)) H
   |none=>False)
  |_=>False)
 |_=>False
abbrev Vo:List D->aF->aY->Prop:=O4 fun bs=>bs.all id
theorem abI{f:List Bool->Bool}{bs:List Bool}{a:Addr}{H:aF}{Q:aY}(ha:H a=some (.lst (bs.map D.bl)))(q:Q (.bl (f bs)) H):O4 f [.ref a] H Q:=by
 (delta O4;simp only[ha,Bj]);exact q
def lets(z:Str):List D:=z.cps.toList.map fun c=>D.str ⟨#[c]⟩
def iz3(te:cC):Fw:=fun σ H R=>te σ H fun x H1=>match x with
 |.str z=>R (lets z) (fun _=>True) H1
 |_=>False
def izk(x:D)(H:aF)(R:List D->(aF->Prop)->aF->Prop):Prop:=match x with
 |.str z=>R (lets z) (fun _=>True) H
 |_=>False
theorem ab5{te:cC}{σ:cO}{H:aF}{R:List D->(aF->Prop)->aF->Prop}(h:te σ H fun x H1=>izk x H1 R):iz3 te σ H R:=h
theorem aa4{z:Str}{H:aF}{R:List D->(aF->Prop)->aF->Prop}(h:R (lets z) (fun _=>True) H):izk (.str z) H R:=h
def strsOf:List D->Option (List Str)
 |[]=>some []
 |.str b::ds=>(strsOf ds).map (b::·)
 |_::_=>none
theorem Ew(bs:List Str):strsOf (bs.map D.str)=some bs:=by
 induction bs with
 |nil=>rfl
 |cons b bs ih=>rw[List.map_cons,strsOf,ih];rfl
theorem uU:∀ {ds:List D} {bs:List Str},strsOf ds=some bs->ds=bs.map D.str
 |[],bs,h=>by cases h;rfl
 |d::ds,bs,h=>by
  cases d with
  |str b=>
   rw[strsOf,Option.map_eq_some_iff] at h
   obtain⟨cs,hc,rfl⟩:=h
   rw[uU hc];rfl
  |_=>cases h
def sV(z:Str)(ys:List Str):Str:=⟨(ys.drop 1).foldl (fun acc p=>acc++z.cps++p.cps) (ys.headD ⟨#[]⟩).cps⟩
theorem xr(z:Str)(hz:z.cps=#[]):∀(ys:List Str) (acc:Array Nat),ys.foldl (fun acc p=>acc++z.cps++p.cps) acc=acc++(ys.map fun y=>y.cps.toList).flatten.toArray
 |[],acc=>by simp
 |y::ys,acc=>by rw[List.foldl_cons,xr z hz ys,hz];apply Array.ext';simp
theorem Ls{z:Str}(hz:z.cps=#[])(ys:List Str):sV z ys=⟨(ys.map fun y=>y.cps.toList).flatten.toArray⟩:=by
 unfold sV
 rw[xr z hz]
 cases ys with
 |nil=>simp
 |cons y ys=>simp
theorem GR{z:Str}(hz:z.cps=#[])(cs:List Nat):sV z (cs.map fun c=>⟨#[c]⟩)=⟨cs.toArray⟩:=by
 rw[Ls hz,List.map_map]
 congr 2
 induction cs with
 |nil=>rfl
 |cons c cs ih=>simp only[List.map_cons,List.flatten_cons,ih];rfl
def rC:D->List D->aF->aY->Prop:=fun x xs H Q=>match x,xs with
 | .str z,[.ref a] => (match H a with
  | some (.lst ds) => (match strsOf ds with
   |some ys=>(ys.map fun y=>y.cps.size).sum+ys.length*z.cps.size<=16777216/\Q (.str (sV z ys)) H
   |none=>False)
  |_=>False)
 |_,_=>False
def pA(z y:Str):Option Nat:=(List.range (z.cps.size+1)).find? fun i=>decide (i+y.cps.size<=z.cps.size)&&(z.cps.extract i (i+y.cps.size)==y.cps)
def pO:D->List D->aF->aY->Prop:=fun x xs H Q=>match x,xs with
 | .str z,[.str y] => (match pA z y with
  |some i=>Q (.int i) H
  |none=>False)
 |_,_=>False
def mz3(r:D->List D->aF->aY->Prop)(to:cC)(t:t8):cC:=fun σ H Q=>to σ H fun x H1=>(match x with
 |.str _=>t σ H1 fun xs H2=>r x xs H2 Q
 |_=>False)
def mzk(r:D->List D->aF->aY->Prop)(t:t8)(σ:cO)(x:D)(H1:aF)(Q:aY):Prop:=match x with
 |.str _=>t σ H1 fun xs H2=>r x xs H2 Q
 |_=>False
theorem acM{r:D->List D->aF->aY->Prop}{to:cC}{t:t8}{σ:cO}{H:aF}{Q:aY}(h:to σ H fun x H1=>mzk r t σ x H1 Q):mz3 r to t σ H Q:=h
theorem aaD{r:D->List D->aF->aY->Prop}{t:t8}{σ:cO}{z:Str}{H:aF}{Q:aY}(h:t σ H fun xs H2=>r (.str z) xs H2 Q):mzk r t σ (.str z) H Q:=h
theorem Yh{z:Str}{ys:List Str}{a:Addr}{H:aF}{Q:aY}(ha:H a=some (.lst (ys.map D.str)))(hl:(ys.map fun y=>y.cps.size).sum+ys.length*z.cps.size<=16777216)(q:Q (.str (sV z ys)) H):rC (.str z) [.ref a] H Q:=by
 (delta rC;simp only[ha,Ew]);exact⟨hl,q⟩
theorem RM{z y:Str}{i:Nat}{H:aF}{Q:aY}(h:pA z y=some i)(q:Q (.int i) H):pO (.str z) [.str y] H Q:=by
 (delta pO;simp only[h]);exact q
def tH(z:Str)(lo hi:Option Int):Str:=⟨(lO z.cps.toList lo hi).toArray⟩
def wQ:Zz:=fun x lo hi H Q=>match x with
 |.str z=>z.length<=sizeLine/\Q (.str (tH z lo hi)) H
 |_=>False
theorem Jj{z:Str}{lo hi:Option Int}{H:aF}{Q:aY}(hl:z.length<=sizeLine)(q:Q (.str (tH z lo hi)) H):wQ (.str z) lo hi H Q:=⟨hl,q⟩
end L3
namespace L3
open PySem PySem.Spec PyProof.Rows PySem.Calls L2
section
variable{X:Cx}
theorem Cm:∀ {bs:List Bool} {us:List Value} {i:Nat} {v:Value},Vals (bs.map V.bl) us->us[i]?=some v->∃b,bs[i]?=some b/\v=.bool b
 |[],_,i,v,.nil,e=>by simp at e
 |b::bs,_,0,v,.cons r t,e=>by
  simp at e;subst e
  exact⟨b,rfl,r⟩
 |b::bs,_,i+1,v,.cons r t,e=>by
  obtain⟨c,h1,h2⟩:=Cm (bs:=bs) (i:=i) t (by simpa using e)
  exact⟨c,by simpa using h1,h2⟩
theorem bj.wO{K:PySem.W.Frag}{H:Hp}:∀ {bs:List Bool} {vs:List V},bj K H (bs.map D.bl) vs->vs=bs.map V.bl
 |[],_,.nil=>rfl
 |_::bs,_,.cons (.bl _) t=>by rw[List.map_cons,bj.wO (bs:=bs) t]
theorem Mf{h h':Heap}{o:Obj}(hk:∀b x,b∉[h.objs.size]->(h.push o).get? b=some x->h'.get? b=some x)(b:Addr)(x:Obj)(e:h.get? b=some x):h'.get? b=some x:=by
 refine hk b x (fun hm=>?_) (Heap.get?_push_of_some _ e)
 rw[List.mem_singleton.mp hm] at e
 exact absurd (Heap.lt_size e) (Nat.lt_irrefl _)
theorem Kd(hc:X.calm=true):cR X (.builtin "all") (fun xs H Q=>∃(a:Addr) (bs:List Bool),xs=[.ref a]/\jF X.K H a (bs.map V.bl)/\Q (.bl (bs.all id)) H):=by
 intro pins s σ H xs us Q I r h
 obtain⟨a,bs,rfl,hq,q⟩:=h
 obtain⟨u,rfl,ru⟩:=vals1 r
 cases ru
 obtain⟨its,rv,pl,_⟩:=I.list hq
 have hl:=pl.isList
 have hlt:a<s.heap.objs.size:=by obtain⟨_,e,_⟩:=hl;exact Heap.lt_size e
 have hlen:its.length=bs.length:=by have:=rv.length;rw[List.length_map] at this;exact this.symm
 refine call_all_walk (wpAny_pyIter_list hl ?_)
 refine⟨s.heap.objs.size,[s.heap.objs.size,a],[s.heap.objs.size],its.toArray.size,_,_,fun i=>(bs[i]?).getD true,rfl,
  Walks.list (A:=X.A.in1) (I.ok.hd hc) _ a (Nat.ne_of_lt hlt) its.toArray,⟨⟨_,Heap.get?_push_size _ rfl,rfl,rfl⟩,hl.push _⟩,?_,?_⟩
 ·intro i v s' Q' E' hP hQ
  obtain⟨b,e,rfl⟩:=Cm rv (i:=i) (v:=v) (by simpa using hP)
  dsimp only at hQ
  rw[e,Option.getD_some] at hQ
  exact wpAny_truthy_bool hQ
 ·intro h' tk hk
  rw[List.size_toArray,hlen,LSm.range_all]
  exact⟨.bl (bs.all id),H,I.kept (Mf hk),rfl,q⟩
theorem Sh{id:String}{f:List Bool->Bool}(h:cR X (.builtin id) (fun xs H Q=>∃(a:Addr) (bs:List Bool),xs=[.ref a]/\jF X.K H a (bs.map V.bl)/\Q (.bl (f bs)) H)):cR X (.builtin id) (ik X.K (O4 f)):=by
 intro pins s σ H xs us Q I rs t
 obtain⟨ds,H3,Q3,hr,rd,t,k⟩:=t
 cases rd with
 |nil=>exact t.elim
 |cons r1 r2=>
  cases r2 with
  |cons _ _=>cases r1 <;> exact t.elim
  |nil=>
   cases r1 with
   |ref a=>
    (delta O4 at t;dsimp only at t)
    split at t
    ·rename_i ds ha
     split at t
     ·rename_i bs e
      obtain⟨vs,ga,ra⟩:=hr a _ ha
      have z:=sW e
      subst z
      have z:=ra.wO
      subst z
      exact h pins s σ H _ us Q I rs ⟨a,bs,rfl,jF.of ga,k _ _ _ _ TK.refl hr (.bl _) t⟩
     ·exact t.elim
    ·exact t.elim
   |_=>exact t.elim
theorem Ul(hc:X.calm=true):cR X (.builtin "all") (ik X.K Vo):=Sh (Kd hc)
end
end L3
namespace L3
open PySem PySem.Spec PyProof.Rows L2
def Itx(x:Str):It:=⟨fun i _=>i<x.cps.size,fun i H v H'=>H'=H/\∃c,x.cps[i]?=some c/\v=.str ⟨#[c]⟩,fun i _=>x.cps.size<=i⟩
theorem xu{P:Program}{w:World}{K:PySem.W.Frag}{tg:Expr}{ty:String}{x:Str}{t:Tok}(it:Addr)
  (hn:["enumerate", "zip", "dict_itemiterator", "dict_reverseitemiterator", "odict_iterator", "itertools.zip_longest", "itertools.pairwise"].contains ty=false)
  (W:∀A':Around,A'.handled=none->Walks P w A' it [it] [it] x.cps.size (SignAt x) (fun i h=>h.IsStrIter it ty x t i))
  (S:∀(A:Around) (i:Nat) (s:Shared) (Q:Value->Shared->Prop) (E:Value->Shared->Prop),s.heap.IsStrIter it ty x t i->Q (.ref it) s->wpAny (model P w) A (pyIter (.ref it)) Q E s) :
  Turn P w K tg (Itx x) [it] it (fun i h=>i<=x.cps.size/\h.IsStrIter it ty x t i) where
 mem:=List.mem_singleton.mpr rfl
 obj:=by
  rintro i h ⟨_,o,e,_,d⟩ b hb
  rw[List.mem_singleton.mp hb]
  exact⟨o,e,fun v z=>by rw[d] at z;cases z⟩
 keep:=by
  rintro i h h' ⟨l,o,e,c⟩ k
  exact⟨l,o,k it (List.mem_singleton.mpr rfl) o e,c⟩
 item:=by
  intro X hP hw hK hc i pins s σ H E I hf st hg
  subst hP hw hK
  obtain⟨f0,f1,f2,f3,f4,f5⟩:=hf it (List.mem_singleton.mpr rfl)
  refine (W X.A (I.ok.hd hc)).item i s _ _ hg st.2 fun v h' tk hv st' kk=>?_
  obtain⟨c,u,hcx,rfl⟩:=hv
  have I1:L2.Inv X pins σ H { s with heap:=h',toks:=tk }:=I.turned (fun b o hb e=>kk b o (fun z=>hb (List.mem_singleton.mp z)) e) f0 f1 f3 f4 f5
  obtain⟨o,e,hcl,d⟩:=id st'
  exact⟨_,rfl,xO (s:={ s with heap:=h',toks:=tk }) e hcl d hn ⟨.str ⟨#[c]⟩,H,I1,⟨u,rfl⟩,⟨rfl,c,hcx,rfl⟩,⟨hg,st'⟩,fun b hb=>(hf b hb).1⟩⟩
 done:=by
  intro X hP hw hK hc i pins s σ H E I hf st hg
  subst hP hw hK
  obtain⟨f0,f1,f2,f3,f4,f5⟩:=hf it (List.mem_singleton.mpr rfl)
  have hi:i=x.cps.size:=Nat.le_antisymm st.1 hg
  subst hi
  exact (W X.A (I.ok.hd hc)).done s _ _ st.2 fun h' tk kk=>⟨rfl,I.turned (t':=tk) (fun b o hb e=>kk b o (fun z=>hb (List.mem_singleton.mp z)) e) f0 f1 f3 f4 f5⟩
 self:=fun A i s Q E st h=>S A i s Q E st.2 h
section
variable{X:Cx}
def Z7(tl:TE):TI:=fun σ H R=>tl σ H fun x H1=>∃z,x=.str z/\R (Itx z) H1
theorem Vj{tg l:Expr}{tl:TE}(hl:PE X l tl):PI X tg l (Z7 tl):=by
 intro pins s σ H R I h
 refine cJ (hl pins s σ H _ I h) fun v s1 zz=>?_
 obtain⟨x,H1,I1,r1,q1⟩:=zz
 obtain⟨z,rfl,q⟩:=q1
 obtain⟨t,rfl⟩:=r1
 have fp:∀b∈[s1.heap.objs.size],fB X pins H1 b:=fun b hb=>by
  rw[List.mem_singleton.mp hb]
  exact I1.yS (Nat.le_refl _) (I1.hok.fresh (Nat.le_refl _))
 cases ha:z.cps.all (· < 128)
 ·refine wpAny_pyIter_wide ha ?_
  exact⟨s1.heap.objs.size,[s1.heap.objs.size],_,_,H1,rfl,I1.kept (t':=s1.toks) fun b o e=>Heap.get?_push_of_some _ e,
   xu (ty := "str_iterator") (x:=z) (t:=t) _ (by decide) (fun A' hA=>Walks.strWide hA _ z t) (fun A i s Q E st h=>wpAny_pyIter_striter_wide st h),⟨Nat.zero_le _,_,Heap.get?_push_size _ rfl,rfl,rfl⟩,fp,q⟩
 ·refine wpAny_pyIter_ascii ha ?_
  exact⟨s1.heap.objs.size,[s1.heap.objs.size],_,_,H1,rfl,I1.kept (t':=s1.toks) fun b o e=>Heap.get?_push_of_some _ e,
   xu (ty := "str_ascii_iterator") (x:=z) (t:=t) _ (by decide) (fun A' hA=>Walks.strAscii hA _ z t) (fun A i s Q E st h=>wpAny_pyIter_striter_ascii st h),⟨Nat.zero_le _,_,Heap.get?_push_size _ rfl,rfl,rfl⟩,fp,q⟩
theorem JC{K:PySem.W.Frag}{H:Hp}{z:Str}:GD K H (lets z) (fun _=>True) (Itx z):=fun H3 H' tk hr _=>by
 have hl:(lets z).length=z.cps.size:=by unfold lets;rw[List.length_map,Array.length_toList]
 refine⟨fun i hi=>⟨by rw[hl] at hi;exact hi,fun x H'' y=>?_⟩,by rw[hl];exact Nat.le_refl _⟩
 obtain⟨e,c,hc,rfl⟩:=y
 subst e
 refine⟨TK.refl,hr,.str ⟨#[c]⟩,?_,.str _⟩
 unfold lets
 rw[List.getElem?_map,Array.getElem?_toList,hc]
 rfl
theorem Uk{tg e:Expr}{te:cC}(h:cN X e te):Tt X tg e (iz3 te) :=
 rT (Vj h) fun _ _ _ ⟨σ3,H3,R3,sr,hr,t,k⟩=>⟨σ3,H3,_,sr,hr,t,fun x v H3a Ha tka hra rx qa=>by
  cases rx with
  |str z=>exact⟨z,rfl,k _ _ _ _ _ tka hra JC qa⟩
  |_=>exact qa.elim⟩
end
end L3
namespace L3
open PySem PySem.Spec PyProof.Rows L2
section
variable{X:Cx}
theorem bj.Pb{K:PySem.W.Frag}{H:Hp}{bs:List Str}:∀ {vs:List V},bj K H (bs.map D.str) vs->vs=bs.map V.str:=by
 induction bs with
 |nil=>intro vs h;cases h;rfl
 |cons b bs ih=>
  intro vs h
  cases h with
  |cons r t=>
   cases r
   rw[ih t];rfl
theorem Hz:∀ {ys:List Str} {us:List Value},Vals (ys.map V.str) us->StrsAre us ys
 |[],_,.nil=>.nil
 |y::ys,_,.cons r t=>by
  obtain⟨k,rfl⟩:=r
  exact .cons y k (Hz t)
theorem Ox:HQ X "str.join" (fun x xs H Q=>∃(z:Str) (a:Addr) (ys:List Str),x=.str z/\xs=[.ref a]/\jF X.K H a (ys.map V.str)/\(ys.map fun y=>y.cps.size).sum+ys.length*z.cps.size<=16777216/\Q (.str (sV z ys)) H):=by
 intro pins s σ H x xs v us Q I rx rs h
 obtain⟨z,a,ys,rfl,rfl,hq,hl,q⟩:=h
 obtain⟨t,rfl⟩:=rx
 obtain⟨u,rfl,ru⟩:=vals1 rs
 cases ru
 obtain⟨its,rv,pl,_⟩:=I.list hq
 refine join_list pl.isList (ys:=ys) (by simpa using Hz rv) hl fun t' k=>?_
 exact⟨.str (sV z ys),H,I.kept (t':=k) fun _ _ e=>e,⟨t',rfl⟩,q⟩
theorem Lj:HQ X "str.index" (fun x xs H Q=>∃(z y:Str) (i:Nat),x=.str z/\xs=[.str y]/\pA z y=some i/\Q (.int i) H):=by
 intro pins s σ H x xs v us Q I rx rs h
 obtain⟨z,y,i,rfl,rfl,hi,q⟩:=h
 obtain⟨t,rfl⟩:=rx
 obtain⟨u,rfl,ru⟩:=vals1 rs
 obtain⟨t2,rfl⟩:=ru
 unfold pA at hi
 rw[List.find?_range_eq_some] at hi
 obtain⟨h1,h2,h3⟩:=hi
 rw[Bool.and_eq_true,decide_eq_true_eq] at h1
 have at_i:StrLaws.At z y z.length i:=⟨h1.1,h1.2⟩
 rcases StrLaws.occ_head z y 1 (Nat.le_refl _) with ⟨_,hn⟩ | ⟨j,r,e,hj,hn⟩
 ·exact absurd at_i (hn i)
 ·have hij:j=i:=by
   rcases Nat.lt_trichotomy i j with hlt | heq | hgt
   ·exact absurd at_i (hn i hlt)
   ·exact heq.symm
   ·have:=h3 j hgt
    rw[Bool.not_eq_true',Bool.and_eq_false_iff] at this
    rcases this with w | w
    ·rw[decide_eq_false_iff_not] at w
     exact absurd hj.1 w
    ·have w2:=hj.2
     unfold Builtin.Str.subAt at w2
     exact absurd (show (z.cps.extract j (j+y.cps.size)==y.cps)=true from w2) (by rw[w];decide)
  subst hij
  exact SC.index e ⟨.int j,H,I.tok _,⟨_,rfl⟩,q⟩
theorem Pr:HQ X "str.join" (liftM X.K rC):=by
 intro pins s σ H x xs v us Q I rx rs t
 obtain⟨d,ds,H3,Q3,hr,rd,rds,t,k⟩:=t
 cases rd with
 |str z=>
  cases rds with
  |nil=>exact t.elim
  |cons r1 r2=>
   cases r2 with
   |cons _ _=>cases r1 <;> exact t.elim
   |nil=>
    cases r1 with
    |ref a=>
     (delta rC at t;dsimp only at t)
     split at t
     ·rename_i ds ha
      split at t
      ·rename_i ys e
       obtain⟨vs,ga,ra⟩:=hr a _ ha
       have w:=uU e
       subst w
       have w:=ra.Pb
       subst w
       exact Ox pins s σ H _ _ v us Q I rx rs ⟨z,a,ys,rfl,rfl,jF.of ga,t.1,k _ _ _ _ TK.refl hr (.str _) t.2⟩
      ·exact t.elim
     ·exact t.elim
    |_=>exact t.elim
 |_=>exact t.elim
theorem J1:HQ X "str.index" (liftM X.K pO):=by
 intro pins s σ H x xs v us Q I rx rs t
 obtain⟨d,ds,H3,Q3,hr,rd,rds,t,k⟩:=t
 cases rd with
 |str z=>
  cases rds with
  |nil=>exact t.elim
  |cons r1 r2=>
   cases r2 with
   |cons _ _=>cases r1 <;> exact t.elim
   |nil=>
    cases r1 with
    |str y=>
     (delta pO at t;dsimp only at t)
     split at t
     ·rename_i i e
      exact Lj pins s σ H _ _ v us Q I rx rs ⟨z,y,i,rfl,rfl,e,k _ _ _ _ TK.refl hr (.int _) t⟩
     ·exact t.elim
    |_=>exact t.elim
 |_=>exact t.elim
theorem VM{o e:Expr}{es:List Expr}{to:cC}{t:t8}{name:Str}{apos cpos:Pos}{id:String}{r:D->List D->aF->aY->Prop}(slot:Slot "str" name id)(hty:typeOf (.builtin id)=pure (.type "method_descriptor"))
  (hm:HQ X id (liftM X.K r)) (ho:cN X o to) (ha:Mu X (e::es) t) (hbase:attributeBase o name X.env (eval o X.env)=eval o X.env:=by rfl)
  (hfew:((backTo cpos (starEach (e::es) X.env)).all (fun x=>!x.1)&&(backToKw cpos (keywordEach [] X.env)).all (fun x=>x.1.isSome)&&decide ((e::es).length+([]:List Keyword).length+(if ([]:List Keyword).isEmpty then 0 else 1)<30))=true:=by rfl)
  (hline:(apos.endLine==cpos.line)=true:=by rfl) (hs:starEach (e::es) X.env=(false,eval e X.env)::starEach es X.env:=by rfl) (hplain:(backTo cpos (starEach es X.env)).any (·.1)=false:=by rfl) :
  cN X (.Call (.Attribute o name apos) (e::es) [] cpos) (mz3 r to t) :=
 bL (V1 PySem.F.plainAttrs_str slot hty hm ho ha hbase hfew hline hs hplain) fun _ _ _ zz=>zz.ex fun σ3 H3 Q3 sr hr t k=>⟨σ3,H3,_,sr,hr,t,fun x v H3a Ha tka hra rx qa=>by
  cases rx with
  |str z=>
   exact⟨rfl,σ3,H3a,_,sr.mono tka,hra,qa,fun ds vs H3b Hb tkb hrb rs qb=>⟨.str z,ds,H3b,Q3,hrb,.str z,rs,qb,(k.mono tka).mono tkb⟩⟩
  |_=>exact qa.elim⟩
end
end L3
namespace L3
open PySem PySem.Spec PyProof.Rows L2
section
variable{X:Cx}
theorem I9(v:Option Int)(d n:Nat):(match v with | none=>(d:Int) | some i=>max 0 (min (if i<0 then i+(n:Int) else i) (n:Int)))=((HT.eQ n d v:Nat):Int):=by
 cases v with
 |none=>rfl
 |some i=>
  unfold HT.eQ
  dsimp only
  split <;> grind
theorem Eb(lo hi:Option Int)(n:Nat):Builtin.Str.strSliceIndices lo hi 1 n=(List.range (HT.eQ n n hi-HT.eQ n 0 lo)).map (HT.eQ n 0 lo + ·):=by
 have e1:=I9 lo 0 n
 have e2:=I9 hi n n
 rw[←sliceRange_one,←e1,←e2]
 cases lo <;> cases hi <;> rfl
theorem ZK(v:Option Int)(n:Nat):HT.eQ n n v<=n:=by
 cases v with
 |none=>exact Nat.le_refl n
 |some i=>
  unfold HT.eQ
  dsimp only
  split <;> grind
theorem Jy(z:Str)(lo hi:Option Int):Txt.slice z lo hi=tH z lo hi:=by
 have hl:z.cps.toList.length=z.length:=Array.length_toList
 have hh:=ZK hi z.length
 unfold Txt.slice tH lO
 rw[Eb,pick_run,hl]
 split
 ·rename_i c
  rw[Bool.and_eq_true] at c
  have c2:=c.2
  rw[beq_iff_eq] at c2
  have c3:HT.eQ z.length z.length hi-HT.eQ z.length 0 lo=z.length:=by simpa using c2
  obtain⟨a⟩:=z
  congr 1
  apply Array.ext'
  rw[c3]
  by_cases h0:a.size=0
  ·have e:a=#[]:=Array.eq_empty_of_size_eq_zero h0
   subst e
   simp
  ·have hlo:HT.eQ (Str.length ⟨a⟩) 0 lo=0:=by
    have h1:Str.length ⟨a⟩=a.size:=rfl
    grind
   rw[hlo,List.drop_zero,List.take_of_length_le (by rw[hl];exact Nat.le_refl _)]
 ·rfl
theorem Uv:ZC X (fun x lo hi H Q=>∃z,x=.str z/\z.length<=sizeLine/\Q (.str (tH z lo hi)) H):=by
 intro pins s σ H x v vl vu lo hi sl Q I rx hs pl pu h
 obtain⟨z,rfl,hz,q⟩:=h
 obtain⟨t,rfl⟩:=rx
 have fin:∀t' k,EP X pins σ Q (.str (Txt.slice z lo hi) t') { s with toks:=k }:=fun t' k=>by
  rw[Jy]
  exact⟨.str (tH z lo hi),H,I.kept (t':=k) fun _ _ e=>e,⟨t',rfl⟩,q⟩
 refine⟨"str",_,F.slot_str_getitem.lookup,typeIs_str _ _ _,?_⟩
 cases pl with
 |none=>
  cases pu with
  |none=>exact wpAny_getItem_str_slice (l:=none) (u:=none) (st:=none) hs rfl (post_val_or_str ⟨Nat.le_trans (Txt.slice_le z _ _) hz,fin⟩)
  |int j u=>exact wpAny_getItem_str_slice (l:=none) (u:=some (j,u)) (st:=none) hs rfl (post_val_or_str ⟨Nat.le_trans (Txt.slice_le z _ _) hz,fin⟩)
 |int i w=>
  cases pu with
  |none=>exact wpAny_getItem_str_slice (l:=some (i,w)) (u:=none) (st:=none) hs rfl (post_val_or_str ⟨Nat.le_trans (Txt.slice_le z _ _) hz,fin⟩)
  |int j u=>exact wpAny_getItem_str_slice (l:=some (i,w)) (u:=some (j,u)) (st:=none) hs rfl (post_val_or_str ⟨Nat.le_trans (Txt.slice_le z _ _) hz,fin⟩)
theorem ql:ZC X (Eu X.K wQ):=by
 intro pins s σ H x v vl vu lo hi sl Q I rx hs pl pu h
 obtain⟨d,H3,Q3,hr,rd,t,k⟩:=h
 cases rd with
 |str z=>exact Uv pins s σ H _ v vl vu lo hi sl Q I rx hs pl pu ⟨z,rfl,t.1,k _ _ _ _ TK.refl hr (.str _) t.2⟩
 |_=>exact t.elim
end
end L3
namespace L3
open PySem L2
def Bt(n:Nat)(i:Int):Prop:=i.natAbs<2 ^ n
section
variable{m n:Nat}{i j:Int}
theorem Bt.mono(h:Bt m i)(l:m<=n):Bt n i:=Nat.lt_of_lt_of_le h (Nat.pow_le_pow_right (by decide) l)
theorem Bt.of_le(h:Bt m j)(l:i.natAbs<=j.natAbs):Bt m i:=Nat.lt_of_le_of_lt l h
theorem Bt.add(h:Bt m i)(g:Bt n j):Bt (max m n+1) (i+j):=by
 have h':=Bt.mono h (Nat.le_max_left m n)
 have g':=Bt.mono g (Nat.le_max_right m n)
 show _<_
 rw[Nat.pow_succ,Nat.mul_two]
 exact Nat.lt_of_le_of_lt (Int.natAbs_add_le i j) (Nat.add_lt_add h' g')
theorem Bt.neg(h:Bt m i):Bt m (-i):=by unfold Bt at *;rw[Int.natAbs_neg];exact h
theorem Bt.sub(h:Bt m i)(g:Bt n j):Bt (max m n+1) (i-j):=by rw[Int.sub_eq_add_neg];exact h.add g.neg
theorem Bt.mul(h:Bt m i)(g:Bt n j):Bt (m+n) (i*j):=by
 unfold Bt at *
 rw[Int.natAbs_mul,Nat.pow_add]
 exact Nat.mul_lt_mul'' h g
theorem Bt.div(h:Bt m i):Bt m (i / j):=Bt.of_le h (Int.natAbs_ediv_le_natAbs i j)
theorem Bt.mod(g:Bt n j)(hj:0<j):Bt n (i%j):=by
 refine g.of_le ?_
 have h1:=Int.emod_nonneg i (Int.ne_of_gt hj)
 have h2:=Int.emod_lt_of_pos i hj
 omega
theorem Bt.lit(h:i.natAbs<2 ^ n):Bt n i:=h
end
def sI(i j:Int):Prop:=XH i j\/∃m n,Bt m i/\Bt n j/\m+n<=134217728
theorem sI.of{m n:Nat}{i j:Int}(h:Bt m i)(g:Bt n j)(l:m+n<=134217728):sI i j:=.inr ⟨m,n,h,g,l⟩
def M6(_ j:Int):Prop:=0<j/\Bt 8999 j
def QV(_ j:Int):Prop:=j≠0/\Bt 8999 j
def fP:R3:=R7 sI fun i j=>.int (i*j)
def fW:R3:=R7 M6 fun i j=>.int (i / j)
def En:R3:=R7 QV fun i j=>.int (i.fdiv j)
def Fi:R3:=R7 (fun _ j=>j≠0) fun i j=>.int (i.fmod j)
section
variable{σ:cO}{H:aF}{Q:aY}{i j:Int}{d x y:D}{ds es:List D}
theorem Ej(c:sI i j)(q:Q (.int (i*j)) H):fP (.int i) (.int j) H Q:=⟨c,q⟩
theorem Xr(c:M6 i j)(q:Q (.int (i / j)) H):fW (.int i) (.int j) H Q:=⟨c,q⟩
theorem Wv(c:QV i j)(q:Q (.int (i.fdiv j)) H):En (.int i) (.int j) H Q:=⟨c,q⟩
theorem Yq(c:j≠0)(q:Q (.int (i.fmod j)) H):Fi (.int i) (.int j) H Q:=⟨c,q⟩
def Oz:List D->aF->aY->Prop:=fun ds H Q=>match ds with
 |[.int i]=>Q (.int (if i<0 then -i else i)) H
 |_=>False
theorem aaA(q:Q (.int (if i<0 then -i else i)) H):Oz [.int i] H Q:=q
theorem Cp.rQ{g:v9}{σ0:cO}{te:cC}{lo:Int}{n:Nat}(F:Nat->D)(hl:n<=1000)
  (hel:∀i:Nat,i<n->∀(R:aY) (H2:aF),aN H H2->(∀H6,aN H2 H6->R (F i) H6)->g (.int (lo+(i:Int))) σ0 H2 fun σ2 H4=>te σ2 H4 R)
  (fin:∀p,H p=none->Q (.ref p) (aO H p (.lst ((List.range n).map F)))):Cp g rG te σ0 (rQ lo n) (fun _=>True) H Q :=
 Cp.map F (fun _ _=>trivial) (by rw[List.length_range];exact hl) (fun _ a ha=>hel a (List.mem_range.mp (List.mem_of_getElem? ha))) fin
end
def tG(ds es:List D):List D:=List.zipWith (fun x y=>D.tup [x,y]) ds es
section
variable{σ:cO}{H:aF}{a b:Addr}{ds es:List D}
theorem Aq{α β:Type}{f:α->D}{g:β->D}:∀(as:List α) (bs:List β),tG (as.map f) (bs.map g)=(as.zip bs).map fun p=>D.tup [f p.1,g p.2]
 |[],_=>rfl
 |_::_,[]=>rfl
 |a::as,b::bs=>by
  have ih:=Aq (f:=f) (g:=g) as bs
  unfold tG at ih ⊢
  rw[List.map_cons,List.map_cons,List.zipWith_cons_cons,ih,List.zip_cons_cons,List.map_cons]
def kdk(kvs:List (Str×D))(x:D)(H:aF)(Q:aY):Prop:=match x with
 | .str z => (match kvs.lookup z with
  |some d=>Q d H
  |none=>False)
 |_=>False
def kd3(kvs:List (Str×D))(te:cC):cC:=fun σ H Q=>te σ H fun x H1=>kdk kvs x H1 Q
theorem abw{kvs:List (Str×D)}{te:cC}{Q:aY}(h:te σ H fun x H1=>kdk kvs x H1 Q):kd3 kvs te σ H Q:=h
theorem VP{kvs:List (Str×D)}{z:Str}{d:D}{Q:aY}(hl:kvs.lookup z=some d)(h:Q d H):kdk kvs (.str z) H Q:=by (delta kdk;simp only[hl]);exact h
theorem abb{ds:List D}{i:Int}{d:D}{Q:aY}(h:nA ds i=some d)(q:Q d H):aP (.ktup ds) (.int i) H Q:=by (delta aP;simp only[h]);exact q
def irk(x:D)(H:aF)(R:List D->(aF->Prop)->aF->Prop):Prop:=match x with
 |.str z=>z.length<=sizeLine/\R (lets z).reverse (fun _=>True) H
 |_=>False
def irv(te:cC):Fw:=fun σ H R=>te σ H fun x H1=>irk x H1 R
theorem aaM{te:cC}{R:List D->(aF->Prop)->aF->Prop}(h:te σ H fun x H1=>irk x H1 R):irv te σ H R:=h
theorem aaL{z:Str}{R:List D->(aF->Prop)->aF->Prop}(hz:z.length<=sizeLine)(h:R (lets z).reverse (fun _=>True) H):irk (.str z) H R:=⟨hz,h⟩
end
end L3
namespace L3
open PySem PySem.Spec PyProof.Rows L2
section
variable{X:Cx}
theorem sI.ok{i j:Int}(h:sI i j):IntMulOk i j:=by
 rcases h with h | ⟨m,n,h1,h2,h3⟩
 ·exact h.ok
 ·exact IntMulOk.of_le (intBits_le_iff.mpr h1) (intBits_le_iff.mpr h2) h3
theorem Bt.log{j:Int}(h:Bt 8999 j):j.natAbs.log2<9000:=by
 by_cases h0:j.natAbs=0
 ·rw[h0];decide +kernel
 ·have:=(Nat.log2_lt h0).mpr h
  omega
theorem dI:gJ X (binaryOp .Mult) (bV X.K fP):=rE (Zt fun _ _ _ _ _ _ _ hc q=>mul_int q (sI.ok hc)) fun _ _ _=>.int _
theorem cV:gJ X (binaryOp .FloorDiv) (bV X.K fW):=rE (Zt fun i j _ _ _ _ _ hc q=>by
 have h1:(0:Int)<j:=hc.1
 exact floordiv_int (by omega) (by rw[Int.fdiv_eq_ediv_of_nonneg i (by omega)];exact q) (.inl (PyProof.noPylong_of_log2 (Bt.log hc.2)))) fun _ _ _=>.int _
theorem Kh:gJ X (binaryOp .FloorDiv) (bV X.K En):=rE (Zt fun i j _ _ _ _ _ hc q=>floordiv_int hc.1 q (.inl (PyProof.noPylong_of_log2 (Bt.log hc.2)))) fun _ _ _=>.int _
theorem Q5:gJ X (binaryOp .Mod) (bV X.K Fi):=rE Tg fun _ _ _=>.int _
theorem Va:cR X (.builtin "abs") (ik X.K Oz):=by
 intro pins s σ H xs us Q I rs t
 obtain⟨ds,H3,Q3,hr,rd,t,k⟩:=t
 cases rd with
 |nil=>exact t.elim
 |cons r1 r2=>
  cases r2 with
  |cons _ _=>cases r1 <;> exact t.elim
  |nil=>
   cases r1 with
   |int i=>exact Oc pins s σ H _ us Q I rs ⟨i,rfl,k _ _ _ _ TK.refl hr (.int _) t⟩
   |_=>exact t.elim
end
end L3
namespace L3
open PySem PySem.Spec PyProof.Rows L2
section
variable{X:Cx}{pins:List (Addr×Obj)}{σ:St}{H:Hp}{s:Shared}{h':Heap}
theorem K5{t':Nat}{ch:List Addr}{T:Addr}{o:HO}(I:L2.Inv X pins σ H s)(k:∀b u,b∉ch->s.heap.get? b=some u->h'.get? b=some u)
  (hf:∀b∈ch,fB X pins H b) (hp:s.heap.objs.size<=T) (new:bZ X.prog X.w (upd H T o) h' T o):L2.Inv X pins σ (upd H T o) { s with heap:=h',toks:=t' }:=by
 have hn:H T=none:=I.hok.fresh hp
 refine I.step (g':=s.gens) (d':=s.drawn) (ch:=ch) (fun b hb=>?_) (fun b u _ _ hc e _=>k b u hc e) (fun b u _ _ hc e _=>⟨u.slots,k b u hc e⟩)
  (fun b u _ e n=>by rw[aD (Nat.ne_of_lt (Nat.lt_of_lt_of_le (Heap.lt_size e) hp))];exact n) (fun b u hc e=>⟨u,k b u hc e⟩)
  (fun b xs q=>by rw[aD (bH q hn)];exact q) (fun b u xs q=>by rw[aD (bH q hn)];exact q) (fun b ps q=>⟨#[],by rw[aD (bH q hn),q];simp⟩) (fun m hm=>?_) (fun b u e=>?_) I.bare
 ·obtain⟨f0,f1,f2,f3,f4,f5⟩:=hf b hb
  exact⟨f3,f1,f4,f5⟩
 ·obtain⟨u,es,ep,hu,r⟩:=hm
  exact⟨u,es,ep,k _ u (fun z=>(hf _ z).2.1 rfl) hu,r⟩
 ·by_cases hb:b=T
  ·subst hb;rw[aQ] at e;cases e;exact new
  ·rw[aD hb] at e
   refine (I.hok b u e).stay (fun c v hc q=>k c v (fun z=>?_) q) (fun c q=>by rw[aD (bH q hn)];exact q) fun c xs q=>by rw[aD (bH q hn)];exact q
   have f0:=(hf c z).1
   rcases hc with rfl | hc
   ·rw[f0] at e;cases e
   ·rw[f0] at hc;cases hc
theorem yq{t':Nat}{ch:List Addr}(I:L2.Inv X pins σ H s)(k:∀b u,b∉ch->s.heap.get? b=some u->h'.get? b=some u)
  (hf:∀b∈ch,fB X pins H b):L2.Inv X pins σ H { s with heap:=h',toks:=t' }:=by
 refine I.step (g':=s.gens) (d':=s.drawn) (ch:=ch) (fun b hb=>?_) (fun b u _ _ hc e _=>k b u hc e) (fun b u _ _ hc e _=>⟨u.slots,k b u hc e⟩)
  (fun b u _ e n=>n) (fun b u hc e=>⟨u,k b u hc e⟩)
  (fun b xs q=>q) (fun b u xs q=>q) (fun b ps q=>⟨#[],by rw[q];simp⟩) (fun m hm=>?_) (fun b u e=>?_) I.bare
 ·obtain⟨f0,f1,f2,f3,f4,f5⟩:=hf b hb
  exact⟨f3,f1,f4,f5⟩
 ·obtain⟨u,es,ep,hu,r⟩:=hm
  exact⟨u,es,ep,k _ u (fun z=>(hf _ z).2.1 rfl) hu,r⟩
 ·refine (I.hok b u e).stay (fun c v hc q=>k c v (fun z=>?_) q) (fun c q=>q) fun c xs q=>q
  have f0:=(hf c z).1
  rcases hc with rfl | hc
  ·rw[f0] at e;cases e
  ·rw[f0] at hc;cases hc
end
section
variable{X:Cx}{tg:Expr}
theorem boot_zip:bootBuiltins "zip" = some (.type "zip"):=by rfl
end
end L3
namespace L3
open PySem PySem.Spec PyProof.Rows L2
theorem Vals.aax{xs:List V}{us:List Value}{x:V}{u:Value}(h:Vals xs us)(r:RelV x u):Vals (xs++[x]) (us++[u]):=Paired.snoc h r
section
variable{X:Cx}
theorem boot_reversed:bootBuiltins "reversed" = some (.type "reversed"):=by rfl
theorem boot_list:bootBuiltins "list" = some (.type "list"):=by rfl
end
end L3
namespace L3
open PySem PySem.Spec PyProof.Rows L2
inductive An(K:PySem.W.Frag):D->Value->Prop
 |str (x:Str) (t:Tok):An K (.str x) (.str x t)
 |int (i:Int) (t:Tok):An K (.int i) (.int i t)
 |tupI {a:Addr} {ns:List Int}:KTp K a (ns.map V.int)->An K (.ktup (ns.map D.int)) (.ref a)
theorem An.rep{K:PySem.W.Frag}{H:Hp}{d:D}{v:Value}(r:An K d v):∃y,RelV y v/\Rep K H d y:=by
 cases r with
 |str x t=>exact⟨.str x,⟨t,rfl⟩,.str x⟩
 |int i t=>exact⟨.int i,⟨t,rfl⟩,.int i⟩
 |tupI h=>exact⟨.ref _,rfl,.ktup h (bj.ints _)⟩
inductive Di(w:World)(K:PySem.W.Frag):List DictEntry->List (Str×D)->Prop
 |nil:Di w K [] []
 |cons {k:Str} {d:D} {t:Tok} {v:Value} {es:List DictEntry} {kvs:List (Str×D)}:An K d v->Di w K es kvs->Di w K (⟨hashStr w k,.str k t,v⟩::es) ((k,d)::kvs)
structure DC(K:PySem.W.Frag)(w:World)(a:Addr)(kvs:List (Str×D)):Prop where
 ob:∃o es ep,K.lookup a=some o/\o.ExactDict/\o.data=.dict es ep/\Di w K es.toList kvs
 nd:(kvs.map (·.1)).Nodup
 ns:(a==sysModules)=false
theorem Di.pairs{P:Program}{w:World}{K:PySem.W.Frag}:∀ {es:List DictEntry} {kvs:List (Str×D)},Di w K es kvs->∃vs:List (Key×Value),Pairs (bW P w) es vs/\vs.map (·.1)=kvs.map (fun p=>(Sum.inr p.1:Key)) /\
  (∀e∈es,∃k,(bW P w).is k e.key=true/\e.hash=(bW P w).hash k)/\(∀z d,kvs.lookup z=some d->∃v,valueAt vs (.inr z)=some v/\An K d v)/\∀z,kvs.lookup z=none->valueAt vs (.inr z)=none
 |_,_,.nil=>⟨[],.nil,rfl,by simp,by simp,fun z _=>rfl⟩
 |_,_,.cons (k:=k) (d:=d) (t:=t) (v:=v) r h=>by
  obtain⟨vs,h1,h2,h3,h4,h5⟩:=Di.pairs (P:=P) h
  refine⟨(.inr k,v)::vs,.cons (lJ P w k t) rfl h1,by rw[List.map_cons,h2];rfl,?_,?_,?_⟩
  ·intro e he
   rcases List.mem_cons.mp he with rfl | he
   ·exact⟨.inr k,lJ P w k t,rfl⟩
   ·exact h3 e he
  ·intro z dz hz
   by_cases e:z=k
   ·subst e
    rw[List.lookup_cons,beq_self_eq_true] at hz
    cases hz
    exact⟨v,by unfold valueAt;rw[List.find?_cons_of_pos (by simp)];rfl,r⟩
   ·have hb:(z==k)=false:=beq_eq_false_iff_ne.mpr e
    rw[List.lookup_cons,hb] at hz
    obtain⟨v',q1,q2⟩:=h4 z dz hz
    refine⟨v',?_,q2⟩
    unfold valueAt at q1 ⊢
    rw[List.find?_cons_of_neg (by simp;exact fun q=>e q.symm)]
    exact q1
  ·intro z hz
   have e:z≠k:=by
    rintro rfl
    rw[List.lookup_cons,beq_self_eq_true] at hz
    cases hz
   have hb:(z==k)=false:=beq_eq_false_iff_ne.mpr e
   rw[List.lookup_cons,hb] at hz
   have q1:=h5 z hz
   unfold valueAt at q1 ⊢
   rw[List.find?_cons_of_neg (by simp;exact fun q=>e q.symm)]
   exact q1
theorem DC.dict{K:PySem.W.Frag}{P:Program}{w:World}{a:Addr}{kvs:List (Str×D)}{h:Heap}(c:DC K w a kvs)(hk:K.In h):∃vs:List (Key×Value),h.DictOf (bW P w) a vs/\(∀z d,kvs.lookup z=some d->∃v,valueAt vs (.inr z)=some v/\An K d v)/\∀z,kvs.lookup z=none->valueAt vs (.inr z)=none:=by
 obtain⟨o,es,ep,h1,h2,h3,h4⟩:=c.ob
 obtain⟨vs,p1,p2,p3,p4,p5⟩:=Di.pairs (P:=P) h4
 refine⟨vs,⟨o,es,ep,hk a o h1,h2,h3,fun e he=>p3 e (by simpa using he),p1,?_⟩,p4,p5⟩
 rw[p2]
 have:=c.nd
 rw[List.nodup_iff_pairwise_ne,List.pairwise_map] at this ⊢
 exact this.imp fun h q=>h (Sum.inr.inj q)
section
variable{X:Cx}
def tKd(K:PySem.W.Frag)(kvs:List (Str×D))(te:TE):TE:=fun σ H Q=>te σ H fun x H1=>∃z d,x=.str z/\kvs.lookup z=some d/\∀v y,RelV y v->Rep K H1 d y->Q y H1
theorem aah{x:Str}{a:Addr}{kvs:List (Str×D)}{e:Expr}{te:TE}{p pos:Pos}(hg:Gl X x)(hm:X.mg x=some (.ref a))(c:DC X.K X.w a kvs)(he:PE X e te)(hs:Ru e)(hd:(x==("__debug__" : Str))=false:=by decide):PE X (.Subscript (.Name x p) e pos) (tKd X.K kvs te):=by
 intro pins s σ H Q I h
 refine Jd PySem.F.slot_dict_getitem.lookup hs (Ik I hg hm (cJ (he pins s σ H _ I h) fun iv s2 zz=>?_) hd)
 obtain⟨y,H2,I2,ry,z,d,ey,hl,q2⟩:=zz
 subst ey
 obtain⟨vs,dd,h1,_⟩:=c.dict (P:=X.prog) I2.tV
 obtain⟨v,hv,rk⟩:=h1 z d hl
 obtain⟨y,ryv,rep⟩:=rk.rep (H:=H2)
 exact⟨dd.typeIs,wpAny_getItem_of (xf (k:=.inr z) ry) dd.mapOf hv ⟨y,H2,I2.tok _,ryv,q2 v y ryv rep⟩⟩
theorem VJ{x:Str}{kvs:List (Str×D)}{e:Expr}{te:cC}{p pos:Pos}(hg:Gl X x)(hm:∃a,X.mg x=some (.ref a)/\DC X.K X.w a kvs)(he:cN X e te)(hs:Ru e:=by exact fun _ _=>rfl)(hd:(x==("__debug__" : Str))=false:=by decide) :
  cN X (.Subscript (.Name x p) e pos) (kd3 kvs te):=by
 obtain⟨a,hm,c⟩:=hm
 refine bL (aah hg hm c he hs hd) fun _ _ _ h=>?_
 obtain⟨σ3,H3,Q3,sr,hr,t,k⟩:=h
 refine⟨σ3,H3,_,sr,hr,t,fun x v H3a Ha tka hra rx qa=>?_⟩
 cases rx with
 |str z=>
  (delta kdk at qa;dsimp only at qa)
  split at qa
  ·rename_i d hl
   exact⟨z,d,rfl,hl,fun v y _ rep=>k _ _ _ _ tka hra rep qa⟩
  ·exact qa.elim
 |_=>exact qa.elim
end
theorem Lq:typeLookup (.type "str") "__reversed__" = pure none:=by
 rw[typeLookup_type,builtinLookup_eq_fast]
 kernel_rfl
theorem Oa:Slot "reversed" "__init__" "object.__init__" :=
 .of (owner := "object") (n := "__init__") (by rw[typeLookup_type,builtinLookup_eq_fast];kernel_rfl) (by decide +kernel) (by decide +kernel) (by decide +kernel)
  (by first | exact .inl (by decide +kernel) | exact .inr (by decide +kernel)) (by rw[isSubtype_type];kernel_rfl)
theorem Gj:TypeCalled "reversed" "reversed.__new__" "object.__init__" :=
 ⟨by decide +kernel,by decide +kernel,⟨_,_,F.mro_reversed⟩,F.made_reversed,by decide +kernel,by rw[isSubtype_type];kernel_rfl,Oa⟩
theorem lN:Slot "reversed" "__next__" "reversed.__next__" :=
 .of (owner := "reversed") (n := "__next__") (by rw[typeLookup_type,builtinLookup_eq_fast];kernel_rfl) (by decide +kernel) (by decide +kernel) (by decide +kernel)
  (by first | exact .inl (by decide +kernel) | exact .inr (by decide +kernel)) (by rw[isSubtype_type];kernel_rfl)
theorem lU:entryFor table "reversed.__next__" = some Builtin.«reversed.__next__»:=entryFor_of_tree (by kernel_rfl)
theorem w6:Manifest.owners.lookup (String.ofList ['d','e','s','r','e','v','e','r'].reverse)=some Manifest.sig_reversed:=by kernel_rfl
theorem nC(a:Value):argsOk "reversed.__next__" ⟨[a],[]⟩:=by
 unfold argsOk
 rw[signature?_of (id := "reversed.__next__") (n:=['_','_','t','x','e','n','_','_']) (o:=['d','e','s','r','e','v','e','r']) (by kernel_rfl) w6]
 kernel_rfl
theorem wk(a:Value):argsOk "reversed.__iter__" ⟨[a],[]⟩:=by
 unfold argsOk
 rw[signature?_of (id := "reversed.__iter__") (n:=['_','_','r','e','t','i','_','_']) (o:=['d','e','s','r','e','v','e','r']) (by kernel_rfl) w6]
 kernel_rfl
theorem CV:Slot "reversed" "__iter__" "reversed.__iter__" :=
 .of (owner := "reversed") (n := "__iter__") (by rw[typeLookup_type,builtinLookup_eq_fast];kernel_rfl) (by decide +kernel) (by decide +kernel) (by decide +kernel)
  (by first | exact .inl (by decide +kernel) | exact .inr (by decide +kernel)) (by rw[isSubtype_type];kernel_rfl)
theorem uM:entryFor table "reversed.__iter__" = some Builtin.«dict_keyiterator.__iter__» :=
 entryFor_alias (id' := "dict_keyiterator.__iter__") (by kernel_rfl) (by first | rfl | decide +kernel | (unfold String.splitOn;simp +decide [String.splitOnAux])) (by decide +kernel) (by kernel_rfl)
theorem JX(x:Str)(t:Tok)(hfit:¬(x.length:Int)≥2 ^ 63):Meets (Builtin.«reversed.__new__» ⟨[.type "reversed",.str x t],[]⟩) (fun _ R s=>R (.ok (.ret (.ref s.heap.objs.size))) { s with heap:=s.heap.push { cls:=.type "reversed",data:=.fields #[.str x t,rawInt ((x.length:Int)-1)] },toks:=s.toks+1+1 }) :=
 .of_wp fun prog w A R s h=>by
  unfold Builtin.«reversed.__new__»
  refine wpAny_bind (wpAny_of_eq (newClass_reversed _) ?_)
  try dsimp only
  refine wpAny_bind (wpAny_of_eq (a:=()) (by first | rfl | kernel_rfl) ?_)
  refine wpAny_bind (wpAny_of_eq (a:=()) (by first | rfl | kernel_rfl) ?_)
  try dsimp only
  refine wpAny_bind (wpAny_specialOf (T := "str") (v:=.str x t) rfl Lq ?_)
  refine wpAny_bind ?_
  wp_delta
  refine wpAny_bind (wpAny_isInstance (T := "str") (v:=.str x t) (b:=false) rfl (by rw[isSubtype_type];kernel_rfl) ?_)
  try dsimp only
  refine wpAny_bind (wpAny_specialOf (T := "str") (v:=.str x t) rfl PySem.F.slot_str_getitem.lookup ?_)
  try dsimp only
  rw[if_pos (by decide)]
  refine wpAny_pure ?_
  rw[if_neg (by decide)]
  refine wpAny_bind (len_str hfit ?_)
  refine wpAny_bind (wpAny_of_eq (a:=some _) rfl ?_)
  try dsimp only
  refine wpAny_bind ?_
  unfold Builtin.SmallTypes.newRecord
  exact wpAny_newObj_type (wpAny_pure ⟨_,rfl,h⟩)
def Hf(h:Heap)(it:Addr)(x:Str)(t:Tok)(i:Int):Prop:=h.get? it=some { cls:=.type "reversed",data:=.fields #[.str x t,rawInt i] }
section
variable{prog:Program}{w:World}{A:Around}{E:Value->Shared->Prop}{s:Shared}{x:Str}{t:Tok}{it:Addr}
theorem v7{Q:Value->Shared->Prop}(hfit:¬(x.length:Int)≥2 ^ 63)(h:Q (.ref s.heap.objs.size) { s with heap:=s.heap.push { cls:=.type "reversed",data:=.fields #[.str x t,rawInt ((x.length:Int)-1)] },toks:=s.toks+1+1 }) :
  wpAny (model prog w) A (call (.type "reversed") [.str x t]) Q E s :=
 callType_new Gj (by decide) (F.typeCall_reversed_1 _) (F.newCall_reversed_1 _) (fun obj=>F.args_object_init_2 obj _) F.entry_reversed_new (JX x t hfit) ⟨⟨_,Heap.get?_push_size _ rfl,rfl⟩,h⟩
theorem oA{i:Int}(h:Hf s.heap it x t i):s.TypeIs (.ref it) "reversed":=⟨_,h,rfl⟩
theorem Pk{i:Nat}{c:Nat}{Q:Option Value->Shared->Prop}(hit:Hf s.heap it x t (i:Int))(hfit:¬(x.length:Int)≥2 ^ 63)(hc:x.cps[i]?=some c)
  (hQ:∀h' tk u,Hf h' it x t ((i:Int)-1)->Heap.SameBut it s.heap h'->Q (some (.str ⟨#[c]⟩ u)) { s with heap:=h',toks:=tk }):wpAny (model prog w) A (pyNext (.ref it)) Q E s:=by
 have hT:=oA hit
 have hit':s.heap.get? it=some { cls:=.type "reversed",data:=.fields #[.str x t,rawInt (i:Int)] }:=hit
 unfold pyNext
 refine wpAny_bind (wpAny_attempt (wpAny_callSpecial?_slot (name:=Str.ofString "__next__") hT lN (wpAny_call_entry lN hT lU ?_ (nC _))))
 unfold Builtin.«reversed.__next__»
 refine wpAny_bind (wpAny_of_eq (a:=(Value.ref it,[])) rfl ?_)
 try dsimp only
 refine wpAny_bind (wpAny_field hit' rfl (x:=.str x t) rfl ?_)
 refine wpAny_bind (wpAny_field hit' rfl (x:=rawInt (i:Int)) rfl ?_)
 show wpAny _ _ (if (i:Int)<0 then _ else _) _ _ s
 rw[if_neg (by omega)]
 refine wpAny_bind (wpAny_specialOf (T := "str") (v:=.str x t) rfl PySem.F.slot_str_getitem.lookup ?_)
 rw[if_neg (by decide)]
 have hlt:i<x.cps.size:=(Array.getElem?_eq_some_iff.mp hc).1
 have hsi:(seqIndex? (i:Int) x.length).bind (x.cps[·]?)=some c:=by
  have e:seqIndex? (i:Int) x.length=some i:=by
   unfold seqIndex?
   have h1:¬((i:Int)<0):=by omega
   have h2:(i:Int)<(x.length:Int):=by show (i:Int)<(x.cps.size:Int);omega
   simp only[h1,if_false]
   rw[if_pos (by simp[h2]),Int.toNat_natCast]
  rw[e];exact hc
 have hr:(decide ((i:Int) < -(2 ^ 63:Int))||decide ((i:Int)≥2 ^ 63))=false:=by
  have h2:(i:Int)<(x.length:Int):=by show (i:Int)<(x.cps.size:Int);omega
  have h3:¬((i:Int) < -(2 ^ 63:Int)):=by omega
  have h4:¬((i:Int)≥2 ^ 63):=by omega
  rw[decide_eq_false h3,decide_eq_false h4];rfl
 refine wpAny_bind (wpAny_mkInt ?_)
 refine wpAny_bind (wpAny_attempt (getItem_str hr hsi ?_))
 show wpAny _ _ (field (Value.ref it) 1 >>= _) _ _ _
 refine wpAny_bind (wpAny_field (s:={ s with toks:=s.toks+1+1 }) hit' rfl (x:=rawInt (i:Int)) rfl ?_)
 show wpAny _ _ (setField (Value.ref it) 1 (rawInt ((i:Int)-1)) >>= _) _ _ _
 refine wpAny_bind (wpAny_setField_rec (s:={ s with toks:=s.toks+1+1 }) hit' (by simp) fun h1 hz hs=>?_)
 exact wpAny_pure ⟨_,rfl,wpAny_pure (hQ h1 _ _ hz hs)⟩
theorem TF{Q:Option Value->Shared->Prop}(hh:A.handled=none)(hit:Hf s.heap it x t (-1))(hQ:∀h',(∀b o,b≠it->s.heap.get? b=some o->h'.get? b=some o)->Q none { s with heap:=h' }):wpAny (model prog w) A (pyNext (.ref it)) Q E s:=by
 have hT:=oA hit
 have hit':s.heap.get? it=some { cls:=.type "reversed",data:=.fields #[.str x t,rawInt (-1)] }:=hit
 unfold pyNext
 refine wpAny_bind (wpAny_attempt (wpAny_callSpecial?_slot (name:=Str.ofString "__next__") hT lN (wpAny_call_entry lN hT lU ?_ (nC _))))
 unfold Builtin.«reversed.__next__»
 refine wpAny_bind (wpAny_of_eq (a:=(Value.ref it,[])) rfl ?_)
 try dsimp only
 refine wpAny_bind (wpAny_field hit' rfl (x:=.str x t) rfl ?_)
 refine wpAny_bind (wpAny_field hit' rfl (x:=rawInt (-1)) rfl ?_)
 show wpAny _ _ (if (-1:Int)<0 then _ else _) _ _ s
 rw[if_pos (by omega)]
 refine wpAny_bind (wpAny_rule ?_)
 refine wpAny_bind ?_
 wp_delta
 refine wpAny_bind (wpAny_setField_rec hit' (by simp) fun h1 hz hs=>?_)
 refine wpAny_setField_rec (s:={ s with heap:=h1 }) hz (by simp) fun h2 hz2 hs2=>?_
 refine wpAny_bind ?_
 show wpAny _ _ (newExc (.type "StopIteration") [] >>= _) _ _ _
 refine wpAny_bind ?_
 simp only[newExc,newTuple]
 refine wpAny_bind (wpAny_newObj_type ?_ (by size_fits))
 refine wpAny_bind (m:=firstArgMember _ _) (wpAny_of_eq (a:=Value.none) (by first | rfl | (simp only[firstArgMember];rfl)) ?_)
 refine wpAny_newObj_type ?_ (by size_fits)
 simp only[raiseNew]
 refine wpAny_bind (wpAny_handled ?_)
 rw[show A.in1.handled=none from hh]
 refine wpAny_bind (wpAny_pure (wpAny_throw ?_))
 refine wpAny_bind (wpAny_isInstance (T := "StopIteration") (b:=true) ⟨_,Heap.get?_push_size _ rfl,rfl⟩ isSubtype_stop ?_)
 exact wpAny_pure (hQ _ fun b o hb e=>Heap.get?_push_of_some _ (Heap.get?_push_of_some _ ((hs2.2 b hb).trans ((hs.2 b hb).trans e))))
theorem Bh{i:Int}{Q:Value->Shared->Prop}(hit:Hf s.heap it x t i)(h:Q (.ref it) s):wpAny (model prog w) A (pyIter (.ref it)) Q E s:=by
 have hT:=oA hit
 refine wpAny_pyIter_slot hT CV (wpAny_call_entry CV hT uM ?_ (wk _))
 show wpAny _ _ (ret (.ref it)) _ _ s
 exact wpAny_pure ⟨_,rfl, "reversed",_,hT,lN.lookup,h⟩
end
def Itv(x:Str):It:=⟨fun i _=>i<x.cps.size,fun i H v H'=>H'=H/\∃c,x.cps[x.cps.size-1-i]?=some c/\v=.str ⟨#[c]⟩,fun i _=>x.cps.size<=i⟩
theorem PQ{P:Program}{w:World}{K:PySem.W.Frag}{tg:Expr}{x:Str}{t:Tok}(it:Addr)(hfit:¬(x.length:Int)≥2 ^ 63) :
  Turn P w K tg (Itv x) [it] it (fun i h=>i<=x.cps.size/\Hf h it x t ((x.cps.size:Int)-1-(i:Int))) where
 mem:=List.mem_singleton.mpr rfl
 obj:=by
  rintro i h ⟨_,e⟩ b hb
  rw[List.mem_singleton.mp hb]
  exact⟨_,e,fun v z=>nomatch z⟩
 keep:=by
  rintro i h h' ⟨l,e⟩ k
  exact⟨l,k it (List.mem_singleton.mpr rfl) _ e⟩
 item:=by
  intro X hP hw hK hc i pins s σ H E I hf st hg
  subst hP hw hK
  obtain⟨f0,f1,f2,f3,f4,f5⟩:=hf it (List.mem_singleton.mpr rfl)
  have hlt:i<x.cps.size:=hg
  obtain⟨_,e⟩:=st
  have ei:(x.cps.size:Int)-1-(i:Int)=((x.cps.size-1-i:Nat):Int):=by omega
  rw[ei] at e
  have hx:x.cps[x.cps.size-1-i]?=some (x.cps[x.cps.size-1-i]'(by omega)):=Array.getElem?_eq_getElem (by omega)
  refine Pk e hfit hx fun h' tk u e' sb=>?_
  have e2:((x.cps.size-1-i:Nat):Int)-1=(x.cps.size:Int)-1-((i+1:Nat):Int):=by omega
  rw[e2] at e'
  have I1:L2.Inv X pins σ H { s with heap:=h',toks:=tk }:=I.turned (fun b o hb q=>(sb.2 b hb).trans q) f0 f1 f3 f4 f5
  exact⟨_,rfl,xO (s:={ s with heap:=h',toks:=tk }) e' rfl rfl (by decide) ⟨.str _,H,I1,⟨u,rfl⟩,⟨rfl,_,hx,rfl⟩,⟨hlt,e'⟩,fun b hb=>(hf b hb).1⟩⟩
 done:=by
  intro X hP hw hK hc i pins s σ H E I hf st hg
  subst hP hw hK
  obtain⟨f0,f1,f2,f3,f4,f5⟩:=hf it (List.mem_singleton.mpr rfl)
  have hi:i=x.cps.size:=Nat.le_antisymm st.1 hg
  subst hi
  have e:=st.2
  rw[show (x.cps.size:Int)-1-(x.cps.size:Int) = -1 from by omega] at e
  exact TF (I.ok.hd hc) e fun h' k=>⟨rfl,I.turned (t':=s.toks) (fun b o hb q=>k b o hb q) f0 f1 f3 f4 f5⟩
 self:=fun A i s Q E st h=>Bh st.2 h
section
variable{X:Cx}{tg:Expr}
def aco(te:TE):TI:=fun σ H R=>te σ H fun x H1=>∃z,x=.str z/\z.length<=sizeLine/\R (Itv z) H1
theorem Yr{a:Expr}{ta:TE}{p pos:Pos}(hg:Gl X "reversed")(hm:X.mg "reversed" = none)(ha:PE X a ta)(hs:starEach [a] X.env=[(false,eval a X.env)]:=by rfl):PI X tg (.Call (.Name "reversed" p) [a] [] pos) (aco ta):=by
 intro pins s σ H R I h
 refine Call_ (iB I hg hm boot_reversed (PyProof.Rows.callWith_type1 ?_ hs rfl))
 rw[hs]
 refine Calls.spliced_cons (cJ (ha pins s σ H _ I h) fun v s1 zz=>?_)
 obtain⟨x,H1,I1,r1,z,ex,hz,q⟩:=zz
 subst ex
 obtain⟨t,rfl⟩:=r1
 refine Calls.spliced_nil ?_
 have hfit:¬(z.length:Int)≥2 ^ 63:=by rw[bK] at hz;omega
 refine v7 hfit ?_
 have e0:Hf (s1.heap.push { cls:=.type "reversed",data:=.fields #[.str z t,rawInt ((z.length:Int)-1)] }) s1.heap.objs.size z t ((z.cps.size:Int)-1-((0:Nat):Int)):=by
  have e:(z.cps.size:Int)-1-((0:Nat):Int)=(z.length:Int)-1:=by show _=(z.cps.size:Int)-1;omega
  rw[e]
  exact Heap.get?_push_size _ rfl
 have I2:L2.Inv X pins σ H1 { s1 with heap:=s1.heap.push { cls:=.type "reversed",data:=.fields #[.str z t,rawInt ((z.length:Int)-1)] },toks:=s1.toks+1+1 }:=I1.kept fun b o e=>Heap.get?_push_of_some _ e
 refine Bh (s:={ s1 with heap:=s1.heap.push { cls:=.type "reversed",data:=.fields #[.str z t,rawInt ((z.length:Int)-1)] },toks:=s1.toks+1+1 }) e0 ?_
 refine⟨s1.heap.objs.size,[s1.heap.objs.size],_,_,H1,rfl,I2,PQ _ hfit,⟨Nat.zero_le _,e0⟩,fun b hb=>?_,q⟩
 rw[List.mem_singleton.mp hb]
 exact I1.yS (Nat.le_refl _) (I1.hok.fresh (Nat.le_refl _))
theorem O1{K:PySem.W.Frag}{H:Hp}{z:Str}:GD K H (lets z).reverse (fun _=>True) (Itv z):=fun H3 H' tk hr _=>by
 have hl:(lets z).length=z.cps.size:=by unfold lets;rw[List.length_map,Array.length_toList]
 refine⟨fun i hi=>?_,by rw[List.length_reverse,hl];exact Nat.le_refl _⟩
 rw[List.length_reverse,hl] at hi
 refine⟨hi,fun x H'' y=>?_⟩
 obtain⟨e,c,hc,rfl⟩:=y
 subst e
 refine⟨TK.refl,hr,.str ⟨#[c]⟩,?_,.str _⟩
 rw[List.getElem?_reverse (by rw[hl];exact hi),hl]
 unfold lets
 rw[List.getElem?_map,Array.getElem?_toList,hc]
 rfl
theorem YD{e:Expr}{te:cC}{p pos:Pos}(hm:X.mg "reversed" = none)(h:cN X e te)(hg:Gl X "reversed":=by rfl)(hs:starEach [e] X.env=[(false,eval e X.env)]:=by rfl):Tt X tg (.Call (.Name "reversed" p) [e] [] pos) (irv te) :=
 rT (Yr hg hm h hs) fun _ _ _ ⟨σ3,H3,R3,sr,hr,t,k⟩=>⟨σ3,H3,_,sr,hr,t,fun x v H3a Ha tka hra rx qa=>by
  cases rx with
  |str z=>exact⟨z,rfl,qa.1,k _ _ _ _ _ tka hra O1 qa.2⟩
  |_=>exact qa.elim⟩
end
end L3
namespace L3
open PySem PySem.Spec PyProof.Rows L2
end L3
namespace L3
open PySem PySem.Spec PyProof.Rows L2
end L3
namespace L3
open PySem PySem.Spec PyProof.Rows L2
structure V8(z TI TO i1 i2:Addr)(f1 f2:List Addr):Prop where
 TIz:TI≠z
 TOz:TO≠z
 i1z:i1≠z
 i2z:i2≠z
 TITO:TI≠TO
 TIi1:TI≠i1
 TIi2:TI≠i2
 TOi1:TO≠i1
 TOi2:TO≠i2
 i12:i1≠i2
 a1:z∉f1/\TO∉f1/\i2∉f1
 a2:z∉f2/\TO∉f2/\i1∉f2
section
variable{prog:Program}{w:World}{A:Around}{E:Value->Shared->Prop}{s:Shared}
variable{z TI TO i1 i2:Addr}{f1 f2:List Addr}{n1 n2 k:Nat}{P1 P2:Nat->Value->Prop}{S1 S2:Nat->Heap->Prop}{a b:Value}
theorem Mj{Q:Option Value->Shared->Prop}(D:V8 z TI TO i1 i2 f1 f2)(D1:Draws prog w A.in1 i1 f1 n1 P1 S1)(D2:Draws prog w A.in1 i2 f2 n2 P2 S2)(h1:k<n1)(h2:k<n2)
  (hz:IsZip s.heap z TI TO .none) (hTI:IsPair s.heap TI (.ref i1) (.ref i2)) (hTO:IsPair s.heap TO a b) (st1:S1 k s.heap) (st2:S2 k s.heap)
  (hQ:∀ h' tk x y,P1 k x→P2 k y→IsZip h' z TI TO (rawInt s.heap.objs.size)→IsPair h' TO x y→S1 (k + 1) h'→S2 (k + 1) h'→IsPair h' s.heap.objs.size x y →
   (∀c o,c≠z->c≠TO->c≠i1->c≠i2->s.heap.get? c=some o->h'.get? c=some o)->Q (some (.ref s.heap.objs.size)) { s with heap:=h',toks:=tk }) :
  wpAny (model prog w) A (pyNext (.ref z)) Q E s:=by
 have hT:s.TypeIs (.ref z) "zip":=⟨_,hz,rfl⟩
 unfold pyNext
 refine wpAny_bind (wpAny_attempt (wpAny_callSpecial?_slot (name:=Str.ofString "__next__") hT F.slot_zip_next (wpAny_call_entry F.slot_zip_next hT F.entry_zip_next ?_ (F.args_zip_next_1 _))))
 show wpAny _ _ (field (.ref z) 2 >>= _) _ _ _
 refine wpAny_bind (wpAny_field hz rfl (x:=.bool false) rfl ?_)
 show wpAny _ _ (field (.ref z) 3 >>= _) _ _ _
 refine wpAny_bind (wpAny_field hz rfl (x:=.ref TI) rfl ?_)
 refine wpAny_bind (wpAny_seqItems hTI rfl ?_)
 show wpAny _ _ (Builtin.SmallTypes.ownedTupleIsFree (.ref z) >>= _) _ _ _
 refine wpAny_bind ?_
 unfold Builtin.SmallTypes.ownedTupleIsFree
 refine wpAny_bind (wpAny_field hz rfl (x:=.none) rfl (wpAny_pure ?_))
 simp only[if_true]
 refine wpAny_bind (wpAny_rule ?_)
 refine wpAny_bind (wpAny_field hz rfl (x:=.ref TO) rfl ?_)
 refine wpAny_bind (wpAny_setField_rec hz (by simp) fun h₁ hz₁ hs₁=>?_)
 replace hz₁:IsZip h₁ z TI TO .ellipsis:=hz₁
 refine wpAny_bind ?_
 simp only[List.zipIdx_cons,List.zipIdx_nil,List.forIn_cons,List.forIn_nil]
 have ne:∀ {c d:Addr} {f:List Addr},c∈f->d∉f->c≠d:=fun hc hd e=>hd (e▸hc)
 refine wpAny_bind (wpAny_bind (wpAny_onRaise ?_))
 show wpAny _ _ (Builtin.SmallTypes.nextOf (.ref i1) >>= _) _ _ _
 have s11:S1 k h₁:=D1.frame _ _ _ st1 fun c hc o e=>(hs₁.2 c (ne hc D.a1.1)).trans e
 have s21:S2 k h₁:=D2.frame _ _ _ st2 fun c hc o e=>(hs₁.2 c (ne hc D.a2.1)).trans e
 refine wpAny_bind (D1.item k { s with heap:=h₁ } _ _ h1 s11 fun x h₂ tk₂ hx s12 hs₂=>wpAny_pure ?_)
 have hTO₂:IsPair h₂ TO a b:=(hs₂.2 TO D.TOi1).trans ((hs₁.2 TO D.TOz).trans hTO)
 refine wpAny_bind (wpAny_seqItems (s:={ s with heap:=h₂,toks:=tk₂ }) hTO₂ rfl ?_)
 refine wpAny_bind (wpAny_updateSeq_pair (s:={ s with heap:=h₂,toks:=tk₂ }) hTO₂ fun h₃ hTO₃ hs₃=>?_)
 replace hTO₃:IsPair h₃ TO x b:=hTO₃
 refine wpAny_bind (wpAny_letGo (wpAny_pure ?_))
 have s13:S1 (k+1) h₃:=D1.frame _ _ _ s12 fun c hc o e=>(hs₃.2 c (ne hc D.a1.2.1)).trans e
 have s23:S2 k h₃:=D2.frame _ _ _ s21 fun c hc o e=>(hs₃.2 c (ne hc D.a2.2.1)).trans ((hs₂.2 c (ne hc D.a2.2.2)).trans e)
 refine wpAny_bind (wpAny_bind (wpAny_onRaise ?_))
 show wpAny _ _ (Builtin.SmallTypes.nextOf (.ref i2) >>= _) _ _ _
 refine wpAny_bind (D2.item k { s with heap:=h₃,toks:=tk₂ } _ _ h2 s23 fun y h₄ tk₄ hy s24 hs₄=>wpAny_pure ?_)
 have hTO₄:IsPair h₄ TO x b:=(hs₄.2 TO D.TOi2).trans hTO₃
 refine wpAny_bind (wpAny_seqItems (s:={ s with heap:=h₄,toks:=tk₄ }) hTO₄ rfl ?_)
 refine wpAny_bind (wpAny_updateSeq_pair (s:={ s with heap:=h₄,toks:=tk₄ }) hTO₄ fun h₅ hTO₅ hs₅=>?_)
 replace hTO₅:IsPair h₅ TO x y:=hTO₅
 refine wpAny_bind (wpAny_letGo (wpAny_pure (wpAny_pure ?_)))
 have s14:S1 (k+1) h₅:=D1.frame _ _ _ s13 fun c hc o e=>(hs₅.2 c (ne hc D.a1.2.1)).trans ((hs₄.2 c (ne hc D.a1.2.2)).trans e)
 have s25:S2 (k+1) h₅:=D2.frame _ _ _ s24 fun c hc o e=>(hs₅.2 c (ne hc D.a2.2.1)).trans e
 refine wpAny_bind (wpAny_seqItems (s:={ s with heap:=h₅,toks:=tk₄ }) hTO₅ rfl ?_)
 refine wpAny_bind (wpAny_newTuple ?_)
 have hsz:h₅.objs.size=s.heap.objs.size:=by rw[hs₅.1,hs₄.1,hs₃.1,hs₂.1,hs₁.1]
 have hz₅:IsZip h₅ z TI TO .ellipsis:=(hs₅.2 z D.TOz.symm).trans ((hs₄.2 z D.i2z.symm).trans ((hs₃.2 z D.TOz.symm).trans ((hs₂.2 z D.i1z.symm).trans hz₁)))
 have hk₅:∀c o,c≠z->c≠TO->c≠i1->c≠i2->s.heap.get? c=some o->h₅.get? c=some o:=fun c o c1 c2 c3 c4 e=>
  (hs₅.2 c c2).trans ((hs₄.2 c c4).trans ((hs₃.2 c c2).trans ((hs₂.2 c c3).trans ((hs₁.2 c c1).trans e))))
 have hzlt:z<h₅.objs.size:=Heap.lt_size hz₅
 show wpAny _ _ (Builtin.SmallTypes.ownedTupleHandOut (.ref z) (.ref h₅.objs.size) >>= _) _ _ _
 refine wpAny_bind ?_
 unfold Builtin.SmallTypes.ownedTupleHandOut
 have hz₆:IsZip (h₅.push { cls:=.type "tuple",data:=.seq #[x,y] }) z TI TO .ellipsis:=Heap.get?_push_of_some _ hz₅
 refine wpAny_bind (wpAny_setField_rec (s:={ s with heap:=h₅.push { cls:=.type "tuple",data:=.seq #[x,y] },toks:=tk₄ }) hz₆ (by simp) fun h₇ hz₇ hs₇=>?_)
 replace hz₇:IsZip h₇ z TI TO (rawInt h₅.objs.size):=hz₇
 refine wpAny_setField_rec (s:={ s with heap:=h₇,toks:=tk₄ }) hz₇ (by simp) fun h₈ hz₈ hs₈=>?_
 replace hz₈:IsZip h₈ z TI TO (rawInt h₅.objs.size):=hz₈
 have up:∀c o,c≠z->h₅.get? c=some o->h₈.get? c=some o:=fun c o c1 e=>(hs₈.2 c c1).trans ((hs₇.2 c c1).trans (Heap.get?_push_of_some _ e))
 have hT₈:IsPair h₈ h₅.objs.size x y:=(hs₈.2 _ (Nat.ne_of_gt hzlt)).trans ((hs₇.2 _ (Nat.ne_of_gt hzlt)).trans (Heap.get?_push_size _ rfl))
 rw[hsz] at hz₈ hT₈
 refine wpAny_pure ⟨_,rfl,wpAny_pure ?_⟩
 show Q (some (.ref h₅.objs.size)) _
 rw[hsz]
 exact hQ h₈ tk₄ x y hx hy hz₈ (up _ _ D.TOz hTO₅) (D1.frame _ _ _ s14 fun c hc o e=>up c o (ne hc D.a1.1) e) (D2.frame _ _ _ s25 fun c hc o e=>up c o (ne hc D.a2.1) e) hT₈ fun c o c1 c2 c3 c4 e=>up c o c1 (hk₅ c o c1 c2 c3 c4 e)
def Dp(prog:Program)(w:World)(A:Around)(it:Addr)(S:Heap->Prop):Prop:=∀(s:Shared) (Q:Value->Shared->Prop) (E:Value->Shared->Prop),S s.heap ->
 (∀h' e,Heap.ExtBut it s.heap h'->(∃o,h'.get? e=some o/\o.cls=.type "StopIteration")->E (.ref e) { s with heap:=h' })->wpAny (model prog w) A (Builtin.SmallTypes.nextOf (.ref it)) Q E s
theorem Ra{Q:Option Value->Shared->Prop}(D:V8 z TI TO i1 i2 f1 f2)(fr1:∀h h':Heap,S1 k h->(∀b∈f1,∀o,h.get? b=some o->h'.get? b=some o)->S1 k h')(fr2:∀h h':Heap,S2 k h->(∀b∈f2,∀o,h.get? b=some o->h'.get? b=some o)->S2 k h')
  (hend:Dp prog w A.in1 i1 (S1 k)\/((k<n1/\Draws prog w A.in1 i1 f1 n1 P1 S1)/\Dp prog w A.in1 i2 (S2 k)))
  (hz:IsZip s.heap z TI TO .none) (hTI:IsPair s.heap TI (.ref i1) (.ref i2)) (hTO:IsPair s.heap TO a b) (st1:S1 k s.heap) (st2:S2 k s.heap)
  (hQ:∀h' tk,(∀c o,c≠z->c≠TO->c≠i1->c≠i2->s.heap.get? c=some o->h'.get? c=some o)->Q none { s with heap:=h',toks:=tk }) :
  wpAny (model prog w) A (pyNext (.ref z)) Q E s:=by
 have hT:s.TypeIs (.ref z) "zip":=⟨_,hz,rfl⟩
 unfold pyNext
 refine wpAny_bind (wpAny_attempt (wpAny_callSpecial?_slot (name:=Str.ofString "__next__") hT F.slot_zip_next (wpAny_call_entry F.slot_zip_next hT F.entry_zip_next ?_ (F.args_zip_next_1 _))))
 have fin:∀h' e tk,(∀c o,c≠z->c≠TO->c≠i1->c≠i2->s.heap.get? c=some o->h'.get? c=some o)->(∃o,h'.get? e=some o/\o.cls=.type "StopIteration") ->
   wpAny (model prog w) A (do let r ←isInstance (.ref e) (Value.type "StopIteration");if r=true then pure none else throw (.ref e)) Q E { s with heap:=h',toks:=tk }:=by
  rintro h' e tk hk ⟨o,ho,hc⟩
  refine wpAny_bind (wpAny_isInstance (T := "StopIteration") (b:=true) ⟨o,ho,hc⟩ isSubtype_stop ?_)
  exact wpAny_pure (hQ h' tk hk)
 show wpAny _ _ (field (.ref z) 2 >>= _) _ _ _
 refine wpAny_bind (wpAny_field hz rfl (x:=.bool false) rfl ?_)
 show wpAny _ _ (field (.ref z) 3 >>= _) _ _ _
 refine wpAny_bind (wpAny_field hz rfl (x:=.ref TI) rfl ?_)
 refine wpAny_bind (wpAny_seqItems hTI rfl ?_)
 show wpAny _ _ (Builtin.SmallTypes.ownedTupleIsFree (.ref z) >>= _) _ _ _
 refine wpAny_bind ?_
 unfold Builtin.SmallTypes.ownedTupleIsFree
 refine wpAny_bind (wpAny_field hz rfl (x:=.none) rfl (wpAny_pure ?_))
 simp only[if_true]
 refine wpAny_bind (wpAny_rule ?_)
 refine wpAny_bind (wpAny_field hz rfl (x:=.ref TO) rfl ?_)
 refine wpAny_bind (wpAny_setField_rec hz (by simp) fun h₁ hz₁ hs₁=>?_)
 replace hz₁:IsZip h₁ z TI TO .ellipsis:=hz₁
 refine wpAny_bind ?_
 simp only[List.zipIdx_cons,List.zipIdx_nil,List.forIn_cons,List.forIn_nil]
 have ne:∀ {c d:Addr} {f:List Addr},c∈f->d∉f->c≠d:=fun hc hd e=>hd (e▸hc)
 refine wpAny_bind (wpAny_bind (wpAny_onRaise ?_))
 show wpAny _ _ (Builtin.SmallTypes.nextOf (.ref i1) >>= _) _ _ _
 have s11:S1 k h₁:=fr1 _ _ st1 fun c hc o e=>(hs₁.2 c (ne hc D.a1.1)).trans e
 have s21:S2 k h₁:=fr2 _ _ st2 fun c hc o e=>(hs₁.2 c (ne hc D.a2.1)).trans e
 rcases hend with hend | ⟨⟨hk1,D1⟩,hend⟩
 ·refine wpAny_bind (hend { s with heap:=h₁ } _ _ s11 fun h₂ e hs₂ he=>?_)
  obtain⟨oe,hoe,hce⟩:=he
  have hz₂:IsZip h₂ z TI TO .ellipsis:=hs₂ _ _ D.i1z.symm hz₁
  have hez:e≠z:=fun x=>by subst x;rw[hz₂] at hoe;cases hoe;simp at hce
  refine wpAny_setField_rec (s:={ s with heap:=h₂ }) hz₂ (by simp) fun h₃ _ hs₃=>?_
  exact fin h₃ e s.toks (fun c o c1 _ c3 _ x=>(hs₃.2 c c1).trans (hs₂ c o c3 ((hs₁.2 c c1).trans x))) ⟨oe,(hs₃.2 e hez).trans hoe,hce⟩
 ·refine wpAny_bind (D1.item k { s with heap:=h₁ } _ _ hk1 s11 fun x h₂ tk₂ hx s12 hs₂=>wpAny_pure ?_)
  have hTO₂:IsPair h₂ TO a b:=(hs₂.2 TO D.TOi1).trans ((hs₁.2 TO D.TOz).trans hTO)
  refine wpAny_bind (wpAny_seqItems (s:={ s with heap:=h₂,toks:=tk₂ }) hTO₂ rfl ?_)
  refine wpAny_bind (wpAny_updateSeq_pair (s:={ s with heap:=h₂,toks:=tk₂ }) hTO₂ fun h₃ hTO₃ hs₃=>?_)
  refine wpAny_bind (wpAny_letGo (wpAny_pure ?_))
  have s23:S2 k h₃:=fr2 _ _ s21 fun c hc o e=>(hs₃.2 c (ne hc D.a2.2.1)).trans ((hs₂.2 c (ne hc D.a2.2.2)).trans e)
  refine wpAny_bind (wpAny_bind (wpAny_onRaise ?_))
  show wpAny _ _ (Builtin.SmallTypes.nextOf (.ref i2) >>= _) _ _ _
  refine wpAny_bind (hend { s with heap:=h₃,toks:=tk₂ } _ _ s23 fun h₄ e hs₄ he=>?_)
  obtain⟨oe,hoe,hce⟩:=he
  have hz₄:IsZip h₄ z TI TO .ellipsis:=hs₄ _ _ D.i2z.symm ((hs₃.2 z D.TOz.symm).trans ((hs₂.2 z D.i1z.symm).trans hz₁))
  have hez:e≠z:=fun x=>by subst x;rw[hz₄] at hoe;cases hoe;simp at hce
  refine wpAny_setField_rec (s:={ s with heap:=h₄,toks:=tk₂ }) hz₄ (by simp) fun h₅ _ hs₅=>?_
  exact fin h₅ e tk₂ (fun c o c1 c2 c3 c4 x=>(hs₅.2 c c1).trans (hs₄ c o c4 ((hs₃.2 c c2).trans ((hs₂.2 c c3).trans ((hs₁.2 c c1).trans x))))) ⟨oe,(hs₅.2 e hez).trans hoe,hce⟩
end
def Xx(l:Addr):Obj:={ cls:=.type "list_iterator",data:=.fields #[.ref l,.int 0 0] }
abbrev zh2(h:Heap)(o1 o2:Obj):Heap:=(h.push o1).push o2
abbrev zh3(h:Heap)(o1 o2:Obj):Heap:=(zh2 h o1 o2).push { cls:=.type "tuple",data:=.seq #[.ref h.objs.size,.ref (h.push o1).objs.size] }
abbrev zh4(h:Heap)(o1 o2:Obj):Heap:=(zh3 h o1 o2).push { cls:=.type "tuple",data:=.seq #[.none,.none] }
abbrev Fo(h:Heap)(o1 o2:Obj):Heap:=(zh4 h o1 o2).push { cls:=.type "zip",data:=.fields #[.none,.bool false,.bool false,.ref (zh2 h o1 o2).objs.size,.ref (zh3 h o1 o2).objs.size] }
theorem V7(h:Heap)(o1 o2:Obj)(f1:o1.isFreed=false)(f2:o2.isFreed=false):let n:=h.objs.size
  (zh4 h o1 o2).objs.size=n+4/\IsZip (Fo h o1 o2) (n+4) (n+2) (n+3) .none/\IsPair (Fo h o1 o2) (n+2) (.ref n) (.ref (n+1))/\IsPair (Fo h o1 o2) (n+3) .none .none/\(Fo h o1 o2).get? n=some o1/\(Fo h o1 o2).get? (n+1)=some o2/\∀c o,h.get? c=some o->(Fo h o1 o2).get? c=some o:=by
 intro n
 have z1:(h.push o1).objs.size=n+1:=Heap.size_push ..
 have z2:(zh2 h o1 o2).objs.size=n+2:=by rw[Heap.size_push,z1]
 have z3:(zh3 h o1 o2).objs.size=n+3:=by rw[Heap.size_push,z2]
 have z4:(zh4 h o1 o2).objs.size=n+4:=by rw[Heap.size_push,z3]
 have g5:(Fo h o1 o2).get? (zh4 h o1 o2).objs.size=some _:=Heap.get?_push_size _ rfl
 have g4:(Fo h o1 o2).get? (zh3 h o1 o2).objs.size=some _:=Heap.get?_push_of_some _ (Heap.get?_push_size _ rfl)
 have g3:(Fo h o1 o2).get? (zh2 h o1 o2).objs.size=some _:=Heap.get?_push_of_some _ (Heap.get?_push_of_some _ (Heap.get?_push_size _ rfl))
 have g2:(Fo h o1 o2).get? (h.push o1).objs.size=some o2:=Heap.get?_push_of_some _ (Heap.get?_push_of_some _ (Heap.get?_push_of_some _ (Heap.get?_push_size _ f2)))
 have g1:(Fo h o1 o2).get? h.objs.size=some o1:=Heap.get?_push_of_some _ (Heap.get?_push_of_some _ (Heap.get?_push_of_some _ (Heap.get?_push_of_some _ (Heap.get?_push_size _ f1))))
 rw[z2,z3,z4] at g5
 rw[z1,z2] at g3
 rw[z3] at g4
 rw[z1] at g2
 exact⟨z4,g5,g3,g4,g1,g2,fun c o x=>Heap.get?_push_of_some _ (Heap.get?_push_of_some _ (Heap.get?_push_of_some _ (Heap.get?_push_of_some _ (Heap.get?_push_of_some _ x))))⟩
theorem Zj{l n:Nat}(h:l<n):n+4≠l/\n+3≠l/\n+1≠l/\n≠l:=by grind
theorem ZD{x a b:Nat}(h:x≠a)(g:x≠b):x∉[a,b]:=by simp[h,g]
end L3
namespace L3
open PySem PySem.Spec PyProof.Rows L2
abbrev EK3:=Str->aF->Prop
abbrev SpE:=List D->aF->aY->EK3->Prop
def gone(i:Nat)(D:iR):iR:={ nx:=fun σ' H'=>D.nx (σ'.set i none) H',rt:=D.rt,bk:=fun σ' H'=>D.bk (σ'.set i none) H',ct:=fun σ' H'=>D.ct (σ'.set i none) H' }
def KX(K:PySem.W.Frag)(H:Hp)(E3:EK3)(E:XK):Prop:=∀c C H3' H',TK H H'->HR K H3' H'->PySem.W.nsIn K mainGlobals c=some (some (.ref C))->E3 c H3'->E (.ref C) none H'
end L3
namespace L3
open PySem PySem.Spec PyProof.Rows L2
end L3
namespace L3
open PySem PySem.Spec PyProof.Rows L2 PySem.Calls Builtin Builtin.ObjectAttr Builtin.Getset_descriptor
end L3
namespace L3
open PySem PySem.Spec PyProof.Rows L2
def dgk(x y:D)(H:aF)(Q:aY):Prop:=match x,y with
 | .ref a,.tup ds => (match keysOf ds,H a with
  | some k,some (.dic kvs) => (match iI kvs k with
   |some d=>Q d H
   |none=>False)
  |_,_=>False)
 |_,_=>False
def dg3(ta tb:cC):cC:=fun σ H Q=>ta σ H fun x H1=>tb σ H1 fun y H2=>dgk x y H2 Q
def qY:List D->aF->aY->Prop:=fun ds H Q=>match ds with
 | [.ref a] => (match H a with
  |some (.dic kvs)=>Q (.int kvs.length) H
  |_=>False)
 |_=>False
def kI(kvs:List (Pt×D)):Tab:=kvs.map fun kv=>(kP kv.1,kv.2)
def iY(kvs:List (Pt×D))(c:Pt):Option D:=(kvs.find? fun kv=>decide (kv.1=c)).map (·.2)
def vC(kvs:List (Pt×D))(c:Pt)(d:D):List (Pt×D):=if (kvs.any fun kv=>decide (kv.1=c))=true then kvs.map (fun kv=>if kv.1=c then (kv.1,d) else kv) else kvs++[(c,d)]
theorem Io(c:Pt):∀kvs:List (Pt×D),iI (kI kvs) (kP c)=iY kvs c
 |[]=>rfl
 |p::kvs=>by
  unfold kI iI iY
  rw[List.map_cons]
  by_cases e:p.1=c
  ·rw[List.find?_cons_of_pos (by simp[e]),List.find?_cons_of_pos (by simp[e])];rfl
  ·have e':¬kP p.1=kP c:=fun z=>e (uQ z)
   rw[List.find?_cons_of_neg (by simpa using e'),List.find?_cons_of_neg (by simpa using e)]
   exact Io c kvs
theorem XQ(c:Pt)(d:D)(kvs:List (Pt×D)):dput (kI kvs) (kP c) d=kI (vC kvs c d):=by
 have ha:((kI kvs).any fun kv=>decide (kv.1=kP c))=kvs.any fun kv=>decide (kv.1=c):=by
  unfold kI
  rw[List.any_map]
  congr 1
  funext kv
  by_cases e:kv.1=c
  ·simp[e]
  ·have e':¬kP kv.1=kP c:=fun z=>e (uQ z)
   simp[e,e']
 unfold dput vC
 rw[ha]
 split
 ·unfold kI
  rw[List.map_map,List.map_map]
  refine List.map_congr_left fun kv _=>?_
  show (if kP kv.1=kP c then (kP kv.1,d) else (kP kv.1,kv.2))=_
  by_cases e:kv.1=c
  ·simp[e]
  ·have e':¬kP kv.1=kP c:=fun z=>e (uQ z)
   simp[e,e']
 ·unfold kI
  rw[List.map_append];rfl
theorem Nk(kvs:List (Pt×D)):(kI kvs).length=kvs.length:=by unfold kI;rw[List.length_map]
theorem xH(c:Pt)(d:D)(kvs:List (Pt×D)):(vC kvs c d).map (·.1)=if c∈kvs.map (·.1) then kvs.map (·.1) else kvs.map (·.1)++[c]:=by
 have ha:(kvs.any fun kv=>decide (kv.1=c))=decide (c∈kvs.map (·.1)):=by
  rw[Bool.eq_iff_iff,List.any_eq_true,decide_eq_true_eq,List.mem_map]
  constructor
  ·rintro⟨x,hx,e⟩;exact⟨x,hx,by simpa using e⟩
  ·rintro⟨x,hx,e⟩;exact⟨x,hx,by simpa using e⟩
 unfold vC
 rw[ha]
 by_cases h:c∈kvs.map (·.1)
 ·rw[if_pos (decide_eq_true h),if_pos h,List.map_map]
  refine List.map_congr_left fun kv _=>?_
  show (if kv.1=c then (kv.1,d) else kv).1=kv.1
  split <;> rfl
 ·rw[if_neg (by simpa using h),if_neg h,List.map_append];rfl
theorem FZ{c:Pt}{d:D}{kvs:List (Pt×D)}(h:(kvs.map (·.1)).Nodup):((vC kvs c d).map (·.1)).Nodup:=by
 rw[xH]
 split
 ·exact h
 ·rename_i z
  rw[List.nodup_append]
  exact⟨h,by simp,fun a ha b hb=>by rw[List.mem_singleton.mp hb];exact fun e=>z (e▸ha)⟩
theorem oZ{c q:Pt}{d:D}{kvs:List (Pt×D)}:q∈(vC kvs c d).map (·.1)↔q∈kvs.map (·.1)\/q=c:=by
 rw[xH]
 split
 ·rename_i z
  constructor
  ·exact .inl
  ·rintro (y | rfl)
   ·exact y
   ·exact z
 ·simp
theorem BZ{c q:Pt}{d:D}(h:¬c=q):∀kvs:List (Pt×D),iY (kvs.map fun kv=>if kv.1=c then (kv.1,d) else kv) q=iY kvs q
 |[]=>rfl
 |p::kvs=>by
  have ih:=BZ (d:=d) h kvs
  unfold iY at ih ⊢
  rw[List.map_cons]
  by_cases e:p.1=q
  ·have e':¬p.1=c:=fun z=>h (z▸e)
   rw[if_neg e',List.find?_cons_of_pos (by simp[e]),List.find?_cons_of_pos (by simp[e])]
  ·have e1:¬(if p.1=c then (p.1,d) else p).1=q:=by split <;> exact e
   rw[List.find?_cons_of_neg (by simpa using e1),List.find?_cons_of_neg (by simpa using e)]
   exact ih
theorem xx{c:Pt}{d:D}:∀kvs:List (Pt×D),(kvs.any fun kv=>decide (kv.1=c))=true->iY (kvs.map fun kv=>if kv.1=c then (kv.1,d) else kv) c=some d
 |[],h=>by simp at h
 |p::kvs,h=>by
  unfold iY
  rw[List.map_cons]
  by_cases e:p.1=c
  ·rw[if_pos e,List.find?_cons_of_pos (by simp[e])];rfl
  ·rw[List.any_cons,decide_eq_false e,Bool.false_or] at h
   have ih:=xx (d:=d) kvs h
   unfold iY at ih
   rw[if_neg e,List.find?_cons_of_neg (by simpa using e)]
   exact ih
theorem Lf{c q:Pt}{d:D}{kvs:List (Pt×D)}:iY (vC kvs c d) q=if q=c then some d else iY kvs q:=by
 unfold vC
 by_cases h:(kvs.any fun kv=>decide (kv.1=c))=true
 ·rw[if_pos h]
  by_cases e:q=c
  ·subst e;rw[if_pos rfl];exact xx kvs h
  ·rw[if_neg e];exact BZ (fun z=>e z.symm) kvs
 ·rw[if_neg h]
  by_cases e:q=c
  ·subst e
   rw[if_pos rfl]
   unfold iY
   rw[List.find?_append]
   have:kvs.find? (fun kv=>decide (kv.1=q))=none:=by
    rw[List.find?_eq_none]
    intro x hx z
    exact h (List.any_eq_true.mpr ⟨x,hx,z⟩)
   rw[this,Option.none_or,List.find?_cons_of_pos (by simp)];rfl
  ·rw[if_neg e]
   unfold iY
   rw[List.find?_append,List.find?_cons_of_neg (by simpa using fun z:c=q=>e z.symm),List.find?_nil,Option.or_none]
section
variable{H:aF}{Q:aY}{σ:cO}{a:Addr}{p1 p2:Int}{d:D}{kvs:List (Pt×D)}{ta tb:cC}
theorem acL(h:ta σ H fun x H1=>tb σ H1 fun y H2=>dgk x y H2 Q):dg3 ta tb σ H Q:=h
theorem Vs(h:H a=some (.dic (kI kvs)))(hl:iY kvs (p1,p2)=some d)(q:Q d H):dgk (.ref a) (.tup [.int p1,.int p2]) H Q:=by
 have e:keysOf [D.int p1,.int p2]=some (kP (p1,p2)):=rfl
 (delta dgk;simp only[e,h,Io,hl]);exact q
theorem O8{kvs:Tab}(h:H a=some (.dic kvs))(q:Q (.int kvs.length) H):qY [.ref a] H Q:=by
 (delta qY;simp only[h]);exact q
theorem aab{R:cO->aF->Prop}(ha:H a=some (.dic (kI kvs)))(hl:kvs.length<1000)(q:R σ (aO H a (.dic (kI (vC kvs (p1,p2) d))))):Yj d (.ref a) (.tup [.int p1,.int p2]) σ H R:=by
 have e:keysOf [D.int p1,.int p2]=some (kP (p1,p2)):=rfl
 (delta Yj;simp only[e,ha,XQ])
 exact⟨by rw[Nk];exact hl,q⟩
end
def Zr(x y:D)(H:aF)(Q:aY):Prop:=match x,y with
 | .tup ds,.ref b => (match H b with
  |some (.lst es)=>ds.length<=1000/\∀p,H p=none->Q (.ref p) (aO H p (.lst (tG ds es)))
  |_=>False)
 |_,_=>False
def lz3(ta tb:cC):cC:=fun σ H Q=>ta σ H fun x H1=>tb σ H1 fun y H2=>Zr x y H2 Q
def Nr:Zz:=fun x lo hi H Q=>match x with
 |.tup ds=>¬(HT.eQ ds.length 0 lo=0/\HT.eQ ds.length ds.length hi=ds.length)/\Q (.tup (lO ds lo hi)) H
 |_=>False
section
variable{H:aF}{Q:aY}{σ:cO}{a:Addr}{ds es:List D}{ta tb:cC}
theorem abk(h:ta σ H fun x H1=>tb σ H1 fun y H2=>Zr x y H2 Q):lz3 ta tb σ H Q:=h
theorem aaB(h:H a=some (.lst es))(hl:ds.length<=1000)(q:∀p,H p=none->Q (.ref p) (aO H p (.lst (tG ds es)))):Zr (.tup ds) (.ref a) H Q:=by
 (delta Zr;simp only[h]);exact⟨hl,q⟩
theorem aai{lo hi:Option Int}(hw:¬(HT.eQ ds.length 0 lo=0/\HT.eQ ds.length ds.length hi=ds.length))(q:Q (.tup (lO ds lo hi)) H):Nr (.tup ds) lo hi H Q:=⟨hw,q⟩
end
section
variable{X:Cx}{o i:Expr}{ta tb:cC}{pos:Pos}
theorem Ij(hu:X.A.units+64<cLine)(ho:cN X o ta)(hi:cN X i tb)(hs:Ru i:=by exact fun _ _=>rfl):cN X (.Subscript o i pos) (dg3 ta tb) :=
 bL (UL (Nat.lt_of_le_of_lt (Nat.add_le_add_left (by decide:1<=64) _) hu) ho hi hs) fun _ _ _ zz=>zz.ex fun σ3 H3 Q3 sr hr t k=>⟨σ3,H3,_,sr,hr,t,fun x v H3a Ha tka hra rx qa=>⟨σ3,H3a,_,sr.mono tka,hra,qa,fun y u H3b Hb tkb hrb ry qb=>by
  have rx':=rx.mono tkb
  cases rx' with
  |ref a=>
   cases ry with
   |tup hy ry=>
    (delta dgk at qb;dsimp only at qb)
    split at qb
    ·rename_i ks kvs e1 e2
     split at qb
     ·rename_i d e3
      obtain⟨vs,gd,rd⟩:=hrb a _ e2
      have ex:=jc ry e1
      subst ex
      obtain⟨v,hv,rv⟩:=(TR.look (k:=ks) rd).2 d e3
      exact⟨a,v,rfl,by rw[←hv];exact wI.t gd hy,k _ _ _ _ (tka.trans tkb) hrb rv qb⟩
     ·exact qb.elim
    ·exact qb.elim
   |_=>exact qb.elim
  |_=>exact qb.elim⟩⟩
theorem nR{α β:Type}{F:α->β->Prop}:∀ {l:List α} {m:List β},Paired F l m->l.length=m.length
 |_,_,.nil=>rfl
 |_,_,.cons _ t=>by rw[List.length_cons,List.length_cons,nR t]
theorem DX{prog:Program}{w:World}{K:Type}[DecidableEq K]{knd:HeapKind prog w K}{d:Addr}(hd:(d==sysModules)=false) :
  MeetsIn prog w (Builtin.«dict.__len__» ⟨[.ref d],[]⟩) (fun _ R s=>∃xs:List (K×Addr×Value),s.heap.DictOfH knd d xs/\R (.ok (.ret (.int xs.length s.toks))) { s with toks:=s.toks+1 }) :=
 .of_wp fun A R s ⟨xs,hm,h⟩=>by
  obtain⟨o,es,ep,ho,hc,hdat,he,hp,hn⟩:=hm
  show wpAny _ _ (dictSize d >>= _) _ _ s
  unfold dictSize
  refine wpAny_bind (wpAny_bind (wpAny_dictEntries ho hdat (wpAny_pure ?_)))
  show wpAny _ _ (Builtin.Dict.pendingCount d >>= _) _ _ s
  refine wpAny_bind (wpAny_pendingCount_other hd ?_)
  refine wpAny_ret_mkInt ?_
  rw[Nat.add_zero,size_of_entries he];exact h
theorem K1{prog:Program}{w:World}{K:Type}[DecidableEq K]{knd:HeapKind prog w K}{A:Around}{E:Value->Shared->Prop}{s:Shared}{d:Addr}{xs:List (K×Addr×Value)}{Q:Value->Shared->Prop}(hd:(d==sysModules)=false)(hm:s.heap.DictOfH knd d xs)(hfit:(xs.length:Int)<2 ^ 63)
  (h:Q (.int xs.length (s.toks+1)) { s with toks:=s.toks+1+1 }):wpAny (model prog w) A (call (.builtin "len") [.ref d]) Q E s:=by
 refine Calls.call_function_entry kind_len plain_len entry_len (args_len1 _) ?_
 unfold Builtin.«len»
 refine wpAny_bind (m:=oneArg "len" _) (wpAny_pure ?_)
 refine wpAny_bind (m:=callSpecial? (.ref d) (Str.ofString "__len__")) (wpAny_callSpecial?_slot (name:=Str.ofString "__len__") hm.typeIs F.slot_dict_len
  (call_meetsIn F.slot_dict_len hm.typeIs F.entry_dict_len (F.args_dict_len_1 _) (DX (knd:=knd) hd) ⟨xs,hm,?_⟩))
 show wpAny _ _ _ _ _ { s with toks:=s.toks+1 }
 refine wpAny_bind (wpAny_holding (wpAny_pure ?_))
 refine wpAny_bind (wpAny_letGo ?_)
 show wpAny _ _ (if ((xs.length:Nat):Int)<0 then _ else _) _ _ _
 rw[if_neg (by grind)]
 show wpAny _ _ (if ((xs.length:Nat):Int)≥2 ^ 63 then _ else _) _ _ _
 rw[if_neg (by grind)]
 exact wpAny_bind (wpAny_mkInt (wpAny_pure ⟨_,rfl,h⟩))
theorem Bw:cR X (.builtin "len") (ik X.K qY):=by
 intro pins s σ H xs us Q I rs h
 obtain⟨ds,H3,Q3,hr,rd,t,k⟩:=h
 cases rd with
 |nil=>exact t.elim
 |cons r1 r2=>
  cases r2 with
  |cons _ _=>cases r1 <;> exact t.elim
  |nil=>
   cases r1 with
   |ref a=>
    (delta qY at t;dsimp only at t)
    split at t
    ·rename_i kvs ha
     obtain⟨ks,ga,ra⟩:=hr a _ ha
     obtain⟨z,hd,ys,rel,dd⟩:=QQ I.hok ga
     obtain⟨u,rfl,ru⟩:=Vals.one rs
     obtain rfl:u=Value.ref a:=ru
     have l1:ys.length=ks.length:=(nR rel).symm
     have l2:kvs.length=ks.length:=nR ra
     refine K1 hd dd (by rw[l1];rw[sizeLine_eq] at z;grind) ?_
     refine⟨.int kvs.length,H,I.tok _,⟨_,by rw[l1,←l2]⟩,k _ _ _ _ TK.refl hr (.int _) t⟩
    ·exact t.elim
   |_=>exact t.elim
end
theorem Ak{α:Type}{M:Model}{A:Around}{E:Value->Shared->Prop}{s:Shared}{a:Addr}{k:Option Obj->Sem α}{Q:α->Shared->Prop}(h:wpAny M A (k (s.heap.get? a)) Q E s):wpAny M A (Sem.loadIfAlive a k) Q E s:=fun Γ p hΓ=>by
 have:=h Γ p hΓ
 rw[Sem.wp_loadIfAlive];exact this
section
variable{prog:Program}{w:World}{A:Around}{E:Value->Shared->Prop}{s:Shared}
theorem FT{jt tt:Addr}{i:Nat}{its:Array Value}{x:Value}{Q:Value->Shared->Prop}(hj:s.heap.IsTupleIter jt tt i)(ht:s.heap.IsTuple tt its)(hx:its[i]?=some x)
  (hQ:∀h',h'.IsTupleIter jt tt (i+1)->Heap.SameBut jt s.heap h'->Q x { s with heap:=h' }):wpAny (model prog w) A (Builtin.SmallTypes.nextOf (.ref jt)) Q E s:=by
 obtain⟨o,ho,hc,hd⟩:=id hj
 obtain⟨ol,hol,_,nl,hdl⟩:=ht
 unfold Builtin.SmallTypes.nextOf
 refine wpAny_bind (wpAny_callSpecial?_slot (name:=Str.ofString "__next__") hj.typeIs F.slot_tuple_iterator_next (wpAny_call_entry F.slot_tuple_iterator_next hj.typeIs F.entry_tuple_iterator_next ?_ (F.args_tuple_iterator_next_1 _)))
 show wpAny _ _ (field (.ref jt) 0 >>= _) _ _ s
 refine wpAny_bind (wpAny_field ho hd (x:=.ref tt) rfl ?_)
 show wpAny _ _ (if (Value.ref tt==Value.none)=true then _ else _) _ _ s
 rw[if_neg (show ¬((Value.ref tt==Value.none)=true) from Bool.false_ne_true)]
 show wpAny _ _ (field (.ref jt) 1 >>= _) _ _ s
 refine wpAny_bind (wpAny_field ho hd (x:=.int i 0) rfl ?_)
 show wpAny _ _ (seqItems? (.ref tt) >>= _) _ _ s
 refine wpAny_bind (wpAny_seqItems hol hdl ?_)
 simp only[Int.toNat_natCast,hx]
 refine wpAny_bind (wpAny_setField ho hd (by simp) (wpAny_pure ⟨x,rfl,wpAny_pure (hQ _ ⟨_,Heap.get?_update_self _ ho (Obj.isFreed_of_fields (Obj.data_mapFields hd _)),(Obj.cls_mapFields ..).trans hc,by rw[Obj.data_mapFields hd];simp[rawInt]⟩ (Heap.SameBut.update ..))⟩))
theorem lZ{jt tt:Addr}{i:Nat}{its:Array Value}{Q:Value->Shared->Prop}(hh:A.handled=none)(hj:s.heap.IsTupleIter jt tt i)(ht:s.heap.IsTuple tt its)(hx:its[i]?=none)
  (hE:∀h' e,Heap.ExtBut jt s.heap h'->(∃o,h'.get? e=some o/\o.cls=.type "StopIteration")->E (.ref e) { s with heap:=h' }):wpAny (model prog w) A (Builtin.SmallTypes.nextOf (.ref jt)) Q E s:=by
 obtain⟨o,ho,hc,hd⟩:=id hj
 obtain⟨ol,hol,_,nl,hdl⟩:=ht
 unfold Builtin.SmallTypes.nextOf
 refine wpAny_bind (wpAny_callSpecial?_slot (name:=Str.ofString "__next__") hj.typeIs F.slot_tuple_iterator_next (wpAny_call_entry F.slot_tuple_iterator_next hj.typeIs F.entry_tuple_iterator_next ?_ (F.args_tuple_iterator_next_1 _)))
 show wpAny _ _ (field (.ref jt) 0 >>= _) _ _ s
 refine wpAny_bind (wpAny_field ho hd (x:=.ref tt) rfl ?_)
 show wpAny _ _ (if (Value.ref tt==Value.none)=true then _ else _) _ _ s
 rw[if_neg (show ¬((Value.ref tt==Value.none)=true) from Bool.false_ne_true)]
 show wpAny _ _ (field (.ref jt) 1 >>= _) _ _ s
 refine wpAny_bind (wpAny_field ho hd (x:=.int i 0) rfl ?_)
 show wpAny _ _ (seqItems? (.ref tt) >>= _) _ _ s
 refine wpAny_bind (wpAny_seqItems hol hdl ?_)
 simp only[Int.toNat_natCast,hx]
 refine wpAny_bind (wpAny_rule (wpAny_bind (wpAny_setField ho hd (by simp) ?_)))
 show wpAny _ _ (newExc (.type "StopIteration") [] >>= fun _=>_) _ _ _
 refine wpAny_bind ?_
 simp only[newExc,newTuple]
 refine wpAny_bind (wpAny_newObj_type ?_ (by size_fits))
 refine wpAny_bind (m:=firstArgMember _ _) (wpAny_of_eq (a:=Value.none) (by first | (simp only[firstArgMember];rfl) | rfl) ?_)
 refine wpAny_newObj_type ?_ (by size_fits)
 simp only[raiseNew]
 refine wpAny_bind (wpAny_handled ?_)
 first | rw[hh] | rw[show A.in1.handled=none from hh]
 refine wpAny_bind (wpAny_pure (wpAny_throw ?_))
 exact hE _ _ (((Heap.SameBut.update ..).extBut.push _).push _) ⟨_,Heap.get?_push_size _ rfl,rfl⟩
theorem Qn(hh:A.handled=none)(jt tt:Addr)(hne:tt≠jt)(its:Array Value):Draws prog w A jt [jt,tt] its.size (fun i v=>its[i]?=some v) (fun i h=>h.IsTupleIter jt tt i/\h.IsTuple tt its) where
 live:=fun _ _ st=>let ⟨o,ho,_⟩:=st.1;⟨o,ho⟩
 frame:=fun _ _ _ st hk=>⟨st.1.at fun o e=>hk jt (by simp) o e,st.2.at fun o e=>hk tt (by simp) o e⟩
 item:=fun i s Q E hi st hQ=>FT st.1 st.2 (x:=its[i]) (by simp[hi]) fun h' hj' hs'=>hQ _ h' s.toks (by simp[hi]) ⟨hj',st.2.extBut hs'.extBut hne⟩ hs'
 done:=fun s Q E st hE=>lZ hh st.1 st.2 (by simp) hE
def GQ(h:Heap)(z TI TO T0:Addr):Prop:=∃b:Bool,h.get? z=some { cls:=.type "zip",data:=.fields #[rawInt T0,.bool b,.bool false,.ref TI,.ref TO] }
variable{z TI TO i1 i2 T0:Addr}{f1 f2:List Addr}{n1 n2 k:Nat}{P1 P2:Nat->Value->Prop}{S1 S2:Nat->Heap->Prop}{a b:Value}
theorem Vr(hz:GQ s.heap z TI TO T0){o0:Obj}(h0:s.heap.get? T0=some o0){Q:Bool->Shared->Prop}
  (h:∀h',GQ h' z TI TO T0->Heap.SameBut z s.heap h'->Q false { s with heap:=h' }):wpAny (model prog w) A (Builtin.SmallTypes.ownedTupleIsFree (.ref z)) Q E s:=by
 obtain⟨bb,hz⟩:=hz
 unfold Builtin.SmallTypes.ownedTupleIsFree
 refine wpAny_bind (wpAny_field hz rfl (x:=rawInt T0) rfl ?_)
 unfold rawInt
 dsimp only
 refine wpAny_bind (Ak (wpAny_pure ?_))
 rw[Int.toNat_natCast,h0]
 simp only[Option.isNone_some,Bool.false_eq_true,if_false]
 refine wpAny_bind (wpAny_field hz rfl (x:=.bool bb) rfl ?_)
 cases bb with
 |true=>
  rw[if_neg (by decide)]
  exact wpAny_pure (h s.heap ⟨true,hz⟩ (Heap.SameBut.refl _ _))
 |false=>
  rw[if_pos (by decide)]
  refine wpAny_bind (wpAny_setField_rec hz (by simp) fun h₁ hz₁ hs₁=>wpAny_pure (h h₁ ⟨true,?_⟩ hs₁))
  exact hz₁
theorem Lh{Q:Option Value->Shared->Prop}(D:V8 z TI TO i1 i2 f1 f2)(D1:Draws prog w A.in1 i1 f1 n1 P1 S1)(D2:Draws prog w A.in1 i2 f2 n2 P2 S2)(h1:k<n1)(h2:k<n2)
  (hz:GQ s.heap z TI TO T0) {o0:Obj} (h0:s.heap.get? T0=some o0) (hTI:IsPair s.heap TI (.ref i1) (.ref i2)) (st1:S1 k s.heap) (st2:S2 k s.heap)
  (hQ:∀ h' tk x y,P1 k x→P2 k y→GQ h' z TI TO T0→S1 (k + 1) h'→S2 (k + 1) h'→IsPair h' s.heap.objs.size x y →
   (∀c o,c≠z->c≠i1->c≠i2->s.heap.get? c=some o->h'.get? c=some o)->Q (some (.ref s.heap.objs.size)) { s with heap:=h',toks:=tk }) :
  wpAny (model prog w) A (pyNext (.ref z)) Q E s:=by
 obtain⟨bb,hzz⟩:=id hz
 have hT:s.TypeIs (.ref z) "zip":=⟨_,hzz,rfl⟩
 unfold pyNext
 refine wpAny_bind (wpAny_attempt (wpAny_callSpecial?_slot (name:=Str.ofString "__next__") hT F.slot_zip_next (wpAny_call_entry F.slot_zip_next hT F.entry_zip_next ?_ (F.args_zip_next_1 _))))
 show wpAny _ _ (field (.ref z) 2 >>= fun _=>_) _ _ _
 refine wpAny_bind (wpAny_field hzz rfl (x:=.bool false) rfl ?_)
 show wpAny _ _ (field (.ref z) 3 >>= fun _=>_) _ _ _
 refine wpAny_bind (wpAny_field hzz rfl (x:=.ref TI) rfl ?_)
 refine wpAny_bind (wpAny_seqItems hTI rfl ?_)
 show wpAny _ _ (Builtin.SmallTypes.ownedTupleIsFree (.ref z) >>= fun _=>_) _ _ _
 refine wpAny_bind (Vr hz h0 fun h₁ hz₁ hs₁=>?_)
 simp only[Bool.false_eq_true,if_false]
 refine wpAny_bind ?_
 rw[←Array.forIn_toList]
 simp only[List.forIn_cons,List.forIn_nil]
 have ne:∀ {c d:Addr} {f:List Addr},c∈f->d∉f->c≠d:=fun hc hd e=>hd (e▸hc)
 have s11:S1 k h₁:=D1.frame _ _ _ st1 fun c hc o e=>(hs₁.2 c (ne hc D.a1.1)).trans e
 have s21:S2 k h₁:=D2.frame _ _ _ st2 fun c hc o e=>(hs₁.2 c (ne hc D.a2.1)).trans e
 refine wpAny_bind (wpAny_bind (wpAny_holding ?_))
 show wpAny _ _ (Builtin.SmallTypes.nextOf (.ref i1) >>= fun _=>_) _ _ _
 refine wpAny_bind (D1.item k { s with heap:=h₁ } _ _ h1 s11 fun x h₂ tk₂ hx s12 hs₂=>wpAny_pure (wpAny_pure ?_))
 have s22:S2 k h₂:=D2.frame _ _ _ s21 fun c hc o e=>(hs₂.2 c (ne hc D.a2.2.2)).trans e
 refine wpAny_bind (wpAny_bind (wpAny_holding ?_))
 show wpAny _ _ (Builtin.SmallTypes.nextOf (.ref i2) >>= fun _=>_) _ _ _
 refine wpAny_bind (D2.item k { s with heap:=h₂,toks:=tk₂ } _ _ h2 s22 fun y h₃ tk₃ hy s23 hs₃=>wpAny_pure (wpAny_pure (wpAny_pure ?_)))
 have s13:S1 (k+1) h₃:=D1.frame _ _ _ s12 fun c hc o e=>(hs₃.2 c (ne hc D.a1.2.2)).trans e
 refine wpAny_bind (wpAny_newTuple (wpAny_pure ⟨_,rfl,wpAny_pure ?_⟩) (by show 2<=sizeLine;decide))
 have hsz:h₃.objs.size=s.heap.objs.size:=by rw[hs₃.1,hs₂.1,hs₁.1]
 have up:∀c o,h₃.get? c=some o->(h₃.push { cls:=.type "tuple",data:=.seq #[x,y] }).get? c=some o:=fun c o e=>Heap.get?_push_of_some _ e
 have hn:IsPair (h₃.push { cls:=.type "tuple",data:=.seq #[x,y] }) h₃.objs.size x y:=Heap.get?_push_size _ rfl
 rw[hsz] at hn
 obtain⟨b1,hz1⟩:=hz₁
 have hz3:GQ (h₃.push { cls:=.type "tuple",data:=.seq #[x,y] }) z TI TO T0:=⟨b1,up _ _ ((hs₃.2 z D.i2z.symm).trans ((hs₂.2 z D.i1z.symm).trans hz1))⟩
 show Q (some (.ref h₃.objs.size)) _
 rw[hsz]
 exact hQ _ tk₃ x y hx hy hz3 (D1.frame _ _ _ s13 fun c _ o e=>up c o e) (D2.frame _ _ _ s23 fun c _ o e=>up c o e) hn fun c o c1 c3 c4 e=>up c o ((hs₃.2 c c4).trans ((hs₂.2 c c3).trans ((hs₁.2 c c1).trans e)))
theorem PX{Q:Option Value->Shared->Prop}(D:V8 z TI TO i1 i2 f1 f2)(fr1:∀h h':Heap,S1 k h->(∀b∈f1,∀o,h.get? b=some o->h'.get? b=some o)->S1 k h')(fr2:∀h h':Heap,S2 k h->(∀b∈f2,∀o,h.get? b=some o->h'.get? b=some o)->S2 k h')
  (hend:Dp prog w A.in1 i1 (S1 k)\/((k<n1/\Draws prog w A.in1 i1 f1 n1 P1 S1)/\Dp prog w A.in1 i2 (S2 k)))
  (hz:GQ s.heap z TI TO T0) {o0:Obj} (h0:s.heap.get? T0=some o0) (hTI:IsPair s.heap TI (.ref i1) (.ref i2)) (st1:S1 k s.heap) (st2:S2 k s.heap)
  (hQ:∀h' tk,(∀c o,c≠z->c≠i1->c≠i2->s.heap.get? c=some o->h'.get? c=some o)->Q none { s with heap:=h',toks:=tk }) :
  wpAny (model prog w) A (pyNext (.ref z)) Q E s:=by
 obtain⟨bb,hzz⟩:=id hz
 have hT:s.TypeIs (.ref z) "zip":=⟨_,hzz,rfl⟩
 unfold pyNext
 refine wpAny_bind (wpAny_attempt (wpAny_callSpecial?_slot (name:=Str.ofString "__next__") hT F.slot_zip_next (wpAny_call_entry F.slot_zip_next hT F.entry_zip_next ?_ (F.args_zip_next_1 _))))
 have fin:∀h' e tk,(∀c o,c≠z->c≠i1->c≠i2->s.heap.get? c=some o->h'.get? c=some o)->(∃o,h'.get? e=some o/\o.cls=.type "StopIteration") ->
   wpAny (model prog w) A (do let r ←isInstance (.ref e) (Value.type "StopIteration");if r=true then pure none else throw (.ref e)) Q E { s with heap:=h',toks:=tk }:=by
  rintro h' e tk hk ⟨o,ho,hc⟩
  exact wpAny_bind (wpAny_isInstance (T := "StopIteration") (b:=true) ⟨o,ho,hc⟩ isSubtype_stop (wpAny_pure (hQ h' tk hk)))
 show wpAny _ _ (field (.ref z) 2 >>= fun _=>_) _ _ _
 refine wpAny_bind (wpAny_field hzz rfl (x:=.bool false) rfl ?_)
 show wpAny _ _ (field (.ref z) 3 >>= fun _=>_) _ _ _
 refine wpAny_bind (wpAny_field hzz rfl (x:=.ref TI) rfl ?_)
 refine wpAny_bind (wpAny_seqItems hTI rfl ?_)
 show wpAny _ _ (Builtin.SmallTypes.ownedTupleIsFree (.ref z) >>= fun _=>_) _ _ _
 refine wpAny_bind (Vr hz h0 fun h₁ hz₁ hs₁=>?_)
 simp only[Bool.false_eq_true,if_false]
 refine wpAny_bind ?_
 rw[←Array.forIn_toList]
 simp only[List.forIn_cons,List.forIn_nil]
 have ne:∀ {c d:Addr} {f:List Addr},c∈f->d∉f->c≠d:=fun hc hd e=>hd (e▸hc)
 have s11:S1 k h₁:=fr1 _ _ st1 fun c hc o e=>(hs₁.2 c (ne hc D.a1.1)).trans e
 have s21:S2 k h₁:=fr2 _ _ st2 fun c hc o e=>(hs₁.2 c (ne hc D.a2.1)).trans e
 refine wpAny_bind (wpAny_bind (wpAny_holding ?_))
 show wpAny _ _ (Builtin.SmallTypes.nextOf (.ref i1) >>= fun _=>_) _ _ _
 rcases hend with hend | ⟨⟨hk1,D1⟩,hend⟩
 ·exact wpAny_bind (hend { s with heap:=h₁ } _ _ s11 fun h₂ e hs₂ he=>fin h₂ e s.toks (fun c o c1 c3 _ x=>hs₂ c o c3 ((hs₁.2 c c1).trans x)) he)
 ·refine wpAny_bind (D1.item k { s with heap:=h₁ } _ _ hk1 s11 fun x h₂ tk₂ hx s12 hs₂=>wpAny_pure (wpAny_pure ?_))
  have s22:S2 k h₂:=fr2 _ _ s21 fun c hc o e=>(hs₂.2 c (ne hc D.a2.2.2)).trans e
  refine wpAny_bind (wpAny_bind (wpAny_holding ?_))
  show wpAny _ _ (Builtin.SmallTypes.nextOf (.ref i2) >>= fun _=>_) _ _ _
  exact wpAny_bind (hend { s with heap:=h₂,toks:=tk₂ } _ _ s22 fun h₃ e hs₃ he=>fin h₃ e tk₂ (fun c o c1 c3 c4 x=>hs₃ c o c4 ((hs₂.2 c c3).trans ((hs₁.2 c c1).trans x))) he)
end
def ZJ(h:Heap)(z TI TO:Addr):Prop:=(IsZip h z TI TO .none/\∃u v,IsPair h TO u v)\/∃T0 o0,GQ h z TI TO T0/\h.get? T0=some o0/\T0≠z/\∃oO,h.get? TO=some oO
section
variable{X:Cx}{pins:List (Addr×Obj)}{σ:St}{A:Around}{z TI TO i1 i2 ta lb S:Addr}{us ws:List Value}{xs ys:List V}{dx dy:List D}{H0:Hp}{H3:aF}{R:Result->Shared->Prop}
theorem Q8(hh:A.handled=none)(D:V8 z TI TO i1 i2 [i1,ta] [i2,lb])(n1:ta≠i1)(n2:lb≠i2){i:Nat}{s:Shared}{H:Hp}{E:Value->Shared->Prop}{Q:Option Value->Shared->Prop}(I:L2.Inv X pins σ H s)
  (hf:∀b∈[z,TI,TO,i1,i2],fB X pins H b) (hz:ZJ s.heap z TI TO) (hTI:IsPair s.heap TI (.ref i1) (.ref i2)) (h1:s.heap.IsTupleIter i1 ta i) (h2:s.heap.IsTuple ta us.toArray) (h3:s.heap.IsListIter i2 lb i) (h4:s.heap.IsList lb ws.toArray)
  (hi1:i<us.length) (hi2:i<ws.length) {x y:V} (rx:∀u,us[i]?=some u->RelV x u) (ry:∀u,ws[i]?=some u->RelV y u)
  (hQ:∀ h' tk,L2.Inv X pins σ (upd H s.heap.objs.size (.tup [x,y])) { s with heap:=h',toks:=tk }→ZJ h' z TI TO→IsPair h' TI (.ref i1) (.ref i2)→h'.IsTupleIter i1 ta (i + 1)→h'.IsTuple ta us.toArray→h'.IsListIter i2 lb (i + 1)→h'.IsList lb ws.toArray →
   (∀c o,c∉[z,TI,TO,i1,i2]->s.heap.get? c=some o->h'.get? c=some o)->Q (some (.ref s.heap.objs.size)) { s with heap:=h',toks:=tk }) :
  wpAny (model X.prog X.w) A (pyNext (.ref z)) Q E s:=by
 have DT:=Qn (prog:=X.prog) (w:=X.w) (A:=A.in1) hh i1 ta n1 us.toArray
 have DL:=Draws.list (prog:=X.prog) (w:=X.w) (A:=A.in1) hh i2 lb n2 ws.toArray
 have o1:∀ {h:Heap},h.IsTupleIter i1 ta i->∃o,h.get? i1=some o:=fun ⟨o,e,_⟩=>⟨o,e⟩
 have big:∀c∈[z,TI,TO,i1,i2],(∃o,s.heap.get? c=some o)->s.heap.objs.size≠c:=fun c _ ⟨o,e⟩=>Nat.ne_of_gt (Heap.lt_size e)
 have k1:i<us.toArray.size:=by simpa using hi1
 have k2:i<ws.toArray.size:=by simpa using hi2
 have two:∀ {h':Heap} {tk:Nat} {u v:Value},us.toArray[i]?=some u->ws.toArray[i]?=some v->IsPair h' s.heap.objs.size u v->(∀c o,c∉[z,TI,TO,i1,i2]->s.heap.get? c=some o->h'.get? c=some o)->L2.Inv X pins σ (upd H s.heap.objs.size (.tup [x,y])) { s with heap:=h',toks:=tk }:=fun hu hv hp hk=>
  K5 (ch:=[z,TI,TO,i1,i2]) I (fun c o hcn e=>hk c o hcn e) hf (Nat.le_refl _) ⟨by show 2<=sizeLine;decide,[_,_],.cons (rx _ (by simpa using hu)) (.cons (ry _ (by simpa using hv)) .nil),⟨_,hp,rfl,_,rfl,rfl⟩⟩
 have out:∀ {c:Addr},c∉[z,TI,TO,i1,i2]->c≠z/\c≠TI/\c≠TO/\c≠i1/\c≠i2:=fun h=>by simp only[List.mem_cons,List.not_mem_nil,or_false,not_or] at h;exact h
 rcases hz with ⟨hz,u0,v0,hTO⟩ | ⟨T0,o0,hz,h0,hT0,oO,hO⟩
 ·refine Mj (k:=i) D DT DL k1 k2 hz hTI hTO ⟨h1,h2⟩ ⟨h3,h4⟩ fun h' tk u v hu hv a1 a2 sa sb a5 a7=>?_
  have hk:∀c o,c∉[z,TI,TO,i1,i2]->s.heap.get? c=some o->h'.get? c=some o:=fun c o hc e=>a7 c o (out hc).1 (out hc).2.2.1 (out hc).2.2.2.1 (out hc).2.2.2.2 e
  exact hQ h' tk (two hu hv a5 hk) (.inr ⟨s.heap.objs.size,_,⟨false,a1⟩,a5,big z (by simp) ⟨_,hz⟩,_,a2⟩) (a7 TI _ D.TIz D.TITO D.TIi1 D.TIi2 hTI) sa.1 sa.2 sb.1 sb.2 hk
 ·refine Lh (k:=i) D DT DL k1 k2 hz h0 hTI ⟨h1,h2⟩ ⟨h3,h4⟩ fun h' tk u v hu hv a1 sa sb a5 a7=>?_
  have hk:∀c o,c∉[z,TI,TO,i1,i2]->s.heap.get? c=some o->h'.get? c=some o:=fun c o hc e=>a7 c o (out hc).1 (out hc).2.2.2.1 (out hc).2.2.2.2 e
  have h0':∃o,h'.get? T0=some o:=by
   by_cases e1:T0=i1
   ·obtain⟨o,e,_⟩:=sa.1;exact⟨o,by rw[e1];exact e⟩
   ·by_cases e2:T0=i2
    ·obtain⟨o,e,_⟩:=sb.1;exact⟨o,by rw[e2];exact e⟩
    ·exact⟨o0,a7 T0 o0 hT0 e1 e2 h0⟩
  obtain⟨o',h0'⟩:=h0'
  exact hQ h' tk (two hu hv a5 hk) (.inr ⟨T0,o',a1,h0',hT0,oO,a7 TO _ D.TOz D.TOi1 D.TOi2 hO⟩) (a7 TI _ D.TIz D.TIi1 D.TIi2 hTI) sa.1 sa.2 sb.1 sb.2 hk
theorem N7(hh:A.handled=none)(D:V8 z TI TO i1 i2 [i1,ta] [i2,lb])(n1:ta≠i1)(n2:lb≠i2){i:Nat}{s:Shared}{H:Hp}{E:Value->Shared->Prop}{Q:Option Value->Shared->Prop}(I:L2.Inv X pins σ H s)
  (hf:∀b∈[z,TI,TO,i1,i2],fB X pins H b) (hz:ZJ s.heap z TI TO) (hTI:IsPair s.heap TI (.ref i1) (.ref i2)) (h1:s.heap.IsTupleIter i1 ta i) (h2:s.heap.IsTuple ta us.toArray) (h3:s.heap.IsListIter i2 lb i) (h4:s.heap.IsList lb ws.toArray)
  (hi:us.length<=i\/ws.length<=i)
  (hQ:∀h' tk,L2.Inv X pins σ H { s with heap:=h',toks:=tk }->(∀c o,c∉[z,TI,TO,i1,i2]->s.heap.get? c=some o->h'.get? c=some o)->Q none { s with heap:=h',toks:=tk }) :
  wpAny (model X.prog X.w) A (pyNext (.ref z)) Q E s:=by
 have DT:=Qn (prog:=X.prog) (w:=X.w) (A:=A.in1) hh i1 ta n1 us.toArray
 have DL:=Draws.list (prog:=X.prog) (w:=X.w) (A:=A.in1) hh i2 lb n2 ws.toArray
 have out:∀ {c:Addr},c∉[z,TI,TO,i1,i2]->c≠z/\c≠TI/\c≠TO/\c≠i1/\c≠i2:=fun h=>by simp only[List.mem_cons,List.not_mem_nil,or_false,not_or] at h;exact h
 have e1:us.length<=i->Dp X.prog X.w A.in1 i1 ((fun i h=>h.IsTupleIter i1 ta i/\h.IsTuple ta us.toArray) i):=fun hle s' Q' E' st' hE=>lZ hh st'.1 st'.2 (by simp;grind) hE
 have e2:ws.length<=i->Dp X.prog X.w A.in1 i2 ((fun i h=>h.IsListIter i2 lb i/\h.IsList lb ws.toArray) i):=fun hle s' Q' E' st' hE=>wpAny_nextOf_list_end hh st'.1 st'.2 (by simp;grind) hE
 have he:Dp X.prog X.w A.in1 i1 ((fun i h=>h.IsTupleIter i1 ta i/\h.IsTuple ta us.toArray) i)\/((i<us.toArray.size/\Draws X.prog X.w A.in1 i1 [i1,ta] us.toArray.size (fun i v=>us.toArray[i]?=some v) (fun i h=>h.IsTupleIter i1 ta i/\h.IsTuple ta us.toArray))/\Dp X.prog X.w A.in1 i2 ((fun i h=>h.IsListIter i2 lb i/\h.IsList lb ws.toArray) i)):=by
  by_cases hle:us.length<=i
  ·exact .inl (e1 hle)
  ·exact .inr ⟨⟨by simp;grind,DT⟩,e2 (by grind)⟩
 rcases hz with ⟨hz,u0,v0,hTO⟩ | ⟨T0,o0,hz,h0,hT0,oO,hO⟩
 ·refine Ra (k:=i) (P1:=fun i v=>us.toArray[i]?=some v) (n1:=us.toArray.size) (S1:=fun i h=>h.IsTupleIter i1 ta i/\h.IsTuple ta us.toArray) (S2:=fun i h=>h.IsListIter i2 lb i/\h.IsList lb ws.toArray) D (fun _ _ q k=>DT.frame i _ _ q k) (fun _ _ q k=>DL.frame i _ _ q k) he hz hTI hTO ⟨h1,h2⟩ ⟨h3,h4⟩ fun h' tk k=>?_
  have hk:∀c o,c∉[z,TI,TO,i1,i2]->s.heap.get? c=some o->h'.get? c=some o:=fun c o hc e=>k c o (out hc).1 (out hc).2.2.1 (out hc).2.2.2.1 (out hc).2.2.2.2 e
  exact hQ h' tk (yq (t':=tk) (ch:=[z,TI,TO,i1,i2]) I hk hf) hk
 ·refine PX (k:=i) (P1:=fun i v=>us.toArray[i]?=some v) (n1:=us.toArray.size) (S1:=fun i h=>h.IsTupleIter i1 ta i/\h.IsTuple ta us.toArray) (S2:=fun i h=>h.IsListIter i2 lb i/\h.IsList lb ws.toArray) D (fun _ _ q k=>DT.frame i _ _ q k) (fun _ _ q k=>DL.frame i _ _ q k) he hz h0 hTI ⟨h1,h2⟩ ⟨h3,h4⟩ fun h' tk k=>?_
  have hk:∀c o,c∉[z,TI,TO,i1,i2]->s.heap.get? c=some o->h'.get? c=some o:=fun c o hc e=>k c o (out hc).1 (out hc).2.2.2.1 (out hc).2.2.2.2 e
  exact hQ h' tk (yq (t':=tk) (ch:=[z,TI,TO,i1,i2]) I hk hf) hk
end
def Xm(t:Addr):Obj:={ cls:=.type "tuple_iterator",data:=.fields #[.ref t,.int 0 0] }
set_option maxHeartbeats 4000000 in
theorem zj(t l:Addr)(xs ys:Array Value) :
  Meets (Builtin.«zip.__new__» ⟨[.type "zip",.ref t,.ref l],[]⟩) (fun _ R s=>(s.heap.IsTuple t xs/\s.heap.IsList l ys)/\R (.ok (.ret (.ref (zh4 s.heap (Xm t) (Xx l)).objs.size))) { s with heap:=Fo s.heap (Xm t) (Xx l) }) :=
 .of_wp fun prog w A R s h=>by
  obtain⟨hp,g,d,tk,os⟩:=s
  obtain⟨⟨ht,hl⟩,h⟩:=h
  have hsub:=sub_zip
  have hT:Heap.IsTuple (Shared.heap ⟨hp,g,d,tk,os⟩) t xs:=ht
  have hL:Heap.IsList (Shared.heap ⟨hp.push { cls:=.type "tuple_iterator",data:=.fields #[.ref t,.int 0 0] },g,d,tk,os⟩) l ys:=Heap.IsList.push hl _
  wp_walk using wpAny_pyIter_tuple hT,wpAny_pyIter_list hL
  exact⟨_,rfl,h⟩
theorem CZ{prog:Program}{w:World}{A:Around}{E:Value->Shared->Prop}{s:Shared}{t l:Addr}{xs ys:Array Value}{Q:Value->Shared->Prop}(ht:s.heap.IsTuple t xs)(hl:s.heap.IsList l ys)
  (h:Q (.ref (s.heap.objs.size+4)) { s with heap:=Fo s.heap (Xm t) (Xx l) }):wpAny (model prog w) A (call (.type "zip") [.ref t,.ref l]) Q E s:=by
 refine callType_new F.called_zip (by decide) (F.typeCall_zip_2 _ _) (F.newCall_zip_2 _ _) (fun obj=>F.args_object_init_3 obj _ _) F.entry_zip_new (zj t l xs ys) ⟨⟨ht,hl⟩,?_⟩
 obtain⟨z4,g5,_⟩:=V7 s.heap (Xm t) (Xx l) rfl rfl
 show _/\_
 rw[z4]
 exact⟨⟨_,g5,rfl⟩,h⟩
theorem Kc:typeLookup (.type "zip") "__len__" = pure none:=by
 rw[typeLookup_type,builtinLookup_eq_fast]
 kernel_rfl
theorem Hg:typeLookup (.type "zip") "__length_hint__" = pure none:=by
 rw[typeLookup_type,builtinLookup_eq_fast]
 kernel_rfl
section
variable{X:Cx}{pins:List (Addr×Obj)}{σ:St}{A:Around}{z TI TO i1 i2 ta lb S:Addr}{us ws:List Value}{xs ys:List V}{dx dy:List D}{H0:Hp}{H3:aF}{R:Result->Shared->Prop}{res:Value}
theorem Oe(hh:A.handled=none)(D:V8 z TI TO i1 i2 [i1,ta] [i2,lb])(n1:ta≠i1)(n2:lb≠i2)(hS:S∉[z,TI,TO,i1,i2])(hSt:S≠ta)(hSl:S≠lb)(rx:Vals xs us)(ry:Vals ys ws)(px:bj X.K H0 dx xs)(py:bj X.K H0 dy ys)(hu:us.length<=1000) :
  ∀(m i:Nat) (s:Shared) (H:Hp) (acc:Array Value) (c:Nat) (vs:List V),min us.length ws.length-i=m->i<=min us.length ws.length->L2.Inv X pins σ H s->TK H0 H->HR X.K H3 H->(∀b∈[z,TI,TO,i1,i2],fB X pins H b)->fB X pins H S->ZJ s.heap z TI TO->IsPair s.heap TI (.ref i1) (.ref i2) ->
   s.heap.IsTupleIter i1 ta i->s.heap.IsTuple ta us.toArray->s.heap.IsListIter i2 lb i->s.heap.IsList lb ws.toArray->s.heap.get? S=some { cls:=.type "list",dict:=none,data:=.seq acc c,slots:=#[] }->Vals vs acc.toList->bj X.K H ((tG dx dy).take i) vs->vs.length=i ->
   (∀s' H' vs' acc' c',L2.Inv X pins σ H' s'->TK H0 H'->HR X.K H3 H'->fB X pins H' S->fB X pins H' z->s'.heap.get? S=some { cls:=.type "list",dict:=none,data:=.seq acc' c',slots:=#[] }->Vals vs' acc'.toList->bj X.K H' (tG dx dy) vs'->vs'.length<=1000->R (.ok (.ret res)) s') ->
   codeAny (model X.prog X.w) A (.builtin "list.extend.loop" ⟨[.ref S,.ref z,res],[]⟩) R s:=by
 have lz:(tG dx dy).length=min us.length ws.length:=by unfold tG;rw[List.length_zipWith,px.length,py.length,rx.length,ry.length]
 intro m
 induction m with
 |zero=>
  intro i s H acc c vs hm hi I tk hr hf fS hz hTI h1 h2 h3 h4 hs hv hrep hlen hR
  refine codeAny_builtin F.entry_extend_loop ?_
  rw[Around.under_plainId F.plain_extend_loop _]
  show wpAny _ A.in1 (pyNext (.ref z) >>= fun _=>_) _ _ s
  refine wpAny_bind (N7 (A:=A.in1) hh D n1 n2 I hf hz hTI h1 h2 h3 h4 (by grind) fun h' t' I' hk=>?_)
  refine wpAny_pure (hR _ H vs acc c I' tk hr fS (hf z (by simp)) (hk S _ hS hs) hv ?_ (by grind))
  rw[List.take_of_length_le (by grind)] at hrep
  exact hrep
 |succ m ih=>
  intro i s H acc c vs hm hi I tk hr hf fS hz hTI h1 h2 h3 h4 hs hv hrep hlen hR
  refine codeAny_builtin F.entry_extend_loop ?_
  rw[Around.under_plainId F.plain_extend_loop _]
  show wpAny _ A.in1 (pyNext (.ref z) >>= fun _=>_) _ _ s
  have hx:i<xs.length:=by rw[rx.length];grind
  have hy:i<ys.length:=by rw[ry.length];grind
  have gx:xs[i]?=some xs[i]:=List.getElem?_eq_getElem hx
  have gy:ys[i]?=some ys[i]:=List.getElem?_eq_getElem hy
  obtain⟨u,eu,ru⟩:=rx.get gx
  obtain⟨v,ev,rv⟩:=ry.get gy
  have hT:H s.heap.objs.size=none:=I.hok.fresh (Nat.le_refl _)
  refine wpAny_bind (Q8 (A:=A.in1) hh D n1 n2 I hf hz hTI h1 h2 h3 h4 (by grind) (by grind) (x:=xs[i]) (y:=ys[i]) (fun w e=>by rw[eu] at e;cases e;exact ru) (fun w e=>by rw[ev] at e;cases e;exact rv) fun h' t' I' hz' hTI' h1' h2' h3' h4' hk=>?_)
  have hs':=hk S _ hS hs
  have al:acc.size=i:=by rw[←Array.length_toList,←hv.length];exact hlen
  show wpAny _ A.in1 (updateSeq S (·.push (Value.ref s.heap.objs.size)) >>= fun _=>_) _ _ _
  refine wpAny_bind ?_
  have oth:∀b o,b≠S->h'.get? b=some o->(h'.update S (Obj.mapSeq (·.push (Value.ref s.heap.objs.size)))).get? b=some o:=fun b o hb e=>(Heap.get?_update_other _ _ (Ne.symm hb)).trans e
  have tk1:TK H (upd H s.heap.objs.size (.tup [xs[i],ys[i]])):=TK.fresh hT
  have nS:S≠s.heap.objs.size:=Nat.ne_of_lt (Heap.lt_size hs)
  have fS':fB X pins (upd H s.heap.objs.size (.tup [xs[i],ys[i]])) S:=⟨by rw[aD nS];exact fS.1,fS.2⟩
  have old:∀b∈[z,TI,TO,i1,i2],∃o,s.heap.get? b=some o:=by
   intro b hb
   simp only[List.mem_cons,List.not_mem_nil,or_false] at hb
   rcases hb with rfl | rfl | rfl | rfl | rfl
   ·rcases hz with ⟨q,_⟩ | ⟨_,_,⟨_,q⟩,_⟩
    ·exact⟨_,q⟩
    ·exact⟨_,q⟩
   ·exact⟨_,hTI⟩
   ·rcases hz with ⟨_,_,_,q⟩ | ⟨_,_,_,_,_,o,q⟩
    ·exact⟨_,q⟩
    ·exact⟨_,q⟩
   ·obtain⟨o,e,_⟩:=h1;exact⟨o,e⟩
   ·obtain⟨o,e,_⟩:=h3;exact⟨o,e⟩
  have hf':∀b∈[z,TI,TO,i1,i2],fB X pins (upd H s.heap.objs.size (.tup [xs[i],ys[i]])) b:=fun b hb=>by
   obtain⟨o,e⟩:=old b hb
   exact⟨by rw[aD (Nat.ne_of_lt (Heap.lt_size e))];exact (hf b hb).1,(hf b hb).2⟩
  have I2:=yq (t':=t') (ch:=[S]) (h':=h'.update S (Obj.mapSeq (·.push (Value.ref s.heap.objs.size)))) I' (fun b o hb e=>oth b o (fun q=>hb (by simp[q])) e) (fun b hb=>by rw[List.mem_singleton.mp hb];exact fS')
  have zS:∀b∈[z,TI,TO,i1,i2],b≠S:=fun b hb e=>hS (e▸hb)
  have hz2:ZJ (h'.update S (Obj.mapSeq (·.push (Value.ref s.heap.objs.size)))) z TI TO:=by
   rcases hz' with ⟨q,u0,v0,q2⟩ | ⟨T0,o0,⟨b0,q⟩,q2,q3,oO,q4⟩
   ·exact .inl ⟨oth _ _ (zS z (by simp)) q,u0,v0,oth _ _ (zS TO (by simp)) q2⟩
   ·by_cases e:T0=S
    ·exact .inr ⟨T0,_,⟨b0,oth _ _ (zS z (by simp)) q⟩,by rw[e];exact Heap.get?_update_self _ hs' rfl,q3,oO,oth _ _ (zS TO (by simp)) q4⟩
    ·exact .inr ⟨T0,o0,⟨b0,oth _ _ (zS z (by simp)) q⟩,oth _ _ e q2,q3,oO,oth _ _ (zS TO (by simp)) q4⟩
  have hd:dx[i]?=some (dx[i]'(by rw[px.length];exact hx)):=List.getElem?_eq_getElem _
  have hd':dy[i]?=some (dy[i]'(by rw[py.length];exact hy)):=List.getElem?_eq_getElem _
  obtain⟨vx,evx,rvx⟩:=px.get hd
  obtain⟨vy,evy,rvy⟩:=py.get hd'
  rw[gx] at evx;cases evx
  rw[gy] at evy;cases evy
  have ez:(tG dx dy).take (i+1)=(tG dx dy).take i++[.tup [dx[i]'(by rw[px.length];exact hx),dy[i]'(by rw[py.length];exact hy)]]:=by
   rw[List.take_add_one]
   congr 1
   unfold tG
   rw[List.getElem?_zipWith,hd,hd'];rfl
  refine wpAny_updateSeq hs' rfl (wpAny_pure ⟨plainId_quiet F.plain_extend_loop _,ih (i+1) _ _ (acc.push (.ref s.heap.objs.size)) _ (vs++[.ref s.heap.objs.size]) (by grind) (by grind) I2 (tk.trans tk1) (hr.tup hT) hf' fS' hz2 (oth _ _ (zS TI (by simp)) hTI') (h1'.at fun o e=>oth _ o (zS i1 (by simp)) e) (h2'.at fun o e=>oth _ o hSt.symm e) (h3'.at fun o e=>oth _ o (zS i2 (by simp)) e) (h4'.at fun o e=>oth _ o hSl.symm e) (Heap.get?_update_self _ hs' rfl) ?_ ?_ (by rw[List.length_append,hlen];rfl) hR⟩)
   (by rw[al,sizeLine_eq];grind) (by show (acc.push _).size<=sizeLine+1;rw[Array.size_push,al,sizeLine_eq];grind)
  ·rw[Array.toList_push]
   exact Vals.aax hv rfl
  ·rw[ez]
   exact (hrep.mono tk1).snoc (.tup aQ (.cons (rvx.mono (tk.trans tk1)) (.cons (rvy.mono (tk.trans tk1)) .nil)))
end
theorem Ur{prog:Program}{w:World}{A:Around}{s:Shared}{R:Result->Shared->Prop}{S z TI TO:Addr}{res:Value}{c0:Nat}(hSz:S≠z)(hS:s.heap.get? S=some { cls:=.type "list",data:=.seq #[] c0 })(hz:IsZip s.heap z TI TO .none)
  (h:∀h' c,(∀b o,b≠S->s.heap.get? b=some o->h'.get? b=some o)->h'.get? S=some { cls:=.type "list",dict:=none,data:=.seq #[] c,slots:=#[] }->codeAny (model prog w) A (.builtin "list.extend.loop" ⟨[.ref S,.ref z,res],[]⟩) R { s with heap:=h' }) :
  wpAny (model prog w) A.in1 (Builtin.List.listExtendWith (.ref S) (.ref z) res) (fun fin s'=>match fin with
   |.done f=>R (.ok f) s'
   |.again c=>c.quiet=true/\codeAny (model prog w) A c R s') (fun e s'=>R (.error e) s') s:=by
 have hT:s.TypeIs (.ref z) "zip":=⟨_,hz,rfl⟩
 have h1:Builtin.List.listSameRef (.ref S) (.ref z)=false:=by simp[Builtin.List.listSameRef,hSz]
 unfold Builtin.List.listExtendWith
 refine wpAny_bind (wpAny_typeOf hT ?_)
 rw[if_neg (by rw[h1];decide)]
 refine wpAny_bind (wpAny_pyIter_zip hz ?_)
 refine wpAny_bind (wpAny_holding ?_)
 unfold Builtin.List.listLengthHint
 refine wpAny_bind (wpAny_specialOf hT Kc ?_)
 show wpAny _ A.in1 (specialOf (Value.ref z) (Str.ofString "__length_hint__") >>= fun _=>_) _ _ s
 refine wpAny_bind (wpAny_specialOf hT Hg (wpAny_pure ?_))
 rw[if_pos (by rfl)]
 refine wpAny_bind (wpAny_rule ?_)
 unfold Builtin.List.listTouch
 refine wpAny_bind (wpAny_bind ?_)
 show wpAny _ _ (updateSeq S (fun x=>x.push Value.none)) _ _ s
 refine wpAny_updateSeq hS rfl ?_
 have g1:=Heap.get?_update_self (Obj.mapSeq (fun x:Array Value=>x.push Value.none)) hS rfl
 have o1:∀b o,b≠S->s.heap.get? b=some o->(s.heap.update S (Obj.mapSeq (fun x:Array Value=>x.push Value.none))).get? b=some o:=fun b o hb e=>(Heap.get?_update_other _ _ (Ne.symm hb)).trans e
 show wpAny _ _ (updateSeq S (fun x=>x.pop)) _ _ { s with heap:=s.heap.update S (Obj.mapSeq (fun x:Array Value=>x.push Value.none)) }
 refine wpAny_updateSeq g1 rfl ?_
 have g2:=Heap.get?_update_self (Obj.mapSeq (fun x:Array Value=>x.pop)) g1 rfl
 exact wpAny_pure ⟨plainId_quiet F.plain_extend_loop _,h _ _ (fun b o hb e=>(Heap.get?_update_other _ _ (Ne.symm hb)).trans (o1 b o hb e)) g2⟩
section
variable{X:Cx}
theorem Gr{a b:Expr}{ta tb:cC}{p1 p2 pos1 pos2:Pos}(hc:X.calm=true)(m1:X.mg "list" = none)(m2:X.mg "zip" = none)(ha:cN X a ta)(hb:cN X b tb)(g1:Gl X "list":=by rfl)(g2:Gl X "zip":=by rfl)
  (hs:starEach [.Call (.Name "zip" p2) [a,b] [] pos2] X.env=[(false,eval (.Call (.Name "zip" p2) [a,b] [] pos2) X.env)]:=by rfl) (hs0:starEach [a,b] X.env=[(false,eval a X.env),(false,eval b X.env)]:=by rfl) (hs2:starEach [b] X.env=[(false,eval b X.env)]:=by rfl)
  (hs3:starEach [a,b] X.env=(false,eval a X.env)::starEach [b] X.env:=by rfl) (hs4:starEach [b] X.env=(false,eval b X.env)::starEach [] X.env:=by rfl) :
  cN X (.Call (.Name "list" p1) [.Call (.Name "zip" p2) [a,b] [] pos2] [] pos1) (lz3 ta tb):=by
 intro pins s σ H Q I ⟨σ3,H3,Q3,sr,hr3,t,kk⟩
 refine Call_ (iB I g1 m1 boot_list (PyProof.Rows.callWith_type1 ?_ hs rfl))
 rw[hs]
 refine Calls.spliced_cons ?_
 have hp:Mu X [a,b] (au ta (au tb aH)):=ao ha (ao hb az hs4) hs3
 refine Call_ (iB I g2 m2 boot_zip (PyProof.Rows.callWith_type1 (cJ (hp pos2 pins s σ H (fun vs H1=>∃t0 l0 xs ys dx dy H3',vs=[.ref t0,.ref l0]/\TK H H1/\HR X.K H3' H1/\H1 t0=some (.tup xs)/\H1 l0=some (.lst ys)/\bj X.K H1 dx xs/\bj X.K H1 dy ys/\dx.length<=1000/\∀p,H3' p=none->Q3 (.ref p) (aO H3' p (.lst (tG dx dy)))) I
  ⟨σ3,H3,fun ds H1=>(match ds with | [x,y]=>Zr x y H1 Q3 | _=>False),sr,hr3,t,fun ds vs H3a Ha tka hra rs qa=>?_⟩) fun us s1 ⟨vs,H1,I1,r1,t0,l0,xs,ys,dx,dy,H3',e,tk1,hr1,et,el,px,py,hl,q⟩=>?_) (by rw[hs0,hs2]) (by rw[hs2];rfl)))
 ·cases rs with
  |nil=>exact qa.elim
  |cons r1 r2=>
   cases r2 with
   |nil=>exact qa.elim
   |cons r2 r3=>
    cases r3 with
    |cons _ _=>exact qa.elim
    |nil=>
     cases r1 with
     |tup ht rt=>
      cases r2 with
      |ref l=>
       (delta Zr at qa;dsimp only at qa)
       split at qa
       ·rename_i es he
        obtain⟨ys,gy,ry⟩:=hra l _ he
        exact⟨_,l,_,ys,_,es,H3a,rfl,tka,hra,ht,gy,rt,ry,qa.1,qa.2⟩
       ·exact qa.elim
      |_=>exact qa.elim
     |_=>exact qa.elim
 subst e
 obtain⟨u,u',rfl,e1,e2⟩:=vals2 r1
 cases e1
 cases e2
 obtain⟨its,rx,pt,hzx⟩:=I1.tuple (jz.of et)
 obtain⟨jts,ry,pl,hzy⟩:=I1.list (jF.of el)
 have pt':s1.heap.IsTuple t0 its.toArray:=pt
 have a1:t0<s1.heap.objs.size:=by obtain⟨_,e,_⟩:=pt;exact Heap.lt_size e
 have a2:l0<s1.heap.objs.size:=by obtain⟨_,e,_⟩:=pl.isList;exact Heap.lt_size e
 refine CZ pt' pl.isList ?_
 obtain⟨z4,g5,g3,g4,gg1,gg2,hk⟩:=V7 s1.heap (Xm t0) (Xx l0) rfl rfl
 generalize hn:s1.heap.objs.size=n at *
 refine Calls.spliced_nil ?_
 have I2:L2.Inv X pins σ H1 { s1 with heap:=Fo s1.heap (Xm t0) (Xx l0),toks:=s1.toks }:=I1.kept (t':=s1.toks) hk
 have D:V8 (n+4) (n+2) (n+3) n (n+1) [n,t0] [n+1,l0]:=by
  exact⟨(show (n+2:Nat)≠n+4 from by grind),(show (n+3:Nat)≠n+4 from by grind),(show (n:Nat)≠n+4 from by grind),(show (n+1:Nat)≠n+4 from by grind),(show (n+2:Nat)≠n+3 from by grind),(show (n+2:Nat)≠n from by grind),(show (n+2:Nat)≠n+1 from by grind),(show (n+3:Nat)≠n from by grind),(show (n+3:Nat)≠n+1 from by grind),(show (n:Nat)≠n+1 from by grind),⟨ZD (show (n+4:Nat)≠n from by grind) (Zj a1).1,ZD (show (n+3:Nat)≠n from by grind) (Zj a1).2.1,ZD (show (n+1:Nat)≠n from by grind) (Zj a1).2.2.1⟩,⟨ZD (show (n+4:Nat)≠n+1 from by grind) (Zj a2).1,ZD (show (n+3:Nat)≠n+1 from by grind) (Zj a2).2.1,ZD (show (n:Nat)≠n+1 from by grind) (Zj a2).2.2.2⟩⟩
 generalize hh5:Fo s1.heap (Xm t0) (Xx l0)=h5 at *
 have z5:h5.objs.size=n+5:=by rw[←hh5,Heap.size_push,z4]
 refine callType_codes (Q₁:=fun obj s₁=>obj=.ref h5.objs.size/\s₁={ s1 with heap:=h5.push { cls:=.type "list",data:=.seq #[] } }) F.called_list (F.typeCall_list_1 _) F.entry_list_init (code_list_new _ ⟨rfl,rfl⟩) ?_
 rintro obj s₁ ⟨rfl,rfl⟩
 have hS:(h5.push { cls:=.type "list",data:=.seq #[] }).get? h5.objs.size=some { cls:=.type "list",data:=.seq #[] }:=Heap.get?_push_size _ rfl
 refine⟨⟨_,hS,rfl⟩,F.args_list_init_2 _ _,?_⟩
 generalize hp6:h5.push { cls:=.type "list",data:=.seq #[] }=h6 at hS
 have k6:∀b o,h5.get? b=some o->h6.get? b=some o:=fun b o e=>by rw[←hp6];exact Heap.get?_push_of_some _ e
 show wpAny _ _ (Builtin.List.listItems (.ref h5.objs.size) >>= fun old=>Builtin.List.listUpdate (.ref h5.objs.size) (fun _=>#[]) >>= fun _=>letGo old.toList.reverse >>= fun _=>Builtin.List.listExtendWith (.ref h5.objs.size) (.ref (n+4)) .none) _ _ _
 refine wpAny_bind ?_
 unfold Builtin.List.listItems
 refine wpAny_bind (wpAny_seqItems hS rfl (wpAny_pure ?_))
 show wpAny _ _ (updateSeq h5.objs.size (fun _=>#[]) >>= fun _=>letGo (#[]:Array Value).toList.reverse >>= fun _=>Builtin.List.listExtendWith (.ref h5.objs.size) (.ref (n+4)) .none) _ _ _
 refine wpAny_bind (wpAny_updateSeq hS rfl ?_)
 have hS2:=Heap.get?_update_self (Obj.mapSeq (fun _=>(#[]:Array Value))) hS rfl
 have oth:∀b o,b≠h5.objs.size->h6.get? b=some o->(h6.update h5.objs.size (Obj.mapSeq (fun _=>(#[]:Array Value)))).get? b=some o:=fun b o hb e=>(Heap.get?_update_other _ _ (Ne.symm hb)).trans e
 generalize h6.update h5.objs.size (Obj.mapSeq (fun _=>(#[]:Array Value)))=h7 at hS2 oth
 refine wpAny_bind (wpAny_letGo ?_)
 have lt5:∀ {b:Addr} {o:Obj},h5.get? b=some o->b≠h5.objs.size:=fun e=>Nat.ne_of_lt (Heap.lt_size e)
 have k7:∀b o,h5.get? b=some o->h7.get? b=some o:=fun b o e=>oth b o (lt5 e) (k6 b o e)
 refine Ur (A:=X.A.in1) (s:={ s1 with heap:=h7 }) (TI:=n+2) (TO:=n+3) (by rw[z5];show (n+5:Nat)≠n+4;grind) hS2 (k7 _ _ g5) fun h8 c8 k8 hS8=>?_
 have k58:∀b o,h5.get? b=some o->h8.get? b=some o:=fun b o e=>k8 b o (lt5 e) (k7 b o e)
 have I8:L2.Inv X pins σ H1 { s1 with heap:=h8,toks:=s1.toks }:=I1.kept (t':=s1.toks) fun b o e=>k58 b o (hk b o e)
 have fp:∀b,n<=b->fB X pins H1 b:=fun b hb=>I1.yS (b:=b) (H':=H1) (by rw[hn];exact hb) (I1.hok.fresh (by rw[hn];exact hb))
 refine Oe (X:=X) (pins:=pins) (σ:=σ) (A:=X.A.in1) (H0:=H1) (H3:=H3') (us:=its) (ws:=jts) (xs:=xs) (ys:=ys) (dx:=dx) (dy:=dy) (I1.ok.hd hc) D (Nat.ne_of_lt a1) (Nat.ne_of_lt (Nat.lt_of_lt_of_le a2 (Nat.le_succ n)))
  (by rw[z5];simp only[List.mem_cons,List.not_mem_nil,or_false,not_or];exact⟨(show (n+5:Nat)≠n+4 from by grind),(show (n+5:Nat)≠n+2 from by grind),(show (n+5:Nat)≠n+3 from by grind),(show (n+5:Nat)≠n from by grind),(show (n+5:Nat)≠n+1 from by grind)⟩)
  (by rw[z5];exact Ne.symm (Nat.ne_of_lt (Nat.lt_of_lt_of_le a1 (Nat.le_add_right n 5)))) (by rw[z5];exact Ne.symm (Nat.ne_of_lt (Nat.lt_of_lt_of_le a2 (Nat.le_add_right n 5)))) rx ry px py (by rw[←rx.length,←px.length];exact hl)
  _ 0 _ H1 #[] c8 [] rfl (Nat.zero_le _) I8 TK.refl hr1 (fun b hb=>fp b (by simp only[List.mem_cons,List.not_mem_nil,or_false] at hb;rcases hb with rfl | rfl | rfl | rfl | rfl <;> first | exact Nat.le_refl _ | exact Nat.le_add_right _ _)) (fp _ (by rw[z5];exact Nat.le_add_right _ _))
  (.inl ⟨k58 _ _ g5,_,_,k58 _ _ g4⟩) (k58 _ _ g3) ⟨_,k58 _ _ gg1,rfl,rfl⟩ (pt'.at fun o e=>k58 _ _ (hk _ _ e)) ⟨_,k58 _ _ gg2,rfl,rfl⟩ (pl.isList.at fun o e=>k58 _ _ (hk _ _ e)) hS8 .nil .nil rfl ?_
 intro s' H' vs' acc' c' I' tk' hr' fS fz hS' hv' rp' hl'
 refine⟨rfl,?_⟩
 have J:=Inv.adopt (D:=h5.objs.size) (kS:=n+4) (xs:=vs') (its:=acc'.toList) (n:=c') (h':=s'.heap) I' fS fz (fun b o _ _ e=>e) (by rw[Array.toArray_toList];exact hS') hv' (zT hl')
 refine⟨.ref h5.objs.size,_,J,rfl,kk _ _ _ _ ((tk1.trans tk').trans (TK.fresh fS.1)) (hr'.wJ (TK.fresh fS.1) (rp'.mono (TK.fresh fS.1))) (.ref _) (q _ (hr'.fresh fS.1))⟩
end
theorem rB{us:List Value}{ns:List Int}(h:IntsAre us ns):Vals (ns.map V.int) us:=by
 induction h with
 |nil=>exact .nil
 |cons n t _ ih=>exact .cons ⟨t,rfl⟩ ih
section
variable{X:Cx}
theorem R8:ZC X (Eu X.K Nr):=by
 intro pins s σ H x v vl vu lo hi sl Q I rx hs pl pu h
 obtain⟨d,H3,Q3,hr,rd,t,k⟩:=h
 cases rd with
 |tup ha ra=>
  obtain⟨hw,t⟩:=t
  refine YK pins s σ H _ v vl vu lo hi sl Q I rx hs pl pu ⟨_,_,rfl,jz.of ha,by rw[←ra.length];exact hw,fun p n=>k _ _ _ _ (TK.fresh n) (hr.tup n) (.tup aQ ?_) t⟩
  exact (Q4 ra lo hi).mono (TK.fresh n)
 |_=>exact t.elim
end
end L3
namespace L3
end L3
namespace L3
open PySem PySem.Spec PySem.W PyProof.Rows
end L3
namespace L3
open PySem PySem.Spec PyProof.Rows L2
def rk(f:Nat->List Int)(n i:Nat):Int:=(((List.range n).countP fun k=>HT.lexLt (f k) (f i)):Nat)
abbrev Gc:=(Int×Int×Int)×Pt
def q5(q:Gc):List Int:=[q.1.1,q.1.2.1,q.1.2.2,q.2.1,q.2.2]
section
variable{X:Cx}
def TI(K:PySem.W.Frag)(H:Hp)(ns:List Int)(b:Addr):Prop:=∃v,Rep K H (.tup (ns.map D.int)) v/\RelV v (.ref b)
end
end L3
namespace L3
end L3
namespace L3.ST
open PySem PySem.SetTable
def Mt(M:Nat)(p:Probe):Probe:=if p.more>0 then { p with j:=p.j+1,more:=p.more-1 } else { p with j:=(leap M p.i p.perturb).1,more:=runEnd M (leap M p.i p.perturb).1-(leap M p.i p.perturb).1,i:=(leap M p.i p.perturb).1,perturb:=(leap M p.i p.perturb).2 }
def aX(M:Nat)(p:Probe):Nat->Probe
 |0=>p
 |n+1=>aX M (Mt M p) n
theorem CN(M:Nat):∀(n:Nat) (p:Probe),aX M p (n+1)=Mt M (aX M p n)
 |0,_=>rfl
 |n+1,p=>CN M n (Mt M p)
theorem bY(M:Nat):∀(m n:Nat) (p:Probe),aX M p (m+n)=aX M (aX M p m) n
 |0,n,p=>by rw[Nat.zero_add];rfl
 |m+1,n,p=>by rw[show m+1+n=(m+n)+1 from by grind];exact bY M m n (Mt M p)
def blk(M:Nat)(x:Nat×Nat)(d:Option Nat):Probe:={ j:=x.1,more:=runEnd M x.1-x.1,i:=x.1,perturb:=x.2,dummy:=d }
theorem uR(M i:Nat):i<=runEnd M i/\runEnd M i<=i+9:=by unfold runEnd;split <;> grind
theorem yR(M:Nat):∀(k:Nat) (p:Probe),k<=p.more->aX M p k={ p with j:=p.j+k,more:=p.more-k }
 |0,p,_=>rfl
 |k+1,p,h=>by
  have e:Mt M p={ p with j:=p.j+1,more:=p.more-1 }:=if_pos (by grind)
  show aX M (Mt M p) k=_
  rw[e,yR M k _ (by show k<=p.more-1;grind)]
  show Probe.mk (p.j+1+k) (p.more-1-k) p.i p.perturb p.dummy=Probe.mk (p.j+(k+1)) (p.more-(k+1)) p.i p.perturb p.dummy
  rw[show p.j+1+k=p.j+(k+1) from by grind,show p.more-1-k=p.more-(k+1) from by grind]
theorem uK(M:Nat)(p:Probe):aX M p (p.more+1)=blk M (leap M p.i p.perturb) p.dummy:=by
 rw[CN,yR M p.more p (Nat.le_refl _)]
 exact if_neg (show ¬p.more-p.more>0 by grind)
def wL(M:Nat):Nat->Nat×Nat->Nat×Nat
 |0,x=>x
 |n+1,x=>wL M n (leap M x.1 x.2)
theorem rZ(M:Nat)(d:Option Nat):∀(L:Nat) (x:Nat×Nat),∃n,n<=10*L/\aX M (blk M x d) n=blk M (wL M L x) d
 |0,x=>⟨0,by grind,rfl⟩
 |L+1,x=>by
  obtain⟨n,h1,h2⟩:=rZ M d L (leap M x.1 x.2)
  have r:=uR M x.1
  have e:=uK M (blk M x d)
  refine⟨(blk M x d).more+1+n,?_,?_⟩
  ·show runEnd M x.1-x.1+1+n<=_;grind
  ·rw[bY,e];exact h2
theorem Fq(M:Nat):∀(L:Nat) (x:Nat×Nat),(wL M L x).2=x.2 / 32 ^ L
 |0,x=>by show x.2=x.2 / 32 ^ 0;rw[Nat.pow_zero,Nat.div_one]
 |L+1,x=>by
  show (wL M L (leap M x.1 x.2)).2=_
  rw[Fq M L]
  show x.2 / 32 / 32 ^ L=_
  rw[Nat.div_div_eq_div_mul,Nat.pow_succ,Nat.mul_comm]
theorem Iu(M:Nat):∀(a b:Nat) (x:Nat×Nat),wL M (a+b) x=wL M b (wL M a x)
 |0,b,x=>by rw[Nat.zero_add];rfl
 |a+1,b,x=>by rw[show a+1+b=(a+b)+1 from by grind];exact Iu M a b _
def l0(M i:Nat):Nat:=(i*5+1)%(M+1)
def Tu(M:Nat):Nat->Nat->Nat
 |0,i=>i
 |n+1,i=>Tu M n (l0 M i)
theorem ue(M:Nat):∀(a b:Nat) (x:Nat),Tu M (a+b) x=Tu M b (Tu M a x)
 |0,b,x=>by rw[Nat.zero_add];rfl
 |a+1,b,x=>by rw[show a+1+b=(a+b)+1 from by grind];exact ue M a b _
theorem vL(M:Nat):∀(L i:Nat),wL M L (i,0)=(Tu M L i,0)
 |0,_=>rfl
 |L+1,i=>by
  show wL M L (leap M i 0)=(Tu M L (l0 M i),0)
  have e:leap M i 0=(l0 M i,0):=by unfold leap l0;rw[Nat.zero_div,Nat.add_zero]
  rw[e,vL M L]
def VG(M:Nat):Nat->Nat->List Nat
 |0,_=>[]
 |n+1,i=>i::VG M n (l0 M i)
theorem za(M:Nat):∀(n i j:Nat),j∈VG M n i->∃a,a<n/\Tu M a i=j
 |0,_,_,h=>by cases h
 |n+1,i,j,h=>by
  rcases List.mem_cons.mp h with e | h
  ·exact⟨0,by grind,e.symm⟩
  ·obtain⟨a,h1,h2⟩:=za M n (l0 M i) j h
   exact⟨a+1,by grind,h2⟩
def Mr(M:Nat):Prop:=M=7\/M=31\/M=127
theorem Vc{M:Nat}(h:Mr M):(∀j,j<=M->j∈VG M (M+1) 0)/\Tu M (M+1) 0=0:=by
 have k7:((List.range 8).all fun j=>(VG 7 8 0).contains j)=true:=by decide
 have k31:((List.range 32).all fun j=>(VG 31 32 0).contains j)=true:=by decide +kernel
 have k127:((List.range 128).all fun j=>(VG 127 128 0).contains j)=true:=by decide +kernel
 have key:∀ {m:Nat},((List.range (m+1)).all fun j=>(VG m (m+1) 0).contains j)=true->∀j,j<=m->j∈VG m (m+1) 0:=fun {m} k j hj=>by
  have:=List.all_eq_true.mp k j (List.mem_range.mpr (by grind))
  simpa using this
 rcases h with rfl | rfl | rfl
 ·exact⟨key k7,by decide⟩
 ·exact⟨key k31,by decide +kernel⟩
 ·exact⟨key k127,by decide +kernel⟩
theorem Ai{M:Nat}(h:Mr M){i j:Nat}(hi:i<=M)(hj:j<=M):∃L,L<=M/\Tu M L i=j:=by
 obtain⟨h1,h2⟩:=Vc h
 obtain⟨a,ha,ea⟩:=za M _ _ _ (h1 i hi)
 obtain⟨b,hb,eb⟩:=za M _ _ _ (h1 j hj)
 by_cases hab:a<=b
 ·refine⟨b-a,by grind,?_⟩
  have e:=ue M a (b-a) 0
  rw[show a+(b-a)=b from by grind,ea,eb] at e
  exact e.symm
 ·refine⟨M+1-a+b,by grind,?_⟩
  have e:=ue M a (M+1-a+b) 0
  rw[show a+(M+1-a+b)=(M+1)+b from by grind,ue,h2,eb,ea] at e
  exact e.symm
theorem Eg(M:Nat):∀(L:Nat) (x:Nat×Nat),1<=L->(wL M L x).1<=M
 |1,x,_=>by
  show (x.1*5+1+x.2 / 32)%(M+1)<=M
  have:=Nat.mod_lt (x.1*5+1+x.2 / 32) (show 0<M+1 by grind);grind
 |L+2,x,_=>Eg M (L+1) _ (by grind)
theorem cover{M:Nat}(h:Mr M){p:Probe}(hm:p.more<=9)(hp:p.perturb<2 ^ 64){j:Nat}(hj:j<=M):∃n,n<10*turns M/\(aX M p n).j=j:=by
 have e1:=uK M p
 have c1:=rZ M p.dummy 12 (leap M p.i p.perturb)
 obtain⟨n1,h1,e2⟩:=c1
 have hpt:(wL M 12 (leap M p.i p.perturb)).2=0:=by
  have:=Fq M 13 (p.i,p.perturb)
  rw[show (wL M 13 (p.i,p.perturb))=wL M 12 (leap M p.i p.perturb) from rfl] at this
  rw[this]
  exact Nat.div_eq_of_lt (Nat.lt_of_lt_of_le hp (by decide))
 have hlt:(wL M 12 (leap M p.i p.perturb)).1<=M:=Eg M 12 _ (by decide)
 generalize wL M 12 (leap M p.i p.perturb)=x at e2 hpt hlt
 obtain⟨i,pt⟩:=x
 dsimp only at hpt hlt
 subst hpt
 obtain⟨L,hL,eL⟩:=Ai h hlt hj
 obtain⟨n2,h2,e3⟩:=rZ M p.dummy L (i,0)
 rw[vL,eL] at e3
 refine⟨p.more+1+n1+n2,?_,?_⟩
 ·unfold turns;grind
 ·rw[bY,bY,e1,e2,e3];rfl
def Rp(xs:Array Nat):Prop:=∀a b,a<b->b<xs.size->xs.getD a 0<xs.getD b 0
theorem Ga(xs:Array Nat){i:Nat}(h:i<xs.size)(a b:Nat):xs.getD i a=xs.getD i b:=by simp[Array.getD,h]
theorem vK(xs:Array Nat)(j:Nat)(hr:Rp xs):∀(f lo hi:Nat),lo<=hi->hi<=xs.size->hi-lo<=f->(∀i,i<lo->xs.getD i 0<j)->(∀i,hi<=i->i<xs.size->j<=xs.getD i 0) ->
  below.go xs j f lo hi<=xs.size/\(∀i,i<below.go xs j f lo hi->xs.getD i 0<j)/\∀i,below.go xs j f lo hi<=i->i<xs.size->j<=xs.getD i 0
 |0,lo,hi,h1,h2,h3,a,b=>by
  have:lo=hi:=by grind
  subst this
  exact⟨h2,a,b⟩
 |f+1,lo,hi,h1,h2,h3,a,b=>by
  unfold below.go
  by_cases hlt:lo<hi
  ·rw[if_pos hlt]
   dsimp only
   have hm1:lo<=(lo+hi) / 2:=by grind
   have hm2:(lo+hi) / 2<hi:=by grind
   rw[Ga xs (show (lo+hi) / 2<xs.size by grind) j 0]
   by_cases hc:xs.getD ((lo+hi) / 2) 0<j
   ·rw[if_pos hc]
    refine vK xs j hr f _ hi (by grind) h2 (by grind) (fun i hi'=>?_) b
    by_cases e:i=(lo+hi) / 2
    ·rw[e];exact hc
    ·exact Nat.lt_trans (hr i _ (by grind) (by grind)) hc
   ·rw[if_neg hc]
    refine vK xs j hr f lo _ (by grind) (by grind) (by grind) a fun i hi' hs=>?_
    by_cases e:i=(lo+hi) / 2
    ·rw[e];grind
    ·have:=hr _ i (show (lo+hi) / 2<i by grind) hs;grind
  ·rw[if_neg hlt]
   have:lo=hi:=by grind
   subst this
   exact⟨h2,a,b⟩
theorem De{xs:Array Nat}(hr:Rp xs)(j:Nat):below xs j<=xs.size/\(∀i,i<below xs j->xs.getD i 0<j)/\∀i,below xs j<=i->i<xs.size->j<=xs.getD i 0 :=
 vK xs j hr xs.size 0 xs.size (Nat.zero_le _) (Nat.le_refl _) (by grind) (fun i h=>absurd h (by grind)) fun i h1 h2=>absurd h1 (by grind)
def wB(xs:Array Nat)(j:Nat):Prop:=∃i,i<xs.size/\xs.getD i 0=j
theorem Dh{xs:Array Nat}{i:Nat}(h:i<xs.size):xs[i]?=some (xs.getD i 0):=by simp[Array.getD,h]
theorem HY{t:SetTable}(hr:Rp t.place)(i:Nat)(h:i<t.place.size):t.slot (t.place.getD i 0)=.live i:=by
 obtain⟨b1,b2,b3⟩:=De hr (t.place.getD i 0)
 have e:below t.place (t.place.getD i 0)=i:=by
  rcases Nat.lt_trichotomy (below t.place (t.place.getD i 0)) i with z | z | z
  ·have h1:=b3 _ (Nat.le_refl _) (by omega)
   have h2:=hr _ i z h
   omega
  ·exact z
  ·have:=b2 i z;omega
 unfold slot
 dsimp only
 rw[e,Dh h,if_pos (by simp)]
theorem K3{t:SetTable}(hr:Rp t.place)(hd:t.dummies=#[]){j:Nat}(h:¬wB t.place j):t.slot j=.empty:=by
 unfold slot
 dsimp only
 have e1:(t.place[below t.place j]? == some j)=false:=by
  by_cases hb:below t.place j<t.place.size
  ·rw[Dh hb]
   simp only[Option.some_beq_some,beq_eq_false_iff_ne,ne_eq]
   exact fun z=>h ⟨_,hb,z⟩
  ·rw[Array.getElem?_eq_none (by grind)];rfl
 have e2:has t.dummies j=false:=by rw[hd];rfl
 rw[if_neg (by rw[e1];exact Bool.false_ne_true),if_neg (by rw[e2];exact Bool.false_ne_true)]
theorem M8(xs:Array Nat)(p x:Nat)(hp:p<=xs.size):(insertAt xs p x).size=xs.size+1:=by
 unfold insertAt
 simp only[Array.size_append,Array.size_push,Array.size_extract];grind
theorem RZ{α:Type}(xs:Array α)(p:Nat)(x d:α)(hp:p<=xs.size)(i:Nat):(insertAt xs p x).getD i d=if i<p then xs.getD i d else if i=p then x else xs.getD (i-1) d:=by
 have key:(insertAt xs p x)[i]?=if i<p then xs[i]? else if i=p then some x else xs[i-1]?:=by
  unfold insertAt
  rw[Array.getElem?_append,Array.size_push,Array.size_extract]
  rw[show min p xs.size-0+1=p+1 from by grind]
  by_cases h1:i<p
  ·rw[if_pos (by grind),if_pos h1,Array.getElem?_push,if_neg (by rw[Array.size_extract];grind),Array.getElem?_extract]
   rw[if_pos (by grind),Nat.zero_add]
  ·rw[if_neg h1]
   by_cases h2:i=p
   ·rw[if_pos (by grind),if_pos h2,Array.getElem?_push,if_pos (by rw[Array.size_extract];grind)]
   ·rw[if_neg (by grind),if_neg h2,Array.getElem?_extract]
    by_cases h3:i-(p+1)<xs.size-p
    ·rw[if_pos (by grind)];congr 1;grind
    ·rw[if_neg (by grind),Array.getElem?_eq_none (by grind)]
 rw[Array.getD_eq_getD_getElem?,key,Array.getD_eq_getD_getElem?,Array.getD_eq_getD_getElem?]
 split
 ·rfl
 ·split <;> rfl
end L3.ST
namespace L3.ST
open PySem PySem.SetTable
def st0(M:Nat)(h:Int):Probe:=blk M (bits h%(M+1),bits h) none
theorem Ia(h:Int):bits h<2 ^ 64:=by
 unfold bits
 have h1:=Int.emod_nonneg h (show (2 ^ 64:Int)≠0 by decide)
 have h2:=Int.emod_lt_of_pos h (show (0:Int)<2 ^ 64 by decide)
 have e:((2:Nat) ^ 64:Nat)=((2:Int) ^ 64).toNat:=by decide
 rw[e]
 exact (Int.toNat_lt_toNat (by decide)).mpr h2
theorem qI(M:Nat):∀(n:Nat) (p:Probe),(aX M p n).dummy=p.dummy
 |0,_=>rfl
 |n+1,p=>by
  show (aX M (Mt M p) n).dummy=_
  rw[qI M n]
  unfold Mt;split <;> rfl
def jG(M:Nat)(occ:Nat->Prop)(h:Int)(j:Nat):Prop:=∃n,(aX M (st0 M h) n).j=j/\∀m,m<n->occ (aX M (st0 M h) m).j
theorem jG.mono{M:Nat}{occ occ':Nat->Prop}{h:Int}{j:Nat}(r:jG M occ h j)(k:∀j,occ j->occ' j):jG M occ' h j:=by
 obtain⟨n,h1,h2⟩:=r
 exact⟨n,h1,fun m hm=>k _ (h2 m hm)⟩
structure Tb(t:SetTable)(hs:Nat->Int)(n:Nat):Prop where
 size:t.place.size=n
 rise:Rp t.place
 le:∀i,i<n->t.place.getD i 0<=t.mask
 nod:t.dummies=#[]
 msk:Mr t.mask
 rch:∀i,i<n->jG t.mask (wB t.place) (hs i) (t.place.getD i 0)
theorem Ut{t:SetTable}{hs:Nat->Int}{n:Nat}(T:Tb t hs n)(hn:n<=t.mask):∃j,j<=t.mask/\¬wB t.place j:=by
 apply Classical.byContradiction
 intro z
 have all:∀j,j<=t.mask->wB t.place j:=fun j hj=>Classical.byContradiction fun y=>z ⟨j,hj,y⟩
 have key:∀j,j<=t.mask->∃i,i<t.place.size/\t.place.getD i 0=j/\j<=i:=by
  intro j
  induction j with
  |zero=>intro hj;obtain⟨i,h1,h2⟩:=all 0 hj;exact⟨i,h1,h2,Nat.zero_le _⟩
  |succ j ih=>
   intro hj
   obtain⟨i,h1,h2,h3⟩:=ih (by grind)
   obtain⟨i',g1,g2⟩:=all (j+1) hj
   refine⟨i',g1,g2,?_⟩
   apply Classical.byContradiction
   intro y
   by_cases e:i'=i
   ·rw[e] at g2;grind
   ·have:=T.rise i' i (by grind) h1;grind
 obtain⟨i,h1,_,h3⟩:=key t.mask (Nat.le_refl _)
 rw[T.size] at h1
 grind
theorem Y8{t:SetTable}{hs:Nat->Int}{n:Nat}(T:Tb t hs n)(hn:n<=t.mask)(h:Int):∃e,e<10*turns t.mask/\¬wB t.place (aX t.mask (st0 t.mask h) e).j/\∀m,m<e->wB t.place (aX t.mask (st0 t.mask h) m).j:=by
 obtain⟨j,h1,h2⟩:=Ut T hn
 obtain⟨k,k1,k2⟩:=cover T.msk (p:=st0 t.mask h) (by have:=uR t.mask (bits h%(t.mask+1));show runEnd t.mask (bits h%(t.mask+1))-bits h%(t.mask+1)<=9;grind) (Ia h) h1
 have:∀k,k<10*turns t.mask->¬wB t.place (aX t.mask (st0 t.mask h) k).j->∃e,e<10*turns t.mask/\¬wB t.place (aX t.mask (st0 t.mask h) e).j/\∀m,m<e->wB t.place (aX t.mask (st0 t.mask h) m).j:=by
  intro k
  induction k using Nat.strongRecOn with
  |ind k ih=>
   intro hk hq
   by_cases z:∃m,m<k/\¬wB t.place (aX t.mask (st0 t.mask h) m).j
   ·obtain⟨m,m1,m2⟩:=z
    exact ih m m1 (by grind) m2
   ·exact⟨k,hk,hq,fun m hm=>Classical.byContradiction fun y=>z ⟨m,hm,y⟩⟩
 exact this k k1 (by rw[k2];exact h2)
theorem Pq{t:SetTable}{hs hA:Nat->Int}{n:Nat}(T:Tb t hs n)(hA':∀i,i<n->hA i=hs i)(h:Int):∀(k f:Nat) (p:Probe),p.dummy=none->k<f->¬wB t.place (aX t.mask p k).j->(∀m,m<k->wB t.place (aX t.mask p m).j) ->
  (probe.go t hA h f p=some (.empty (aX t.mask p k).j none)/\∀m i,m<k->i<n->t.place.getD i 0=(aX t.mask p m).j->hs i≠h) \/
  ∃m i,m<k/\i<n/\t.place.getD i 0=(aX t.mask p m).j/\hs i=h/\probe.go t hA h f p=some (.candidate (aX t.mask p m).j i (aX t.mask p (m+1)))/\∀m' i',m'<m->i'<n->t.place.getD i' 0=(aX t.mask p m').j->hs i'≠h
 |0,f+1,p,hd,hf,he,_=>by
  refine .inl ⟨?_,fun m i hm=>absurd hm (Nat.not_lt_zero _)⟩
  unfold probe.go
  have:t.slot p.j=.empty:=K3 T.rise T.nod he
  rw[this]
  show some (Met.empty p.j p.dummy)=_
  rw[hd];rfl
 |k+1,f+1,p,hd,hf,he,hm=>by
  obtain⟨i,hi,ei⟩:=hm 0 (by grind)
  have es:t.slot p.j=.live i:=by
   have:=HY T.rise i hi
   rw[ei] at this
   exact this
  rw[T.size] at hi
  have own:∀i',i'<n->t.place.getD i' 0=p.j->i'=i:=by
   intro i' h1 h2
   rw[show p.j=t.place.getD i 0 from ei.symm] at h2
   rcases Nat.lt_trichotomy i' i with z | z | z
   ·have:=T.rise i' i z (by rw[T.size];exact hi);grind
   ·exact z
   ·have:=T.rise i i' z (by rw[T.size];exact h1);grind
  by_cases hc:hs i=h
  ·refine .inr ⟨0,i,by grind,hi,ei,hc,?_,fun m' _ z=>absurd z (Nat.not_lt_zero _)⟩
   unfold probe.go
   rw[es]
   show (if (hA i==h)=true then some (Met.candidate p.j i (t.advance p)) else _)=_
   rw[if_pos (by rw[hA' i hi,hc];exact beq_self_eq_true h)]
   rfl
  ·have step:probe.go t hA h (f+1) p=probe.go t hA h f (Mt t.mask p):=by
    conv=>lhs;unfold probe.go
    rw[es]
    show (if (hA i==h)=true then some (Met.candidate p.j i (t.advance p)) else _)=_
    rw[if_neg (by rw[hA' i hi];simpa using hc)]
    rfl
   have first:∀m i',m=0->i'<n->t.place.getD i' 0=(aX t.mask p m).j->hs i'≠h:=fun m i' z h1 h2=>by
    subst z
    rw[own i' h1 h2];exact hc
   rcases Pq T hA' h k f (Mt t.mask p) (by rw[←hd];exact qI t.mask 1 p) (by grind) he (fun m hm'=>hm (m+1) (by grind)) with ⟨g1,g2⟩ | ⟨m,i',g1,g2,g3,g4,g5,g6⟩
   ·refine .inl ⟨step.trans g1,fun m i' h1 h2 h3=>?_⟩
    cases m with
    |zero=>exact first 0 i' rfl h2 h3
    |succ m=>exact g2 m i' (by grind) h2 h3
   ·refine .inr ⟨m+1,i',by grind,g2,g3,g4,step.trans g5,fun m' i'' h1 h2 h3=>?_⟩
    cases m' with
    |zero=>exact first 0 i'' rfl h2 h3
    |succ m'=>exact g6 m' i'' (by grind) h2 h3
theorem Yx{t:SetTable}{hs:Nat->Int}{n:Nat}(T:Tb t hs n){h:Int}{e:Nat}(he:¬wB t.place (aX t.mask (st0 t.mask h) e).j)(hm:∀m,m<e->wB t.place (aX t.mask (st0 t.mask h) m).j)(hj:(aX t.mask (st0 t.mask h) e).j<=t.mask) :
  Tb (t.put (aX t.mask (st0 t.mask h) e).j).1 (fun i=>if i<(t.put (aX t.mask (st0 t.mask h) e).j).2 then hs i else if i=(t.put (aX t.mask (st0 t.mask h) e).j).2 then h else hs (i-1)) (n+1)/\(t.put (aX t.mask (st0 t.mask h) e).j).2<=n:=by
 generalize hjj:(aX t.mask (st0 t.mask h) e).j=j at he hj ⊢
 obtain⟨b1,b2,b3⟩:=De T.rise j
 have hb:below t.place j<=n:=by rw[←T.size];exact b1
 have b3':∀i,below t.place j<=i->i<t.place.size->j<t.place.getD i 0:=fun i h1 h2=>by
  have:=b3 i h1 h2
  rcases Nat.lt_or_ge j (t.place.getD i 0) with z | z
  ·exact z
  ·exact absurd ⟨i,h2,by omega⟩ he
 have get:=RZ t.place (below t.place j) j 0 b1
 have sz:=M8 t.place (below t.place j) j b1
 have hasMono:∀x,wB t.place x->wB (insertAt t.place (below t.place j) j) x:=by
  rintro x ⟨i,h1,h2⟩
  by_cases z:i<below t.place j
  ·exact⟨i,by omega,by rw[get,if_pos z];exact h2⟩
  ·exact⟨i+1,by omega,by rw[get,if_neg (by omega),if_neg (by omega)];exact h2⟩
 have e2:(t.put j).2=below t.place j:=rfl
 have e1:(t.put j).1.place=insertAt t.place (below t.place j) j:=rfl
 have e3:(t.put j).1.mask=t.mask:=rfl
 refine⟨⟨?_,?_,?_,?_,?_,?_⟩,hb⟩
 ·rw[e1,sz,T.size]
 ·rw[e1]
  intro a b hab hbs
  rw[sz] at hbs
  rw[get,get]
  by_cases z1:a<below t.place j
  ·rw[if_pos z1]
   by_cases z2:b<below t.place j
   ·rw[if_pos z2];exact T.rise a b hab (by omega)
   ·rw[if_neg z2]
    by_cases z3:b=below t.place j
    ·rw[if_pos z3];exact b2 a z1
    ·rw[if_neg z3];exact T.rise a (b-1) (by omega) (by omega)
  ·rw[if_neg z1,if_neg (show ¬b<below t.place j by omega),if_neg (show ¬b=below t.place j by omega)]
   by_cases z3:a=below t.place j
   ·rw[if_pos z3];exact b3' (b-1) (by omega) (by omega)
   ·rw[if_neg z3];exact T.rise (a-1) (b-1) (by omega) (by omega)
 ·intro i hi
  rw[e1,e3,get]
  split
  ·exact T.le i (by omega)
  ·split
   ·exact hj
   ·exact T.le (i-1) (by omega)
 ·show (if has t.dummies j then eraseAt t.dummies (below t.dummies j) else t.dummies)=#[]
  rw[T.nod];rfl
 ·exact T.msk
 ·intro i hi
  rw[e1,e2,e3,get]
  by_cases z1:i<below t.place j
  ·rw[if_pos z1,if_pos z1];exact (T.rch i (by omega)).mono hasMono
  ·rw[if_neg z1,if_neg z1]
   by_cases z2:i=below t.place j
   ·rw[if_pos z2,if_pos z2];exact⟨e,hjj,fun m h=>hasMono _ (hm m h)⟩
   ·rw[if_neg z2,if_neg z2];exact (T.rch (i-1) (by omega)).mono hasMono
end L3.ST
namespace L3.ST
open PySem PySem.SetTable
theorem Pn{M i:Nat}(h:i<=M):runEnd M i<=M:=by unfold runEnd;split <;> omega
theorem Te(M i p:Nat):(leap M i p).1<=M:=by
 show (i*5+1+p / 32)%(M+1)<=M
 have:=Nat.mod_lt (i*5+1+p / 32) (show 0<M+1 by grind);grind
theorem Oq(M:Nat):∀(n:Nat) (p:Probe),p.j+p.more<=M->(aX M p n).j<=M
 |0,p,h=>by show p.j<=M;grind
 |n+1,p,h=>by
  refine Oq M n (Mt M p) ?_
  unfold Mt
  split
  ·show p.j+1+(p.more-1)<=M;grind
  ·show (leap M p.i p.perturb).1+(runEnd M (leap M p.i p.perturb).1-(leap M p.i p.perturb).1)<=M
   have h1:=Te M p.i p.perturb
   have h2:=Pn h1
   have h3:=uR M (leap M p.i p.perturb).1
   grind
theorem Fz(M:Nat)(h:Int)(n:Nat):(aX M (st0 M h) n).j<=M:=by
 refine Oq M n _ ?_
 have h0:bits h%(M+1)<=M:=by have:=Nat.mod_lt (bits h) (show 0<M+1 by grind);grind
 have h1:=Pn h0
 have h2:=uR M (bits h%(M+1))
 show bits h%(M+1)+(runEnd M (bits h%(M+1))-bits h%(M+1))<=M
 grind
theorem Ed{M:Nat}(hM:Mr M)(x:Nat×Nat)(hx:x.2<2 ^ 64){j:Nat}(hj:j<=M):∃L,L<turns M/\(wL M L x).1=j:=by
 have hpt:(wL M 13 x).2=0:=by
  rw[Fq]
  exact Nat.div_eq_of_lt (Nat.lt_of_lt_of_le hx (by decide))
 have hlt:(wL M 13 x).1<=M:=Eg M 13 _ (by decide)
 obtain⟨L,hL,eL⟩:=Ai hM hlt hj
 refine⟨13+L,by unfold turns;grind,?_⟩
 rw[Iu]
 generalize wL M 13 x=y at hpt hlt eL
 obtain⟨i,pt⟩:=y
 dsimp only at hpt eL
 subst hpt
 rw[vL];exact eL
def El(ow:Array (Option Nat))(j:Nat):Prop:=(ow.getD j (some 0)).isNone=false
theorem CJ(M:Nat)(ow:Array (Option Nat))(d:Option Nat):∀(f:Nat) (x:Nat×Nat),(∃L,L<f/\¬El ow (wL M L x).1) ->
  ∃n,layClean.free M ow f x.1 x.2=some (aX M (blk M x d) n).j/\¬El ow (aX M (blk M x d) n).j/\∀m,m<n->El ow (aX M (blk M x d) m).j
 |0,x,h=>by obtain⟨L,hL,_⟩:=h;exact absurd hL (Nat.not_lt_zero _)
 |f+1,x,h=>by
  have inr:∀k,k<=runEnd M x.1-x.1->(aX M (blk M x d) k).j=x.1+k:=fun k hk=>by rw[yR M k _ hk];rfl
  have rl:=uR M x.1
  unfold layClean.free
  cases hf:(List.range (runEnd M x.1+1-x.1)).find? fun k=>(ow.getD (x.1+k) (some 0)).isNone with
  |some k=>
   have h1:=List.find?_some hf
   have h2:=List.mem_of_find?_eq_some hf
   rw[List.mem_range] at h2
   refine⟨k,?_,?_,?_⟩
   ·rw[inr k (by grind)]
   ·rw[inr k (by grind)];unfold El;rw[h1];exact Bool.noConfusion
   ·intro m hm
    rw[inr m (by grind)]
    unfold El
    have:=List.find?_eq_some_iff_getElem.mp hf
    obtain⟨_,i,hi,ei,hb⟩:=this
    rw[List.getElem_range] at ei
    subst ei
    have:=hb m hm
    rw[List.getElem_range] at this
    simpa using this
  |none=>
   have hall:=List.find?_eq_none.mp hf
   have tk:∀k,k<=runEnd M x.1-x.1->El ow (x.1+k):=fun k hk=>by
    have:=hall k (List.mem_range.mpr (by grind))
    unfold El
    exact Bool.eq_false_iff.mpr this
   obtain⟨n,g1,g2,g3⟩:=CJ M ow d f (leap M x.1 x.2) (by
    obtain⟨L,hL,hq⟩:=h
    cases L with
    |zero=>
     have:=tk 0 (Nat.zero_le _)
     rw[Nat.add_zero] at this
     exact absurd this hq
    |succ L=>exact⟨L,by grind,hq⟩)
   have el:=uK M (blk M x d)
   refine⟨(blk M x d).more+1+n,?_,?_,?_⟩
   ·dsimp only
    rw[bY,el];exact g1
   ·rw[bY,el];exact g2
   ·intro m hm
    by_cases z:m<=runEnd M x.1-x.1
    ·rw[inr m z];exact tk m z
    ·have e:m=(blk M x d).more+1+(m-((blk M x d).more+1)):=by
      have:(blk M x d).more=runEnd M x.1-x.1:=rfl
      grind
     rw[e,bY,el]
     exact g3 _ (by grind)
structure Own(M:Nat)(hs:Nat->Int)(ow:Array (Option Nat))(k:Nat):Prop where
 size:ow.size=M+1
 lt:∀j k',ow.getD j none=some k'->k'<k
 has:∀k',k'<k->∃j,j<=M/\ow.getD j none=some k'/\jG M (El ow) (hs k') j
 one:∀j j' k',ow.getD j none=some k'->ow.getD j' none=some k'->j=j'
theorem o5{ow:Array (Option Nat)}{j:Nat}(h:j<ow.size):El ow j↔∃k,ow.getD j none=some k:=by
 unfold El
 have e:ow.getD j (some 0)=ow.getD j none:=by simp[Array.getD,h]
 rw[e]
 cases ow.getD j none with
 |none=>simp
 |some k=>simp
theorem JS:∀ {l:List Nat} {n:Nat},l.Nodup->(∀x∈l,x<n)->l.length<=n:=by
 intro l n h1 h2
 have:∀(l m:List Nat),l.Nodup->(∀x∈l,x∈m)->l.length<=m.length:=by
  intro l
  induction l with
  |nil=>intros;exact Nat.zero_le _
  |cons x l ih=>
   intro m hn hs
   rw[List.nodup_cons] at hn
   have hx:=hs x List.mem_cons_self
   have:=ih (m.erase x) hn.2 fun y hy=>(List.mem_erase_of_ne (fun e=>hn.1 (by rw[←e];exact hy))).mpr (hs y (List.mem_cons_of_mem _ hy))
   rw[List.length_erase_of_mem hx] at this
   have:=List.length_pos_of_mem hx
   rw[List.length_cons];omega
 have:=this l (List.range n) h1 fun x hx=>List.mem_range.mpr (h2 x hx)
 rwa [List.length_range] at this
theorem Qs{M:Nat}{hs:Nat->Int}{ow:Array (Option Nat)}{k:Nat}(O:Own M hs ow k)(hk:k<=M):∃j,j<=M/\¬El ow j:=by
 apply Classical.byContradiction
 intro z
 have all:∀j,j<=M->∃k',ow.getD j none=some k':=fun j hj=>by
  apply Classical.byContradiction
  intro y
  exact z ⟨j,hj,fun w=>y ((o5 (by rw[O.size];grind)).mp w)⟩
 have nd:((List.range (M+1)).map fun j=>(ow.getD j none).getD 0).Nodup:=by
  rw[List.nodup_iff_pairwise_ne,List.pairwise_map]
  have h0:=List.nodup_range (n:=M+1)
  rw[List.nodup_iff_pairwise_ne] at h0
  refine h0.imp_of_mem fun {a b} ha hb ne e=>ne ?_
  obtain⟨ka,ea⟩:=all a (by rw[List.mem_range] at ha;grind)
  obtain⟨kb,eb⟩:=all b (by rw[List.mem_range] at hb;grind)
  rw[ea,eb] at e
  have e':ka=kb:=e
  subst e'
  exact O.one a b ka ea eb
 have:=JS (n:=k) nd fun x hx=>by
  obtain⟨j,hj,rfl⟩:=List.mem_map.mp hx
  obtain⟨kj,ej⟩:=all j (by rw[List.mem_range] at hj;grind)
  rw[ej]
  exact O.lt j kj ej
 rw[List.length_map,List.length_range] at this
 grind
theorem Ss{M:Nat}{hs:Nat->Int}{ow:Array (Option Nat)}{k:Nat}(hM:Mr M)(O:Own M hs ow k)(hk:k<=M) :
  ∃j,layClean.free M ow (turns M) (bits (hs k)%(M+1)) (bits (hs k))=some j/\Own M hs (ow.setIfInBounds j (some k)) (k+1):=by
 obtain⟨j0,hj0,hf0⟩:=Qs O hk
 obtain⟨L,hL,eL⟩:=Ed hM (bits (hs k)%(M+1),bits (hs k)) (Ia _) hj0
 obtain⟨n,g1,g2,g3⟩:=CJ M ow none (turns M) (bits (hs k)%(M+1),bits (hs k)) ⟨L,hL,by rw[eL];exact hf0⟩
 have hj:(aX M (blk M (bits (hs k)%(M+1),bits (hs k)) none) n).j<=M:=Fz M (hs k) n
 generalize hjj:(aX M (blk M (bits (hs k)%(M+1),bits (hs k)) none) n).j=j at g1 g2 hj
 have js:j<ow.size:=by rw[O.size];grind
 have jn:ow.getD j none=none:=by
  cases e:ow.getD j none with
  |none=>rfl
  |some k'=>exact absurd ((o5 js).mpr ⟨k',e⟩) g2
 have get:∀i,(ow.setIfInBounds j (some k)).getD i none=if i=j then some k else ow.getD i none:=by
  intro i
  rw[Array.getD_eq_getD_getElem?,Array.getElem?_setIfInBounds,Array.getD_eq_getD_getElem?]
  by_cases z:i=j
  ·rw[if_pos z.symm,if_pos z,if_pos js];rfl
  ·rw[if_neg (fun y=>z y.symm),if_neg z]
 have sz:(ow.setIfInBounds j (some k)).size=M+1:=by rw[Array.size_setIfInBounds];exact O.size
 have tmono:∀i,El ow i->El (ow.setIfInBounds j (some k)) i:=by
  intro i hi
  by_cases hs:i<ow.size
  ·rw[o5 (by rw[sz,←O.size];exact hs),get]
   obtain⟨k',e⟩:=(o5 hs).mp hi
   by_cases z:i=j
   ·exact⟨k,if_pos z⟩
   ·exact⟨k',by rw[if_neg z];exact e⟩
  ·unfold El
   rw[show (ow.setIfInBounds j (some k)).getD i (some 0)=some 0 from by simp[Array.getD,Array.size_setIfInBounds,hs]]
   rfl
 refine⟨j,g1,sz,?_,?_,?_⟩
 ·intro i k' h
  rw[get] at h
  by_cases z:i=j
  ·rw[if_pos z] at h;cases h;grind
  ·rw[if_neg z] at h;have:=O.lt i k' h;grind
 ·intro k' hk'
  by_cases z:k'=k
  ·subst z
   exact⟨j,hj,by rw[get,if_pos rfl],n,hjj,fun m hm=>tmono _ (g3 m hm)⟩
  ·obtain⟨i,i1,i2,i3⟩:=O.has k' (by grind)
   refine⟨i,i1,?_,i3.mono tmono⟩
   rw[get,if_neg (fun y=>by rw[y,jn] at i2;cases i2)]
   exact i2
 ·intro i i' k' h h'
  rw[get] at h h'
  by_cases z:i=j
  ·by_cases z':i'=j
   ·rw[z,z']
   ·rw[if_pos z] at h
    rw[if_neg z'] at h'
    cases h
    exact absurd (O.lt i' k h') (Nat.lt_irrefl _)
  ·rw[if_neg z] at h
   by_cases z':i'=j
   ·rw[if_pos z'] at h'
    cases h'
    exact absurd (O.lt i k h) (Nat.lt_irrefl _)
   ·rw[if_neg z'] at h'
    exact O.one i i' k' h h'
def zA(M:Nat)(acc:Option (Array (Option Nat)×Nat))(h:Int):Option (Array (Option Nat)×Nat):=do
 let (owner,k) ←acc
 let j ←layClean.free M owner (turns M) (bits h%(M+1)) (bits h)
 pure (owner.setIfInBounds j (some k),k+1)
theorem Dv{M:Nat}(hM:Mr M){hs:Nat->Int}:∀(l:List Int) (ow:Array (Option Nat)) (k:Nat),Own M hs ow k->k+l.length<=M+1->(∀i,i<l.length->l.getD i 0=hs (k+i)) ->
  ∃ow',l.foldl (zA M) (some (ow,k))=some (ow',k+l.length)/\Own M hs ow' (k+l.length)
 |[],ow,k,O,_,_=>⟨ow,rfl,O⟩
 |h::l,ow,k,O,hk,hl=>by
  have e0:h=hs k:=hl 0 (by rw[List.length_cons];grind)
  rw[List.length_cons] at hk
  obtain⟨j,g1,g2⟩:=Ss hM O (by grind)
  obtain⟨ow',r1,r2⟩:=Dv hM l _ (k+1) g2 (by grind) fun i hi=>by
   have:=hl (i+1) (by rw[List.length_cons];grind)
   rw[show k+1+i=k+(i+1) from by grind,←this]
   rfl
  have e1:zA M (some (ow,k)) h=some (ow.setIfInBounds j (some k),k+1):=by
   subst e0
   show (layClean.free M ow (turns M) (bits (hs k)%(M+1)) (bits (hs k))).bind _=_
   rw[g1];rfl
  refine⟨ow',?_,?_⟩
  ·rw[List.foldl_cons,e1,r1,List.length_cons,show k+1+l.length=k+(l.length+1) from by grind]
  ·rw[List.length_cons,show k+(l.length+1)=k+1+l.length from by grind];exact r2
theorem Og(M:Nat)(hs:Nat->Int):Own M hs (Array.replicate (M+1) none) 0:=by
 have g:∀j,(Array.replicate (M+1) (none:Option Nat)).getD j none=none:=fun j=>by
  rw[Array.getD_eq_getD_getElem?,Array.getElem?_replicate];split <;> rfl
 refine⟨Array.size_replicate,fun j k' h=>?_,fun k' h=>absurd h (Nat.not_lt_zero _),fun j j' k' h=>?_⟩
 ·rw[g] at h;cases h
 ·rw[g] at h;cases h
theorem Kf{M:Nat}(hM:Mr M){hs:Nat->Int}(H:Array Int)(hH:∀i,i<H.size->H.getD i 0=hs i)(hn:H.size<=M+1):∃ow,layClean M H=some ow/\Own M hs ow H.size:=by
 obtain⟨ow,h1,h2⟩:=Dv hM H.toList _ 0 (Og M hs) (by rw[Array.length_toList];grind) fun i hi=>by
  rw[Array.length_toList] at hi
  rw[Nat.zero_add,←hH i hi]
  simp[Array.getD,hi,List.getD_eq_getElem?_getD]
 rw[Array.length_toList,Nat.zero_add] at h1 h2
 refine⟨ow,?_,h2⟩
 unfold layClean
 rw[←Array.foldl_toList]
 have:(H.toList.foldl (zA M) (some (Array.replicate (M+1) none,0))).map (·.1)=some ow:=by rw[h1];rfl
 exact this
def RK(M:Nat)(ow:Array (Option Nat)):List (Nat×Nat):=(List.range (M+1)).filterMap fun j=>(ow.getD j none).map (j,·)
theorem qe{M:Nat}{ow:Array (Option Nat)}{x:Nat×Nat}:x∈RK M ow↔x.1<=M/\ow.getD x.1 none=some x.2:=by
 unfold RK
 rw[List.mem_filterMap]
 constructor
 ·rintro⟨j,hj,e⟩
  rw[Option.map_eq_some_iff] at e
  obtain⟨k,e1,rfl⟩:=e
  rw[List.mem_range] at hj
  exact⟨by show j<=M;grind,e1⟩
 ·rintro⟨h1,h2⟩
  exact⟨x.1,List.mem_range.mpr (by grind),by rw[h2];rfl⟩
theorem Bq(M:Nat)(ow:Array (Option Nat)):(RK M ow).Pairwise fun a b=>a.1<b.1:=by
 unfold RK
 rw[List.pairwise_filterMap]
 refine List.pairwise_lt_range.imp fun {a b} hab x hx y hy=>?_
 rw[Option.map_eq_some_iff] at hx hy
 obtain⟨_,_,rfl⟩:=hx
 obtain⟨_,_,rfl⟩:=hy
 exact hab
theorem BL{M:Nat}{hs:Nat->Int}{ow:Array (Option Nat)}{n:Nat}(O:Own M hs ow n):((RK M ow).map Prod.snd).Perm (List.range n):=by
 refine (List.perm_ext_iff_of_nodup ?_ List.nodup_range).mpr fun k=>?_
 ·rw[List.nodup_iff_pairwise_ne,List.pairwise_map]
  refine (Bq M ow).imp_of_mem fun {a b} ha hb hlt e=>?_
  have h1:=(qe.mp ha).2
  have h2:=(qe.mp hb).2
  rw[e] at h1
  have:=O.one _ _ _ h1 h2
  grind
 ·rw[List.mem_map,List.mem_range]
  constructor
  ·rintro⟨x,hx,rfl⟩
   exact O.lt _ _ (qe.mp hx).2
  ·intro hk
   obtain⟨j,h1,h2,_⟩:=O.has k hk
   exact⟨(j,k),qe.mpr ⟨h1,h2⟩,rfl⟩
theorem TX{M:Nat}{hs:Nat->Int}{ow:Array (Option Nat)}{n:Nat}(O:Own M hs ow n):(RK M ow).length=n:=by
 have:=(BL O).length_eq
 rwa [List.length_map,List.length_range] at this
theorem Uu{M:Nat}(hM:Mr M){hs:Nat->Int}(H:Array Int)(hH:∀i,i<H.size->H.getD i 0=hs i)(hn:H.size<=M+1)(fi mo:Nat)(le pl:Bool) :
  ∃t ord,laid M fi mo le pl H=some (t,ord)/\t.mask=M/\t.led=le/\t.plain=pl/\t.moves=mo/\ord.toList.Perm (List.range H.size)/\Tb t (fun r=>hs (ord.getD r 0)) H.size:=by
 obtain⟨ow,h1,O⟩:=Kf hM H hH hn
 have len:=TX O
 have hmem:∀ {x:Nat×Nat},x∈RK M ow↔x.1<=M/\ow.getD x.1 none=some x.2:=qe
 have hris:=Bq M ow
 have hper:=BL O
 have hlaid:laid M fi mo le pl H=some ({ mask:=M,place:=((RK M ow).map (·.1)).toArray,dummies:=#[],finger:=fi,led:=le,moves:=mo,plain:=pl },((RK M ow).map (·.2)).toArray):=by
  unfold laid
  rw[h1];rfl
 rw[hlaid]
 generalize RK M ow=ls at len hmem hris hper
 refine⟨{ mask:=M,place:=(ls.map (·.1)).toArray,dummies:=#[],finger:=fi,led:=le,moves:=mo,plain:=pl },(ls.map (·.2)).toArray,rfl,rfl,rfl,rfl,rfl,hper,?_⟩
 have sz:(ls.map (·.1)).toArray.size=H.size:=by rw[List.size_toArray,List.length_map,len]
 have at1:∀i,(hi:i<H.size)->(ls.map (·.1)).toArray.getD i 0=(ls[i]'(by rw[len];exact hi)).1:=fun i hi=>by
  have:i<ls.length:=by rw[len];exact hi
  simp[Array.getD,this]
 have at2:∀i,(hi:i<H.size)->(ls.map (·.2)).toArray.getD i 0=(ls[i]'(by rw[len];exact hi)).2:=fun i hi=>by
  have:i<ls.length:=by rw[len];exact hi
  simp[Array.getD,this]
 have mem:∀i,(hi:i<H.size)->ls[i]'(by rw[len];exact hi)∈ls:=fun i hi=>List.getElem_mem _
 refine⟨sz,?_,?_,rfl,hM,?_⟩
 ·intro a b hab hb
  have hb:b<(ls.map (·.1)).toArray.size:=hb
  rw[sz] at hb
  show (ls.map (·.1)).toArray.getD a 0<(ls.map (·.1)).toArray.getD b 0
  rw[at1 a (by grind),at1 b hb]
  exact List.pairwise_iff_getElem.mp hris a b (by rw[len];grind) (by rw[len];exact hb) hab
 ·intro i hi
  show (ls.map (·.1)).toArray.getD i 0<=M
  rw[at1 i hi]
  exact (hmem.mp (mem i hi)).1
 ·intro i hi
  show jG M (wB (ls.map (·.1)).toArray) (hs ((ls.map (·.2)).toArray.getD i 0)) ((ls.map (·.1)).toArray.getD i 0)
  rw[at1 i hi,at2 i hi]
  have hx:=hmem.mp (mem i hi)
  generalize ls[i]'(by rw[len];exact hi)=x at hx
  obtain⟨j,j1,j2,j3⟩:=O.has x.2 (O.lt _ _ hx.2)
  have e:=O.one _ _ _ hx.2 j2
  rw[e]
  refine jG.mono (occ:=fun y=>y<=M/\El ow y) ?_ ?_
  ·obtain⟨n,n1,n2⟩:=j3
   exact⟨n,n1,fun m hm=>⟨Fz M _ m,n2 m hm⟩⟩
  ·rintro y ⟨y1,y2⟩
   obtain⟨k,ek⟩:=(o5 (by rw[O.size];grind)).mp y2
   obtain⟨r,hr,er⟩:=List.getElem_of_mem (hmem.mpr ⟨y1,ek⟩:(y,k)∈ls)
   rw[len] at hr
   exact⟨r,by rw[sz];exact hr,by rw[at1 r hr,er]⟩
end L3.ST
namespace L3.ST
open PySem PySem.SetTable PySem.Spec PyProof.Rows
section
variable{prog:Program}{w:World}{A:Around}{E:Value->Shared->Prop}{s:Shared}
theorem u9{ks:List Int}{vs:List Value}(h:ItemsAre (intKind prog w) ks vs):∀v∈vs,∃i t,v=.int i t:=by
 induction h with
 |nil=>intro v hv;cases hv
 |@cons k u ks vs h1 _ ih=>
  intro v hv
  rcases List.mem_cons.mp hv with rfl | hv
  ·cases v with
   |int i t=>exact⟨i,t,rfl⟩
   |_=>exact absurd h1 (by simp[intKind,Value.isInt])
  ·exact ih v hv
theorem yh{ks:List Int}{a:Addr}{Q:Bool->Shared->Prop}(hk:IsTupleKey (intKind prog w) s.heap ks a)(h:Q false s):wpAny (model prog w) A (ofAClassStatement 8 (.ref a)) Q E s:=by
 have hT:=hk.typeIs
 obtain⟨o,items,n,ho,hc,hd,hi⟩:=hk
 have hall:=u9 hi
 unfold ofAClassStatement
 refine wpAny_bind (wpAny_typeOf hT ?_)
 dsimp only
 refine wpAny_bind ?_
 refine wpAny_pure ?_
 simp only[Bool.not_true,Bool.false_eq_true,if_false]
 refine wpAny_bind (wpAny_seqItems ho hd ?_)
 dsimp only
 refine wpAny_bind ?_
 rw[←Array.forIn_toList]
 refine wpAny_forIn_list _ (fun rest r s'=>r.1=none/\s'=s/\∀v∈rest,∃i t,v=Value.int i t) _ ?_ ?_ _ _ ⟨rfl,rfl,hall⟩
 ·rintro v rest r s' ⟨hr,rfl,ha⟩
  obtain⟨i,t,rfl⟩:=ha v List.mem_cons_self
  refine wpAny_bind ?_
  show wpAny _ _ (pure false) _ _ _
  refine wpAny_pure ?_
  simp only[Bool.false_eq_true,if_false]
  exact wpAny_pure ⟨rfl,rfl,fun u hu'=>ha u (List.mem_cons_of_mem _ hu')⟩
 ·rintro⟨r1,r2⟩ s' ⟨hr,rfl,_⟩
  simp only at hr
  subst hr
  exact wpAny_pure h
theorem Ea{ks:List Int}{a:Addr}{Q:Bool->Shared->Prop}(hk:IsTupleKey (intKind prog w) s.heap ks a)(l:List Value)(hl:∀y∈l,∃b ls,y=.ref b/\IsTupleKey (intKind prog w) s.heap ls b)(h:Q false s):wpAny (model prog w) A (searchCouldBeSeen (.ref a) l) Q E s:=by
 unfold searchCouldBeSeen
 refine wpAny_bind ?_
 refine wpAny_forIn_list _ (fun rest r s'=>r.1=none/\s'=s/\∀y∈rest,∃b ls,y=.ref b/\IsTupleKey (intKind prog w) s.heap ls b) _ ?_ ?_ _ _ ⟨rfl,rfl,hl⟩
 ·rintro v rest r s' ⟨hr,rfl,ha⟩
  obtain⟨b,ls,rfl,hb⟩:=ha v List.mem_cons_self
  have tail:∀y∈rest,∃b ls,y=.ref b/\IsTupleKey (intKind prog w) s'.heap ls b:=fun u hu'=>ha u (List.mem_cons_of_mem _ hu')
  dsimp only
  by_cases hab:(a==b)=true
  ·rw[hab]
   simp only[Bool.true_or,if_true]
   exact wpAny_pure ⟨rfl,rfl,tail⟩
  ·rw[Bool.not_eq_true] at hab
   rw[hab]
   simp only[carriedByValue,Bool.false_or,Bool.and_self,Bool.false_eq_true,if_false]
   refine wpAny_bind (wpAny_eqIsQuiet_tuple hk ?_)
   simp only[Bool.not_true,Bool.false_eq_true,if_false]
   refine wpAny_bind (wpAny_eqIsQuiet_tuple hb ?_)
   simp only[Bool.not_true,Bool.false_eq_true,if_false]
   refine wpAny_bind (yh hk ?_)
   simp only[Bool.false_eq_true,if_false]
   refine wpAny_bind (yh hb ?_)
   simp only[Bool.false_eq_true,if_false]
   exact wpAny_pure ⟨rfl,rfl,tail⟩
 ·rintro⟨r1,r2⟩ s' ⟨hr,rfl,_⟩
  simp only at hr
  subst hr
  exact wpAny_pure h
theorem Bm{ks:List Int}{a:Addr}{Q:Bool->Shared->Prop}(hk:IsTupleKey (intKind prog w) s.heap ks a)(h:Q true s):wpAny (model prog w) A (hashByValue 8 (.ref a)) Q E s:=by
 have hT:=hk.typeIs
 obtain⟨o,items,n,ho,hc,hd,hi⟩:=hk
 have hall:=u9 hi
 unfold hashByValue
 refine wpAny_bind (wpAny_specialOf hT F.slot_tuple_hash.lookup ?_)
 dsimp only
 refine wpAny_bind (wpAny_seqItems ho hd ?_)
 refine wpAny_bind ?_
 show wpAny _ _ (forIn items _ _) _ _ s
 rw[←Array.forIn_toList]
 refine wpAny_forIn_list _ (fun rest r s'=>r.1=none/\s'=s/\∀v∈rest,∃i t,v=Value.int i t) _ ?_ ?_ _ _ ⟨rfl,rfl,hall⟩
 ·rintro v rest r s' ⟨hr,rfl,ha⟩
  obtain⟨i,t,rfl⟩:=ha v List.mem_cons_self
  refine wpAny_bind ?_
  show wpAny _ _ (pure true) _ _ _
  refine wpAny_pure ?_
  simp only[Bool.not_true,Bool.false_eq_true,if_false]
  exact wpAny_pure ⟨rfl,rfl,fun u hu'=>ha u (List.mem_cons_of_mem _ hu')⟩
 ·rintro⟨r1,r2⟩ s' ⟨hr,rfl,_⟩
  simp only at hr
  subst hr
  exact wpAny_pure h
def Mq(prog:Program)(w:World)(h:Heap)(es:Array (Int×Value))(ks:List (List Int)):Prop :=
 es.size=ks.length/\∀i,i<ks.length->∃a,es[i]?=some (tupleKeyHash (intKind prog w) (ks.getD i []),.ref a)/\IsTupleKey (intKind prog w) h (ks.getD i []) a
def hsh(prog:Program)(w:World)(ks:List (List Int))(i:Nat):Int:=tupleKeyHash (intKind prog w) (ks.getD i [])
theorem Mq.mem{h:Heap}{es:Array (Int×Value)}{ks:List (List Int)}(x:Mq prog w h es ks):∀y∈es.toList,∃b ls,y.2=.ref b/\IsTupleKey (intKind prog w) h ls b:=by
 intro y hy
 obtain⟨i,hi,rfl⟩:=List.getElem_of_mem hy
 rw[Array.length_toList] at hi
 obtain⟨a,h1,h2⟩:=x.2 i (by rw[←x.1];exact hi)
 rw[Array.getElem?_eq_getElem hi,Option.some.injEq] at h1
 rw[Array.getElem_toList,h1]
 exact⟨a,_,rfl,h2⟩
theorem fits_of{t:SetTable}{hs:Nat->Int}{n:Nat}(T:Tb t hs n)(hn:n<=t.mask):t.fits n=true:=by
 unfold SetTable.fits SetTable.fill
 rw[T.nod,T.size]
 simp only[beq_self_eq_true,Bool.true_and,decide_eq_true_eq]
 show n+0<=t.mask;omega
theorem YC{t:SetTable}(h:Mr t.mask):t.gaveWay=false:=by
 unfold SetTable.gaveWay
 rcases h with e | e | e <;> rw[e] <;> rfl
theorem N5{M:Model}{α:Type}{c:Bool}{m1:Sem Bool}{bad r:Sem α}{Q:α->Shared->Prop}(h1:∀Q':Bool->Shared->Prop,Q' false s->wpAny M A m1 Q' E s)(h:wpAny M A r Q E s):wpAny M A (if (!c)=true then do let b ←m1;if b=true then bad else r else r) Q E s:=by
 cases c with
 |true=>exact h
 |false=>
  show wpAny M A (m1 >>= fun b=>if b=true then bad else r) Q E s
  refine wpAny_bind (h1 _ ?_)
  rw[if_neg Bool.false_ne_true];exact h
theorem Kz{t:SetTable}{hs hA:Nat->Int}{n:Nat}(T:Tb t hs n){h:Int}{p:Probe}{P:Option Met}(hP:t.probe hA h p=P)(hA':∀i,i<n->hA i=hs i){k:Nat}(hd:p.dummy=none)(hk:k<10*turns t.mask)(h1:¬wB t.place (aX t.mask p k).j)(h2:∀m,m<k->wB t.place (aX t.mask p m).j) :
  (P=some (.empty (aX t.mask p k).j none)/\∀m i,m<k->i<n->t.place.getD i 0=(aX t.mask p m).j->hs i≠h) \/
  ∃m i,m<k/\i<n/\t.place.getD i 0=(aX t.mask p m).j/\hs i=h/\P=some (.candidate (aX t.mask p m).j i (aX t.mask p (m+1)))/\∀m' i',m'<m->i'<n->t.place.getD i' 0=(aX t.mask p m').j->hs i'≠h:=by
 subst hP
 exact Pq T hA' h k _ p hd hk h1 h2
theorem Gm{S a:Addr}{o:Obj}{es:Array (Int×Value)}{ep:Nat}{t:SetTable}{ks:List (List Int)}{kx:List Int}{Q:SetFound->Shared->Prop}(hu:A.units<cLine)
  (ho:s.heap.get? S=some o) (hd:o.data=.set es ep t) (el:Mq prog w s.heap es ks) (T:Tb t (hsh prog w ks) ks.length) (hn:ks.length<=t.mask) (hx:IsTupleKey (intKind prog w) s.heap kx a)
  {e:Nat} (he1:e<10*turns t.mask) (he2:¬wB t.place (aX t.mask (st0 t.mask (tupleKeyHash (intKind prog w) kx)) e).j) (he3:∀m,m<e->wB t.place (aX t.mask (st0 t.mask (tupleKeyHash (intKind prog w) kx)) m).j)
  (q1:kx∈ks->Q (.there none) s) (q2:kx∉ks->Q (.free (aX t.mask (st0 t.mask (tupleKeyHash (intKind prog w) kx)) e).j false) s) :
  ∀(d f m:Nat) (stand:Option Probe),e-m=d->m<=e->d<f->stand.getD (t.probeStart (tupleKeyHash (intKind prog w) kx))=aX t.mask (st0 t.mask (tupleKeyHash (intKind prog w) kx)) m ->
   (∀m' i,m'<m->i<ks.length->t.place.getD i 0=(aX t.mask (st0 t.mask (tupleKeyHash (intKind prog w) kx)) m').j->ks.getD i []≠kx) ->
   wpAny (model prog w) A (setSearchFrom S (.ref a) (tupleKeyHash (intKind prog w) kx) true f stand) Q E s:=by
 have hf:t.fits es.size=true:=by rw[el.1];exact fits_of T hn
 intro d
 induction d using Nat.strongRecOn with
 |ind d ih=>
  intro f m stand hd' hm hdf hst inv
  cases f with
  |zero=>exact absurd hdf (Nat.not_lt_zero _)
  |succ f=>
   unfold setSearchFrom
   refine wpAny_bind (wpAny_setState_of ho hd hf ?_)
   dsimp only
   rw[YC T.msk]
   simp only[Bool.false_eq_true,if_false]
   rw[hst]
   generalize hh:tupleKeyHash (intKind prog w) kx=hv at *
   generalize hP:t.probe _ hv (aX t.mask (st0 t.mask hv) m)=P
   have hdum:(aX t.mask (st0 t.mask hv) m).dummy=none:=qI t.mask m _
   have sh:∀i,aX t.mask (aX t.mask (st0 t.mask hv) m) i=aX t.mask (st0 t.mask hv) (m+i):=fun i=>(bY t.mask m i _).symm
   have hme:m+(e-m)=e:=Nat.add_sub_cancel' hm
   rcases Kz T hP (fun i hi=>by
    obtain⟨b,g1,_⟩:=el.2 i hi
    show (Option.map (·.1) es[i]?).getD 0=_
    rw[g1];rfl) (k:=e-m) hdum (Nat.lt_of_le_of_lt (Nat.sub_le e m) he1) (by rw[sh,hme];exact he2) (fun i hi=>by rw[sh];exact he3 _ (Nat.add_lt_of_lt_sub' hi)) with ⟨rfl,g2⟩ | ⟨m',i,g1,g2,g3,g4,rfl,g6⟩
   ·dsimp only
    rw[sh,hme]
    refine wpAny_pure (q2 fun hmem=>?_)
    obtain⟨i,hi,ei⟩:=List.getElem_of_mem hmem
    have ek:ks.getD i []=kx:=by rw[List.getD_eq_getElem?_getD,List.getElem?_eq_getElem hi,ei];rfl
    have eh:hsh prog w ks i=hv:=by unfold hsh;rw[ek];exact hh
    obtain⟨n0,r1,r2⟩:=T.rch i hi
    rw[eh] at r1 r2
    have hlt:n0<e:=by
     rcases Nat.lt_trichotomy n0 e with z | z | z
     ·exact z
     ·subst z
      exact absurd ⟨i,by rw[T.size];exact hi,r1.symm⟩ he2
     ·exact absurd (r2 e z) he2
    by_cases z:n0<m
    ·exact inv n0 i z hi r1.symm ek
    ·refine g2 (n0-m) i (Nat.sub_lt_sub_right (Nat.not_lt.mp z) hlt) hi ?_ eh
     rw[sh,Nat.add_sub_cancel' (Nat.not_lt.mp z)];exact r1.symm
   ·dsimp only
    rw[sh]
    obtain⟨b,b1,b2⟩:=el.2 i g2
    refine N5 (fun Q' hq=>Ea hx _ (fun y hy=>?_) hq) ?_
    ·obtain⟨z,hz,rfl⟩:=List.mem_map.mp hy
     have hz':z∈es.toList:=by
      have:=Array.mem_filter.mp (Array.mem_toList_iff.mp hz)
      exact Array.mem_toList_iff.mpr this.1
     exact el.mem z hz'
    rw[b1]
    dsimp only
    refine wpAny_bind (wpAny_holding (wpAny_eqBool_tuple hu b2 hx ?_))
    refine wpAny_bind (wpAny_setState_of ho hd hf ?_)
    dsimp only
    by_cases hk:ks.getD i []=kx
    ·rw[decide_eq_true hk]
     simp only[Bool.and_self,if_true]
     refine wpAny_pure (q1 ?_)
     rw[←hk,List.getD_eq_getElem?_getD,List.getElem?_eq_getElem g2]
     exact List.getElem_mem g2
    ·rw[decide_eq_false hk]
     simp only[Bool.and_false,Bool.false_eq_true,if_false]
     have e1:t.sameMemory t.moves t.mask=some true:=by unfold SetTable.sameMemory;rw[if_pos (beq_self_eq_true _)]
     rw[e1]
     dsimp only
     rw[if_pos rfl]
     have e2:t.slot (aX t.mask (st0 t.mask hv) (m+m')).j=.live i:=by
      rw[←sh,←g3];exact HY T.rise i (by rw[T.size];exact g2)
     rw[e2]
     dsimp only
     rw[b1]
     dsimp only
     refine wpAny_bind (wpAny_isSame_ref_self ?_)
     refine wpAny_bind (wpAny_pure ?_)
     rw[if_pos rfl]
     dsimp only
     have c1:m+m'<e:=Nat.add_lt_of_lt_sub' g1
     have c2:e-(m+m'+1)<d:=hd'▸Nat.sub_lt_sub_left (Nat.lt_of_le_of_lt (Nat.le_add_right m m') c1) (Nat.lt_succ_of_le (Nat.le_add_right m m'))
     refine ih (e-(m+m'+1)) c2 f (m+m'+1) _ rfl c1 (Nat.lt_of_lt_of_le c2 (Nat.lt_succ_iff.mp hdf)) ?_ ?_
     ·rw[sh];rfl
     ·intro m2 i2 h1 h2 h3 h4
      by_cases z:m2<m
      ·exact inv m2 i2 z h2 h3 h4
      ·have eh:hsh prog w ks i2=hv:=by unfold hsh;rw[h4];exact hh
       by_cases z2:m2=m+m'
       ·subst z2
        rw[←sh,←g3] at h3
        have:i2=i:=by
         rcases Nat.lt_trichotomy i2 i with y | y | y
         ·have:=T.rise i2 i y (by rw[T.size];exact g2);exact absurd h3 (Nat.ne_of_lt this)
         ·exact y
         ·have:=T.rise i i2 y (by rw[T.size];exact h2);exact absurd h3.symm (Nat.ne_of_lt this)
        subst this
        exact hk h4
       ·refine g6 (m2-m) i2 (Nat.sub_lt_left_of_lt_add (Nat.not_lt.mp z) (Nat.lt_of_le_of_ne (Nat.lt_succ_iff.mp h1) z2)) h2 ?_ eh
        rw[sh,Nat.add_sub_cancel' (Nat.not_lt.mp z)];exact h3
end
theorem Yk{α:Type}(xs:Array α)(p:Nat)(x:α)(hp:p<=xs.size)(i:Nat):(insertAt xs p x)[i]?=if i<p then xs[i]? else if i=p then some x else xs[i-1]?:=by
 unfold insertAt
 rw[Array.getElem?_append,Array.size_push,Array.size_extract]
 rw[show min p xs.size-0+1=p+1 from by grind]
 by_cases h1:i<p
 ·rw[if_pos (by grind),if_pos h1,Array.getElem?_push,if_neg (by rw[Array.size_extract];grind),Array.getElem?_extract]
  rw[if_pos (by grind),Nat.zero_add]
 ·rw[if_neg h1]
  by_cases h2:i=p
  ·rw[if_pos (by grind),if_pos h2,Array.getElem?_push,if_pos (by rw[Array.size_extract];grind)]
  ·rw[if_neg (by grind),if_neg h2,Array.getElem?_extract]
   by_cases h3:i-(p+1)<xs.size-p
   ·rw[if_pos (by grind)];congr 1;grind
   ·rw[if_neg (by grind),Array.getElem?_eq_none (by grind)]
theorem Xj{α:Type}(xs:Array α)(p:Nat)(x:α)(hp:p<=xs.size):(insertAt xs p x).size=xs.size+1:=by
 unfold insertAt
 simp only[Array.size_append,Array.size_push,Array.size_extract];grind
def qm(ks:List (List Int))(p:Nat)(k:List Int):List (List Int):=ks.take p++k::ks.drop p
theorem pN(ks:List (List Int))(p:Nat)(k:List Int)(hp:p<=ks.length):(qm ks p k).length=ks.length+1:=by
 unfold qm
 rw[List.length_append,List.length_cons,List.length_take,List.length_drop];grind
theorem Ad(ks:List (List Int))(p:Nat)(k:List Int)(hp:p<=ks.length)(i:Nat):(qm ks p k).getD i []=if i<p then ks.getD i [] else if i=p then k else ks.getD (i-1) []:=by
 unfold qm
 rw[List.getD_eq_getElem?_getD,List.getD_eq_getElem?_getD,List.getD_eq_getElem?_getD,List.getElem?_append,List.length_take,show min p ks.length=p from by grind]
 by_cases h1:i<p
 ·rw[if_pos h1,if_pos h1,List.getElem?_take,if_pos h1]
 ·rw[if_neg h1,if_neg h1]
  by_cases h2:i=p
  ·rw[if_pos h2,h2,Nat.sub_self];rfl
  ·rw[if_neg h2,show i-p=(i-1-p)+1 from by grind,List.getElem?_cons_succ,List.getElem?_drop,show p+(i-1-p)=i-1 from by grind]
theorem Ly(ks:List (List Int))(p:Nat)(k:List Int):(qm ks p k).Perm (k::ks):=by
 unfold qm
 refine List.perm_middle.trans ?_
 rw[List.take_append_drop]
section
variable{prog:Program}{w:World}{A:Around}{E:Value->Shared->Prop}{s:Shared}
theorem Ka{h h':Heap}{ks:List Int}{a d:Addr}{o:Obj}{es:Array (Int×Value)}{ep:Nat}{t:SetTable}(x:IsTupleKey (intKind prog w) h ks a)(ho:h.get? d=some o)(hd:o.data=.set es ep t)(hs:Heap.SameBut d h h'):IsTupleKey (intKind prog w) h' ks a:=by
 obtain⟨o',items,n,ho',hc,hd',hi⟩:=x
 have hne:a≠d:=by
  rintro rfl
  obtain rfl:o'=o:=Option.some.inj (ho'.symm.trans ho)
  rw[hd] at hd';exact nomatch hd'
 exact⟨o',items,n,(hs.2 a hne).trans ho',hc,hd',hi⟩
theorem Mq.keeps{h h':Heap}{es':Array (Int×Value)}{ks:List (List Int)}{d:Addr}{o:Obj}{es:Array (Int×Value)}{ep:Nat}{t:SetTable}(x:Mq prog w h es' ks)(ho:h.get? d=some o)(hd:o.data=.set es ep t)(hs:Heap.SameBut d h h'):Mq prog w h' es' ks :=
 ⟨x.1,fun i hi=>let ⟨a,h1,h2⟩:=x.2 i hi;⟨a,h1,Ka h2 ho hd hs⟩⟩
def SetT(prog:Program)(w:World)(h:Heap)(S:Addr)(ks:List (List Int)):Prop :=
 ∃o es ep t,h.get? S=some o/\o.ExactSet/\o.data=.set es ep t/\Mq prog w h es ks/\Tb t (hsh prog w ks) ks.length/\t.plain=true/\ks.length*5<t.mask*3/\ks.Nodup
theorem Ah{h:Heap}{a:Addr}{o:Obj}{es:Array (Int×Value)}{ep:Nat}{t:SetTable}(ho:h.get? a=some o)(hd:o.data=.set es ep t)(es':Array (Int×Value))(t':SetTable) :
  (h.update a (Obj.putSet es' t')).get? a=some { o with data:=.set es' (ep+1) t' }:=by
 have:=Heap.get?_update_self (Obj.putSet es' t') ho (by rw[putSet_of es' t' hd];rfl)
 rw[putSet_of es' t' hd] at this;exact this
theorem Su{h:Heap}{es:Array (Int×Value)}{ks:List (List Int)}{a p:Nat}{kx:List Int}(x:Mq prog w h es ks)(hp:p<=ks.length)(hx:IsTupleKey (intKind prog w) h kx a) :
  Mq prog w h (insertAt es p (tupleKeyHash (intKind prog w) kx,.ref a)) (qm ks p kx):=by
 have hp':p<=es.size:=by rw[x.1];exact hp
 refine⟨by rw[Xj es p _ hp',pN ks p kx hp,x.1],fun i hi=>?_⟩
 rw[pN ks p kx hp] at hi
 rw[Yk es p _ hp',Ad ks p kx hp]
 by_cases h1:i<p
 ·rw[if_pos h1,if_pos h1];exact x.2 i (by grind)
 ·rw[if_neg h1,if_neg h1]
  by_cases h2:i=p
  ·rw[if_pos h2,if_pos h2];exact⟨a,rfl,hx⟩
  ·rw[if_neg h2,if_neg h2];exact x.2 (i-1) (by grind)
theorem Hr{t:SetTable}{hs hs':Nat->Int}{n:Nat}(T:Tb t hs n)(h:∀i,i<n->hs i=hs' i):Tb t hs' n :=
 ⟨T.size,T.rise,T.le,T.nod,T.msk,fun i hi=>by rw[←h i hi];exact T.rch i hi⟩
def Fp(ord:Array Nat)(ks:List (List Int)):List (List Int):=ord.toList.map fun r=>ks.getD r []
theorem Od{h:Heap}{es:Array (Int×Value)}{ks:List (List Int)}{ord:Array Nat}(x:Mq prog w h es ks)(hp:ord.toList.Perm (List.range ks.length)):Mq prog w h (ord.filterMap (es[·]?)) (Fp ord ks)/\(Fp ord ks).Perm ks:=by
 have hlt:∀r∈ord.toList,r<ks.length:=fun r hr=>List.mem_range.mp (hp.mem_iff.mp hr)
 have hlen:ord.toList.length=ks.length:=by rw[hp.length_eq,List.length_range]
 have hfm:∀l:List Nat,(∀r∈l,r<ks.length)->l.filterMap (es[·]?)=l.map fun r=>es.getD r (0,.none):=by
  intro l
  induction l with
  |nil=>intro _;rfl
  |cons r l ih=>
   intro hl
   have hr:r<es.size:=by rw[x.1];exact hl r List.mem_cons_self
   rw[List.filterMap_cons,Array.getElem?_eq_getElem hr,List.map_cons,ih fun r' hr'=>hl r' (List.mem_cons_of_mem _ hr')]
   simp[Array.getD,hr]
 have e1:(ord.filterMap (es[·]?)).toList=ord.toList.map fun r=>es.getD r (0,.none):=by
  rw[Array.toList_filterMap];exact hfm _ hlt
 refine⟨⟨?_,fun i hi=>?_⟩,?_⟩
 ·rw[←Array.length_toList,e1,List.length_map];unfold Fp;rw[List.length_map]
 ·unfold Fp at hi ⊢
  rw[List.length_map] at hi
  have hr:=hlt _ (List.getElem_mem hi)
  obtain⟨a,h1,h2⟩:=x.2 _ hr
  have e2:(ord.toList.map fun r=>ks.getD r []).getD i []=ks.getD (ord.toList[i]) []:=by
   rw[List.getD_eq_getElem?_getD,List.getElem?_map,List.getElem?_eq_getElem hi];rfl
  rw[e2]
  refine⟨a,?_,h2⟩
  rw[←Array.getElem?_toList,e1,List.getElem?_map,List.getElem?_eq_getElem hi,←h1]
  have hr':ord.toList[i]<es.size:=by rw[x.1];exact hr
  show some (es.getD (ord.toList[i]) (0,.none))=_
  rw[Array.getD_eq_getD_getElem?,Array.getElem?_eq_getElem hr'];rfl
 ·unfold Fp
  have:=hp.map fun r=>ks.getD r []
  refine this.trans ?_
  have e3:(List.range ks.length).map (fun r=>ks.getD r [])=ks:=by
   apply List.ext_getElem?
   intro i
   rw[List.getElem?_map]
   by_cases hi:i<ks.length
   ·rw[List.getElem?_range hi,List.getElem?_eq_getElem hi];simp[hi]
   ·rw[List.getElem?_eq_none (by simpa using hi),List.getElem?_eq_none (by simpa using hi)];rfl
  rw[e3]
end
section
variable{prog:Program}{w:World}{A:Around}{E:Value->Shared->Prop}{s:Shared}
theorem JB{S:Addr}{o:Obj}{es:Array (Int×Value)}{ep:Nat}{t:SetTable}{ks:List (List Int)}{Q:Unit->Shared->Prop}(ho:s.heap.get? S=some o)(hex:o.ExactSet)(hd:o.data=.set es ep t)(el:Mq prog w s.heap es ks)(T:Tb t (hsh prog w ks) ks.length)(hpl:t.plain=true)(hn:ks.length<=t.mask)(hnd:ks.Nodup)
  {M:Nat} (hM:Mr M) (hsz:sizeAbove (grown ks.length)=M+1) (hfew:ks.length*5<M*3)
  (h:∀h' ks',Heap.SameBut S s.heap h'->SetT prog w h' S ks'->ks'.Perm ks->Q () { s with heap:=h' }):wpAny (model prog w) A (setRelay S (grown ks.length)) Q E s:=by
 have hf:t.fits es.size=true:=by rw[el.1];exact fits_of T hn
 obtain⟨t2,ord,l1,l2,l3,l4,l5,l6,l7⟩:=Uu hM (hs:=hsh prog w ks) (es.map (·.1)) (by
  intro i hi
  rw[Array.size_map] at hi
  obtain⟨a,h1,_⟩:=el.2 i (by rw[←el.1];exact hi)
  rw[Array.getD_eq_getD_getElem?,Array.getElem?_map,h1];rfl) (by rw[Array.size_map,el.1];grind) t.finger (t.movedTo M) t.led t.plain
 rw[Array.size_map,el.1] at l6 l7
 obtain⟨x2,p2⟩:=Od el l6
 have hrel:t.relaid (es.map (·.1)) (grown ks.length)=some (t2,ord):=by
  unfold relaid
  rw[hsz];exact l1
 unfold setRelay
 refine wpAny_bind (wpAny_setState_of ho hd hf ?_)
 dsimp only
 rw[if_neg (by rw[hsz,sizeLine_eq];rcases hM with e | e | e <;> rw[e] <;> decide)]
 rw[hrel]
 have hsame:((ord.filterMap (es[·]?)).size != es.size)=false:=by
  rw[x2.1,p2.length_eq,el.1];exact bne_self_eq_false _
 refine wpAny_bind (Q:=_) (show wpAny (model prog w) A (do
   if ((ord.filterMap (es[·]?)).size != es.size)=true then unsupported "internal:set-table-lost-an-element"
   pure (ord.filterMap (es[·]?),t2)) _ E s from ?_)
 rw[hsame]
 simp only[Bool.false_eq_true,if_false]
 refine wpAny_pure ?_
 dsimp only
 have hz2:(ord.filterMap (es[·]?)).size<=sizeLine:=by
  rw[x2.1,p2.length_eq,sizeLine_eq]
  have:t.mask<=127:=by rcases T.msk with e | e | e <;> grind
  grind
 refine wpAny_storeSet_of ho hd ?_ hz2
 have hsb:=Heap.SameBut.update s.heap S (Obj.putSet (ord.filterMap (es[·]?)) t2)
 refine h _ (Fp ord ks) hsb ⟨_,_,_,_,Ah ho hd _ _,hex,rfl,x2.keeps ho hd hsb,?_,by rw[l4];exact hpl,by rw[p2.length_eq,l2];exact hfew,p2.nodup_iff.mpr hnd⟩ p2
 rw[p2.length_eq]
 refine Hr l7 fun i hi=>?_
 unfold hsh Fp
 have hi':i<ord.toList.length:=by rw[l6.length_eq,List.length_range];exact hi
 congr 1
 rw[List.getD_eq_getElem?_getD (l:=ord.toList.map _),List.getElem?_map,List.getElem?_eq_getElem hi']
 have hi2:i<ord.size:=by rw[←Array.length_toList];exact hi'
 rw[Array.getD_eq_getD_getElem?,Array.getElem?_eq_getElem hi2,Array.getElem_toList];rfl
theorem same_self(s:Shared):s={ s with heap:=s.heap }:=by cases s;rfl
theorem TJ{S a:Addr}{ks:List (List Int)}{kx:List Int}{Q:Bool->Shared->Prop}(hu:A.units<cLine)(hS:SetT prog w s.heap S ks)(hx:IsTupleKey (intKind prog w) s.heap kx a)(hb:ks.length<76)
  (h:∀b h' ks',Heap.SameBut S s.heap h'->SetT prog w h' S ks'->(∀k,k∈ks'↔k∈ks\/k=kx)->ks'.length<=ks.length+1->Q b { s with heap:=h' }) :
  wpAny (model prog w) A (setAddHashed S (.ref a) (tupleKeyHash (intKind prog w) kx)) Q E s:=by
 obtain⟨o,es,ep,t,ho,hex,hd,el,T,hpl,hfew,hnd⟩:=id hS
 have hn:ks.length<=t.mask:=by grind
 have hf:t.fits es.size=true:=by rw[el.1];exact fits_of T hn
 obtain⟨e,he1,he2,he3⟩:=Y8 T hn (tupleKeyHash (intKind prog w) kx)
 have hM:t.mask<=127:=by rcases T.msk with e | e | e <;> grind
 unfold setAddHashed setAddHashedIn
 refine wpAny_holding (wpAny_bind (wpAny_setState_of ho hd hf ?_))
 dsimp only
 have hbs:byScan (.ref a) es=false:=rfl
 rw[hbs]
 simp only[Bool.false_eq_true,if_false]
 unfold setSearch
 refine wpAny_bind (Gm hu ho hd el T hn hx he1 he2 he3 (fun hm=>?_) (fun hm=>?_) e 100000 0 none (by grind) (Nat.zero_le _) (by unfold turns at he1;grind) rfl (fun m' i z=>absurd z (Nat.not_lt_zero _)))
 ·dsimp only
  refine wpAny_pure ?_
  rw[same_self s]
  exact h _ s.heap ks (Heap.SameBut.refl S s.heap) hS (fun k=>⟨.inl,fun z=>z.elim id fun e=>e▸hm⟩) (Nat.le_succ _)
 ·dsimp only
  refine wpAny_bind (wpAny_setState_of ho hd hf ?_)
  dsimp only
  have hj:=Fz t.mask (tupleKeyHash (intKind prog w) kx) e
  obtain⟨T1,hp⟩:=Yx T he2 he3 hj
  have m1:(t.put (aX t.mask (st0 t.mask (tupleKeyHash (intKind prog w) kx)) e).j).1.mask=t.mask:=rfl
  have p1:(t.put (aX t.mask (st0 t.mask (tupleKeyHash (intKind prog w) kx)) e).j).1.plain=t.plain:=rfl
  generalize t.put (aX t.mask (st0 t.mask (tupleKeyHash (intKind prog w) kx)) e).j=tp at T1 hp m1 p1
  obtain⟨t1,p⟩:=tp
  dsimp only at T1 hp m1 p1 ⊢
  have T2:Tb t1 (hsh prog w (qm ks p kx)) (qm ks p kx).length:=by
   rw[pN ks p kx hp]
   refine Hr T1 fun i _=>?_
   unfold hsh
   rw[Ad ks p kx hp]
   split
   ·rfl
   ·split <;> rfl
  have hil:=pN ks p kx hp
  have hper:=Ly ks p kx
  have hnd2:(qm ks p kx).Nodup:=hper.nodup_iff.mpr (List.nodup_cons.mpr ⟨hm,hnd⟩)
  have el2:=Su (p:=p) el hp hx
  have hmem:∀k,k∈qm ks p kx↔k∈ks\/k=kx:=fun k=>by
   rw[hper.mem_iff,List.mem_cons]
   exact⟨fun z=>z.symm,fun z=>z.symm⟩
  have hle:(qm ks p kx).length<=ks.length+1:=by grind
  have hes:es.size+1=(qm ks p kx).length:=by rw[hil,el.1]
  rw[hes]
  generalize qm ks p kx=kk at T2 hil hper hnd2 el2 hmem hle
  rw[p1,hpl]
  refine wpAny_bind ?_
  refine Bm hx ?_
  rw[if_pos rfl]
  have hz1:(insertAt es p (tupleKeyHash (intKind prog w) kx,Value.ref a)).size<=sizeLine:=by rw[el2.1,hil,sizeLine_eq];grind
  refine wpAny_bind (wpAny_storeSet_of ho hd ?_ hz1)
  have hsb:=Heap.SameBut.update s.heap S (Obj.putSet (insertAt es p (tupleKeyHash (intKind prog w) kx,Value.ref a)) t1)
  have ho1:=Ah ho hd (insertAt es p (tupleKeyHash (intKind prog w) kx,Value.ref a)) t1
  have el3:=el2.keeps ho hd hsb
  generalize insertAt es p (tupleKeyHash (intKind prog w) kx,Value.ref a)=es1 at hz1 hsb ho1 el2 el3
  have hfill:t1.fill=kk.length:=by
   unfold SetTable.fill
   rw[T2.nod,T2.size];rfl
  by_cases hfull:t1.tooFull=true
  ·rw[hfull]
   simp only[Bool.not_false,Bool.and_self,if_true]
   unfold SetTable.tooFull at hfull
   rw[hfill] at hfull
   have hfull':=of_decide_eq_true hfull
   rw[m1] at hfull'
   have hMM:∃M,Mr M/\sizeAbove (grown kk.length)=M+1/\kk.length*5<M*3:=by
    rcases T.msk with z | z | z
    ·rw[z] at hfull' hfew
     have e5:kk.length=5:=by grind
     rw[e5]
     exact⟨31,.inr (.inl rfl),by decide,by decide⟩
    ·rw[z] at hfull' hfew
     have e19:kk.length=19:=by grind
     rw[e19]
     exact⟨127,.inr (.inr rfl),by decide,by decide⟩
    ·rw[z] at hfull';grind
   obtain⟨M,hM1,hM2,hM3⟩:=hMM
   refine wpAny_bind (JB (s:={ s with heap:=s.heap.update S (Obj.putSet es1 t1) }) ho1 hex rfl el3 T2 (p1.trans hpl) (by rw[m1];grind) hnd2 hM1 hM2 hM3 fun h' ks' s1 s2 s3=>?_)
   refine wpAny_pure (h _ h' ks' (hsb.trans s1) s2 (fun k=>by rw[s3.mem_iff];exact hmem k) (by rw[s3.length_eq];exact hle))
  ·rw[Bool.not_eq_true] at hfull
   rw[hfull]
   simp only[Bool.and_false,Bool.false_eq_true,if_false]
   unfold SetTable.tooFull at hfull
   rw[hfill] at hfull
   have hfull':=of_decide_eq_false hfull
   exact wpAny_pure (h _ _ kk hsb ⟨_,_,_,_,ho1,hex,rfl,el3,T2,p1.trans hpl,by grind,hnd2⟩ hmem hle)
end
section
variable{prog:Program}{w:World}{A:Around}{E:Value->Shared->Prop}{s:Shared}
theorem zV{h h':Heap}{ks:List Int}{a d:Addr}{o:Obj}(x:IsTupleKey (intKind prog w) h ks a)(ho:h.get? d=some o)(hc:o.cls≠.type "tuple")(hs:∀b u,b≠d->h.get? b=some u->h'.get? b=some u):IsTupleKey (intKind prog w) h' ks a:=by
 obtain⟨o',items,n,ho',hc',hd',hi⟩:=x
 have hne:a≠d:=by
  rintro rfl
  obtain rfl:o'=o:=Option.some.inj (ho'.symm.trans ho)
  exact hc hc'
 exact⟨o',items,n,hs a o' hne ho',hc',hd',hi⟩
theorem SetT.off{h h':Heap}{S d:Addr}{ks:List (List Int)}{o:Obj}(x:SetT prog w h S ks)(hS:S≠d)(ho:h.get? d=some o)(hc:o.cls≠.type "tuple")(hs:∀b u,b≠d->h.get? b=some u->h'.get? b=some u):SetT prog w h' S ks:=by
 obtain⟨u,es,ep,t,h1,h2,h3,h4,h5⟩:=x
 exact⟨u,es,ep,t,hs S u hS h1,h2,h3,⟨h4.1,fun i hi=>let ⟨a,g1,g2⟩:=h4.2 i hi;⟨a,g1,zV g2 ho hc hs⟩⟩,h5⟩
theorem Mx{R:Result->Shared->Prop}{S I l:Addr}{items:Array Value}{kk:List (List Int)}{ad:Nat->Addr}(hh:A.handled=none)(hu:A.units+1<cLine)(hSI:S≠I)(hSl:S≠l)(hlI:l≠I)(hsz:items.size=kk.length)(h76:kk.length<=76)(hit:∀j,j<kk.length->items[j]?=some (.ref (ad j))) :
  ∀(d i:Nat) (s:Shared) (ks:List (List Int)),kk.length-i=d->i<=kk.length->s.heap.IsListIter I l i->s.heap.IsList l items->SetT prog w s.heap S ks->(∀x,x∈ks↔x∈kk.take i)->ks.length<=i->(∀j,j<kk.length->IsTupleKey (intKind prog w) s.heap (kk.getD j []) (ad j)) ->
   (∀h' tk ks',(∀b o,b≠S->b≠I->s.heap.get? b=some o->h'.get? b=some o)->SetT prog w h' S ks'->(∀x,x∈ks'↔x∈kk)->ks'.length<=kk.length->R (.ok (.ret .none)) { s with heap:=h',toks:=tk }) ->
   codeAny (model prog w) A (.builtin "set.update.loop" ⟨[.ref S,.ref I],[]⟩) R s:=by
 intro d
 induction d with
 |zero=>
  intro i s ks hd hi it li st mem le keys hR
  have e:i=kk.length:=by grind
  subst e
  refine codeAny_builtin F.entry_set_update_loop ?_
  rw[Around.under_plainId F.plain_set_update_loop _]
  show wpAny _ A.in1 (pyNext (.ref I) >>= _) _ _ s
  refine wpAny_bind (wpAny_pyNext_list_end (by simp[hh]) it li (by simp[hsz]) fun h' he=>?_)
  show wpAny _ A.in1 (ret Value.none) _ _ _
  obtain⟨o,io,ic,_⟩:=id it
  rw[List.take_of_length_le (Nat.le_refl _)] at mem
  exact wpAny_pure (hR h' s.toks ks (fun b o _ hb q=>he b o hb q) (st.off hSI io (by rw[ic];decide) he) mem le)
 |succ d ih=>
  intro i s ks hd hi it li st mem le keys hR
  have hlt:i<kk.length:=by grind
  refine codeAny_builtin F.entry_set_update_loop ?_
  rw[Around.under_plainId F.plain_set_update_loop _]
  show wpAny _ A.in1 (pyNext (.ref I) >>= _) _ _ s
  refine wpAny_bind (wpAny_pyNext_list_item it li (hit i hlt) fun h1 it1 hs1=>?_)
  obtain⟨o,io,ic,_⟩:=id it
  have keep1:∀b u,b≠I->s.heap.get? b=some u->h1.get? b=some u:=fun b u hb q=>hs1.extBut b u hb q
  have st1:=st.off hSI io (by rw[ic];decide) keep1
  have keys1:∀j,j<kk.length->IsTupleKey (intKind prog w) h1 (kk.getD j []) (ad j):=fun j hj=>zV (keys j hj) io (by rw[ic];decide) keep1
  have li1:h1.IsList l items:=li.extBut hs1.extBut hlI
  show wpAny _ A.in1 (holding [Value.ref (ad i)] (setAdd S (.ref (ad i))) >>= _) _ _ _
  refine wpAny_bind (wpAny_holding ?_)
  unfold setAdd
  refine wpAny_holding (wpAny_bind (wpAny_pyHash_tuple (knd:=intKind prog w) (by show A.units+1<cLine;exact hu) (keys1 i hlt) ?_))
  refine TJ (s:={ s with heap:=h1,toks:=s.toks+((kk.getD i []).length+1) }) (by show A.units+1<cLine;exact hu) st1 (keys1 i hlt) (by grind) fun b h2 ks2 sb st2 m2 le2=>?_
  obtain⟨o2,_,_,_,so,sx,sd,_⟩:=id st1
  have keep2:∀b u,b≠S->h1.get? b=some u->h2.get? b=some u:=fun b u hb q=>(sb.2 b hb).trans q
  have hc2:o2.cls≠.type "tuple":=by rw[sx.1];decide
  refine wpAny_pure ⟨plainId_quiet F.plain_set_update_loop _,ih (i+1) _ ks2 (by grind) (by grind) (it1.at fun u q=>keep2 I u (fun z=>hSI z.symm) q) (li1.at fun u q=>keep2 l u (fun z=>hSl z.symm) q) st2 (fun x=>?_) (by grind) (fun j hj=>zV (keys1 j hj) so hc2 keep2) fun h' tk ks' k1 k2 k3 k4=>?_⟩
  ·rw[m2,mem,List.take_add_one,List.getElem?_eq_getElem hlt,List.mem_append]
   rw[show kk.getD i []=kk[i] from by rw[List.getD_eq_getElem?_getD,List.getElem?_eq_getElem hlt];rfl]
   simp
  ·exact hR h' tk ks' (fun b u hb1 hb2 q=>k1 b u hb1 hb2 (keep2 b u hb1 (keep1 b u hb2 q))) k2 k3 k4
end
section
variable{prog:Program}{w:World}{A:Around}{E:Value->Shared->Prop}{s:Shared}
def jE(led:Bool):Obj:={ cls:=.type "set",dict:=none,data:=.set #[] 0 (.fresh 0 0 led) }
theorem Ni{h:Heap}{S:Addr}{led:Bool}(ho:h.get? S=some (jE led)):SetT prog w h S [] :=
 ⟨_,_,_,_,ho,⟨rfl,rfl,rfl⟩,rfl,⟨rfl,fun _ z=>absurd z (Nat.not_lt_zero _)⟩,⟨rfl,fun _ _ _ z=>absurd z (Nat.not_lt_zero _),fun _ z=>absurd z (Nat.not_lt_zero _),rfl,.inl rfl,fun _ z=>absurd z (Nat.not_lt_zero _)⟩,rfl,(by show 0*5<7*3;decide),List.nodup_nil⟩
set_option maxHeartbeats 3200000 in
theorem QW{l:Addr}{items:Array Value}{kk:List (List Int)}{ad:Nat->Addr}{Q:Value->Shared->Prop}(hh:A.handled=none)(hu:A.units+16<cLine)(hl:s.heap.IsList l items)(hsz:items.size=kk.length)(h76:kk.length<=76)(hit:∀j,j<kk.length->items[j]?=some (.ref (ad j)))
  (keys:∀j,j<kk.length->IsTupleKey (intKind prog w) s.heap (kk.getD j []) (ad j))
  (h:∀h' tk ks,SetT prog w h' s.heap.objs.size ks->(∀x,x∈ks↔x∈kk)->ks.length<=kk.length->(∀b o,s.heap.get? b=some o->h'.get? b=some o)->Q (.ref s.heap.objs.size) { s with heap:=h',toks:=tk }) :
  wpAny (model prog w) A (call (.type "set") [.ref l]) Q E s:=by
 obtain⟨c,tl,hmro⟩:=F.called_set.mro;have hmade:=F.called_set.made;have hsub:=F.called_set.sub
 refine wpAny_call (codeAny_of_tree ?_);show wpAny _ _ (callAny (.type "set") _) _ _ _
 refine wpAny_pure ⟨Code.quiet_builtin _ (by decide +kernel),codeAny_builtin F.entry_type_call ?_⟩;rw[Around.under_plain (weight_type_call_type "set" [.ref l] []) rfl]
 have h1:=F.called_set.notType;have h2:=F.called_set.canCreate;have hct:=F.typeCall_set_1 (.ref l)
 (repeat (any_goals (first | assumption | wp_step)))
 refine codeAny_mono (code_set_new_1 (.ref l) (E:=E) (Q₁:=fun obj s₁=>∃led:Bool,obj=.ref s.heap.objs.size/\s₁={ s with heap:=s.heap.push (jE led) }) fun led=>⟨led,rfl,rfl⟩) fun r s₁ hr=>?_
 cases r with
 |error e=>exact hr
 |ok fl=>
  cases fl with
  |ret obj=>
   obtain⟨led,rfl,rfl⟩:=hr
   have hS:(s.heap.push (jE led)).get? s.heap.objs.size=some (jE led):=Heap.get?_push_size _ rfl
   have hT:Shared.TypeIs { s with heap:=s.heap.push (jE led) } (.ref s.heap.objs.size) "set":=⟨_,hS,rfl⟩
   have hli:=F.called_set.init.lookup;have hbi:=F.called_set.init.bind (.ref s.heap.objs.size)
   (repeat (any_goals (first | assumption | wp_step)))
   refine codeAny_mono (codeAny_call_builtin (R:=wants (fun r s₂=>r=.none/\∃h' tk ks,s₂={ s with heap:=h',toks:=tk }/\SetT prog w h' s.heap.objs.size ks/\(∀x,x∈ks↔x∈kk)/\ks.length<=kk.length/\∀b o,s.heap.get? b=some o->h'.get? b=some o) E) F.called_set.init.plain F.entry_set_init (check_set_init_1 hT ?_)) fun r₂ s₂ hr₂=>?_
   ·have hl1:(s.heap.push (jE led)).IsList l items:=hl.push _
    obtain⟨⟨ocls,odict,odata,oslots⟩,hol,hcl,nl,hdl⟩:=hl
    simp only at hcl hdl;subst hcl;subst hdl
    have hol':=Heap.get?_push_of_some (jE led) hol
    have hsls:=F.sub_list_set;have hslf:=F.sub_list_frozenset
    have hne:(Value.type "list" == Value.type "dict")=false:=by decide
    unfold Builtin.«set.__init__» noKeywords Builtin.Frozenset.updateFrom;generalize hPI:pyIter=PI
    wp_walk
    subst hPI
    refine wpAny_pyIter_list hl1 (wpAny_bind (wpAny_runValue ?_))
    have hlS:l<s.heap.objs.size:=Heap.lt_size hol
    have hz:(s.heap.push (jE led)).objs.size=s.heap.objs.size+1:=Heap.size_push ..
    have up:∀(X:Obj) b o,s.heap.get? b=some o->((s.heap.push (jE led)).push X).get? b=some o:=fun X b o q=>Heap.get?_push_of_some _ (Heap.get?_push_of_some _ q)
    refine Mx (I:=(s.heap.push (jE led)).objs.size) (l:=l) (items:=items) (kk:=kk) (ad:=ad) (by simp[hh]) (by show A.units+2+1<cLine;omega) (by rw[hz];exact Nat.ne_of_lt (Nat.lt_succ_self _)) (Nat.ne_of_gt hlS) (by rw[hz];exact Nat.ne_of_lt (Nat.lt_succ_of_lt hlS)) hsz h76 hit kk.length 0 _ [] (by omega) (Nat.zero_le _) ⟨_,Heap.get?_push_size _ rfl,rfl,rfl⟩ (hl1.push _) (Ni (Heap.get?_push_of_some _ hS)) (by simp) (Nat.zero_le _) (fun j hj=>let ⟨o,its,n,q,r⟩:=keys j hj;⟨o,its,n,up _ _ _ q,r⟩) fun h' tk ks' k1 k2 k3 k4=>?_
    show wpAny _ _ _ _ _ _
    refine wpAny_pure ?_
    show wpAny _ _ (ret Value.none) _ _ _
    refine wpAny_pure ⟨rfl,h',tk,ks',rfl,k2,k3,k4,fun b o q=>k1 b o (Nat.ne_of_lt (Heap.lt_size q)) (by rw[hz];exact Nat.ne_of_lt (Nat.lt_succ_of_lt (Heap.lt_size q))) (up _ b o q)⟩
   ·cases r₂ with
    |error e=>exact hr₂
    |ok fl₂=>
     cases fl₂ with
     |ret r=>
      obtain⟨rfl,h',tk,ks,rfl,k1,k2,k3,k4⟩:=hr₂
      (repeat (any_goals (first | assumption | wp_step)))
      exact h _ _ ks k1 k2 k3 k4
     |_=>exact hr₂.elim
  |_=>exact hr.elim
end
end L3.ST
namespace L3
open PySem PySem.Spec PyProof.Rows L2
def tpI(ns:List Int):D:=.tup (ns.map D.int)
def vp:List D->aF->aY->Prop:=fun ds H Q=>∃(a:Addr) (kk:List (List Int)),ds=[.ref a]/\H a=some (.lst (kk.map tpI))/\kk.length<=76/\∀ks:List (List Int),ks.Nodup->(∀x,x∈ks↔x∈kk)->Q (.int ks.length) H
theorem yQ{α:Type}[DecidableEq α]:∀ {l m:List α},l.Nodup->(∀x∈l,x∈m)->l.length<=m.length
 |[],_,_,_=>Nat.zero_le _
 |x::l,m,hn,hs=>by
  rw[List.nodup_cons] at hn
  have hx:=hs x List.mem_cons_self
  have:=yQ (m:=m.erase x) hn.2 fun y hy=>(List.mem_erase_of_ne (fun e=>hn.1 (by rw[←e];exact hy))).mpr (hs y (List.mem_cons_of_mem _ hy))
  rw[List.length_erase_of_mem hx] at this
  have:=List.length_pos_of_mem hx
  rw[List.length_cons];grind
theorem uX{α:Type}[DecidableEq α]:∀ {l m:List α},l.Nodup->(∀x∈l,x∈m)->m.length<=l.length->m.Nodup
 |[],m,_,_,h=>by rw[List.length_eq_zero_iff.mp (Nat.le_zero.mp h)];exact List.nodup_nil
 |x::l,m,hn,hs,h=>by
  have hn':=List.nodup_cons.mp hn
  have hx:=hs x List.mem_cons_self
  have hl:(m.erase x).length=m.length-1:=List.length_erase_of_mem hx
  have hp:=List.length_pos_of_mem hx
  rw[List.length_cons] at h
  have hs':∀y∈l,y∈m.erase x:=fun y hy=>(List.mem_erase_of_ne (fun e=>hn'.1 (by rw[←e];exact hy))).mpr (hs y (List.mem_cons_of_mem _ hy))
  have ih:=uX hn'.2 hs' (by grind)
  refine (List.perm_cons_erase hx).nodup_iff.mpr (List.nodup_cons.mpr ⟨fun z=>?_,ih⟩)
  have:=yQ hn fun y hy=>by
   rcases List.mem_cons.mp hy with e | hy
   ·rw[e];exact z
   ·exact hs' y hy
  rw[List.length_cons] at this
  grind
def Zv(p:Pt):List Int:=[p.1,p.2]
theorem R6{p q:Pt}(h:Zv p=Zv q):p=q:=by
 simp only[Zv,List.cons.injEq,and_true] at h
 exact Prod.ext h.1 h.2
theorem Pz{ps:List Pt}{a:Addr}{H:aF}{Q:aY}(ha:H a=some (.lst (ps.map bQ)))(hl:ps.length<=76)(q:∀n:Nat,(n=ps.length↔ps.Nodup)->n<=ps.length->Q (.int n) H):vp [.ref a] H Q:=by
 have e:(ps.map Zv).map tpI=ps.map bQ:=by rw[List.map_map];rfl
 have nd:(ps.map Zv).Nodup↔ps.Nodup:=by
  rw[List.nodup_iff_pairwise_ne,List.nodup_iff_pairwise_ne,List.pairwise_map]
  exact⟨fun h=>h.imp fun {x y} z w=>z (by rw[w]),fun h=>h.imp fun {x y} z w=>z (R6 w)⟩
 refine⟨a,ps.map Zv,rfl,by rw[e];exact ha,by rw[List.length_map];exact hl,fun ks h1 h2=>q ks.length ?_ ?_⟩
 ·rw[←nd]
  constructor
  ·intro z
   exact uX h1 (fun x hx=>(h2 x).mp hx) (by rw[List.length_map];grind)
  ·intro z
   have:=((List.perm_ext_iff_of_nodup h1 z).mpr h2).length_eq
   rwa [List.length_map] at this
 ·have:=yQ h1 fun x hx=>(h2 x).mp hx
  rwa [List.length_map] at this
section
variable{X:Cx}
theorem vM{prog:Program}{w:World}:∀ {ns:List Int} {vs:List Value},Vals (ns.map V.int) vs->ItemsAre (intKind prog w) ns vs
 |[],_,.nil=>.nil
 |_::_,_,.cons r t=>by
  obtain⟨t',rfl⟩:=r
  exact .cons (intKind_is _ _ _ _) (vM t)
theorem wY{pins:List (Addr×Obj)}{σ:St}{H:Hp}{s:Shared}(I:Inv X pins σ H s):∀ {kk:List (List Int)} {vs:List V} {its:List Value},bj X.K H (kk.map tpI) vs->Vals vs its ->
  ∀j,j<kk.length->∃a,its[j]?=some (.ref a)/\IsTupleKey (intKind X.prog X.w) s.heap (kk.getD j []) a
 |[],_,_,_,_,j,hj=>absurd hj (Nat.not_lt_zero _)
 |ns::kk,_,_,.cons r t,.cons q qs,j,hj=>by
  cases j with
  |zero=>
   cases r with
   |tup ha rl=>
    cases q
    have ex:=bj.lW rl
    subst ex
    obtain⟨its,rv,⟨o,ho,hc,m,hd⟩,_⟩:=I.tuple (jz.of ha)
    exact⟨_,rfl,o,_,m,ho,hc,hd,by simpa using vM rv⟩
  |succ j=>
   obtain⟨a,h1,h2⟩:=wY I t qs j (by rw[List.length_cons] at hj;grind)
   exact⟨a,by simpa using h1,by simpa using h2⟩
theorem LK{p1 p2 pos1 pos2:Pos}{e:Expr}{t:t8}(hc:X.calm=true)(hu:X.A.units+64<cLine)(hgl:Gl X "len")(hml:X.mg "len" = none)(hgs:Gl X "set")(hms:X.mg "set" = none)(hvl:bootBuiltins "len" = some (.builtin "len"))(hvs:bootBuiltins "set" = some (.type "set"))(ha:Mu X [e] t)
  (he1:starEach [Expr.Call (.Name "set" p2) [e] [] pos2] X.env=(false,eval (.Call (.Name "set" p2) [e] [] pos2) X.env)::starEach [] X.env:=by rfl) (he2:starEach [e] X.env=(false,eval e X.env)::starEach [] X.env:=by rfl)
  (hq1:(backTo pos1 (starEach [] X.env)).any (·.1)=false:=by rfl) (hq2:(backTo pos2 (starEach [] X.env)).any (·.1)=false:=by rfl) :
  cN X (.Call (.Name "len" p1) [.Call (.Name "set" p2) [e] [] pos2] [] pos1) (dH vp t):=by
 intro pins s σ H Q I h
 have h':=zR h
 refine wpAny_Call_Name_kw (iB I hgl hml hvl ?_ (by decide) (by decide))
 refine PyProof.Rows.callWith_builtin1 ?_ he1 hq1
 rw[he1]
 show wpAny _ _ (spliced ((false,eval (.Call (.Name "set" p2) [e] [] pos2) X.env)::backTo pos1 (starEach [] X.env))) _ _ s
 refine Calls.spliced_cons ?_
 refine wpAny_Call_Name_kw (iB I hgs hms hvs ?_ (by decide) (by decide))
 refine PyProof.Rows.callWith_type1 (cJ (ha pos2 pins s σ H _ I h') fun us s1 zz=>?_) he2 hq2
 obtain⟨vs,H1,I1,r1,q1⟩:=zz
 obtain⟨ds,H3,Q3,hr,rd,⟨a,kk,rfl,ka,k76,tq⟩,kk3⟩:=q1
 cases rd with
 |cons r1' r2'=>
  cases r2'
  cases r1'
  obtain⟨u,rfl,ru⟩:=Vals.one r1
  obtain rfl:u=Value.ref a:=ru
  obtain⟨xs,ga,ra⟩:=hr a _ ka
  obtain⟨its,rv,pl,hz⟩:=I1.list (jF.of ga)
  have keys:=wY I1 ra rv
  have hlen:its.length=kk.length:=by rw[←rv.length,←ra.length,List.length_map]
  have hch:∃ad:Nat->Addr,∀j,j<kk.length->its[j]?=some (.ref (ad j))/\IsTupleKey (intKind X.prog X.w) s1.heap (kk.getD j []) (ad j):=by
   refine⟨fun j=>if hj:j<kk.length then Classical.choose (keys j hj) else 0,fun j hj=>?_⟩
   dsimp only
   rw[dif_pos hj]
   exact Classical.choose_spec (keys j hj)
  obtain⟨ad,had⟩:=hch
  refine ST.QW (items:=its.toArray) (kk:=kk) (ad:=ad) (I1.ok.hd hc) (by grind) pl.isList (by rw[List.size_toArray,hlen]) k76 (fun j hj=>by simpa using (had j hj).1) (fun j hj=>(had j hj).2) fun h2 tk ks k1 k2 k3 k4=>?_
  have I2:=I1.kept (t':=tk) k4
  obtain⟨o,es,ep,tb,ho,hex,hd,el,T,_,hfew,hnd⟩:=id k1
  refine Calls.spliced_nil ?_
  have hfit:tb.fits es.size=true:=by rw[el.1];exact ST.fits_of T (by grind)
  refine call_len_set (s:={ s1 with heap:=h2,toks:=tk }) ho hex hd hfit (by rw[el.1];have:((ks.length:Nat):Int)<100:=(by grind);exact Int.lt_trans this (by decide)) ?_
  refine⟨.int ks.length,H1,I2.tok (tk+1+1),⟨tk+1,by rw[el.1]⟩,?_⟩
  exact kk3 _ _ _ _ TK.refl hr (.int _) (tq ks hnd k2)
end
def JT(x:Str)(l k:Nat)(d:D)(H1:aF)(Q:aY):Prop:=match d with
 | .ref a => (match H1 a with
  | some (.lst ds) => (match uO ds with
   |some ps=>ps.length<64/\∃T,(H1 T=some (.tab x)\/H1 T=some (.tabd x l k))/\∀p,H1 p=none->Q (.ref p) (aO (aO H1 T (.tabd x l k)) p (.lst ((lL ps).map bQ)))
   |none=>False)
  |_=>False)
 |_=>False
def soL(x:Str)(l k:Nat)(te:cC):cC:=fun σ H Q=>te σ H fun d H1=>JT x l k d H1 Q
theorem aaQ{x:Str}{l k:Nat}{te:cC}{σ:cO}{H:aF}{Q:aY}(h:te σ H fun d H1=>JT x l k d H1 Q):soL x l k te σ H Q:=h
theorem Xu{x:Str}{l k:Nat}{a T:Addr}{ps:List Pt}{H:aF}{Q:aY}(ha:H a=some (.lst (ps.map bQ)))(hl:ps.length<64)(hT:H T=some (.tab x)\/H T=some (.tabd x l k))
  (q:∀p,H p=none->Q (.ref p) (aO (aO H T (.tabd x l k)) p (.lst ((lL ps).map bQ)))):JT x l k (.ref a) H Q:=by
 unfold JT
 dsimp only
 rw[ha]
 dsimp only
 rw[xR]
 exact⟨hl,T,hT,q⟩
section
variable{X:Cx}{pins:List (Addr×Obj)}{σ:St}{H H':Hp}{s:Shared}
theorem Jm{T:Addr}{ps more:Array Value}{h':Heap}{tk:Nat}(I:Inv X pins σ H s)(kT:H T=some (.tbl ps))(kT':H' T=some (.tbl (ps++more)))(kx:∀b o,b≠T->s.heap.get? b=some o->h'.get? b=some o)
  (hT:h'.get? T=some (PySem.W.tabObj (ps++more))) (same:∀b,b≠T->b<s.heap.objs.size->H' b=H b) (new:∀b u,s.heap.objs.size<=b->H' b=some u->bZ X.prog X.w H' h' b u):Inv X pins σ H' { s with heap:=h',toks:=tk }:=by
 have lt:∀b u,H b=some u->b<s.heap.objs.size:=fun b u e=>I.hok.lt e
 have nT:∀b,H b=none->b≠T:=fun b n z=>by rw[z,kT] at n;cases n
 have st:∀b u,b≠T->H b=some u->H' b=some u:=fun b u n e=>(same b n (lt b u e)).trans e
 refine I.step (g':=s.gens) (d':=s.drawn) (ch:=[]) (fun _ z=>nomatch z) (fun b o _ _ _ e n=>kx b o (nT b n) e) (fun b o _ _ _ e n=>⟨o.slots,kx b o (nT b n) e⟩) (fun b o _ e n=>(same b (nT b n) (Heap.lt_size e)).trans n)
  (fun b o _ e=>?_) (fun b xs e=>st b _ (fun z=>by rw[z,kT] at e;cases e) e) (fun b o u e=>st b _ (fun z=>by rw[z,kT] at e;cases e) e) (fun b qs e=>?_) (fun m hm=>?_) (fun b u e=>?_) I.bare
 ·by_cases hb:b=T
  ·exact⟨_,by rw[hb];exact hT⟩
  ·exact⟨o,kx b o hb e⟩
 ·by_cases hb:b=T
  ·subst hb
   rw[kT] at e
   cases e
   exact⟨more,kT'⟩
  ·exact⟨#[],by rw[st b _ hb e];simp⟩
 ·obtain⟨o,es,ep,ho,r⟩:=hm
  exact⟨o,es,ep,kx _ o (nT _ I.free) ho,r⟩
 ·by_cases hb:b=T
  ·subst hb
   rw[kT'] at e
   cases e
   exact hT
  ·by_cases hl:b<s.heap.objs.size
   ·rw[same b hb hl] at e
    refine (I.hok b u e).stay (fun c v hc q=>kx c v ?_ q) (fun c q=>?_) fun c xs q=>?_
    ·rcases hc with z | z
     ·rw[z];exact hb
     ·exact fun w=>by rw[w,kT] at z;cases z
    ·exact st c _ (fun w=>by rw[w,kT] at q;cases q) q
    ·exact st c _ (fun w=>by rw[w,kT] at q;cases q) q
   ·exact new b u (Nat.le_of_not_lt hl) e
theorem Qu(I:Inv X pins σ H s){x:Str}{c T:Addr}{ps:Array Value}(tk:zf X.K H x c T)(kT:H T=some (.tbl ps)):s.heap.BuiltinsAt X.mg T/\mainGlobals≠T/\PySem.W.CodeHd s.heap c T/\s.heap.Ns mainGlobals X.mg/\s.heap.get? T=some (PySem.W.tabObj ps):=by
 obtain⟨bm,ob,h1,h2,h3,h4,h5,h6⟩:=tk.bm
 have hg:s.heap.Ns mainGlobals X.mg:=I.ok.mod.glob.keeps I.bk
 have e:=PySem.W.mg_of I.ok.mod.kin I.ok.mod.glob h1
 have hb:=(I.hok bm _ h3).1
 have hT:s.heap.get? T=some (PySem.W.tabObj ps):=I.hok T _ kT
 have n1:bm≠mainGlobals:=fun z=>by
  obtain⟨o,es,ep,e1,d,_⟩:=hg
  rw[z,e1] at hb
  cases hb
  rw[h6] at d
  cases d
 have n2:mainGlobals≠T:=fun z=>by
  obtain⟨o,es,ep,e1,d,_⟩:=hg
  rw[z,hT] at e1
  cases e1
  cases d
 have n3:bm≠T:=fun z=>by rw[z,kT] at h3;cases h3
 exact⟨⟨bm,ob,e,h2,n1,n3,hb,h4,h5,h6⟩,n2,tk.hd _ I.tV,hg,hT⟩
abbrev lamO(X:Cx)(params:Arguments)(body:Expr)(scope:Scope)(c':Addr)(ctv:Value):Obj :=
 PySem.W.kla_obj "<lambda>" (X.env.qual ++ "<lambda>") params body scope [] ((X.mg "__name__").getD .none) c' ctv
theorem Mv{x:Str}{c T:Addr}{params:Arguments}{body:Expr}{scope:Scope}{pos:Pos}{R:Value->Shared->Prop}(I:Inv X pins σ H s)(tk:zf X.K H x c T)(kT:H T=some (.tbl #[]))(hd:defaultsOf params X.env=([],[]))(hcl:closureFor scope X.env=pure [])
  (hcode:X.env.code=.ref c)
  (h:∀ f c' oc vs t ctv s' H',H f = none→H c' = none→f≠c'→f≠T→c'≠T→oc.data = .fields vs→vs[1]? = some (.str (X.env.qual ++ "<lambda>") t)→H' = upd (upd (upd H T (.tbl #[rawInt pos.line,rawInt pos.col,.ref c'])) c' (.frz oc (.own c'))) f (.frz (lamO X params body scope c' ctv) (.own f)) →
   Inv X pins σ H' s'->R (.ref f) s'):wpAny (model X.prog X.w) X.A (eval (.Lambda params body scope pos) X.env) R X.xe s:=by
 obtain⟨hb,hgT,hC,hg,hT⟩:=Qu I tk kT
 refine PySem.W.kla_eval hd (PySem.W.kla_makeFunction hcl I.ok.glob hg hcode hC hT trivial rfl hgT hb fun c' ctv h' tk' hx hge hlt hrec htb=>?_)
 obtain⟨c₂,oc,vs,t,e2,hoc,hdd,hv⟩:=hrec
 cases e2
 have hTs:T<s.heap.objs.size:=Heap.lt_size hT
 have hfs:s.heap.objs.size<=h'.objs.size:=Nat.le_of_lt (Nat.lt_of_le_of_lt hge hlt)
 have nc:H c'=none:=I.hok.fresh hge
 have nf:H h'.objs.size=none:=I.hok.fresh hfs
 have e1:h'.objs.size≠c':=Nat.ne_of_gt hlt
 have e3:h'.objs.size≠T:=Nat.ne_of_gt (Nat.lt_of_lt_of_le hTs hfs)
 have e4:c'≠T:=Nat.ne_of_gt (Nat.lt_of_lt_of_le hTs hge)
 refine h h'.objs.size c' oc vs t ctv _ _ nf nc e1 e3 e4 hdd hv rfl (Jm (T:=T) (ps:=#[]) (more:=#[rawInt pos.line,rawInt pos.col,.ref c']) I kT ?_ (fun b o hb' e=>Heap.get?_push_of_some _ (hx b o hb' e)) (Heap.get?_push_of_some _ htb) (fun b hb' hl=>?_) fun b u hl e=>?_)
 ·rw[aD (Ne.symm e3),aD (Ne.symm e4),aQ];rfl
 ·rw[aD (Nat.ne_of_lt (Nat.lt_of_lt_of_le hl hfs)),aD (Nat.ne_of_lt (Nat.lt_of_lt_of_le hl hge)),aD hb']
 ·by_cases hb1:b=h'.objs.size
  ·rw[hb1,aQ] at e
   cases e
   rw[hb1]
   exact⟨Heap.get?_push_size _ rfl,_,Heap.get?_push_size _ rfl⟩
  ·rw[aD hb1] at e
   by_cases hb2:b=c'
   ·rw[hb2,aQ] at e
    cases e
    rw[hb2]
    exact⟨Heap.get?_push_of_some _ hoc,_,Heap.get?_push_of_some _ hoc⟩
   ·rw[aD hb2,aD (Nat.ne_of_gt (Nat.lt_of_lt_of_le hTs hl)),I.hok.fresh hl] at e
    cases e
theorem T3{x:Str}{c T c':Addr}{params:Arguments}{body:Expr}{scope:Scope}{pos:Pos}{R:Value->Shared->Prop}(I:Inv X pins σ H s)(tk:zf X.K H x c T)(kT:H T=some (.tbl #[rawInt pos.line,rawInt pos.col,.ref c']))(hd:defaultsOf params X.env=([],[]))(hcl:closureFor scope X.env=pure [])
  (hcode:X.env.code=.ref c)
  (h:∀f ctv s' H',H f=none->H'=upd H f (.frz (lamO X params body scope c' ctv) (.own f))->Inv X pins σ H' s'->R (.ref f) s'):wpAny (model X.prog X.w) X.A (eval (.Lambda params body scope pos) X.env) R X.xe s:=by
 obtain⟨hb,hgT,hC,hg,hT⟩:=Qu I tk kT
 refine PySem.W.kla_eval hd (PySem.W.kla_makeFunctionHit (cv:=.ref c') hcl I.ok.glob hg hcode hC hT ?_ ?_ hb fun ctv h' tk' hk hsz=>?_)
 ·simp[TriplesOk,rawInt]
 ·simp[codeAmong,rawInt]
 ·have hTs:T<s.heap.objs.size:=Heap.lt_size hT
  have nf:H h'.objs.size=none:=I.hok.fresh hsz
  have e3:h'.objs.size≠T:=Nat.ne_of_gt (Nat.lt_of_lt_of_le hTs hsz)
  refine h h'.objs.size ctv _ _ nf rfl (Jm (T:=T) (more:=#[]) I kT ?_ (fun b o hb' e=>Heap.get?_push_of_some _ (hk b o e)) (Heap.get?_push_of_some _ ?_) (fun b hb' hl=>?_) fun b u hl e=>?_)
  ·rw[aD (Ne.symm e3),kT];simp
  ·rw[hk _ _ hT];simp
  ·rw[aD (Nat.ne_of_lt (Nat.lt_of_lt_of_le hl hsz))]
  ·by_cases hb1:b=h'.objs.size
   ·rw[hb1,aQ] at e
    cases e
    rw[hb1]
    exact⟨Heap.get?_push_size _ rfl,_,Heap.get?_push_size _ rfl⟩
   ·rw[aD hb1,I.hok.fresh hl] at e
    cases e
theorem Vf{k:Nat}{f c':Addr}{name qual:Str}{params:Arguments}{body:Expr}{scope:Scope}{pm ctv:Value}{N ps:List Str}{us:List Value}{vs:List V}{t:TE}{Q:VK}(I:Inv X pins σ H s)(hf:s.heap.get? f=some (PySem.W.kla_obj name qual params body scope [] pm c' ctv))(hcd:s.heap.CodeRec (.ref c') qual)
  (S:bc N ps scope) (hr:eO (k+1) X.A) (hl:vs.length=ps.length) (r:Vals vs us) (hb:bindArgs (PySem.W.kla_fn name qual params body scope [] pm (.ref c') ctv) ⟨us,[]⟩=pure (ps.zip us))
  (hbody:∀(A:Around) (outer:List Env) (s:Shared) (H:Hp),eO k (A.deeper (envOfC qual scope s.heap.objs.size f (.ref c')))->PE (rH zZ X.prog X.w X.K X.mg X.base N qual scope f (.ref c') A outer s H E0).Mp body t) (ht:t (L2.start N vs) H Q) :
  wpAny (model X.prog X.w) X.A (call (.ref f) us) (EP X pins σ Q) X.xe s:=by
 have e0:=I.env0
 have lim:s.heap.NoLimit:=I.nolimit
 have hkind:∀y∈ps.zip us,scope.names.lookup y.1=some .local\/(scope.names.lookup y.1=some .cell/\((cellsFrom (s.heap.objs.size+1) scope.names []).lookup y.1).isSome=true):=fun ⟨n,v⟩ hy=>by
  rcases S.par n (List.of_mem_zip hy).1 with q | q
  ·exact .inl q
  ·exact .inr ⟨q,PySem.W.cellsFrom_some _ _ _ (.inl q)⟩
 refine wpAny_call (codeAny_mono (PySem.W.kla_callFunE (R:=CR zZ X.stack X.prog X.w H s Q E0) hr.depth hf rfl S.co S.gen rfl hcd ?_) fun r s' hq=>?_)
 ·rw[hb]
  refine wpAny_pure (wpAny_newFunctionEnv_cells S.kind hkind fun env he s1 x=>?_)
  subst he
  refine⟨lim.keeps x.toInCall.keep,PySem.W.kla_codeExpr ?_⟩
  have J:Inv (rH zZ X.prog X.w X.K X.mg X.base N qual scope f (.ref c') X.A X.stack s H E0).Mp [] (L2.start N vs) H s1:=by
   have J0:=yo (CX:=zZ) (E:=E0) (N:=N) (qual:=qual) (f:=f) (cd:=.ref c') S hr.hd e0 hl r x
   exact J0.wish _
  refine wpAny_mono (hbody X.A X.stack s H (hr.deeper _) [] s1 (L2.start N vs) H Q J ht) (fun u s' hs=>?_) fun _ _ z=>z.elim
  obtain⟨v,H',J',rv,q⟩:=hs
  exact⟨v,H',J'.os,J'.bare,J'.base,J'.hok,rv,q⟩
 ·cases r with
  |error e=>exact False.elim hq
  |ok fl=>
   cases fl with
   |ret u=>exact I.after hq
   |next=>exact False.elim hq
   |brk=>exact False.elim hq
   |cont=>exact False.elim hq
end
section
variable{X:Cx}{pins:List (Addr×Obj)}{σ:St}{H:Hp}{s:Shared}
theorem TK.abX{H:Hp}{p:Addr}{o:HO}{ps:Array Value}(n:H p=some (.tbl ps)):TK H (upd H p o) :=
 ⟨fun a ys h=>by rw[aD (sG h n (by intro z;cases z))];exact h,fun a o' u h=>by rw[aD (sG h n (by intro z;cases z))];exact h⟩
theorem Es{x y:Str}{e body:Expr}{te tb:cC}{params:Arguments}{scope:Scope}{l k q:Nat}{p pos lpos kpos:Pos}{f₀:Addr}{fd₀:FuncData}{oc₀:Value}{od₀:Option Addr}{sl₀:Array (Option Value)}(hm:X.mg x=some (.ref f₀))(hk:X.K.lookup f₀=some ⟨oc₀,od₀,.func fd₀,sl₀⟩)(hcv:X.env.code=fd₀.code)
  (S:bc [y] [y] scope) (hr:eO (q+3) X.A) (hs:X.mg "sorted" = none) (he:cN X e te)
  (hbody:∀(f c':Addr) (A:Around) (outer:List Env) (s:Shared) (H:Hp),cN (rH zZ X.prog X.w X.K X.mg X.base [y] (By x) scope f (.ref c') A outer s H E0).Mp body tb)
  (hkey:∀(c:Pt) (H3:aF) (Q3:aY),Q3 (.tup [.int c.2,.int c.1]) H3->tb (aJ [y] [bQ c]) H3 Q3)
  (hb:∀(pm:Value) (c':Addr) (ctv u:Value),bindArgs (PySem.W.kla_fn "<lambda>" (By x) params body scope [] pm (.ref c') ctv) ⟨[u],[]⟩=pure [(y,u)])
  (hl:lpos.line=l:=by rfl) (hc:lpos.col=k:=by rfl)
  (hq:X.env.qual ++ "<lambda>" = By x:=by rfl) (hd:defaultsOf params X.env=([],[]):=by rfl) (hcl:closureFor scope X.env=pure []:=by rfl)
  (hg:Gl X "sorted":=by rfl) (h1:starEach [e] X.env=(false,eval e X.env)::starEach [] X.env:=by rfl)
  (h2:backTo pos (starEach [e] X.env)=(false,eval e X.env)::backTo pos (starEach [] X.env):=by rfl) (h3:(backTo pos (starEach [e] X.env)).any (·.1)=false:=by rfl) (h4:(backToKw pos (keywordEach [⟨some "key",.Lambda params body scope lpos,kpos⟩] X.env)).all (·.1.isSome)=true:=by rfl)
  (h5:(backToKw pos (keywordEach [⟨some "key",.Lambda params body scope lpos,kpos⟩] X.env)).any (·.1.isNone)=false:=by rfl) (h6:(backToKw pos (keywordEach [⟨some "key",.Lambda params body scope lpos,kpos⟩] X.env)).filterMap (·.1)=[Str.ofString "key"]:=by rfl) :
  cN X (.Call (.Name "sorted" p) [e] [⟨some "key",.Lambda params body scope lpos,kpos⟩] pos) (soL x l k te):=by
 intro pins s σ H Q I h
 obtain⟨σ3,H3,Q3,sr,hr3,t,kk⟩:=h
 refine wpAny_Call_Name_kw (iB I hg hs boot_sorted ?_ (by decide) (by decide))
 have pa:PA X [e] (Iv (eV X.K te) Ve):=Hq he Rg h1
 refine callWith_kw (cJ (pa pos pins s σ H (fun vs H1=>∃d v H31,vs=[v]/\TK H H1/\HR X.K H31 H1/\Rep X.K H1 d v/\JT x l k d H31 Q3) I ⟨σ3,H3,_,sr,hr3,t,fun d v H3' H' tk hr' rep q=>⟨d,v,H3',rfl,tk,hr',rep,q⟩⟩) fun us s1 hq=>?_) h2 h3 h4 h5
 obtain⟨vs,H1,I1,rvs,d,v,H31,rfl,tk1,hr1,rep1,q1⟩:=hq
 obtain⟨u1,rfl,ru1⟩:=vals1 rvs
 rw[h6]
 cases rep1 with
 |ref a=>
  cases ru1
  unfold JT at q1
  dsimp only at q1
  split at q1
  ·rename_i ds ha
   split at q1
   ·rename_i ps ep
    obtain⟨h64,T,hT,q1⟩:=q1
    have z:=La ep
    subst z
    obtain⟨vs,ga,ra⟩:=hr1 a _ ha
    have fin:∀(f c' oc:_) (ctv:Value) (vs':Array Value) (tq:Nat) (H2:Hp),HR X.K (aO H31 T (.tabd x l k)) H2->TK H1 H2->H2 c'=some (.frz oc (.own c'))->oc.data=.fields vs'->vs'[1]?=some (.str (By x) tq) ->
      H2 f=some (.frz (lamO X params body scope c' ctv) (.own f))->H2 a=some (.lst vs)->∀s2,Inv X pins σ H2 s2->wpAny (model X.prog X.w) X.A (call (.builtin "sorted") [.ref a] [(Str.ofString "key",.ref f)]) (EP X pins σ Q) X.xe s2:=by
     intro f c' oc ctv vs' tq H2 hr2 tk2 kc hdd hv kf ga2 s2 I2
     refine JH I2 ga2 (ra.mono tk2) hr2 h64 (fun pins' H' s' c v u tk hr' J rep rx=>?_) fun D H'' tk hr'' nD=>kk _ _ _ _ ((tk1.trans tk2).trans tk) hr'' (.ref D) (q1 D ?_)
     ·have of:=(J.hok f _ (tk.frz _ _ _ kf)).1
      have oc':=(J.hok c' _ (tk.frz _ _ _ kc)).1
      rw[show lamO X params body scope c' ctv=PySem.W.kla_obj "<lambda>" (By x) params body scope [] ((X.mg "__name__").getD .none) c' ctv by unfold lamO;rw[hq]] at of
      refine Vf (X:=Cx.GJ X) (k:=q) (t:=eV X.K tb) J of ⟨c',oc,vs',tq,rfl,oc',hdd,hv⟩ S (hr.in1.in1) rfl (.cons rx .nil) (hb _ _ _ _) (fun A outer s0 H0 _=>hbody f c' A outer s0 H0) ?_
      exact⟨aJ [y] [bQ c],_,fun d H3'=>d=.tup [.int c.2,.int c.1]/\H3'=_,vf (.cons rep .nil),hr',hkey c _ _ ⟨rfl,rfl⟩,fun d v H3'' H'' tk' hr'' rep' q=>by
       obtain⟨rfl,rfl⟩:=q
       exact⟨tk',hr'',rep'⟩⟩
     ·by_cases hDT:D=T
      ·rw[hDT,aB] at nD;cases nD
      ·rw[aV hDT] at nD;exact nD
    have codeE:∀c,PySem.W.tabIn X.K x=some (c,T)->X.env.code=.ref c:=fun c ht=>by
     rw[hcv]
     exact PySem.W.law_code I1.tV (I1.ok.mod.glob.keeps I1.bk) ht hm (I1.tV _ _ hk) rfl
    have pl:PE X (.Lambda params body scope lpos) (fun _ H' Q'=>H'=H1/\∀(f c':Addr) (oc:Obj) (ctv:Value) (vs':Array Value) (tq:Nat) (H2:Hp),HR X.K (aO H31 T (.tabd x l k)) H2->TK H1 H2->H2 c'=some (.frz oc (.own c'))->oc.data=.fields vs'->vs'[1]?=some (.str (By x) tq) ->
      H2 f=some (.frz (lamO X params body scope c' ctv) (.own f))->H2 a=some (.lst vs)->Q' (.ref f) H2):=by
     intro pins s σ H' Q' I ⟨eH,hq'⟩
     subst eH
     rcases hT with hT | hT
     ·obtain⟨kT,c,tkT⟩:=hr1 T _ hT
      refine Mv I tkT kT hd hcl (codeE c tkT.tab) fun f c' oc vs' t ctv s' H2 nf nc e1 e2 e3 hdd hv eH J=>⟨.ref f,H2,J,rfl,?_⟩
      have nc1:upd H' T (.tbl #[rawInt lpos.line,rawInt lpos.col,.ref c']) c'=none:=by rw[aD e3];exact nc
      have nf1:upd (upd H' T (.tbl #[rawInt lpos.line,rawInt lpos.col,.ref c'])) c' (.frz oc (.own c')) f=none:=by rw[aD e1,aD e2];exact nf
      have tkA:TK H' H2:=by rw[eH];exact ((TK.abX kT).trans (TK.fresh nc1)).trans (TK.fresh nf1)
      have kc:H2 c'=some (.frz oc (.own c')):=by rw[eH,aD (Ne.symm e1),aQ]
      have old:∀b u,b≠T->H' b=some u->H2 b=some u:=fun b u n e=>by rw[eH,aD (bH e nf),aD (bH e nc),aD n];exact e
      rw[hq] at hv
      refine hq' f c' oc ctv vs' t H2 (fun b u e=>?_) tkA kc hdd hv (by rw[eH,aQ]) (old a _ (fun z=>by rw[z,kT] at ga;cases ga) ga)
      by_cases hb':b=T
      ·subst hb'
       rw[aB] at e
       cases e
       exact⟨c',oc,vs',t,by rw[eH,aD (Ne.symm e2),aD (Ne.symm e3),aQ,hl,hc],kc,hdd,hv,c,tkT.mono tkA⟩
      ·rw[aV hb'] at e
       refine (hr1 b u e).keep tkA ?_
       have n1:b≠c':=ne3 e (hr1.fresh nc)
       have n2:b≠f:=ne3 e (hr1.fresh nf)
       rw[eH,aD n2,aD n1,aD hb']
     ·obtain⟨c',oc,vs',t,kT,kc,hdd,hv,c,tkT⟩:=hr1 T _ hT
      have kT':H' T=some (.tbl #[rawInt lpos.line,rawInt lpos.col,.ref c']):=by rw[kT,hl,hc]
      refine T3 I tkT kT' hd hcl (codeE c tkT.tab) fun f ctv s' H2 nf eH J=>⟨.ref f,H2,J,rfl,?_⟩
      have tkA:TK H' H2:=by rw[eH];exact TK.fresh nf
      have old:∀b u,H' b=some u->H2 b=some u:=fun b u e=>by rw[eH,aD (bH e nf)];exact e
      refine hq' f c' oc ctv vs' t H2 (fun b u e=>?_) tkA (old _ _ kc) hdd hv (by rw[eH,aQ]) (old a _ ga)
      by_cases hb':b=T
      ·subst hb'
       rw[aB] at e
       cases e
       exact⟨c',oc,vs',t,old _ _ kT,old _ _ kc,hdd,hv,c,tkT.mono tkA⟩
      ·rw[aV hb'] at e
       refine (hr1 b u e).keep tkA ?_
       rw[eH,aD (ne3 e (hr1.fresh nf))]
    have pk:PK X [⟨some "key",.Lambda params body scope lpos,kpos⟩] (Iv _ Ve):=Vg pl WY
    refine cJ (pk pos pins s1 σ H1 (fun zs H2=>∃(f c':Addr) (oc:Obj) (ctv:Value) (vs':Array Value) (tq:Nat),zs=[.ref f]/\HR X.K (aO H31 T (.tabd x l k)) H2/\TK H1 H2/\H2 c'=some (.frz oc (.own c'))/\oc.data=.fields vs'/\vs'[1]?=some (.str (By x) tq) /\
      H2 f=some (.frz (lamO X params body scope c' ctv) (.own f))/\H2 a=some (.lst vs)) I1 ⟨rfl,fun f c' oc ctv vs' tq H2 g1 g2 g3 g4 g5 g6 g7=>⟨f,c',oc,ctv,vs',tq,rfl,g1,g2,g3,g4,g5,g6,g7⟩⟩) fun ws s2 hq2=>?_
    obtain⟨zs,H2,I2,rz,f,c',oc,ctv,vs',tq,rfl,g1,g2,g3,g4,g5,g6,g7⟩:=hq2
    obtain⟨w1,rfl,rw1⟩:=vals1 rz
    cases rw1
    exact fin f c' oc ctv vs' tq H2 g1 g2 g3 g4 g5 g6 g7 s2 I2
   ·exact q1.elim
  ·exact q1.elim
 |_=>exact q1.elim
end
theorem Sq{y:Str}(c:Pt)(H3:aF)(Q3:aY)(h:Q3 (.tup [.int c.2,.int c.1]) H3):jh (au (o3 aP (v3 0) (c3 (.int 1))) (au (o3 aP (v3 0) (c3 (.int 0))) aH)) (aJ [y] [bQ c]) H3 Q3:=by
 refine aaY (Gb (YW (We (d:=.tup [.int c.1,.int c.2]) rfl (Y4 (Cd (d:=.int c.2) rfl (Gb (YW (We (d:=.tup [.int c.1,.int c.2]) rfl (Y4 (Cd (d:=.int c.1) rfl (Vt ?_)))))))))))
 exact⟨by show 2<=1000;decide,h⟩
theorem acG{P:Program}{w:World}{K:PySem.W.Frag}{mg:Str->Option Value}{base:Heap}{x qual:Str}{st:Stmt}{f:Addr}{fd:FuncData}{N ps:List Str}{k:Nat}{sp:mL}(F:N8 K x qual st f fd)(S:bc N ps (aA st))
  (hm:mg x=some (.ref f)) (hb:Binds K fd ps []) (len:∀ds H Q,sp ds H Q->ds.length=ps.length)
  (hbody:∀ (oc:Value) (od:Option Addr) (sl:Array (Option Value)),K.lookup f = some ⟨oc,od,.func fd,sl⟩→∀ (A:Around) (outer:List Env) (s:Shared) (H:Hp) (E:XK),eO k (A.deeper (envOfC qual (aA st) s.heap.objs.size f fd.code)) →
   ∃t,tD (rH zZ P w K mg base N qual (aA st) f fd.code A outer s H E).Mp (aR st) t/\∀ds H3 Q3,sp ds H3 Q3->t (dX Q3) (aJ N ds) H3):Fn P w K mg base (k+1) x ps sp:=by
 refine⟨f,fd,?_,hm,F.kp,hb⟩
 obtain⟨oc,od,kV,doc,pm,an,cdv,ct,osl,rfl,lk,hcd⟩:=F.ex
 refine Vn lk hcd S (fun vs H Q E h=>?_) (fun A outer s H vs Q E hr h=>?_)
 ·obtain⟨ds,H3,Q3,_,rs,q,_⟩:=h
  rw[←rs.length]
  exact len ds H3 Q3 q
 ·obtain⟨ds,H3,Q3,hr3,rs,q,k⟩:=h
  obtain⟨t,ht,hq⟩:=hbody oc od osl lk A outer s H E hr
  refine⟨_,Ck.Mp ht,aJ N ds,H3,_,vf rs,hr3,hq ds H3 Q3 q,⟨fun σ3 σ H3' H' tk sr hr' z=>?_,fun d v H3' H' tk hr' rd z=>?_,fun _ _ _ _ _ _ _ z=>z.elim,fun _ _ _ _ _ _ _ z=>z.elim⟩⟩
  ·obtain⟨H'',sub,q'⟩:=z
   exact k _ _ _ _ tk (hr'.sub sub) .non q'
  ·obtain⟨H'',sub,q'⟩:=z
   exact k _ _ _ _ tk (hr'.sub sub) rd q'
def aaI(T:Addr)(H:Hp):Prop:=H T=some (.tbl #[])/\∀b,b=T\/H b=none\/∃o u,H b=some (.frz o u)
theorem Li{P:Program}{w:World}{K:PySem.W.Frag}{mg mb:Str->Option Value}{k:Nat}{fa a c T:Addr}{fd:FuncData}{x xt:Str}{sp:mL}{s₁:Shared}{vs:List Value}{ns:List Int}{p:Program}{loose:List Str}{mean:ExcName->Option Value}
  (KX:K.In s₁.heap) (TT:Top p loose mean mg mb s₁.heap) (hg:s₁.gens=#[]) (hC:PySem.W.CodeHd s₁.heap c T/\s₁.heap.get? T=some (PySem.W.tabObj #[])) (ht:PySem.W.tabIn K xt=some (c,T)) (hbn:∃v,PySem.W.nsIn K mainGlobals "__builtins__" = some (some v)) (hnt:K.lookup T=none)
  (hbl:∀bm o,PySem.W.nsIn K mainGlobals "__builtins__" = some (some (.ref bm))->K.lookup bm=some o->False)
  (ha:s₁.heap.get? a=some { cls:=.type "list",data:=.seq vs.toArray }) (hi:IntsAre vs ns) (hl:ns.length<=sizeLine) (hr:eO k callerA)
  (F:∀base:Heap,K.In base->base.Ns mainGlobals mg->vX P w K mg base zZ k fa fd [x] (vG K sp)) (hbind:∀(s:Shared) (u:Value),BindsTo s fd ⟨[u],[]⟩ [(x,u)])
  (hsp:∀H:aF,H T=some (.tab xt)->sp [.fl (ns.map D.int)] H (fun d _=>d=.bl true)) :
  codeAny (model P w) callerA (.call (.ref fa) ⟨[.ref a],[]⟩) (fun r s'=>r=.ok (.ret (.bool true))/\OldK s₁.heap s'.heap/\s'.os=s₁.os/\AllBare s'.gens) s₁:=by
 have rv:=rB hi
 have lenV:=hi.length
 obtain⟨bm,ob,hbm,hb1,hb2,hb3,hb4,hb5⟩:=TT.bmain
 obtain⟨vb,hvb⟩:=hbn
 have evb:=PySem.W.mg_of KX TT.g hvb
 rw[hbm] at evb
 cases evb
 have nbT:bm≠T:=fun z=>by rw[z,hC.2] at hb2;cases hb2;cases hb3
 have naT:a≠T:=fun z=>by rw[z,hC.2] at ha;cases ha
 have nab:a≠bm:=fun z=>by
  rw[z,hb2] at ha
  cases ha
  injection hb3 with z2
  exact absurd z2 (by decide)
 have core:∀H:Hp,aaI T H->W3 K H a (ns.map V.int)->H bm=some (.frz ob (.own bm))->oH P w H s₁.heap->(∀b,H b≠none->b=a\/b=bm\/b=T)->(H a≠none->K.lookup a=none) ->
   codeAny (model P w) callerA (.call (.ref fa) ⟨[.ref a],[]⟩) (fun r s'=>r=.ok (.ret (.bool true))/\OldK s₁.heap s'.heap/\s'.os=s₁.os/\AllBare s'.gens) s₁:=by
  intro H hO hS hB hok hA hK
  have base_of:∀ {b:Addr} {o:Obj},s₁.heap.get? b=some o->H b=none->(zU s₁.heap H).get? b=some o:=fun e n=>M7 e n
  have noA:∀ {b:Addr} {o:Obj} {es:Array DictEntry} {ep:Nat},s₁.heap.get? b=some o->o.data=.dict es ep->H b=none:=fun {b o es ep} e d=>by
   cases q:H b with
   |none=>rfl
   |some u=>
    rcases hA b (by rw[q];simp) with z | z | z
    ·rw[z,ha] at e;cases e;cases d
    ·rw[z,hb2] at e;cases e;rw[hb5] at d;cases d
    ·rw[z,hC.2] at e;cases e;cases d
  have nsK:∀ {b:Addr} {m:Str->Option Value},s₁.heap.Ns b m->(zU s₁.heap H).Ns b m:=fun {b m} ⟨o,es,ep,e,d,r⟩=>⟨o,es,ep,base_of e (noA e d),d,r⟩
  have hKb:K.In (zU s₁.heap H):=fun b o e=>base_of (KX b o e) (by
   cases q:H b with
   |none=>rfl
   |some u=>
    rcases hA b (by rw[q];simp) with z | z | z
    ·rw[z] at e q;rw[hK (by rw[q];simp)] at e;cases e
    ·rw[z] at e;exact (hbl _ _ hvb e).elim
    ·rw[z,hnt] at e;cases e)
  have hM:Mod K mg (zU s₁.heap H):=⟨hKb,nsK TT.g,⟨mb,nsK TT.b,TT.builtins⟩,let ⟨mc,h1,h2⟩:=TT.nolimit;⟨mc,nsK h1,h2⟩⟩
  have e0:SN P w K mg (zU s₁.heap H) callerA [] s₁ H:=⟨rfl,hM,fun b o e=>SM e,Nat.le_of_eq (Ke _ _),trivial,fun b hb=>absurd (show b∈([]:List Addr) from hb) (by simp),hok,.of_eq hg⟩
  have tabK:zf K H xt c T:=⟨ht,fun h kh=>?_,bm,ob,hvb,hb1,hB,hb3,hb4,hb5⟩
  ·have hq:vG K sp [.ref a] H (fun v _=>v=.bl true) fun _ _ _=>False:=by
    refine⟨[.fl (ns.map D.int)],fun b=>if b=T then some (.tab xt) else none,fun d _=>d=.bl true,fun b o e=>?_,.cons (.fl hS (bj.ints ns)) .nil,hsp _ (if_pos rfl),fun d v H3' H' tk hr rd q=>?_⟩
    ·have e':(if b=T then some (O3.tab xt) else none)=some o:=e
     by_cases hb:b=T
     ·rw[if_pos hb] at e'
      cases e'
      rw[hb]
      exact⟨hO.1,c,tabK⟩
     ·rw[if_neg hb] at e';cases e'
    ·subst q
     cases rd
     rfl
   refine codeAny_mono ((F _ hKb (nsK TT.g)).run callerA [] s₁ H ⟨[.ref a],[]⟩ [.ref a] [.ref a] _ _ hr e0 (hbind s₁ (.ref a)) (.cons rfl .nil) hq) fun r s' h=>?_
   cases r with
   |error e=>exact False.elim h
   |ok fl=>
    cases fl with
    |next=>exact False.elim h
    |brk=>exact False.elim h
    |cont=>exact False.elim h
    |ret u=>
     obtain⟨v,H',os,bare,un,hok',r',q⟩:=h
     have q':v=.bl true:=q
     subst q'
     obtain rfl:u=Value.bool true:=r'
     have keep:∀b o,b≠T->s₁.heap.get? b=some o->s'.heap.get? b=some o:=fun b o nb e=>by
      rcases hO.2 b with z | z | ⟨o2,u2,z⟩
      ·exact (nb z).elim
      ·exact un.keep b o e z (by intro z;exact absurd (show b∈([]:List Addr) from z) (by simp)) (by simp)
      ·have z2:=un.frzs b o2 _ z
       have e1:=(hok b _ z).1
       have e2:=(hok' b _ z2).1
       rw[e] at e1
       cases e1
       exact e2
     obtain⟨more,km⟩:=un.tbls T _ hO.1
     have eT:s'.heap.get? T=some (PySem.W.tabObj (#[]++more)):=hok' T _ km
     refine⟨rfl,⟨fun b o e=>?_,fun b o e=>?_⟩,os,bare⟩
     ·by_cases hb:b=T
      ·subst hb
       have e3:o=PySem.W.tabObj #[]:=Option.some.inj (e.symm.trans hC.2)
       subst e3
       exact .inr (.inl ⟨(hC.1.tab hC.2).isCodeTable,rfl,#[],more,rfl,eT⟩)
      ·exact .inl (keep b o hb e)
     ·by_cases hb:b=T
      ·exact⟨_,by rw[hb];exact eT⟩
      ·exact⟨o,keep b o hb e⟩
  ·have hkc:∃o,K.lookup c=some o:=by
    unfold PySem.W.tabIn at ht
    split at ht
    ·split at ht
     ·split at ht
      ·split at ht
       ·split at ht
        ·cases ht;exact⟨_,by assumption⟩
        ·cases ht
       ·cases ht
      ·cases ht
     ·cases ht
    ·cases ht
   obtain⟨o,hko⟩:=hkc
   obtain⟨o',r1,r2,r3,r4,r5,r6,r7,r8,e1,r9⟩:=hC.1
   rw[KX _ _ hko] at e1
   cases e1
   exact⟨_,r1,r2,r3,r4,r5,r6,r7,r8,kh _ _ hko,r9⟩
 have okB:bZ P w (fun _=>none) s₁.heap bm (.frz ob (.own bm)):=⟨hb2,_,hb2⟩
 cases hk:K.lookup a with
 |some o=>
  have e:=KX a o hk
  rw[ha] at e
  cases e
  refine core (upd (upd (fun _=>none) bm (.frz ob (.own bm))) T (.tbl #[])) ⟨aQ,fun b=>?_⟩ (.inr ⟨_,vs.toArray,_,hk,rfl,rfl,rfl,by rw[List.size_toArray,lenV];exact hl,by simpa using rv⟩) (by rw[aD nbT,aQ]) (fun b u z=>?_) (fun b z=>?_) fun z=>absurd (by rw[aD naT,aD nab]) z
  ·by_cases h1:b=T
   ·exact .inl h1
   ·by_cases h2:b=bm
    ·exact .inr (.inr ⟨ob,.own bm,by rw[aD h1,h2,aQ]⟩)
    ·exact .inr (.inl (by rw[aD h1,aD h2]))
  ·by_cases h1:b=T
   ·rw[h1,aQ] at z;cases z;rw[h1];exact hC.2
   ·rw[aD h1] at z
    by_cases h2:b=bm
    ·rw[h2,aQ] at z;cases z;rw[h2];exact⟨hb2,_,hb2⟩
    ·rw[aD h2] at z;cases z
  ·by_cases h1:b=T
   ·exact .inr (.inr h1)
   ·rw[aD h1] at z
    by_cases h2:b=bm
    ·exact .inr (.inl h2)
    ·rw[aD h2] at z;exact (z rfl).elim
 |none=>
  refine core (upd (upd (upd (fun _=>none) a (.frz { cls:=.type "list",data:=.seq vs.toArray } (.lst (ns.map V.int)))) bm (.frz ob (.own bm))) T (.tbl #[])) ⟨aQ,fun b=>?_⟩ (.inl ⟨{ cls:=.type "list",data:=.seq vs.toArray },by rw[aD naT,aD nab,aQ]⟩) (by rw[aD nbT,aQ]) (fun b u z=>?_) (fun b z=>?_) fun _=>hk
  ·by_cases h1:b=T
   ·exact .inl h1
   ·by_cases h2:b=bm
    ·exact .inr (.inr ⟨ob,.own bm,by rw[aD h1,h2,aQ]⟩)
    ·by_cases h3:b=a
     ·exact .inr (.inr ⟨_,_,by rw[aD h1,aD h2,h3,aQ]⟩)
     ·exact .inr (.inl (by rw[aD h1,aD h2,aD h3]))
  ·by_cases h1:b=T
   ·rw[h1,aQ] at z;cases z;rw[h1];exact hC.2
   ·rw[aD h1] at z
    by_cases h2:b=bm
    ·rw[h2,aQ] at z;cases z;rw[h2];exact⟨hb2,_,hb2⟩
    ·rw[aD h2] at z
     by_cases h3:b=a
     ·rw[h3,aQ] at z;cases z;rw[h3]
      exact⟨ha,by rw[List.length_map];exact hl,vs,_,rv,ha⟩
     ·rw[aD h3] at z;cases z
  ·by_cases h1:b=T
   ·exact .inr (.inr h1)
   ·rw[aD h1] at z
    by_cases h2:b=bm
    ·exact .inr (.inl h2)
    ·rw[aD h2] at z
     by_cases h3:b=a
     ·exact .inl h3
     ·rw[aD h3] at z;exact (z rfl).elim
theorem Qa{l:PySem.W.OpenLaw}{n k:Nat}{q:Program}{loose:List Str}{XP:(Str->Option Value)->Heap->Prop}{YP:World->Heap->Prop}{d dt:DefRec}{K:Params->PySem.W.Frag}{sp:mL}{x xt:Str}{c T bm:Addr}
  (hn:l.most=some n) (hn2:n<=sizeLine) (hdf:d.params.defaults=[]) (hr:eO k callerA)
  (hY:∀(w:World) (h:Heap),YP w h->(K w.params).In h)
  (hrec:(recsOf q).find? (fun e=>e.name==xt)=some dt) (ht:∀w:World,PySem.W.tabIn (K w.params) xt=some (c,T)) (hb:∀w:World,PySem.W.nsIn (K w.params) mainGlobals "__builtins__" = some (some (.ref bm))) (hnb:∀w:World,(K w.params).lookup bm=none) (hnt:∀w:World,(K w.params).lookup T=none)
  (F:∀ (w:World) (mg:Str→Option Value) (fa:Addr) (h:Heap),(K w.params).In h→h.Ns mainGlobals mg→mg d.name = some (.ref fa) →
   ∃fd:FuncData,(∀(s:Shared) (u:Value),BindsTo s fd ⟨[u],[]⟩ [(x,u)]) /\
    ∀base:Heap,(K w.params).In base->base.Ns mainGlobals mg->vX l.prog w (K w.params) mg base zZ k fa fd [x] (vG (K w.params) sp))
  (hsp:∀(H:aF) (ns:List Int),ns.length<=n->H T=some (.tab xt)->sp [.fl (ns.map D.int)] H (fun d _=>d=.bl true)) :
  PySem.W.WalkO q loose XP YP l.row.toRowW d [] (fun f vs=>PySem.call f vs):=by
 refine Att.CP hn hdf fun w s₀ s₁ mg mb fa o pm cd doc a vs ns G Y ho hd hcd hmg hobj hints hlen hg=>?_
 have KX:=hY w _ Y
 obtain⟨fd,hbd,hF⟩:=F w mg fa _ KX G.T.g hmg
 exact Li KX G.T hg (PySem.W.tab_of G.T KX hrec (ht w)) (ht w) ⟨_,hb w⟩ (hnt w) (fun b o e1 e2=>by rw[hb w] at e1;cases e1;rw[hnb w] at e2;cases e2) hobj hints (Nat.le_trans hlen hn2) hr hF hbd fun H h=>hsp H ns hlen h
theorem Rh{K:PySem.W.Frag}{x:Str}{f c T:Addr}{oc oc':Value}{od od':Option Addr}{sl sl':Array (Option Value)}{fd:FuncData}{vs:Array Value}(h1:PySem.W.nsIn K mainGlobals x=some (some (.ref f)))(h2:K.lookup f=some ⟨oc,od,.func fd,sl⟩)(h3:fd.code=.ref c)
  (h4:K.lookup c=some ⟨oc',od',.fields vs,sl'⟩) (h5:vs[11]?=some (.ref T)):PySem.W.tabIn K x=some (c,T):=by
 unfold PySem.W.tabIn
 rw[h1]
 dsimp only
 rw[h2]
 dsimp only
 rw[h3]
 dsimp only
 rw[h4]
 dsimp only
 rw[h5]
end L3
namespace L3
open PySem L2
def chk(r':R3)(tc:cC)(σ:cO)(y z:D)(H:aF)(Q:aY):Prop:=match z with
 |.bl k=>if k=true then tc σ H fun w H4=>r' y w H4 Q else Q (.bl false) H
 |_=>False
def Wl(r r':R3)(ta tb tc:cC):cC:=fun σ H Q=>ta σ H fun x H1=>tb σ H1 fun y H2=>r x y H2 fun z H3=>chk r' tc σ y z H3 Q
theorem aat{r r':R3}{ta tb tc:cC}{σ:cO}{H:aF}{Q:aY}(h:ta σ H fun x H1=>tb σ H1 fun y H2=>r x y H2 fun z H3=>chk r' tc σ y z H3 Q):Wl r r' ta tb tc σ H Q:=h
theorem aaW{r':R3}{tc:cC}{σ:cO}{y:D}{k:Bool}{H:aF}{Q:aY}(h:if k=true then tc σ H fun w H4=>r' y w H4 Q else Q (.bl false) H):chk r' tc σ y (.bl k) H Q:=h
end L3
namespace L3
open PySem PySem.Spec PyProof.Rows L2
section
variable{X:Cx}{a b c:Expr}{ta tb tc:cC}{pos:Pos}
theorem IW{K:PySem.W.Frag}{r r':R3}{σ:St}{H:Hp}{Q:VK}(h:eV K (Wl r r' ta tb tc) σ H Q):EY (bV K r) (bV K r') (eV K ta) (eV K tb) (eV K tc) σ H Q:=by
 obtain⟨σ3,H3,Q3,sr,hr,t,k⟩:=h
 refine⟨σ3,H3,_,sr,hr,t,fun x v H3a Ha tka hra rx qa=>⟨σ3,H3a,_,sr.mono tka,hra,qa,fun y u H3b Hb tkb hrb ry qb=>
  ⟨x,y,H3b,fun z H4=>chk r' tc σ3 y z H4 Q3,hrb,rx.mono tkb,ry,qb,fun z w H3c Hc tkc hrc rz qc=>?_⟩⟩⟩
 have tk:=tka.trans (tkb.trans tkc)
 cases rz with
 |bl d=>
  refine⟨d,rfl,?_⟩
  cases d with
  |false=>rw[if_neg Bool.false_ne_true];exact k _ _ _ _ tk hrc (.bl false) qc
  |true=>
   rw[if_pos rfl]
   exact⟨σ3,H3c,_,sr.mono tk,hrc,qc,fun w' v' H3d Hd tkd hrd rw' qd=>⟨y,w',H3d,Q3,hrd,ry.mono (tkc.trans tkd),rw',qd,k.mono (tk.trans tkd)⟩⟩
 |_=>exact qc.elim
theorem Ot{op op':CmpOp}{r r':R3}(ho:gJ X (compareOp op) (bV X.K r))(ho':gJ X (compareOp op') (bV X.K r'))(ha:cN X a ta)(hb:cN X b tb)(hc:cN X c tc)
  (hm:lastMarks [op,op'] [b,c]=false:=by with_unfolding_all rfl):cN X (.Compare a [op,op'] [b,c] pos) (Wl r r' ta tb tc) :=
 bL (O5 ho ho' ha hb hc hm) fun _ _ _ h=>IW h
theorem wX{op op':CmpOp}{r r':R3}(ho:gJ X (compareOp op) (bV X.K r))(ho':gJ X (compareOp op') (bV X.K r'))(ha:cN X a ta)(hb:cN X b tb)(hc:cN X c tc)
  (hm:lastMarks [op,op'] [b,c]=false:=by with_unfolding_all rfl):LR X (.Compare a [op,op'] [b,c] pos) (oK (Wl r r' ta tb tc)) :=
 yD (Py ho ho' ha hb hc hm) fun _ _ _ zz=>zz.ex fun σ3 H3 Q3 sr hr t k=>IW ⟨σ3,H3,_,sr,hr,t,yx k⟩
end
end L3
namespace L3
open PySem L2
end L3
namespace L3
open PySem PySem.Spec PyProof.Rows L2
end L3
namespace L3
open PySem L2
end L3
namespace L3
open PySem PySem.Spec PyProof.Rows L2
end L3
namespace L3
open PySem L2
end L3
namespace L3
open PySem PySem.Spec PyProof.Rows L2
end L3
namespace L3
open PySem L2
end L3
namespace L3
open PySem PySem.Spec PyProof.Rows L2
end L3
namespace L3
open PySem L2
theorem HB:∀ps:List Pt,jd (qC 4) (ps.map bQ)=some (ps.map fun c=>PyData.tuple [.int c.1,.int c.2])
 |[]=>rfl
 |c::ps=>by
  have e:qC 4 (bQ c)=some (PyData.tuple [.int c.1,.int c.2]):=rfl
  rw[List.map_cons]
  unfold jd
  rw[e,HB ps]
  rfl
theorem W5(a b:Pt):PyData.eqv (.tuple [.int a.1,.int a.2]) (.tuple [.int b.1,.int b.2])=decide (a=b):=by
 obtain⟨a1,a2⟩:=a
 obtain⟨b1,b2⟩:=b
 simp only[PyData.eqv,PyData.eqvAll,Prod.mk.injEq,Bool.and_true,Bool.decide_and]
 rfl
end L3
namespace L3
open PySem PySem.Spec PyProof.Rows L2
end L3
namespace L3
open PySem L2
end L3
namespace L3
open PySem PySem.Spec PyProof.Rows L2
end L3
namespace L3
open PySem L2
end L3
namespace L3
open PySem PySem.Spec PyProof.Rows L2
end L3
namespace L3
open PySem L2
end L3
namespace L3
open PySem PySem.Spec PyProof.Rows L2
def Own(x0:Value):Prop:=x0=.none\/∃a:Nat,x0=rawInt a
end L3
namespace L3
open PySem L2
end L3
namespace L3
open PySem PySem.Spec PyProof.Rows L2
def Zo:Nat->(List Value->Prop)->Prop
 |0,P=>P []
 |n+1,P=>∀u,Zo n fun us=>P (u::us)
theorem Zo.row{P:List Value->Prop}:∀ {us:List Value},Zo us.length P->P us
 |[],h=>h
 |u::_,h=>Zo.row (P:=fun us=>P (u::us)) (h u)
def rP(x qual:Str)(st:Stmt)(ps:List Str):Prop:=∀(kV doc pm:Value) (an:Option Addr) (cdv ct:Value),
 Zo ps.length fun us=>bindArgs (PySem.W.fnOf x qual (bh st) (aR st) (aA st) .none kV doc pm an cdv ct) ⟨us,[]⟩=pure (ps.zip us)
theorem rP.of{K:PySem.W.Frag}{x qual:Str}{st:Stmt}{f:Addr}{fd:FuncData}{ps:List Str}(b:rP x qual st ps)(F:N8 K x qual st f fd):Binds K fd ps [] :=
 F.binds fun kV doc pm an cdv ct _ e=>Zo.row (e▸b kV doc pm an cdv ct)
inductive bO(K:PySem.W.Frag)(mg:Str->Option Value)(x:Str)(st:Stmt)(ps:List Str):Prop
 |mk {f:Addr} {fd:FuncData} (F:N8 K x x st f fd) (hm:mg x=some (.ref f)) (hb:Binds K fd ps [])
section
variable{P:Program}{w:World}{K:PySem.W.Frag}{mg:Str->Option Value}{base h:Heap}{x qual c m:Str}{st:Stmt}{f C:Addr}{fd:FuncData}{N ps:List Str}{k:Nat}{sp:mL}{se:SpE}{t:dw}{te:EK3->dw}
theorem dh{oc:Value}{od an:Option Addr}{osl:Array (Option Value)}{kV doc pm cdv ct:Value}(X:K.In h)(G:h.Ns mainGlobals mg)(a:PySem.W.nsIn K mainGlobals x=some (some (.ref f)))
  (l:K.lookup f=some ⟨oc,od,.func (PySem.W.fnOf x x (bh st) (aR st) (aA st) .none kV doc pm an cdv ct),osl⟩) (d:PySem.W.codeIn K cdv x=true) (q:PySem.W.keepIn K (.ref f)=true) (b:rP x x st ps):bO K mg x st ps :=
 ⟨Ec l d q,PySem.W.mg_of X G a,b.of (Ec l d q)⟩
theorem iC(q:bO K mg x st ps)(S:bc N ps (aA st))(len:∀ds H Q,sp ds H Q->ds.length=ps.length)
  (hbody:∀(f:Addr) (cdv:Value) (A:Around) (outer:List Env) (s:Shared) (H:Hp) (E:XK),eO k (A.deeper (envOfC x (aA st) s.heap.objs.size f cdv))->tD (rH zZ P w K mg base N x (aA st) f cdv A outer s H E).Mp (aR st) t)
  (rd:∀ds H3 Q3,sp ds H3 Q3->t (dX Q3) (aJ N ds) H3):Fn P w K mg base (k+1) x ps sp:=by
 cases q with
 |mk F hm hb=>exact fn3 F S hm hb len fun cdv A outer s H E hr=>⟨t,hbody _ cdv A outer s H E hr,rd⟩
end
end L3
namespace L3
open PySem PySem.W PySem.Spec PyProof.Rows
end L3
namespace L3
open PySem PySem.Spec PyProof.Rows L2
end L3
namespace L3
open PySem L2
def OJ:D->List D->aF->aY->Prop:=fun x xs H Q=>∃a y ds ps p,(x=.ref a/\xs=[y]/\H a=some (.lst ds)/\qC 4 y=some p/\jd (qC 4) ds=some ps)/\Q (.int (ps.countP fun q=>PyData.eqv q p)) H
theorem Z5{a:Addr}{ps:List Pt}{x y:Int}{H:aF}{Q:aY}(ha:H a=some (.lst (ps.map bQ)))(q:Q (.int (ps.countP fun c=>decide (c=(x,y)))) H):OJ (.ref a) [.tup [.int x,.int y]] H Q:=by
 refine⟨a,_,_,_,PyData.tuple [.int x,.int y],⟨rfl,rfl,ha,rfl,HB ps⟩,?_⟩
 rw[List.countP_map]
 have e:((fun q=>PyData.eqv q (PyData.tuple [.int x,.int y]))∘fun c:Pt=>PyData.tuple [.int c.1,.int c.2])=fun c:Pt=>decide (c=(x,y)):=funext fun c=>W5 c (x,y)
 rw[e]
 exact q
end L3
namespace L3
open PySem PySem.Spec PyProof.Rows L2
section
variable{X:Cx}{pins:List (Addr×Obj)}{σ:St}{H:Hp}{s:Shared}
theorem K9(I:Inv X pins σ H s)(p:PyData):∀ {ds:List D} {vs:List V} {us:List Value} {ps:List PyData},bj X.K H ds vs->Vals vs us->jd (qC 4) ds=some ps->us.countP (tW s.heap p)=ps.countP fun q=>PyData.eqv q p:=by
 intro ds vs us ps hr hv h
 induction hv generalizing ds ps with
 |nil=>
  cases hr
  cases h
  rfl
 |cons q qs ih=>
  cases hr with
  |cons r rs=>
   obtain⟨p',ps',e1,e2,rfl⟩:=rY h
   obtain⟨⟨as,h1⟩,h2,h3⟩:=cG I 4 r q e1
   rw[List.countP_cons,List.countP_cons,G9 h1 h2,ih rs e2]
theorem R5(hu:X.A.units+64<cLine):HQ X "list.count" (liftM X.K OJ):=by
 intro pins s σ H x xs v us Q I rx rs h
 obtain⟨d,es,H3,Q3,hr,rd,rds,⟨a,y,ds,ps,p,⟨rfl,rfl,ha,ey,eds⟩,t⟩,k⟩:=h
 cases rds with
 |cons r1 r2=>
  cases r2
  cases rd
  obtain⟨u,rfl,ru⟩:=Vals.one rs
  cases rx
  obtain⟨vs,ga,ra⟩:=hr a _ ha
  obtain⟨its,rv,pl,_⟩:=I.list (jF.of ga)
  obtain⟨_,g2⟩:=il I p ra rv eds
  have hc':=K9 I p ra rv eds
  obtain⟨⟨cls,dd,data,sl⟩,ho,hc,n,hd⟩:=id pl.isList
  simp only at hc hd
  subst hc hd
  rw[←hc'] at t
  exact call_meets PySem.F.slot_list_count ⟨_,ho,rfl⟩ PySem.F.entry_list_count (PySem.F.args_list_count_2 _ _) (SeqAt.list_countAt a its.toArray n dd sl u (tW s.heap p)) ⟨ho,vN I (in1_units hu) r1 ru ey g2,.int _,H,I.tok _,⟨_,rfl⟩,k _ _ _ _ TK.refl hr (.int _) t⟩
end
end L3
namespace Law
open PySem PySem.Spec PyProof.Rows L2 L3
set_option maxHeartbeats 8000000
abbrev tZ:List Str:=["one", "other"]
abbrev mU:List Str:=["one", "other"]
abbrev zH:List Str:=["one", "other"]
abbrev m9:List Str:=["one", "other"]
abbrev fY:List Str:=["one", "other", "rest"]
abbrev bU:List Str:=["one", "other"]
abbrev nJ:List Str:=["one", "other", "times", "rest"]
abbrev fV:List Str:=["one", "other"]
abbrev rN:List Str:=["shifts", "east", "north", "shift", "pair"]
abbrev gQ:List Str:=["shifts"]
abbrev kY:List Str:=["corner", "word", "corners", "letter"]
abbrev dD:List Str:=["corner", "word"]
abbrev jq:List Str:=["word"]
abbrev dZ:List Str:=["word"]
abbrev ou:List Str:=["word", "cuts", "ends"]
abbrev fL:List Str:=["word", "cuts"]
abbrev j7:List Str:=["word", "cuts", "half", "twice", "span", "stretch", "fellow"]
abbrev dC:List Str:=["word", "cuts"]
abbrev f9:List Str:=["half", "cuts", "one"]
abbrev cX:List Str:=["half"]
abbrev dU:List Str:=["half", "cuts", "pair"]
abbrev b8:List Str:=["half"]
abbrev fZ:List Str:=["word", "half"]
abbrev cY:List Str:=["word"]
abbrev mq:List Str:=["word", "cuts", "corners", "half", "shifts", "span", "fellow_end"]
abbrev d7:List Str:=["word", "cuts"]
abbrev qU:List Str:=["word", "cuts"]
abbrev gM:List Str:=["word", "cuts"]
abbrev lA:List Str:=["_law_script", "_law_k"]
abbrev d8:List Str:=["_law_script", "_law_k"]
abbrev nP:List Str:=["_law_cell", "_law_other"]
abbrev fO:List Str:=["_law_cell", "_law_other"]
abbrev u6:List Str:=["_law_letter"]
abbrev jO:List Str:=["_law_letter"]
abbrev qP:List Str:=["_law_found"]
abbrev gW:List Str:=["_law_found"]
abbrev fK:List Str:=["_law_cells", "_law_east", "_law_west", "_law_north", "_law_south", "_law_met", "_law_known", "_law_cell", "_law_at", "_law_step_here", "_law_new"]
abbrev gY:List Str:=["_law_cells"]
abbrev qK:List Str:=["_law_script", "_law_at", "_law_many", "_law_cells", "_law_k", "_law_cell", "_law_x", "_law_y", "_law_turn", "_law_step_here", "_law_new"]
abbrev gZ:List Str:=["_law_script", "_law_at", "_law_many"]
abbrev nu:List Str:=["_law_cells", "_law_shift", "_law_moved_cells"]
abbrev g8:List Str:=["_law_cells", "_law_shift"]
abbrev qZ:List Str:=["_law_piece_here", "_law_sides", "_law_x", "_law_y", "_law_letter", "_law_corner_here", "_law_other", "_law_word", "_law_k", "_law_step_here"]
abbrev gU:List Str:=["_law_piece_here"]
abbrev jk:List Str:=["_law_grid", "_law_many"]
abbrev d9:List Str:=["_law_grid", "_law_many"]
abbrev uI:List Str:=["_law_grid", "_law_cell", "_law_j"]
abbrev jN:List Str:=["_law_grid", "_law_cell"]
abbrev Hk:List Str:=["_law_script", "_law_cells", "_law_piece_here", "_law_word", "_law_place", "_law_far", "_law_grids", "_law_cuts", "_law_grid", "_law_rests"]
abbrev PB:List Str:=["_law_script"]
def yu:List (Str×D):=[("e",.ktup (([1,0]:List Int).map D.int)),("n",.ktup (([0,1]:List Int).map D.int)),("w",.ktup (([-1,0]:List Int).map D.int)),("s",.ktup (([0,-1]:List Int).map D.int))]
def my:List (Str×D):=[("e",.str "w"),("n",.str "s"),("w",.str "e"),("s",.str "n")]
local macro_rules | `(tactic| walk_at "l3h")=>`(tactic| first
 |with_reducible exact aB
 |assumption
 |exact bC (by walk_at "l3h") (by assumption))
local macro_rules | `(tactic| walk_at "l3a")=>`(tactic| first
 |with_reducible assumption
 |decide
 |omega
 |exact⟨by decide,by decide⟩
 |exact Or.inl ⟨by decide,by decide⟩
 |exact Or.inr ⟨by decide,by decide⟩
 |exact⟨by decide,by decide,by decide⟩
 |exact Or.inl ⟨by omega,by omega⟩
 |exact Or.inr ⟨by omega,by omega⟩
 |exact⟨by omega,by omega⟩)
local macro_rules | `(tactic| walk_at "l3b")=>`(tactic| first
 |with_reducible assumption
 |((with_reducible show Bt _ (_+_));exact Bt.add (by walk_at "l3b") (by walk_at "l3b"))
 |((with_reducible show Bt _ (_-_));exact Bt.sub (by walk_at "l3b") (by walk_at "l3b"))
 |((with_reducible show Bt _ (_*_));exact Bt.mul (by walk_at "l3b") (by walk_at "l3b"))
 |((with_reducible show Bt _ (-_));exact Bt.neg (by walk_at "l3b"))
 |((with_reducible show Bt _ (_ / _));exact Bt.div (by walk_at "l3b"))
 |exact Bt.lit (n:=64) (by decide)
 |exact Bt.lit (n:=256) (by decide))
local macro_rules | `(tactic| walk_at "l3w")=>`(tactic| first
 |((with_reducible show M6 _ _);exact And.intro (by walk_at "l3a") (Bt.mono (by walk_at "l3b") (by decide)))
 |exact Or.inl (by walk_at "l3a")
 |exact sI.of (by walk_at "l3b") (by walk_at "l3b") (by decide))
local macro_rules | `(tactic| walk_at "l3s")=>`(tactic| first
 |with_reducible refine abG ?_
 |((with_reducible show v3 _ _ _ _);refine We rfl ?_)
 |(with_reducible first | refine Y4 ?_ | refine YW ?_ | refine abO ?_)
 |((fail_if_success (with_reducible show iR.nx (dX _) _ _));(with_reducible refine aca ?_);(try dsimp only[List.set_cons_zero,List.set_cons_succ]))
 |(with_reducible first | refine abi ?_ | refine Gb ?_ | refine Vt ?_ | refine acp ?_ | refine abT ?_ | refine abC ?_ | refine aaF ?_)
 |with_reducible refine aaY ?_
 |((with_reducible show List.length _<=1000/\_);refine aaq rfl ?_)
 |(with_reducible first | refine aaw ?_ | refine ZX ?_ | refine aae ?_ | refine ZP ?_ | refine ab1 ?_ | refine abE ?_ | refine acv ?_ | refine abe ?_ | refine ab6 ?_)
 |((with_reducible show fP _ _ _ _);refine Ej (by walk_at "l3w") ?_)
 |((with_reducible show fW _ _ _ _);refine Xr (by walk_at "l3w") ?_)
 |((with_reducible show fG _ _ _ _);refine Q0 (by walk_at "l3a") ?_)
 |((with_reducible show xZ _ _ _ _);refine ZV (by walk_at "l3a") ?_)
 |((with_reducible show aP (D.tup _) (D.int _) _ _);refine Cd rfl ?_)
 |(with_reducible first | refine acf ?_ | refine abj ?_ | refine aby ?_ | refine acE ?_ | refine aaE ?_ | refine abU ?_ | refine ZQ ?_ | refine abr ?_ | refine YQ ?_ | refine XR ?_)
 |((with_reducible show dj [D.ref _] _ _);refine Xl (by walk_at "l3h") ?_)
 |((with_reducible show mJ [D.ref _] _ _);refine WD (by walk_at "l3h") ?_)
 |with_reducible refine Ua ?_
 |(with_reducible first | refine acC ?_ | refine acK ?_ | refine acy ?_ | refine aa1 ?_)
 |(with_reducible first | refine aar ?_ | refine aaC ?_ | refine acO ?_ | refine acw ?_)
 |((with_reducible refine acN ?_);(try dsimp only[List.set_cons_zero,List.set_cons_succ]))
 |((with_reducible refine acs ?_);(try dsimp only[List.set_cons_zero,List.set_cons_succ]))
 |((with_reducible refine acu ?_);(try dsimp only[List.set_cons_zero,List.set_cons_succ]))
 |(with_reducible first | refine acF ?_ | refine acA ?_ | refine aaH ?_ | refine ZM ?_ | refine aaK ?_ | refine Z4 ?_ | refine abL ?_)
 |((with_reducible show ilk (D.ref _) _ _);refine Vz (by walk_at "l3h") ?_)
 |(with_reducible first | refine abA ?_ | refine aaT ?_)
 |(with_reducible first | refine aaM ?_ | refine abw ?_ | refine aat ?_ | refine aaW ?_)
 |((with_reducible show aP (D.ktup _) (D.int _) _ _);refine abb rfl ?_)
 |(with_reducible first | refine acM ?_ | refine aaD ?_ | refine ab5 ?_ | refine aa4 ?_ | refine abm ?_)
 |((with_reducible show mtk _ _ _ (D.ref _) _ _);refine Vx (by walk_at "l3h") ?_)
 |(with_reducible first | refine acL ?_ | refine abk ?_ | refine acg ?_ | refine acH ?_ | refine abl ?_ | refine aaQ ?_ | refine acn ?_)
 |((with_reducible show pH [_,D.ty _] _ _);refine ZW rfl (by simp[kinds]) ?_)
 |walk_at "l3c")
local macro_rules | `(tactic| walk_at "l3")=>`(tactic| repeat walk_at "l3s")
abbrev Lt:=Fin 4
def cp(l:Lt):Nat:=match l with
 |0=>101
 |1=>110
 |2=>119
 |3=>115
def step(l:Lt):Pt:=match l with
 |0=>(1,0)
 |1=>(0,1)
 |2=>(-1,0)
 |3=>(0,-1)
def Dm(l:Lt):Str:=⟨#[cp l]⟩
def bI(ls:List Lt):Str:=⟨(ls.map cp).toArray⟩
theorem Oh(ls:List Lt):lets (bI ls)=ls.map fun l=>D.str (Dm l):=by
 unfold lets bI Dm;rw[List.toList_toArray,List.map_map];rfl
theorem jJ(ls:List Lt):(bI ls).length=ls.length:=by
 show (ls.map cp).toArray.size=_;rw[List.size_toArray,List.length_map]
theorem WN:∀ {a b:Lt},cp a=cp b->a=b:=by decide
theorem Ou{as bs:List Lt}(h:bI as=bI bs):as=bs:=by
 have e:as.map cp=bs.map cp:=by
  have:=congrArg (fun z:Str=>z.cps.toList) h
  simpa [bI] using this
 exact (List.map_inj_right fun a b hab=>WN hab).mp e
def JK(s p:Pt):Pt:=(p.1+s.1,p.2+s.2)
def fX(c:Pt)(ls:List Lt):Pt:=ls.foldl (fun p l=>JK (step l) p) c
def path(c:Pt)(ls:List Lt):List Pt:=(List.range (ls.length+1)).map fun i=>fX c (ls.take i)
theorem xN(c:Pt)(ls:List Lt)(l:Lt):fX c (ls++[l])=JK (step l) (fX c ls):=by unfold fX;rw[List.foldl_append];rfl
theorem vg(c:Pt)(ls:List Lt):(path c ls).length=ls.length+1:=by unfold path;simp
theorem Kv(c:Pt)(ls:List Lt)(l:Lt):path c (ls++[l])=path c ls++[JK (step l) (fX c ls)]:=by
 unfold path
 rw[List.length_append,List.length_singleton,List.range_succ (n:=ls.length+1),List.map_append]
 congr 1
 ·refine List.map_congr_left fun i hi=>?_
  rw[List.mem_range] at hi
  rw[List.take_append_of_le_length (by omega)]
 ·rw[List.map_singleton,List.take_of_length_le (by simp),xN]
theorem CW(c:Pt)(ls:List Lt)(i:Nat):(path c ls)[i]?=if i<=ls.length then some (fX c (ls.take i)) else none:=by
 unfold path
 rw[List.getElem?_map]
 split
 ·rw[List.getElem?_range (by omega)];rfl
 ·rw[List.getElem?_eq_none (by rw[List.length_range];omega)];rfl
theorem JP(c:Pt)(ls:List Lt):nA ((path c ls).map bQ) (-1)=some (.tup [.int (fX c ls).1,.int (fX c ls).2]):=by
 unfold nA RC
 rw[List.length_map,vg,if_neg (by omega),if_pos (by omega),Option.bind_some,List.getElem?_map,show (-1+((ls.length+1:Nat):Int)).toNat=ls.length from by omega,CW,if_pos (Nat.le_refl _),List.take_length]
 rfl
theorem vd(as bs:List Lt):bI as++bI bs=bI (as++bs):=by
 show (⟨(as.map cp).toArray++(bs.map cp).toArray⟩:Str)=⟨_⟩
 congr 1
 rw[List.map_append];simp
theorem GK{y z:Str}{H:aF}{Q:aY}(hl:y.length+z.length<=sizeLine)(q:Q (.str (y++z)) H):bG (.str y) (.str z) H Q:=⟨hl,q⟩
theorem aak{z:Str}{i:Int}{c:Nat}{H:aF}{Q:aY}(hz:z.length<=sizeLine)(h:nA z.cps.toList i=some c)(q:Q (.str ⟨#[c]⟩) H):aP (.str z) (.int i) H Q:=by
 simp only[aP,h];exact⟨hz,q⟩
theorem M3(l:Lt):cp l<0x110000:=by revert l;decide
theorem Td(ls:List Lt):PyData.strOk (bI ls)=true:=by
 show (ls.map cp).toArray.all (· < 0x110000)=true
 rw[List.all_toArray,List.all_map,List.all_eq_true]
 intro l _
 exact decide_eq_true (M3 l)
theorem aa9(H:aF)(ls:List Lt):Uy H (.str (bI ls))=some (.str (bI ls)):=by
 show (if PyData.strOk (bI ls)=true then some (PyData.str (bI ls)) else none)=_
 rw[if_pos (Td ls)]
theorem aam(as bs:List Lt):PyData.eqv (.str (bI as)) (.str (bI bs))=decide (as=bs):=by
 simp only[PyData.eqv]
 by_cases h:as=bs
 ·subst h;simp
 ·rw[decide_eq_false h]
  exact beq_eq_false_iff_ne.mpr fun z=>h (Ou z)
theorem aau{as bs:List Lt}{H:aF}{Q:aY}(q:Q (.bl (!decide (as=bs))) H):qF (.str (bI as)) (.str (bI bs)) H Q:=by
 simp only[qF,aa9,aam];exact q
def ZS(l:Lt):Lt:=match l with
 |0=>2
 |1=>3
 |2=>0
 |3=>1
def bk(ls:List Lt):List Lt:=(ls.map ZS).reverse
theorem Yo(ls:List Lt):(bk ls).length=ls.length:=by unfold bk;rw[List.length_reverse,List.length_map]
theorem XF{ls:List Lt}{a:Addr}{H:aF}{Q:aY}(ha:H a=some (.lst (ls.map fun l=>D.str (Dm l))))(hl:ls.length<=1000)(q:Q (.str (bI ls)) H):rC (.str (Str.ofString "")) [.ref a] H Q:=by
 have ej:sV (Str.ofString "") (ls.map Dm)=bI ls:=by
  have:=GR (z:=Str.ofString "") rfl (ls.map cp)
  rw[List.map_map] at this
  exact this
 refine Yh (ys:=ls.map Dm) (by rw[ha,List.map_map];rfl) ?_ (by rw[ej];exact q)
 rw[List.map_map,List.length_map]
 have:(ls.map ((fun y:Str=>y.cps.size)∘Dm)).sum=ls.length:=by
  rw[show ((fun y:Str=>y.cps.size)∘Dm)=fun _=>1 from rfl,List.map_const',List.sum_replicate_nat];omega
 rw[this,show (Str.ofString "").cps.size=0 from rfl]
 omega
theorem mR(ls:List Lt)(h:ls.length<=1000):(bI ls).length<=sizeLine:=by rw[jJ,bK];omega
theorem qQ{α β:Type}(xs:List α)(f:α->β)(lo hi:Option Int):lO (xs.map f) lo hi=(lO xs lo hi).map f:=by
 unfold lO
 rw[List.length_map,←List.map_drop,←List.map_take]
theorem Px(ls:List Lt)(n:Nat):tH (bI ls) none (some (n:Int))=bI (ls.take n):=by
 unfold tH bI
 rw[List.toList_toArray,qQ]
 congr 2
 unfold lO HT.eQ
 simp only[]
 rw[if_neg (by omega),Int.toNat_natCast,List.drop_zero,Nat.sub_zero]
 by_cases h:n<=ls.length
 ·rw[Nat.min_eq_left h]
 ·rw[Nat.min_eq_right (by omega),List.take_length,List.take_of_length_le (by omega)]
theorem Ri(ls:List Lt)(n:Nat):tH (bI ls) (some (n:Int)) none=bI (ls.drop n):=by
 unfold tH bI
 rw[List.toList_toArray,qQ]
 congr 2
 unfold lO HT.eQ
 simp only[]
 rw[if_neg (by omega),Int.toNat_natCast]
 by_cases h:n<=ls.length
 ·rw[Nat.min_eq_left h,List.take_of_length_le (by rw[List.length_drop];exact Nat.le_refl _)]
 ·rw[Nat.min_eq_right (by omega),List.drop_length,List.drop_of_length_le (by omega)];simp
def rot(q:Nat)(l:Lt):Lt:=match q with
 |0=>l
 |1=>l+1
 |2=>l+2
 |_=>l+3
def mir(l:Lt):Lt:=match l with
 |0=>2
 |1=>1
 |2=>0
 |3=>3
def tl(k:Int)(l:Lt):Lt:=rot (k%4).toNat (if 4<=k then mir l else l)
theorem k8{k:Int}(h0:0<=k)(h1:k<8):k=0\/k=1\/k=2\/k=3\/k=4\/k=5\/k=6\/k=7:=by
 obtain⟨n,rfl⟩:=Int.eq_ofNat_of_zero_le h0
 have:∀n:Fin 8,((n.val:Nat):Int)=0\/((n.val:Nat):Int)=1\/((n.val:Nat):Int)=2\/((n.val:Nat):Int)=3\/((n.val:Nat):Int)=4\/((n.val:Nat):Int)=5\/((n.val:Nat):Int)=6\/((n.val:Nat):Int)=7:=by decide
 exact this ⟨n,Int.ofNat_lt.mp h1⟩
theorem Ab(c:Pt)(ls:List Lt):fX c ls=JK (fX (0,0) ls) c:=by
 induction ls generalizing c with
 |nil=>exact Prod.ext (by show c.1=c.1+0;omega) (by show c.2=c.2+0;omega)
 |cons l ls ih=>
  show fX (JK (step l) c) ls=JK (fX (JK (step l) (0,0)) ls) c
  rw[ih,ih (JK (step l) (0,0))]
  exact Prod.ext (by show c.1+(step l).1+_=c.1+(0+(step l).1+_);omega) (by show c.2+(step l).2+_=c.2+(0+(step l).2+_);omega)
theorem n8{ls:List Lt}{H:aF}{Q:aY}(hl:ls.length<=1000)(q:Q (.int ls.length) H):dj [.str (bI ls)] H Q:=⟨mR ls hl,by rw[jJ];exact q⟩
def stp:Nat->Pt
 |0=>(1,0)
 |1=>(0,1)
 |2=>(-1,0)
 |_=>(0,-1)
def rD(p:Pt):Nat->Pt
 |0=>(p.1,p.2)
 |1=>(p.1-1,p.2)
 |2=>(p.1-1,p.2-1)
 |_=>(p.1,p.2-1)
def oJ(p:Pt):Nat->Pt
 |0=>(p.1,p.2-1)
 |1=>(p.1,p.2)
 |2=>(p.1-1,p.2)
 |_=>(p.1-1,p.2-1)
def pP(p:Pt)(d:Nat):Pt:=(p.1+(stp d).1,p.2+(stp d).2)
structure jU(S:List Pt)(p:Pt)(d:Nat):Prop where
 lt:d<4
 l:rD p d∈S
 r:oJ p d∉S
inductive jG(R:Pt->Pt->Prop)(p:Pt):Pt->Prop where
 |refl:jG R p p
 |step {q r:Pt}:jG R p q->R q r->jG R p r
theorem jG.trans{R:Pt->Pt->Prop}{p q r:Pt}(h:jG R p q)(g:jG R q r):jG R p r:=by
 induction g with
 |refl=>exact h
 |step _ s ih=>exact .step ih s
theorem jG.one{R:Pt->Pt->Prop}{p q:Pt}(h:R p q):jG R p q:=.step .refl h
def RS(S:List Pt)(p q:Pt):Prop:=∃d,jU S p d/\q=pP p d
def jH(S:List Pt)(p:Pt):Prop:=∃d,jU S p d
theorem swap{R R':Pt->Pt->Prop}{C C' I:Pt->Prop}{a b:Pt}(h1:jG R' a b)(h2:∀p q,R p q->(R' p q/\¬I p/\¬I q)\/((p=a\/I p)/\(q=b\/I q)))(ha:¬I a)(hb:¬I b)
  (h4:∀q,C' q->¬I q/\(C q\/(jG R' a q/\jG R' q b))) (ca:C a) (cb:C b) (hS:∀p q,C p->C q->jG R p q):∀p q,C' p->C' q->jG R' p q:=by
 have A:∀p q,¬I p->jG R p q->(¬I q/\jG R' p q)\/(I q/\jG R' p a):=by
  intro p q hp h
  induction h with
  |refl=>exact .inl ⟨hp,.refl⟩
  |@step q r _ s ih=>
   rcases h2 q r s with ⟨s1,s2,s3⟩ | ⟨s1,s2⟩
   ·rcases ih with ⟨_,i⟩ | ⟨i,_⟩
    ·exact .inl ⟨s3,.step i s1⟩
    ·exact absurd i s2
   ·have pa:jG R' p a:=by
     rcases ih with ⟨i1,i2⟩ | ⟨_,i⟩
     ·rcases s1 with rfl | s1
      ·exact i2
      ·exact absurd s1 i1
     ·exact i
    rcases s2 with rfl | s2
    ·exact .inl ⟨hb,pa.trans h1⟩
    ·exact .inr ⟨s2,pa⟩
 have B:∀p q,C p->C q->¬I p->¬I q->jG R' p q:=fun p q cp cq np nq=>by
  rcases A p q np (hS p q cp cq) with z | z
  ·exact z.2
  ·exact absurd z.1 nq
 intro p q cp cq
 obtain⟨np,zp⟩:=h4 p cp
 obtain⟨nq,zq⟩:=h4 q cq
 have D:∀p,C p->¬I p->jG R' p q:=fun p cp np=>by
  rcases zq with zq | zq
  ·exact B p q cp zq np nq
  ·exact (B p a cp ca np ha).trans zq.1
 rcases zp with zp | zp
 ·exact D p zp np
 ·exact zp.2.trans (D b cb hb)
def bD:Nat->Nat
 |0=>1
 |1=>2
 |2=>3
 |_=>0
def nb(c:Pt)(j:Nat):Pt:=(c.1+(stp j).1,c.2+(stp j).2)
def bN(c:Pt):Nat->Pt
 |0=>(c.1+1,c.2)
 |1=>(c.1+1,c.2+1)
 |2=>(c.1,c.2+1)
 |_=>(c.1,c.2)
def CQ(c:Pt):Nat->Pt
 |0=>(c.1+1,c.2+1)
 |1=>(c.1-1,c.2+1)
 |2=>(c.1-1,c.2-1)
 |_=>(c.1+1,c.2-1)
theorem Y6:stp 0=(1,0):=rfl
theorem WM:stp 1=(0,1):=rfl
theorem YS:stp 2=(-1,0):=rfl
theorem RP:stp 3=(0,-1):=rfl
theorem ZL:bD 0=1:=rfl
theorem aav:bD 1=2:=rfl
theorem aa8:bD 2=3:=rfl
theorem aaV:bD 3=0:=rfl
theorem UJ(p:Pt):rD p 0=(p.1,p.2):=rfl
theorem Us(p:Pt):rD p 1=(p.1-1,p.2):=rfl
theorem T5(p:Pt):rD p 2=(p.1-1,p.2-1):=rfl
theorem Tc(p:Pt):rD p 3=(p.1,p.2-1):=rfl
theorem Uz(p:Pt):oJ p 0=(p.1,p.2-1):=rfl
theorem ZG(p:Pt):oJ p 1=(p.1,p.2):=rfl
theorem abf(p:Pt):oJ p 2=(p.1-1,p.2):=rfl
theorem aaa(p:Pt):oJ p 3=(p.1-1,p.2-1):=rfl
theorem Wf(p:Pt):bN p 0=(p.1+1,p.2):=rfl
theorem YB(p:Pt):bN p 1=(p.1+1,p.2+1):=rfl
theorem XX(p:Pt):bN p 2=(p.1,p.2+1):=rfl
theorem Wr(p:Pt):bN p 3=(p.1,p.2):=rfl
theorem Xa(p:Pt):CQ p 0=(p.1+1,p.2+1):=rfl
theorem Yp(p:Pt):CQ p 1=(p.1-1,p.2+1):=rfl
theorem Yt(p:Pt):CQ p 2=(p.1-1,p.2-1):=rfl
theorem Ze(p:Pt):CQ p 3=(p.1+1,p.2-1):=rfl
local macro_rules | `(tactic| walk_at "pp")=>`(tactic| (refine Prod.ext ?_ ?_ <;> (simp only[Y6,WM,YS,RP,ZL,aav,aa8,aaV,UJ,Us,T5,Tc,Uz,ZG,abf,aaa,Wf,YB,XX,Wr,Xa,Yp,Yt,Ze,nb,pP];try omega)))
theorem c4{j:Nat}(h:j<4):j=0\/j=1\/j=2\/j=3:=(by decide:∀j:Fin 4,j.val=0\/j.val=1\/j.val=2\/j.val=3) ⟨j,h⟩
section
variable{S T:List Pt}{c p:Pt}{d j:Nat}
theorem dq:bD j<4:=by unfold bD;split <;> omega
theorem aba(hd:d<4)(h:oJ p d=c):∃j,j<4/\p=bN c (bD j)/\pP p d=bN c j/\rD p d=nb c j:=by
 subst h
 rcases c4 hd with rfl | rfl | rfl | rfl
 ·exact⟨1,by omega,by walk_at "pp",by walk_at "pp",by walk_at "pp"⟩
 ·exact⟨2,by omega,by walk_at "pp",by walk_at "pp",by walk_at "pp"⟩
 ·exact⟨3,by omega,by walk_at "pp",by walk_at "pp",by walk_at "pp"⟩
 ·exact⟨0,by omega,by walk_at "pp",by walk_at "pp",by walk_at "pp"⟩
theorem aap(hd:d<4)(h:rD p d=c):∃j,j<4/\p=bN c j/\pP p d=bN c (bD j)/\oJ p d=nb c j:=by
 subst h
 rcases c4 hd with rfl | rfl | rfl | rfl
 ·exact⟨3,by omega,by walk_at "pp",by walk_at "pp",by walk_at "pp"⟩
 ·exact⟨0,by omega,by walk_at "pp",by walk_at "pp",by walk_at "pp"⟩
 ·exact⟨1,by omega,by walk_at "pp",by walk_at "pp",by walk_at "pp"⟩
 ·exact⟨2,by omega,by walk_at "pp",by walk_at "pp",by walk_at "pp"⟩
theorem Sy(hj:j<4):∃d,d<4/\rD (bN c j) d=c/\oJ (bN c j) d=nb c j/\pP (bN c j) d=bN c (bD j):=by
 rcases c4 hj with rfl | rfl | rfl | rfl
 ·exact⟨1,by omega,by walk_at "pp",by walk_at "pp",by walk_at "pp"⟩
 ·exact⟨2,by omega,by walk_at "pp",by walk_at "pp",by walk_at "pp"⟩
 ·exact⟨3,by omega,by walk_at "pp",by walk_at "pp",by walk_at "pp"⟩
 ·exact⟨0,by omega,by walk_at "pp",by walk_at "pp",by walk_at "pp"⟩
theorem NP(hj:j<4):∃d,d<4/\rD (bN c (bD j)) d=nb c j/\oJ (bN c (bD j)) d=c/\pP (bN c (bD j)) d=bN c j:=by
 rcases c4 hj with rfl | rfl | rfl | rfl
 ·exact⟨3,by omega,by walk_at "pp",by walk_at "pp",by walk_at "pp"⟩
 ·exact⟨0,by omega,by walk_at "pp",by walk_at "pp",by walk_at "pp"⟩
 ·exact⟨1,by omega,by walk_at "pp",by walk_at "pp",by walk_at "pp"⟩
 ·exact⟨2,by omega,by walk_at "pp",by walk_at "pp",by walk_at "pp"⟩
def Meet(p q:Pt):Prop:=q=(p.1,p.2)\/q=(p.1-1,p.2)\/q=(p.1-1,p.2-1)\/q=(p.1,p.2-1)
theorem Al(hd:d<4):Meet p (oJ p d):=by
 rcases c4 hd with rfl | rfl | rfl | rfl
 ·exact .inr (.inr (.inr rfl))
 ·exact .inl rfl
 ·exact .inr (.inl rfl)
 ·exact .inr (.inr (.inl rfl))
theorem Jf(hd:d<4):Meet (pP p d) (oJ p d):=by
 rcases c4 hd with rfl | rfl | rfl | rfl
 ·exact .inr (.inr (.inl (by walk_at "pp")))
 ·exact .inr (.inr (.inr (by walk_at "pp")))
 ·exact .inl (by walk_at "pp")
 ·exact .inr (.inl (by walk_at "pp"))
theorem QF(hj:j<4){q:Pt}(h:Meet (bN c (bD j)) q):q=c\/q=nb c j\/q=nb c (bD j)\/q=CQ c j:=by
 rcases c4 hj with rfl | rfl | rfl | rfl
 ·rcases h with rfl | rfl | rfl | rfl
  ·exact .inr (.inr (.inr (by walk_at "pp")))
  ·exact .inr (.inr (.inl (by walk_at "pp")))
  ·exact .inl (by walk_at "pp")
  ·exact .inr (.inl (by walk_at "pp"))
 ·rcases h with rfl | rfl | rfl | rfl
  ·exact .inr (.inl (by walk_at "pp"))
  ·exact .inr (.inr (.inr (by walk_at "pp")))
  ·exact .inr (.inr (.inl (by walk_at "pp")))
  ·exact .inl (by walk_at "pp")
 ·rcases h with rfl | rfl | rfl | rfl
  ·exact .inl (by walk_at "pp")
  ·exact .inr (.inl (by walk_at "pp"))
  ·exact .inr (.inr (.inr (by walk_at "pp")))
  ·exact .inr (.inr (.inl (by walk_at "pp")))
 ·rcases h with rfl | rfl | rfl | rfl
  ·exact .inr (.inr (.inl (by walk_at "pp")))
  ·exact .inl (by walk_at "pp")
  ·exact .inr (.inl (by walk_at "pp"))
  ·exact .inr (.inr (.inr (by walk_at "pp")))
theorem HJ{i:Nat}(hi:i<4)(hj:j<4)(h:bN c i=bN c j):i=j:=by
 have h1:=congrArg Prod.fst h
 have h2:=congrArg Prod.snd h
 rcases c4 hi with rfl | rfl | rfl | rfl <;> rcases c4 hj with rfl | rfl | rfl | rfl <;> simp only[Wf,YB,XX,Wr] at h1 h2 <;> omega
end
section
variable{S T:List Pt}{c p:Pt}{d j:Nat}
theorem mZ{u v:Pt}(hu:Meet p u)(hv:Meet p v)(iu:u∈S)(iv:v∉S):jH S p:=by
 refine Classical.byContradiction fun h=>?_
 have e0:(p.1,p.2)∈S->(p.1,p.2-1)∈S:=fun z=>Classical.byContradiction fun y=>h ⟨0,by omega,z,y⟩
 have e1:(p.1-1,p.2)∈S->(p.1,p.2)∈S:=fun z=>Classical.byContradiction fun y=>h ⟨1,by omega,z,y⟩
 have e2:(p.1-1,p.2-1)∈S->(p.1-1,p.2)∈S:=fun z=>Classical.byContradiction fun y=>h ⟨2,by omega,z,y⟩
 have e3:(p.1,p.2-1)∈S->(p.1-1,p.2-1)∈S:=fun z=>Classical.byContradiction fun y=>h ⟨3,by omega,z,y⟩
 have all:(p.1,p.2)∈S:=by
  rcases hu with rfl | rfl | rfl | rfl
  ·exact iu
  ·exact e1 iu
  ·exact e1 (e2 iu)
  ·exact e1 (e2 (e3 iu))
 rcases hv with rfl | rfl | rfl | rfl
 ·exact iv all
 ·exact iv (e2 (e3 (e0 all)))
 ·exact iv (e3 (e0 all))
 ·exact iv (e0 all)
def Dg(S:List Pt):Prop:=∀p:Pt,¬((p.1,p.2)∈S/\(p.1-1,p.2-1)∈S/\(p.1-1,p.2)∉S/\(p.1,p.2-1)∉S)/\¬((p.1-1,p.2)∈S/\(p.1,p.2-1)∈S/\(p.1,p.2)∉S/\(p.1-1,p.2-1)∉S)
theorem iM(h:Dg S){e:Nat}(a:jU S p d)(b:jU S p e):d=e:=by
 obtain⟨h1,h2⟩:=h p
 obtain⟨a0,a1,a2⟩:=a
 obtain⟨b0,b1,b2⟩:=b
 rcases c4 a0 with rfl | rfl | rfl | rfl <;> rcases c4 b0 with rfl | rfl | rfl | rfl
 ·rfl
 ·exact absurd a1 b2
 ·exact absurd ⟨a1,b1,b2,a2⟩ h1
 ·exact absurd b1 a2
 ·exact absurd b1 a2
 ·rfl
 ·exact absurd a1 b2
 ·exact absurd ⟨a1,b1,a2,b2⟩ h2
 ·exact absurd ⟨b1,a1,a2,b2⟩ h1
 ·exact absurd b1 a2
 ·rfl
 ·exact absurd a1 b2
 ·exact absurd a1 b2
 ·exact absurd ⟨b1,a1,b2,a2⟩ h2
 ·exact absurd b1 a2
 ·rfl
theorem Yn(e:jU S p d):jH S (pP p d):=by
 refine mZ (u:=rD p d) (v:=oJ p d) ?_ (Jf e.lt) e.l e.r
 rcases c4 e.lt with rfl | rfl | rfl | rfl
 ·exact .inr (.inl (by walk_at "pp"))
 ·exact .inr (.inr (.inl (by walk_at "pp")))
 ·exact .inr (.inr (.inr (by walk_at "pp")))
 ·exact .inl (by walk_at "pp")
theorem Eh(hj:j<4):Meet (bN c j) c:=by
 rcases c4 hj with rfl | rfl | rfl | rfl
 ·exact .inr (.inl (by walk_at "pp"))
 ·exact .inr (.inr (.inl (by walk_at "pp")))
 ·exact .inr (.inr (.inr (by walk_at "pp")))
 ·exact .inl (by walk_at "pp")
theorem Iw(hj:j<4):Meet (bN c (bD j)) (nb c j):=by
 rcases c4 hj with rfl | rfl | rfl | rfl
 ·exact .inr (.inr (.inr (by walk_at "pp")))
 ·exact .inl (by walk_at "pp")
 ·exact .inr (.inl (by walk_at "pp"))
 ·exact .inr (.inr (.inl (by walk_at "pp")))
theorem Rb(hj:j<4):Meet (bN c (bD j)) (nb c (bD j)):=by
 rcases c4 hj with rfl | rfl | rfl | rfl
 ·exact .inr (.inl (by walk_at "pp"))
 ·exact .inr (.inr (.inl (by walk_at "pp")))
 ·exact .inr (.inr (.inr (by walk_at "pp")))
 ·exact .inl (by walk_at "pp")
theorem UW(h:Dg S)(hj:j<4)(h1:nb c j∈S)(h2:nb c (bD j)∈S)(hc:c∉S):CQ c j∈S:=by
 refine Classical.byContradiction fun z=>?_
 obtain⟨g1,g2⟩:=h (bN c (bD j))
 rcases c4 hj with rfl | rfl | rfl | rfl
 ·refine g2 ⟨?_,?_,?_,?_⟩
  ·rw[show ((bN c (bD 0)).1-1,(bN c (bD 0)).2)=nb c (bD 0) from by walk_at "pp"];exact h2
  ·rw[show ((bN c (bD 0)).1,(bN c (bD 0)).2-1)=nb c 0 from by walk_at "pp"];exact h1
  ·rw[show ((bN c (bD 0)).1,(bN c (bD 0)).2)=CQ c 0 from by walk_at "pp"];exact z
  ·rw[show ((bN c (bD 0)).1-1,(bN c (bD 0)).2-1)=c from by walk_at "pp"];exact hc
 ·refine g1 ⟨?_,?_,?_,?_⟩
  ·rw[show ((bN c (bD 1)).1,(bN c (bD 1)).2)=nb c 1 from by walk_at "pp"];exact h1
  ·rw[show ((bN c (bD 1)).1-1,(bN c (bD 1)).2-1)=nb c (bD 1) from by walk_at "pp"];exact h2
  ·rw[show ((bN c (bD 1)).1-1,(bN c (bD 1)).2)=CQ c 1 from by walk_at "pp"];exact z
  ·rw[show ((bN c (bD 1)).1,(bN c (bD 1)).2-1)=c from by walk_at "pp"];exact hc
 ·refine g2 ⟨?_,?_,?_,?_⟩
  ·rw[show ((bN c (bD 2)).1-1,(bN c (bD 2)).2)=nb c 2 from by walk_at "pp"];exact h1
  ·rw[show ((bN c (bD 2)).1,(bN c (bD 2)).2-1)=nb c (bD 2) from by walk_at "pp"];exact h2
  ·rw[show ((bN c (bD 2)).1,(bN c (bD 2)).2)=c from by walk_at "pp"];exact hc
  ·rw[show ((bN c (bD 2)).1-1,(bN c (bD 2)).2-1)=CQ c 2 from by walk_at "pp"];exact z
 ·refine g1 ⟨?_,?_,?_,?_⟩
  ·rw[show ((bN c (bD 3)).1,(bN c (bD 3)).2)=nb c (bD 3) from by walk_at "pp"];exact h2
  ·rw[show ((bN c (bD 3)).1-1,(bN c (bD 3)).2-1)=nb c 3 from by walk_at "pp"];exact h1
  ·rw[show ((bN c (bD 3)).1-1,(bN c (bD 3)).2)=c from by walk_at "pp"];exact hc
  ·rw[show ((bN c (bD 3)).1,(bN c (bD 3)).2-1)=CQ c 3 from by walk_at "pp"];exact z
theorem IK{i:Nat}(hi:i<4)(hj:j<4)(h:bD i=bD j):i=j:=by
 rcases c4 hi with rfl | rfl | rfl | rfl <;> rcases c4 hj with rfl | rfl | rfl | rfl <;> first | rfl | cases h
theorem Wb(hj:j<4):bD (bD (bD (bD j)))=j:=by
 rcases c4 hj with rfl | rfl | rfl | rfl <;> rfl
end
structure One(S:List Pt):Prop where
 dg:Dg S
 all:∀p q,jH S p->jH S q->jG (RS S) p q
section
variable{S T:List Pt}{c:Pt}{ja jb:Nat}
theorem Nh(h:One S)(hT:∀x,x∈T↔x∈S\/x=c)(hc:c∉S)(hja:ja<4)(hjb:jb<4)(a1:nb c ja∈S)(a2:nb c (bD ja)∉S)(b1:nb c jb∉S)(b2:nb c (bD jb)∈S)
  (ua:∀j,j<4->nb c j∈S->nb c (bD j)∉S->j=ja) (ub:∀j,j<4->nb c j∉S->nb c (bD j)∈S->j=jb):∀p q,jH T p->jH T q->jG (RS T) p q:=by
 have pred:∀j,j<4->∃i,i<4/\bD i=j:=fun j hj=>⟨bD (bD (bD j)),dq,Wb hj⟩
 have cT:c∈T:=(hT c).mpr (.inr rfl)
 have full:∀j,j<4->nb c j∈S->nb c (bD j)∈S->∀q,Meet (bN c (bD j)) q->q∈T:=by
  intro j hj h1 h2 q hq
  rcases QF hj hq with rfl | rfl | rfl | rfl
  ·exact cT
  ·exact (hT _).mpr (.inl h1)
  ·exact (hT _).mpr (.inl h2)
  ·exact (hT _).mpr (.inl (UW h.dg hj h1 h2 hc))
 have nne:∀j,j<4->nb c j≠c:=by
  intro j hj e
  have e1:=congrArg Prod.fst e
  have e2:=congrArg Prod.snd e
  rcases c4 hj with rfl | rfl | rfl | rfl <;> simp only[nb,Y6,WM,YS,RP] at e1 e2 <;> omega
 have new:∀j,j<4->nb c j∉S->RS T (bN c j) (bN c (bD j)):=by
  intro j hj h1
  obtain⟨d,hd,e1,e2,e3⟩:=Sy (c:=c) hj
  refine⟨d,⟨hd,by rw[e1];exact cT,?_⟩,e3.symm⟩
  rw[e2]
  intro z
  rcases (hT _).mp z with z | z
  ·exact h1 z
  ·exact nne j hj z
 have fwd:∀j,j<4->nb c j∉S->jG (RS T) (bN c j) (bN c (bD jb)):=by
  intro j hj h1
  have r1:=new j hj h1
  by_cases g1:nb c (bD j)∈S
  ·have:=ub j hj h1 g1;subst this;exact .one r1
  have r2:=new _ dq g1
  by_cases g2:nb c (bD (bD j))∈S
  ·have:=ub _ dq g1 g2;subst this;exact .step (.one r1) r2
  have r3:=new _ dq g2
  by_cases g3:nb c (bD (bD (bD j)))∈S
  ·have:=ub _ dq g2 g3;subst this;exact .step (.step (.one r1) r2) r3
  exfalso
  have:ja=j\/ja=bD j\/ja=bD (bD j)\/ja=bD (bD (bD j)):=by
   rcases c4 hj with rfl | rfl | rfl | rfl <;> rcases c4 hja with rfl | rfl | rfl | rfl <;> decide
  rcases this with z | z | z | z <;> rw[z] at a1
  ·exact h1 a1
  ·exact g1 a1
  ·exact g2 a1
  ·exact g3 a1
 have bwd:∀j,j<4->nb c j∉S->jG (RS T) (bN c (bD ja)) (bN c j):=by
  intro j hj h1
  obtain⟨i1,l1,rfl⟩:=pred j hj
  by_cases g1:nb c i1∈S
  ·have:=ua i1 l1 g1 h1;subst this;exact .refl
  have r1:=new i1 l1 g1
  obtain⟨i2,l2,rfl⟩:=pred i1 l1
  by_cases g2:nb c i2∈S
  ·have:=ua i2 l2 g2 g1;subst this;exact .one r1
  have r2:=new i2 l2 g2
  obtain⟨i3,l3,rfl⟩:=pred i2 l2
  by_cases g3:nb c i3∈S
  ·have:=ua i3 l3 g3 g2;subst this;exact .step (.one r2) r1
  exfalso
  have:ja=i3\/ja=bD i3\/ja=bD (bD i3)\/ja=bD (bD (bD i3)):=by
   rcases c4 l3 with rfl | rfl | rfl | rfl <;> rcases c4 hja with rfl | rfl | rfl | rfl <;> decide
  rcases this with z | z | z | z <;> rw[z] at a1
  ·exact g3 a1
  ·exact g2 a1
  ·exact g1 a1
  ·exact h1 a1
 refine swap (R:=RS S) (C:=jH S) (I:=fun q=>∃j,j<4/\q=bN c (bD j)/\nb c j∈S/\nb c (bD j)∈S) (a:=bN c (bD ja)) (b:=bN c (bD jb)) (fwd _ dq a2) ?_ ?_ ?_ ?_ ?_ ?_ h.all
 ·rintro p q ⟨d,e,rfl⟩
  by_cases hr:oJ p d=c
  ·refine .inr ?_
   obtain⟨j,hj,h1,h2,h3⟩:=aba e.lt hr
   have hjS:nb c j∈S:=by rw[←h3];exact e.l
   constructor
   ·by_cases g:nb c (bD j)∈S
    ·exact .inr ⟨j,hj,h1,hjS,g⟩
    ·have:=ua j hj hjS g;subst this;exact .inl h1
   ·obtain⟨i,hi,rfl⟩:=pred j hj
    by_cases g:nb c i∈S
    ·exact .inr ⟨i,hi,h2,g,hjS⟩
    ·have:=ub i hi g hjS;subst this;exact .inl h2
  ·have nT:oJ p d∉T:=fun z=>by
    rcases (hT _).mp z with z | z
    ·exact e.r z
    ·exact hr z
   refine .inl ⟨⟨d,⟨e.lt,(hT _).mpr (.inl e.l),nT⟩,rfl⟩,?_,?_⟩
   ·rintro⟨j,hj,rfl,h1,h2⟩
    exact nT (full j hj h1 h2 _ (Al e.lt))
   ·rintro⟨j,hj,e1,h1,h2⟩
    exact nT (full j hj h1 h2 _ (by rw[←e1];exact Jf e.lt))
 ·rintro⟨j,hj,e,h1,h2⟩
  have:=IK hja hj (HJ dq dq e);subst this
  exact a2 h2
 ·rintro⟨j,hj,e,h1,h2⟩
  have:=IK hjb hj (HJ dq dq e);subst this
  exact b1 h1
 ·rintro q ⟨d,e⟩
  refine⟨?_,?_⟩
  ·rintro⟨j,hj,rfl,h1,h2⟩
   exact e.r (full j hj h1 h2 _ (Al e.lt))
  ·rcases (hT _).mp e.l with z | z
   ·exact .inl ⟨d,e.lt,z,fun y=>e.r ((hT _).mpr (.inl y))⟩
   ·obtain⟨j,hj,rfl,h2,h3⟩:=aap e.lt z
    have g:nb c j∉S:=fun y=>e.r (by rw[h3];exact (hT _).mpr (.inl y))
    exact .inr ⟨bwd j hj g,fwd j hj g⟩
 ·exact mZ (Iw hja) (Eh dq) a1 hc
 ·exact mZ (Rb hjb) (Eh dq) b2 hc
end
section
variable{S T:List Pt}{p q:Pt}{d:Nat}
theorem jU.congr(h:∀x,x∈S↔x∈T)(e:jU S p d):jU T p d:=⟨e.lt,(h _).mp e.l,fun z=>e.r ((h _).mpr z)⟩
theorem jG.mono{R R':Pt->Pt->Prop}(h:∀p q,R p q->R' p q)(r:jG R p q):jG R' p q:=by
 induction r with
 |refl=>exact .refl
 |step _ s ih=>exact .step ih (h _ _ s)
theorem One.congr(h:∀x,x∈S↔x∈T)(o:One S):One T:=by
 refine⟨fun p=>?_,fun p q ⟨d,e⟩ ⟨d',e'⟩=>?_⟩
 ·obtain⟨g1,g2⟩:=o.dg p
  rw[h,h,h,h] at g1 g2
  exact⟨g1,g2⟩
 ·exact (o.all p q ⟨d,e.congr fun x=>(h x).symm⟩ ⟨d',e'.congr fun x=>(h x).symm⟩).mono fun a b ⟨d,e,z⟩=>⟨d,e.congr h,z⟩
theorem S9:One [((0,0):Pt)]:=by
 have e0:jU [((0,0):Pt)] (0,0) 0:=⟨by omega,by simp[UJ],by simp[Uz]⟩
 have e1:jU [((0,0):Pt)] (1,0) 1:=⟨by omega,by simp[Us],by simp[ZG]⟩
 have e2:jU [((0,0):Pt)] (1,1) 2:=⟨by omega,by simp[T5],by simp[abf]⟩
 have e3:jU [((0,0):Pt)] (0,1) 3:=⟨by omega,by simp[Tc],by simp[aaa]⟩
 have s0:RS [((0,0):Pt)] (0,0) (1,0):=⟨0,e0,rfl⟩
 have s1:RS [((0,0):Pt)] (1,0) (1,1):=⟨1,e1,rfl⟩
 have s2:RS [((0,0):Pt)] (1,1) (0,1):=⟨2,e2,rfl⟩
 have s3:RS [((0,0):Pt)] (0,1) (0,0):=⟨3,e3,rfl⟩
 have four:∀p,jH [((0,0):Pt)] p->jG (RS [((0,0):Pt)]) p (0,0)/\jG (RS [((0,0):Pt)]) (0,0) p:=by
  rintro p ⟨d,e⟩
  have el:=List.mem_singleton.mp e.l
  obtain⟨p1,p2⟩:=p
  rcases c4 e.lt with rfl | rfl | rfl | rfl
  ·simp only[UJ,Prod.mk.injEq] at el
   obtain⟨rfl,rfl⟩:=el
   exact⟨.refl,.refl⟩
  ·simp only[Us,Prod.mk.injEq] at el
   have:p1=1:=by omega
   subst this
   obtain⟨_,rfl⟩:=el
   exact⟨.step (.step (.one s1) s2) s3,.one s0⟩
  ·simp only[T5,Prod.mk.injEq] at el
   have a1:p1=1:=by omega
   have a2:p2=1:=by omega
   subst a1 a2
   exact⟨.step (.one s2) s3,.step (.one s0) s1⟩
  ·simp only[Tc,Prod.mk.injEq] at el
   have a2:p2=1:=by omega
   subst a2
   obtain⟨rfl,_⟩:=el
   exact⟨.one s3,.step (.step (.one s0) s1) s2⟩
 refine⟨fun p=>?_,fun p q hp hq=>(four p hp).1.trans (four q hq).2⟩
 simp only[List.mem_singleton,Prod.mk.injEq]
 constructor
 ·rintro⟨h1,h2,_⟩;omega
 ·rintro⟨h1,h2,_⟩;omega
theorem Rk(s:Pt)(hd:d<4):rD (p.1+s.1,p.2+s.2) d=((rD p d).1+s.1,(rD p d).2+s.2):=by
 rcases c4 hd with rfl | rfl | rfl | rfl <;> walk_at "pp"
theorem QG(s:Pt)(hd:d<4):oJ (p.1+s.1,p.2+s.2) d=((oJ p d).1+s.1,(oJ p d).2+s.2):=by
 rcases c4 hd with rfl | rfl | rfl | rfl <;> walk_at "pp"
theorem aal(s:Pt):pP (p.1+s.1,p.2+s.2) d=((pP p d).1+s.1,(pP p d).2+s.2):=by
 refine Prod.ext ?_ ?_ <;> simp only[pP] <;> omega
theorem qw{s:Pt}{x:Pt}:(x.1+s.1,x.2+s.2)∈S.map (fun q=>(q.1+s.1,q.2+s.2))↔x∈S:=by
 rw[List.mem_map]
 constructor
 ·rintro⟨y,hy,e⟩
  have e1:=congrArg Prod.fst e
  have e2:=congrArg Prod.snd e
  have:y=x:=Prod.ext (by dsimp only at e1;omega) (by dsimp only at e2;omega)
  rw[←this];exact hy
 ·exact fun h=>⟨x,h,rfl⟩
theorem zW(s:Pt):jU (S.map (fun q=>(q.1+s.1,q.2+s.2))) (p.1+s.1,p.2+s.2) d↔jU S p d:=by
 constructor
 ·rintro⟨h1,h2,h3⟩
  rw[Rk s h1,qw] at h2
  rw[QG s h1,qw] at h3
  exact⟨h1,h2,h3⟩
 ·rintro⟨h1,h2,h3⟩
  refine⟨h1,?_,?_⟩
  ·rw[Rk s h1,qw];exact h2
  ·rw[QG s h1,qw];exact h3
theorem One.mv(s:Pt)(o:One S):One (S.map (fun q=>(q.1+s.1,q.2+s.2))):=by
 have bk:∀p:Pt,p=((p.1-s.1)+s.1,(p.2-s.2)+s.2):=fun p=>Prod.ext (by dsimp only;omega) (by dsimp only;omega)
 refine⟨fun p=>?_,fun p q ⟨d,e⟩ ⟨d',e'⟩=>?_⟩
 ·obtain⟨g1,g2⟩:=o.dg (p.1-s.1,p.2-s.2)
  have m:∀a b:Int,(a,b)∈S.map (fun q=>(q.1+s.1,q.2+s.2))↔(a-s.1,b-s.2)∈S:=fun a b=>by rw[←qw (S:=S) (s:=s) (x:=(a-s.1,b-s.2)),show ((a-s.1,b-s.2).1+s.1,(a-s.1,b-s.2).2+s.2)=(a,b) from Prod.ext (by dsimp only;omega) (by dsimp only;omega)]
  rw[m,m,m,m]
  dsimp only at g1 g2
  rw[show p.1-1-s.1=p.1-s.1-1 from by omega,show p.2-1-s.2=p.2-s.2-1 from by omega]
  exact⟨g1,g2⟩
 ·rw[bk p] at e ⊢
  rw[bk q] at e' ⊢
  have r:=o.all _ _ ⟨d,(zW s (p:=(p.1-s.1,p.2-s.2))).mp e⟩ ⟨d',(zW s (p:=(q.1-s.1,q.2-s.2))).mp e'⟩
  have mvR:∀a b,jG (RS S) a b->jG (RS (S.map (fun q=>(q.1+s.1,q.2+s.2)))) (a.1+s.1,a.2+s.2) (b.1+s.1,b.2+s.2):=by
   intro a b h
   induction h with
   |refl=>exact .refl
   |step _ t ih=>
    obtain⟨d,e,rfl⟩:=t
    exact .step ih ⟨d,(zW s).mpr e,(aal s).symm⟩
  exact mvR _ _ r
def outD(S:List Pt)(p:Pt):Nat:=if rD p 0∈S/\oJ p 0∉S then 0 else if rD p 1∈S/\oJ p 1∉S then 1 else if rD p 2∈S/\oJ p 2∉S then 2 else 3
theorem eG(h:jH S p):jU S p (outD S p):=by
 obtain⟨d,e⟩:=h
 unfold outD
 by_cases h0:rD p 0∈S/\oJ p 0∉S
 ·rw[if_pos h0];exact⟨by omega,h0.1,h0.2⟩
 rw[if_neg h0]
 by_cases h1:rD p 1∈S/\oJ p 1∉S
 ·rw[if_pos h1];exact⟨by omega,h1.1,h1.2⟩
 rw[if_neg h1]
 by_cases h2:rD p 2∈S/\oJ p 2∉S
 ·rw[if_pos h2];exact⟨by omega,h2.1,h2.2⟩
 rw[if_neg h2]
 rcases c4 e.lt with rfl | rfl | rfl | rfl
 ·exact absurd ⟨e.l,e.r⟩ h0
 ·exact absurd ⟨e.l,e.r⟩ h1
 ·exact absurd ⟨e.l,e.r⟩ h2
 ·exact e
def aX(S:List Pt)(p:Pt):Nat->Pt
 |0=>p
 |n+1=>pP (aX S p n) (outD S (aX S p n))
theorem dF(h:jH S p):∀n,jH S (aX S p n)
 |0=>h
 |n+1=>Yn (eG (dF h n))
theorem Jc(g:Dg S)(h:jG (RS S) p q):∃n,q=aX S p n:=by
 induction h with
 |refl=>exact⟨0,rfl⟩
 |step _ t ih=>
  obtain⟨n,rfl⟩:=ih
  obtain⟨d,e,rfl⟩:=t
  refine⟨n+1,?_⟩
  show pP _ d=pP _ _
  rw[iM g e (eG ⟨d,e⟩)]
theorem bY(m:Nat):∀n,aX S p (m+n)=aX S (aX S p m) n
 |0=>rfl
 |n+1=>by
  show pP (aX S p (m+n)) (outD S (aX S p (m+n)))=_
  rw[bY m n];rfl
theorem least{P:Nat->Prop}(h:∃n,P n):∃n,P n/\∀m,m<n->¬P m:=by
 obtain⟨n,hn⟩:=h
 have:∀k n,n<=k->P n->∃n,P n/\∀m,m<n->¬P m:=by
  intro k
  induction k with
  |zero=>intro n hk hP;exact⟨n,hP,fun m hm=>by omega⟩
  |succ k ih=>
   intro n hk hP
   by_cases z:∃m,m<n/\P m
   ·obtain⟨m,hm,hPm⟩:=z
    exact ih m (by omega) hPm
   ·exact⟨n,hP,fun m hm hPm=>z ⟨m,hm,hPm⟩⟩
 exact this n n (Nat.le_refl _) hn
structure oG(S:List Pt)(p:Pt)(t:Nat):Prop where
 pos:0<t
 back:aX S p t=p
 not:∀m,0<m->m<t->aX S p m≠p
 all:∀q,jH S q->∃m,m<t/\q=aX S p m
 inj:∀i j,i<j->j<t->aX S p i≠aX S p j
theorem One.rnd(o:One S)(hp:jH S p):∃t,oG S p t:=by
 have back:∃n,aX S p (n+1)=p:=by
  obtain⟨n,hn⟩:=Jc o.dg (o.all (aX S p 1) p (dF hp 1) hp)
  exact⟨n,by rw[Nat.add_comm,bY];exact hn.symm⟩
 obtain⟨n,hn,hm⟩:=least back
 have nret:∀m,0<m->m<n+1->aX S p m≠p:=fun m h0 h1 e=>hm (m-1) (by omega) (by rw[Nat.sub_add_cancel h0];exact e)
 have per:∀k m,aX S p (k*(n+1)+m)=aX S p m:=by
  intro k
  induction k with
  |zero=>intro m;rw[Nat.zero_mul,Nat.zero_add]
  |succ k ih=>
   intro m
   rw[show (k+1)*(n+1)+m=(n+1)+(k*(n+1)+m) from by rw[Nat.add_mul];omega,bY,hn]
   exact ih m
 refine⟨n+1,by omega,hn,nret,fun q hq=>?_,fun i j hij hj e=>?_⟩
 ·obtain⟨m,rfl⟩:=Jc o.dg (o.all p q hp hq)
  refine⟨m%(n+1),Nat.mod_lt _ (by omega),?_⟩
  have:=per (m / (n+1)) (m%(n+1))
  rw[Nat.mul_comm,Nat.div_add_mod] at this
  exact this
 ·have h1:aX S p (j+(n+1-j))=p:=by rw[show j+(n+1-j)=n+1 from by omega];exact hn
  rw[bY,←e,←bY] at h1
  exact nret (i+(n+1-j)) (by omega) (by omega) h1
theorem sub_len{α:Type}[DecidableEq α]:∀ {xs ys:List α},xs.Nodup->(∀x∈xs,x∈ys)->xs.length<=ys.length
 |[],_,_,_=>Nat.zero_le _
 |x::xs,ys,nd,h=>by
  have nd':=List.nodup_cons.mp nd
  have hx:=h x List.mem_cons_self
  have:=sub_len (xs:=xs) (ys:=ys.erase x) nd'.2 fun y hy=>(List.mem_erase_of_ne (fun e:y=x=>nd'.1 (e▸hy))).mpr (h y (List.mem_cons_of_mem _ hy))
  rw[List.length_erase_of_mem hx] at this
  have hpos:=List.length_pos_of_mem hx
  show xs.length+1<=_
  omega
theorem oG.len{t:Nat}(r:oG S p t)(hp:jH S p){K:List Pt}(nd:K.Nodup)(hK:∀q,q∈K↔jH S q):K.length=t:=by
 have e:((List.range t).map (aX S p)).length=t:=by rw[List.length_map,List.length_range]
 have n2:((List.range t).map (aX S p)).Nodup:=by
  rw[List.Nodup,List.pairwise_iff_getElem]
  intro i j hi hj hij
  rw[List.length_map,List.length_range] at hi hj
  simp only[List.getElem_map,List.getElem_range]
  exact r.inj i j hij hj
 apply Nat.le_antisymm
 ·have:=sub_len nd (ys:=(List.range t).map (aX S p)) fun q hq=>by
   obtain⟨m,hm,rfl⟩:=r.all q ((hK q).mp hq)
   exact List.mem_map.mpr ⟨m,List.mem_range.mpr hm,rfl⟩
  rw[e] at this;exact this
 ·have:=sub_len n2 (ys:=K) fun q hq=>by
   obtain⟨m,_,rfl⟩:=List.mem_map.mp hq
   exact (hK _).mpr (dF hp m)
  rw[e] at this;exact this
end
def bB(p:Pt):List Pt:=[(p.1+1,p.2),(p.1,p.2+1),(p.1-1,p.2),(p.1,p.2-1)]
inductive b7(S:List Pt)(s:Pt):Pt->Prop
 |refl:b7 S s s
 |step {c n:Pt}:b7 S s c->n∈bB c->n∈S->b7 S s n
theorem Qz{c n:Pt}:n∈bB c↔n=(c.1+1,c.2)\/n=(c.1,c.2+1)\/n=(c.1-1,c.2)\/n=(c.1,c.2-1):=by simp[bB]
theorem HW{a b:Pt}:a=b↔a.1=b.1/\a.2=b.2:=Prod.ext_iff
theorem iK{c n:Pt}:n∈bB c↔(n.1=c.1+1/\n.2=c.2)\/(n.1=c.1/\n.2=c.2+1)\/(n.1=c.1-1/\n.2=c.2)\/(n.1=c.1/\n.2=c.2-1):=by
 rw[Qz,HW,HW,HW,HW]
theorem GP{c n:Pt}(h:n∈bB c):c∈bB n:=by
 rcases Qz.mp h with rfl | rfl | rfl | rfl
 ·exact iK.mpr (.inr (.inr (.inl ⟨(Int.add_sub_cancel c.1 1).symm,rfl⟩)))
 ·exact iK.mpr (.inr (.inr (.inr ⟨rfl,(Int.add_sub_cancel c.2 1).symm⟩)))
 ·exact iK.mpr (.inl ⟨(Int.sub_add_cancel c.1 1).symm,rfl⟩)
 ·exact iK.mpr (.inr (.inl ⟨rfl,(Int.sub_add_cancel c.2 1).symm⟩))
theorem b7.mem{S:List Pt}{s c:Pt}(hs:s∈S)(h:b7 S s c):c∈S:=by
 induction h with
 |refl=>exact hs
 |step _ _ h _=>exact h
theorem b7.trans{S:List Pt}{a b c:Pt}(h1:b7 S a b)(h2:b7 S b c):b7 S a c:=by
 induction h2 with
 |refl=>exact h1
 |step _ h h' ih=>exact .step ih h h'
theorem b7.symm{S:List Pt}{a b:Pt}(ha:a∈S)(h:b7 S a b):b7 S b a:=by
 induction h with
 |refl=>exact .refl
 |step k h h' ih=>exact b7.trans (.step .refl (GP h) (k.mem ha)) ih
theorem b7.mono{S T:List Pt}{a b:Pt}(hs:∀x∈S,x∈T)(h:b7 S a b):b7 T a b:=by
 induction h with
 |refl=>exact .refl
 |step _ h h' ih=>exact .step ih h (hs _ h')
inductive Way(S:List Pt)(a:Pt):Pt->Prop
 |refl:Way S a a
 |step {b n:Pt}:Way S a b->n∈bB b->n∉S->Way S a n
theorem Way.off{S:List Pt}{a b:Pt}(ha:a∉S)(h:Way S a b):b∉S:=by
 cases h with
 |refl=>exact ha
 |step _ _ h=>exact h
theorem Way.trans{S:List Pt}{a b c:Pt}(h1:Way S a b)(h2:Way S b c):Way S a c:=by
 induction h2 with
 |refl=>exact h1
 |step _ h h' ih=>exact .step ih h h'
theorem Way.congr{S T:List Pt}{a b:Pt}(hs:∀x,x∈T->x∈S)(h:Way S a b):Way T a b:=by
 induction h with
 |refl=>exact .refl
 |step _ h h' ih=>exact .step ih h fun z=>h' (hs _ z)
def Esc(S:List Pt)(a:Pt):Prop:=∃b,Way S a b/\∀c∈S,c.2<b.2
def hp(p a b:Pt):Bool:=decide ((a.1=p.1/\b.1=p.1+1/\p.2<a.2)\/(b.1=p.1/\a.1=p.1+1/\p.2<b.2))
def par(h:Pt->Pt->Bool):Pt->List Pt->Bool
 |_,[]=>false
 |a,b::l=>h a b ^^ par h b l
def endL:Pt->List Pt->Pt
 |a,[]=>a
 |_,b::l=>endL b l
def Kg(a b:Pt):Prop:=a.1<=b.1+1/\b.1<=a.1+1/\a.2<=b.2+1/\b.2<=a.2+1
theorem kg4{a b:Pt}(h:b∈bB a):Kg a b:=by
 have u:∀x:Int,x<=x+1+1:=fun x=>by omega
 have d:∀x:Int,x<=x-1+1/\x-1<=x+1:=fun x=>by omega
 have o:∀x:Int,x<=x+1:=fun x=>by omega
 rcases Qz.mp h with rfl | rfl | rfl | rfl
 ·exact⟨u _,Int.le_refl _,o _,o _⟩
 ·exact⟨o _,o _,u _,Int.le_refl _⟩
 ·exact⟨(d _).1,(d _).2,o _,o _⟩
 ·exact⟨o _,o _,(d _).1,(d _).2⟩
def HF(S:List Pt):Pt->List Pt->Prop
 |_,[]=>True
 |a,b::l=>b∈bB a/\b∈S/\HF S b l
theorem lX{S:List Pt}{n:Pt}:∀ {a:Pt} {l:List Pt},HF S a l->n∈bB (endL a l)->n∈S->HF S a (l++[n])/\endL a (l++[n])=n
 |_,[],_,h1,h2=>⟨⟨h1,h2,trivial⟩,rfl⟩
 |_,_::_,h,h1,h2=>⟨⟨h.1,h.2.1,(lX h.2.2 h1 h2).1⟩,(lX h.2.2 h1 h2).2⟩
theorem b7.walk{S:List Pt}{a b:Pt}(h:b7 S a b):∃l,HF S a l/\endL a l=b:=by
 induction h with
 |refl=>exact⟨[],trivial,rfl⟩
 |step _ h h' ih=>
  obtain⟨l,w,rfl⟩:=ih
  exact⟨_,lX w h h'⟩
theorem vO{S:List Pt}:∀ {a:Pt} {l:List Pt},a∈S->HF S a l->endL a l∈S
 |_,[],h,_=>h
 |_,b::l,_,w=>vO (a:=b) (l:=l) w.2.1 w.2.2
theorem ju{S:List Pt}{h h':Pt->Pt->Bool}{g:Pt->Bool}(hs:∀a b,a∈S->b∈S->b∈bB a->(h a b ^^ h' a b)=(g a ^^ g b)):∀ {a:Pt} {l:List Pt},a∈S->HF S a l->(par h a l ^^ par h' a l)=(g a ^^ g (endL a l))
 |a,[],_,_=>by show (false ^^ false)=(g a ^^ g a);simp
 |a,b::l,ha,w=>by
  have ih:=ju hs w.2.1 w.2.2
  have h1:=hs a b ha w.2.1 w.1
  show ((h a b ^^ par h b l) ^^ (h' a b ^^ par h' b l))=(g a ^^ g (endL b l))
  revert ih h1
  generalize h a b=x1;generalize h' a b=x2;generalize par h b l=x3;generalize par h' b l=x4;generalize g a=x5;generalize g b=x6;generalize g (endL b l)=x7
  revert x1 x2 x3 x4 x5 x6 x7
  decide
theorem Zc{A B C D:Prop}[Decidable A][Decidable B][Decidable C][Decidable D](h1:A->B->(C↔D))(h2:¬A->¬B->(C↔D))(h3:A->¬B->(C↔¬D))(h4:¬A->B->(C↔¬D)):(decide A ^^ decide B)=(decide C ^^ decide D):=by
 by_cases a:A <;> by_cases b:B
 ·have:=h1 a b;by_cases c:C
  ·simp[a,b,c,this.mp c]
  ·have d:¬D:=fun z=>c (this.mpr z)
   simp[a,b,c,d]
 ·have:=h3 a b;by_cases c:C
  ·simp[a,b,c,this.mp c]
  ·have d:D:=Classical.byContradiction fun z=>c (this.mpr z)
   simp[a,b,c,d]
 ·have:=h4 a b;by_cases c:C
  ·simp[a,b,c,this.mp c]
  ·have d:D:=Classical.byContradiction fun z=>c (this.mpr z)
   simp[a,b,c,d]
 ·have:=h2 a b;by_cases c:C
  ·simp[a,b,c,this.mp c]
  ·have d:¬D:=fun z=>c (this.mpr z)
   simp[a,b,c,d]
theorem pU{a p:Pt}{S:List Pt}(ha:a∈S)(hp:p∉S):¬(a.1=p.1/\a.2=p.2):=fun z=>hp (by rw[←Prod.ext_iff.mpr z];exact ha)
theorem My(p a b:Pt):hp p a b=hp p b a:=by unfold hp;exact decide_eq_decide.mpr ⟨Or.symm,Or.symm⟩
theorem qH{p a b:Pt}(h:a.1=b.1):hp p a b=false:=by unfold hp;refine decide_eq_false ?_;omega
theorem tX(p:Pt)(x y:Int):hp p (x,y) (x+1,y)=decide (x=p.1/\p.2<y):=by
 unfold hp
 refine decide_eq_decide.mpr ⟨fun z=>z.elim (fun ⟨e,_,l⟩=>⟨e,l⟩) fun ⟨e1,e2,_⟩=>?_,fun ⟨e,l⟩=>.inl ⟨e,by dsimp only;rw[e],l⟩⟩
 dsimp only at e1 e2
 omega
theorem U6{S:List Pt}{p q:Pt}{g:Pt->Bool}(hv:∀x y,(x,y)∈S->(x,y+1)∈S->g (x,y)=g (x,y+1))(hh:∀x y,(x,y)∈S->(x+1,y)∈S->(decide (x=p.1/\p.2<y) ^^ decide (x=q.1/\q.2<y))=(g (x,y) ^^ g (x+1,y)))
  (a b:Pt) (ha:a∈S) (hb:b∈S) (hab:b∈bB a):(hp p a b ^^ hp q a b)=(g a ^^ g b):=by
 obtain⟨x,y⟩:=a
 rw[Qz] at hab
 rcases hab with rfl | rfl | rfl | rfl <;> dsimp only at hb ⊢
 ·rw[tX,tX];exact hh x y ha hb
 ·rw[qH (p:=p) (a:=(x,y)) (b:=(x,y+1)) rfl,qH (p:=q) (a:=(x,y)) (b:=(x,y+1)) rfl,hv x y ha hb];simp
 ·have:=hh (x-1) y hb (by rw[Int.sub_add_cancel];exact ha)
  rw[Int.sub_add_cancel] at this
  rw[My p,My q,show hp p (x-1,y) (x,y)=hp p (x-1,y) (x-1+1,y) by rw[Int.sub_add_cancel],show hp q (x-1,y) (x,y)=hp q (x-1,y) (x-1+1,y) by rw[Int.sub_add_cancel],tX,tX,this,Bool.xor_comm]
 ·have:=hv x (y-1) hb (by rw[Int.sub_add_cancel];exact ha)
  rw[Int.sub_add_cancel] at this
  rw[qH (p:=p) (a:=(x,y)) (b:=(x,y-1)) rfl,qH (p:=q) (a:=(x,y)) (b:=(x,y-1)) rfl,show g (x,y-1)=g (x,y) from this];simp
theorem aa7{S:List Pt}{p q a b:Pt}(e1:q.1=p.1)(e2:q.2=p.2+1)(hq:q∉S)(ha:a∈S)(hb:b∈S):hp p a b=hp q a b:=by
 have up:∀c∈S,c.1=p.1->(p.2<c.2↔p.2+1<c.2):=fun c hc e=>by
  have:c.2≠p.2+1:=fun z=>pU hc hq ⟨e.trans e1.symm,z.trans e2.symm⟩
  clear e e1 e2;omega
 unfold hp
 rw[e1,e2]
 exact decide_eq_decide.mpr (or_congr (and_congr_right fun x=>and_congr_right fun _=>up a ha x) (and_congr_right fun x=>and_congr_right fun _=>up b hb x))
def gE(p a:Pt):Bool:=decide (a.1=p.1+1/\p.2<a.2)
theorem aaN{S:List Pt}{p q a b:Pt}(e1:q.1=p.1+1)(e2:q.2=p.2)(hp':p∉S)(hq:q∉S)(ha:a∈S)(hb:b∈S)(k:Kg a b):(hp p a b ^^ hp q a b)=(gE p a ^^ gE p b):=by
 have n1:∀c∈S,c.1=p.1+1\/c.1=p.1->c.2≠p.2:=fun c hc z y=>z.elim (fun z=>pU hc hq ⟨z.trans e1.symm,y.trans e2.symm⟩) fun z=>pU hc hp' ⟨z,y⟩
 obtain⟨k1,k2,k3,k4⟩:=k
 have u:a.1=p.1+1\/a.1=p.1->b.1=p.1+1\/b.1=p.1->(p.2<a.2↔p.2<b.2):=fun x y=>by
  have x:=n1 a ha x
  have y:=n1 b hb y
  clear e1 e2 k1 k2;omega
 have m:p.1≠p.1+1:=by omega
 have m2:p.1+1≠p.1+1+1:=by omega
 unfold hp gE
 rw[e1,e2]
 by_cases ca:a.1=p.1+1 <;> by_cases cb:b.1=p.1+1
 ·have:=u (.inl ca) (.inl cb)
  simp[ca,cb,m,Ne.symm m,m2,this]
 ·by_cases cc:b.1=p.1
  ·simp[ca,cb,cc,u,m,m2,Ne.symm m,show p.1≠p.1+1+1 by omega]
  ·simp[ca,cb,cc,m,m2,Ne.symm m,show b.1=p.1+1+1 by omega,show p.1+1+1≠p.1 by omega]
 ·by_cases cc:a.1=p.1
  ·simp[ca,cb,cc,←u,m,m2,Ne.symm m,show p.1≠p.1+1+1 by omega]
  ·simp[ca,cb,cc,m,m2,Ne.symm m,show a.1=p.1+1+1 by omega,show p.1+1+1≠p.1 by omega]
 ·simp[ca,cb]
def cnt(p a:Pt)(l:List Pt):Bool:=par (hp p) a l ^^ hp p (endL a l) a
theorem Qy{S:List Pt}{a p q:Pt}{l:List Pt}(ha:a∈S)(w:HF S a l)(k:Kg (endL a l) a)(hp':p∉S)(hq:q∉S)(h:q∈bB p):cnt p a l=cnt q a l:=by
 have he:=vO ha w
 have E:∀ {p q:Pt},p∉S->q∉S->q.1=p.1+1->q.2=p.2->cnt p a l=cnt q a l:=fun {p q} hp' hq e1 e2=>by
  have h1:=ju (S:=S) (h:=hp p) (h':=hp q) (g:=gE p) (fun x y hx hy hxy=>aaN e1 e2 hp' hq hx hy (kg4 hxy)) ha w
  have h2:=aaN e1 e2 hp' hq he ha k
  unfold cnt
  revert h1 h2
  generalize par (hp p) a l=x1;generalize par (hp q) a l=x2;generalize hp p (endL a l) a=x3;generalize hp q (endL a l) a=x4;generalize gE p a=x5;generalize gE p (endL a l)=x6
  revert x1 x2 x3 x4 x5 x6
  decide
 have N:∀ {p q:Pt},q∉S->q.1=p.1->q.2=p.2+1->cnt p a l=cnt q a l:=fun {p q} hq e1 e2=>by
  have h1:=ju (S:=S) (h:=hp p) (h':=hp q) (g:=fun _=>false) (fun x y hx hy hxy=>by rw[aa7 e1 e2 hq hx hy];simp) ha w
  have h2:=aa7 e1 e2 hq he ha
  unfold cnt
  rw[h2]
  revert h1
  generalize par (hp p) a l=x1;generalize par (hp q) a l=x2;generalize hp q (endL a l) a=x4
  revert x1 x2 x4
  decide
 rw[iK] at h
 rcases h with h | h | h | h
 ·exact E hp' hq h.1 h.2
 ·exact N hq h.1 h.2
 ·exact (E hq hp' (by omega) (by omega)).symm
 ·exact (N hp' (by omega) (by omega)).symm
theorem jo{S:List Pt}{a p:Pt}{l:List Pt}(ha:a∈S)(w:HF S a l)(k:Kg (endL a l) a)(hp':p∉S)(e:Esc S p):cnt p a l=false:=by
 obtain⟨q,hw,hq⟩:=e
 have e1:cnt p a l=cnt q a l:=by
  clear hq
  induction hw with
  |refl=>rfl
  |step w' h h' ih=>exact ih.trans (Qy ha w k (w'.off hp') h' h)
 rw[e1]
 have z:∀x y,x∈S->y∈S->hp q x y=false:=fun x y hx hy=>by
  have:=hq x hx
  have:=hq y hy
  unfold hp
  refine decide_eq_false ?_
  omega
 have h1:=ju (S:=S) (h:=hp q) (h':=fun _ _=>false) (g:=fun _=>false) (fun x y hx hy _=>by rw[z x y hx hy]) ha w
 have h2:∀(a:Pt) (l:List Pt),par (fun _ _=>false) a l=false:=by
  intro a l
  induction l generalizing a with
  |nil=>rfl
  |cons b l ih=>show (false ^^ _)=false;rw[ih];rfl
 unfold cnt
 rw[z _ _ (vO ha w) ha]
 rw[h2] at h1
 simpa using h1
structure Sc(S:List Pt):Prop where
 con:∀a∈S,∀b∈S,b7 S a b
 esc:∀a,a∉S->Esc S a
section
variable{S:List Pt}
theorem VB{y v:Int}(h:y≠v):v<=y↔v<y:=by omega
theorem Sc.dg(s:Sc S):Dg S:=by
 have one:∀ {x v:Int},x=v-1↔x+1=v:=fun {x v}=>by omega
 have lel:∀ {y v:Int},v-1<y↔v<=y:=fun {y v}=>by omega
 intro p
 refine⟨fun ⟨h1,h2,h3,h4⟩=>?_,fun ⟨h1,h2,h3,h4⟩=>?_⟩
 ·obtain⟨l,w,e⟩:=(s.con _ h2 _ h1).walk
  have k:Kg (endL (p.1-1,p.2-1) l) (p.1-1,p.2-1):=by rw[e];unfold Kg;dsimp only;omega
  have c1:=jo h2 w k h3 (s.esc _ h3)
  have c2:=jo h2 w k h4 (s.esc _ h4)
  have pp:=ju (S:=S) (h:=hp (p.1-1,p.2)) (h':=hp (p.1,p.2-1)) (g:=fun a=>decide (a.1=p.1/\p.2<=a.2)) (U6 (fun x y ha hb=>decide_eq_decide.mpr (and_congr_right fun e=>by
   have n1:y≠p.2-1:=fun z=>pU ha h4 ⟨e,z⟩
   dsimp only
   clear e
   omega)) (fun x y ha hb=>by
   dsimp only
   have e1:decide (x=p.1-1/\p.2<y)=decide (x=p.1-1/\p.2<=y):=decide_eq_decide.mpr (and_congr_right fun e=>(VB fun z=>pU ha h3 ⟨e,z⟩).symm)
   rw[e1,Bool.xor_comm]
   simp only[lel,one])) h2 w
  unfold cnt at c1 c2
  rw[e] at c1 c2 pp
  have f1:hp (p.1-1,p.2) (p.1,p.2) (p.1-1,p.2-1)=false:=by unfold hp;refine decide_eq_false ?_;dsimp only;omega
  have f2:hp (p.1,p.2-1) (p.1,p.2) (p.1-1,p.2-1)=false:=by unfold hp;refine decide_eq_false ?_;dsimp only;omega
  rw[f1,Bool.xor_false] at c1
  rw[f2,Bool.xor_false] at c2
  rw[c1,c2] at pp
  have g1:decide (p.1-1=p.1/\p.2<=p.2-1)=false:=decide_eq_false fun z=>by have:=z.1;omega
  have g2:decide (p.1=p.1/\p.2<=p.2)=true:=decide_eq_true ⟨rfl,Int.le_refl _⟩
  dsimp only at pp
  rw[g1,g2] at pp
  cases pp
 ·obtain⟨l,w,e⟩:=(s.con _ h2 _ h1).walk
  have k:Kg (endL (p.1,p.2-1) l) (p.1,p.2-1):=by rw[e];unfold Kg;dsimp only;omega
  have c1:=jo h2 w k h4 (s.esc _ h4)
  have c2:=jo h2 w k h3 (s.esc _ h3)
  have pp:=ju (S:=S) (h:=hp (p.1-1,p.2-1)) (h':=hp (p.1,p.2)) (g:=fun a=>decide (a.1=p.1/\p.2<a.2)) (U6 (fun x y ha hb=>decide_eq_decide.mpr (and_congr_right fun e=>by
   have n1:y≠p.2:=fun z=>pU ha h3 ⟨e,z⟩
   dsimp only
   clear e
   omega)) (fun x y ha hb=>by
   dsimp only
   simp only[lel,one]
   have e1:decide (x+1=p.1/\p.2<=y)=decide (x+1=p.1/\p.2<y):=decide_eq_decide.mpr (and_congr_right fun e=>VB fun z=>pU hb h3 ⟨e,z⟩)
   rw[e1,Bool.xor_comm])) h2 w
  unfold cnt at c1 c2
  rw[e] at c1 c2 pp
  have f1:hp (p.1-1,p.2-1) (p.1-1,p.2) (p.1,p.2-1)=true:=by unfold hp;refine decide_eq_true (.inl ⟨rfl,?_,?_⟩) <;> dsimp only <;> omega
  have f2:hp (p.1,p.2) (p.1-1,p.2) (p.1,p.2-1)=false:=by unfold hp;refine decide_eq_false ?_;dsimp only;omega
  rw[f1] at c1
  rw[f2,Bool.xor_false] at c2
  rw[c2] at pp
  have g1:decide (p.1=p.1/\p.2<p.2-1)=false:=decide_eq_false fun z=>by have:=z.2;omega
  have g2:decide (p.1-1=p.1/\p.2<p.2)=false:=decide_eq_false fun z=>by have:=z.1;omega
  dsimp only at pp
  rw[g1,g2] at pp
  rw[Bool.xor_false] at pp
  rw[pp] at c1
  cases c1
def rem(S:List Pt)(c:Pt):List Pt:=S.filter fun q=>decide (q≠c)
theorem aW{c x:Pt}:x∈rem S c↔x∈S/\x≠c:=by unfold rem;rw[List.mem_filter,decide_eq_true_iff]
theorem Sc.we(s:Sc S){c:Pt}(hc:c∈S)(hn:(c.1,c.2+1)∈S)(hs:(c.1,c.2-1)∈S)(he:(c.1+1,c.2)∉S)(hw:(c.1-1,c.2)∉S)(k:b7 (rem S c) (c.1,c.2+1) (c.1,c.2-1)):False:=by
 obtain⟨l,w,e⟩:=k.walk
 have hnr:(c.1,c.2+1)∈rem S c:=aW.mpr ⟨hn,fun z=>by have:=congrArg Prod.snd z;dsimp only at this;omega⟩
 have w1:HF S (c.1,c.2+1) l:=by
  clear e k
  have:∀ {a:Pt} {l:List Pt},HF (rem S c) a l->HF S a l:=by
   intro a l
   induction l generalizing a with
   |nil=>exact fun z=>z
   |cons b l ih=>exact fun z=>⟨z.1,(aW.mp z.2.1).1,ih z.2.2⟩
  exact this w
 obtain⟨w2,e2⟩:=lX w1 (n:=c) (by rw[e,iK];dsimp only;omega) hc
 have kk:Kg (endL (c.1,c.2+1) (l++[c])) (c.1,c.2+1):=by rw[e2];unfold Kg;dsimp only;omega
 have c1:=jo hn w2 kk he (s.esc _ he)
 have c2:=jo hn w2 kk hw (s.esc _ hw)
 have pp:=ju (S:=rem S c) (h:=hp (c.1+1,c.2)) (h':=hp (c.1-1,c.2)) (g:=fun a=>decide ((a.1=c.1\/a.1=c.1+1)/\c.2<a.2)) (U6 (fun x y ha hb=>decide_eq_decide.mpr (by
  have n1:=pU (aW.mp ha).1 he
  have n5:¬(x=c.1/\y=c.2):=fun z=>(aW.mp ha).2 (Prod.ext_iff.mpr z)
  dsimp only at n1 ⊢
  omega)) (fun x y ha hb=>by
  dsimp only
  refine Zc ?_ ?_ ?_ ?_ <;> intros <;> omega)) hnr w
 have ps:∀(h:Pt->Pt->Bool) (a:Pt) (l:List Pt),par h a (l++[c])=(par h a l ^^ h (endL a l) c):=by
  intro h a l
  induction l generalizing a with
  |nil=>show (h a c ^^ false)=(false ^^ h a c);simp
  |cons b l ih=>show (h a b ^^ par h b (l++[c]))=((h a b ^^ par h b l) ^^ _);rw[ih,Bool.xor_assoc];rfl
 unfold cnt at c1 c2
 rw[e2,ps,e,qH (a:=(c.1,c.2-1)) (b:=c) rfl,qH (a:=c) (b:=(c.1,c.2+1)) rfl,Bool.xor_false,Bool.xor_false] at c1 c2
 rw[c1,c2,e] at pp
 have g1:decide (((c.1,c.2+1).1=c.1\/(c.1,c.2+1).1=c.1+1)/\c.2<(c.1,c.2+1).2)=true:=decide_eq_true (by dsimp only;omega)
 have g2:decide (((c.1,c.2-1).1=c.1\/(c.1,c.2-1).1=c.1+1)/\c.2<(c.1,c.2-1).2)=false:=decide_eq_false (by dsimp only;omega)
 rw[g1,g2] at pp
 cases pp
theorem Sc.ns(s:Sc S){c:Pt}(hc:c∈S)(he:(c.1+1,c.2)∈S)(hw:(c.1-1,c.2)∈S)(hn:(c.1,c.2+1)∉S)(hs:(c.1,c.2-1)∉S)(k:b7 (rem S c) (c.1+1,c.2) (c.1-1,c.2)):False:=by
 obtain⟨l,w,e⟩:=k.walk
 have hnr:(c.1+1,c.2)∈rem S c:=aW.mpr ⟨he,fun z=>by have:=congrArg Prod.fst z;dsimp only at this;omega⟩
 have w1:HF S (c.1+1,c.2) l:=by
  clear e k
  have:∀ {a:Pt} {l:List Pt},HF (rem S c) a l->HF S a l:=by
   intro a l
   induction l generalizing a with
   |nil=>exact fun z=>z
   |cons b l ih=>exact fun z=>⟨z.1,(aW.mp z.2.1).1,ih z.2.2⟩
  exact this w
 obtain⟨w2,e2⟩:=lX w1 (n:=c) (by rw[e,iK];dsimp only;omega) hc
 have kk:Kg (endL (c.1+1,c.2) (l++[c])) (c.1+1,c.2):=by rw[e2];unfold Kg;dsimp only;omega
 have c1:=jo he w2 kk hn (s.esc _ hn)
 have c2:=jo he w2 kk hs (s.esc _ hs)
 have pp:=ju (S:=rem S c) (h:=hp (c.1,c.2+1)) (h':=hp (c.1,c.2-1)) (g:=fun _=>false) (U6 (fun _ _ _ _=>rfl) (fun x y ha hb=>by
  have n1:=pU (aW.mp ha).1 hn
  have n5:¬(x=c.1/\y=c.2):=fun z=>(aW.mp ha).2 (Prod.ext_iff.mpr z)
  have:decide (x=c.1/\c.2+1<y)=decide (x=c.1/\c.2-1<y):=decide_eq_decide.mpr (by dsimp only at n1;omega)
  dsimp only
  rw[this];simp)) hnr w
 have ps:∀(h:Pt->Pt->Bool) (a:Pt) (l:List Pt),par h a (l++[c])=(par h a l ^^ h (endL a l) c):=by
  intro h a l
  induction l generalizing a with
  |nil=>show (h a c ^^ false)=(false ^^ h a c);simp
  |cons b l ih=>show (h a b ^^ par h b (l++[c]))=((h a b ^^ par h b l) ^^ _);rw[ih,Bool.xor_assoc];rfl
 have f1:hp (c.1,c.2+1) (c.1-1,c.2) c=false:=by unfold hp;refine decide_eq_false ?_;dsimp only;omega
 have f2:hp (c.1,c.2+1) c (c.1+1,c.2)=false:=by unfold hp;refine decide_eq_false ?_;dsimp only;omega
 have f3:hp (c.1,c.2-1) (c.1-1,c.2) c=false:=by unfold hp;refine decide_eq_false ?_;dsimp only;omega
 have f4:hp (c.1,c.2-1) c (c.1+1,c.2)=true:=by unfold hp;refine decide_eq_true ?_;dsimp only;omega
 unfold cnt at c1 c2
 rw[e2,ps,e,f1,f2,Bool.xor_false,Bool.xor_false] at c1
 rw[e2,ps,e,f3,f4,Bool.xor_false] at c2
 rw[c1] at pp
 simp only[Bool.false_xor,Bool.xor_false] at pp
 rw[pp] at c2
 cases c2
end
section
variable{S T:List Pt}{c:Pt}
theorem Bs:∀ {S:List Pt},S≠[]->∃m∈S,∀q∈S,m.2<=q.2
 |[],h=>absurd rfl h
 |a::S,_=>by
  by_cases hS:S=[]
  ·subst hS;exact⟨a,List.mem_cons_self,fun q hq=>by rw[List.mem_singleton.mp hq];exact Int.le_refl _⟩
  ·obtain⟨m,hm,h⟩:=Bs hS
   by_cases g:a.2<=m.2
   ·refine⟨a,List.mem_cons_self,fun q hq=>?_⟩
    rcases List.mem_cons.mp hq with rfl | hq
    ·exact Int.le_refl _
    ·exact Int.le_trans g (h q hq)
   ·refine⟨m,List.mem_cons_of_mem _ hm,fun q hq=>?_⟩
    rcases List.mem_cons.mp hq with rfl | hq
    ·omega
    ·exact h q hq
theorem Pg(h:One S)(hc:c∉S)(h0:nb c 0∈S)(h1:nb c 1∈S)(h2:nb c 2∈S)(h3:nb c 3∈S):False:=by
 have all:∀j,j<4->nb c j∈S:=fun j hj=>by rcases c4 hj with rfl | rfl | rfl | rfl <;> assumption
 have clo:∀q,jG (RS S) (bN c 3) q->∃j,j<4/\q=bN c j:=by
  intro q hq
  induction hq with
  |refl=>exact⟨3,by omega,rfl⟩
  |@step q r _ s ih=>
   obtain⟨j,hj,rfl⟩:=ih
   obtain⟨d,e,rfl⟩:=s
   have hj':bD (bD (bD (bD j)))=j:=Wb hj
   obtain⟨d',hd',e1,e2,e3⟩:=NP (c:=c) (j:=bD (bD (bD j))) dq
   rw[hj'] at e1 e2 e3
   have:jU S (bN c j) d':=⟨hd',by rw[e1];exact all _ dq,by rw[e2];exact hc⟩
   have ed:=iM h.dg e this
   subst ed
   exact⟨_,dq,e3⟩
 obtain⟨m,hm,hl⟩:=Bs (List.ne_nil_of_mem h0)
 have em:jU S (m.1,m.2) 0:=⟨by omega,hm,fun z=>by have:=hl _ z;simp only[Uz] at this;omega⟩
 have c3:jH S (bN c 3):=by
  have:=mZ (S:=S) (p:=bN c (bD 2)) (Iw (c:=c) (j:=2) (by omega)) (Eh (c:=c) dq) h2 hc
  exact this
 obtain⟨j,hj,e⟩:=clo _ (h.all _ _ c3 ⟨0,em⟩)
 have e2:=congrArg Prod.snd e
 have l3:=hl _ h3
 rcases c4 hj with rfl | rfl | rfl | rfl <;> simp only[Wf,YB,XX,Wr,nb,RP] at e2 l3 <;> omega
theorem Qd(h:One S)(hT:∀x,x∈T↔x∈S\/x=c)(hc:c∉S)(alt1:¬(nb c 0∈S/\nb c 2∈S/\nb c 1∉S/\nb c 3∉S))(alt2:¬(nb c 1∈S/\nb c 3∈S/\nb c 0∉S/\nb c 2∉S))(dge:∀j,j<4->nb c j∉S->nb c (bD j)∉S->CQ c j∉S){i:Nat}(hi:i<4)(ha:nb c i∈S):One T:=by
 have cT:c∈T:=(hT c).mpr (.inr rfl)
 have same:∀q,q≠c->(q∈T↔q∈S):=fun q hq=>by rw[hT];exact⟨fun z=>z.resolve_right hq,.inl⟩
 have meet4:∀p,Meet p c->∃j,j<4/\p=bN c (bD j):=by
  intro p hp
  obtain⟨p1,p2⟩:=p
  rcases hp with e | e | e | e <;> subst e
  ·exact⟨2,by omega,by walk_at "pp"⟩
  ·exact⟨3,by omega,by walk_at "pp"⟩
  ·exact⟨0,by omega,by walk_at "pp"⟩
  ·exact⟨1,by omega,by walk_at "pp"⟩
 have nne:∀j,j<4->nb c j≠c:=by
  intro j hj e
  have e1:=congrArg Prod.fst e
  have e2:=congrArg Prod.snd e
  rcases c4 hj with rfl | rfl | rfl | rfl <;> simp only[nb,Y6,WM,YS,RP] at e1 e2 <;> omega
 have dne:∀j,j<4->CQ c j≠c:=by
  intro j hj e
  have e1:=congrArg Prod.fst e
  rcases c4 hj with rfl | rfl | rfl | rfl <;> simp only[Xa,Yp,Yt,Ze] at e1 <;> omega
 have dgT:Dg T:=by
  intro p
  by_cases hp:Meet p c
  ·obtain⟨j,hj,rfl⟩:=meet4 p hp
   have k:=dge j hj
   have n1:=same _ (nne j hj)
   have n2:=same _ (nne (bD j) dq)
   have n3:=same _ (dne j hj)
   rw[←n1,←n2,←n3] at k
   rcases c4 hj with rfl | rfl | rfl | rfl
   ·rw[show ((bN c (bD 0)).1,(bN c (bD 0)).2)=CQ c 0 from by walk_at "pp",show ((bN c (bD 0)).1-1,(bN c (bD 0)).2-1)=c from by walk_at "pp",show ((bN c (bD 0)).1-1,(bN c (bD 0)).2)=nb c (bD 0) from by walk_at "pp",show ((bN c (bD 0)).1,(bN c (bD 0)).2-1)=nb c 0 from by walk_at "pp"]
    exact⟨fun ⟨z1,_,z3,z4⟩=>k z4 z3 z1,fun ⟨_,_,_,z4⟩=>z4 cT⟩
   ·rw[show ((bN c (bD 1)).1,(bN c (bD 1)).2)=nb c 1 from by walk_at "pp",show ((bN c (bD 1)).1-1,(bN c (bD 1)).2-1)=nb c (bD 1) from by walk_at "pp",show ((bN c (bD 1)).1-1,(bN c (bD 1)).2)=CQ c 1 from by walk_at "pp",show ((bN c (bD 1)).1,(bN c (bD 1)).2-1)=c from by walk_at "pp"]
    exact⟨fun ⟨_,_,_,z4⟩=>z4 cT,fun ⟨z1,_,z3,z4⟩=>k z3 z4 z1⟩
   ·rw[show ((bN c (bD 2)).1,(bN c (bD 2)).2)=c from by walk_at "pp",show ((bN c (bD 2)).1-1,(bN c (bD 2)).2-1)=CQ c 2 from by walk_at "pp",show ((bN c (bD 2)).1-1,(bN c (bD 2)).2)=nb c 2 from by walk_at "pp",show ((bN c (bD 2)).1,(bN c (bD 2)).2-1)=nb c (bD 2) from by walk_at "pp"]
    exact⟨fun ⟨_,z2,z3,z4⟩=>k z3 z4 z2,fun ⟨_,_,z3,_⟩=>z3 cT⟩
   ·rw[show ((bN c (bD 3)).1,(bN c (bD 3)).2)=nb c (bD 3) from by walk_at "pp",show ((bN c (bD 3)).1-1,(bN c (bD 3)).2-1)=nb c 3 from by walk_at "pp",show ((bN c (bD 3)).1-1,(bN c (bD 3)).2)=c from by walk_at "pp",show ((bN c (bD 3)).1,(bN c (bD 3)).2-1)=CQ c 3 from by walk_at "pp"]
    exact⟨fun ⟨_,_,z3,_⟩=>z3 cT,fun ⟨_,z2,z3,z4⟩=>k z4 z3 z2⟩
  ·obtain⟨g1,g2⟩:=h.dg p
   have m:∀q,Meet p q->(q∈T↔q∈S):=fun q hq=>same q fun e=>hp (e▸hq)
   rw[m (p.1,p.2) (.inl rfl),m (p.1-1,p.2) (.inr (.inl rfl)),m (p.1-1,p.2-1) (.inr (.inr (.inl rfl))),m (p.1,p.2-1) (.inr (.inr (.inr rfl)))]
   exact⟨g1,g2⟩
 refine⟨dgT,?_⟩
 have nf:=Pg h hc
 have go:∀ja jb,ja<4->jb<4->nb c ja∈S->nb c (bD ja)∉S->nb c jb∉S->nb c (bD jb)∈S->(∀j,j<4->nb c j∈S->nb c (bD j)∉S->j=ja)->(∀j,j<4->nb c j∉S->nb c (bD j)∈S->j=jb)->∀p q,jH T p->jH T q->jG (RS T) p q :=
  fun ja jb hja hjb a1 a2 b1 b2 ua ub=>Nh h hT hc hja hjb a1 a2 b1 b2 ua ub
 by_cases z0:nb c 0∈S <;> by_cases z1:nb c 1∈S <;> by_cases z2:nb c 2∈S <;> by_cases z3:nb c 3∈S
 ·exact (nf z0 z1 z2 z3).elim
 ·exact go 2 3 (by omega) (by omega) z2 z3 z3 z0 (fun j hj y1 y2=>by rcases c4 hj with rfl | rfl | rfl | rfl <;> first | rfl | exact absurd y1 (by assumption) | exact absurd (by assumption) y2) (fun j hj y1 y2=>by rcases c4 hj with rfl | rfl | rfl | rfl <;> first | rfl | exact absurd (by assumption) y1 | exact absurd y2 (by assumption))
 ·exact go 1 2 (by omega) (by omega) z1 z2 z2 z3 (fun j hj y1 y2=>by rcases c4 hj with rfl | rfl | rfl | rfl <;> first | rfl | exact absurd y1 (by assumption) | exact absurd (by assumption) y2) (fun j hj y1 y2=>by rcases c4 hj with rfl | rfl | rfl | rfl <;> first | rfl | exact absurd (by assumption) y1 | exact absurd y2 (by assumption))
 ·exact go 1 3 (by omega) (by omega) z1 z2 z3 z0 (fun j hj y1 y2=>by rcases c4 hj with rfl | rfl | rfl | rfl <;> first | rfl | exact absurd y1 (by assumption) | exact absurd (by assumption) y2) (fun j hj y1 y2=>by rcases c4 hj with rfl | rfl | rfl | rfl <;> first | rfl | exact absurd (by assumption) y1 | exact absurd y2 (by assumption))
 ·exact go 0 1 (by omega) (by omega) z0 z1 z1 z2 (fun j hj y1 y2=>by rcases c4 hj with rfl | rfl | rfl | rfl <;> first | rfl | exact absurd y1 (by assumption) | exact absurd (by assumption) y2) (fun j hj y1 y2=>by rcases c4 hj with rfl | rfl | rfl | rfl <;> first | rfl | exact absurd (by assumption) y1 | exact absurd y2 (by assumption))
 ·exact (alt1 ⟨z0,z2,z1,z3⟩).elim
 ·exact go 0 2 (by omega) (by omega) z0 z1 z2 z3 (fun j hj y1 y2=>by rcases c4 hj with rfl | rfl | rfl | rfl <;> first | rfl | exact absurd y1 (by assumption) | exact absurd (by assumption) y2) (fun j hj y1 y2=>by rcases c4 hj with rfl | rfl | rfl | rfl <;> first | rfl | exact absurd (by assumption) y1 | exact absurd y2 (by assumption))
 ·exact go 0 3 (by omega) (by omega) z0 z1 z3 z0 (fun j hj y1 y2=>by rcases c4 hj with rfl | rfl | rfl | rfl <;> first | rfl | exact absurd y1 (by assumption) | exact absurd (by assumption) y2) (fun j hj y1 y2=>by rcases c4 hj with rfl | rfl | rfl | rfl <;> first | rfl | exact absurd (by assumption) y1 | exact absurd y2 (by assumption))
 ·exact go 3 0 (by omega) (by omega) z3 z0 z0 z1 (fun j hj y1 y2=>by rcases c4 hj with rfl | rfl | rfl | rfl <;> first | rfl | exact absurd y1 (by assumption) | exact absurd (by assumption) y2) (fun j hj y1 y2=>by rcases c4 hj with rfl | rfl | rfl | rfl <;> first | rfl | exact absurd (by assumption) y1 | exact absurd y2 (by assumption))
 ·exact go 2 0 (by omega) (by omega) z2 z3 z0 z1 (fun j hj y1 y2=>by rcases c4 hj with rfl | rfl | rfl | rfl <;> first | rfl | exact absurd y1 (by assumption) | exact absurd (by assumption) y2) (fun j hj y1 y2=>by rcases c4 hj with rfl | rfl | rfl | rfl <;> first | rfl | exact absurd (by assumption) y1 | exact absurd y2 (by assumption))
 ·exact (alt2 ⟨z1,z3,z0,z2⟩).elim
 ·exact go 1 0 (by omega) (by omega) z1 z2 z0 z1 (fun j hj y1 y2=>by rcases c4 hj with rfl | rfl | rfl | rfl <;> first | rfl | exact absurd y1 (by assumption) | exact absurd (by assumption) y2) (fun j hj y1 y2=>by rcases c4 hj with rfl | rfl | rfl | rfl <;> first | rfl | exact absurd (by assumption) y1 | exact absurd y2 (by assumption))
 ·exact go 3 1 (by omega) (by omega) z3 z0 z1 z2 (fun j hj y1 y2=>by rcases c4 hj with rfl | rfl | rfl | rfl <;> first | rfl | exact absurd y1 (by assumption) | exact absurd (by assumption) y2) (fun j hj y1 y2=>by rcases c4 hj with rfl | rfl | rfl | rfl <;> first | rfl | exact absurd (by assumption) y1 | exact absurd y2 (by assumption))
 ·exact go 2 1 (by omega) (by omega) z2 z3 z1 z2 (fun j hj y1 y2=>by rcases c4 hj with rfl | rfl | rfl | rfl <;> first | rfl | exact absurd y1 (by assumption) | exact absurd (by assumption) y2) (fun j hj y1 y2=>by rcases c4 hj with rfl | rfl | rfl | rfl <;> first | rfl | exact absurd (by assumption) y1 | exact absurd y2 (by assumption))
 ·exact go 3 2 (by omega) (by omega) z3 z0 z2 z3 (fun j hj y1 y2=>by rcases c4 hj with rfl | rfl | rfl | rfl <;> first | rfl | exact absurd y1 (by assumption) | exact absurd (by assumption) y2) (fun j hj y1 y2=>by rcases c4 hj with rfl | rfl | rfl | rfl <;> first | rfl | exact absurd (by assumption) y1 | exact absurd y2 (by assumption))
 ·exfalso
  rcases c4 hi with rfl | rfl | rfl | rfl <;> contradiction
end
section
variable{S T:List Pt}
theorem b7.into{P:Pt->Prop}{a b:Pt}(h:b7 S a b)(ha:a∈S)(pa:P a)(cl:∀x n,x∈S->P x->n∈bB x->n∈S->P n)(hs:∀x∈S,P x->x∈T):b7 T a b/\P b:=by
 induction h with
 |refl=>exact⟨.refl,pa⟩
 |step k h h' ih=>exact⟨.step ih.1 h (hs _ h' (cl _ _ (k.mem ha) ih.2 h h')),cl _ _ (k.mem ha) ih.2 h h'⟩
theorem b7.hit{a c:Pt}(h:b7 S a c)(ha:a∈S)(hac:a≠c):∃w,w∈bB c/\w∈rem S c/\b7 (rem S c) a w:=by
 have har:a∈rem S c:=aW.mpr ⟨ha,hac⟩
 have:∀b,b7 S a b->(b7 (rem S c) a b/\b≠c)\/∃w,w∈bB c/\w∈rem S c/\b7 (rem S c) a w:=by
  intro b hb
  induction hb with
  |refl=>exact .inl ⟨.refl,hac⟩
  |step _ k k' ih=>
   rename_i b n _
   rcases ih with ⟨i1,i2⟩ | ih
   ·by_cases e:n=c
    ·exact .inr ⟨b,by rw[←e];exact GP k,i1.mem har,i1⟩
    ·exact .inl ⟨.step i1 k (aW.mpr ⟨k',e⟩),e⟩
   ·exact .inr ih
 rcases this c h with ⟨_,z⟩ | z
 ·exact absurd rfl z
 ·exact z
theorem Ci:∀ {S:List Pt},S≠[]->∃m∈S,∀q∈S,q.2<m.2\/(q.2=m.2/\m.1<=q.1)
 |[a],_=>⟨a,by simp,fun q hq=>by rw[List.mem_singleton.mp hq];omega⟩
 |a::b::l,_=>by
  obtain⟨m,hm,h⟩:=Ci (S:=b::l) (by simp)
  by_cases z:a.2<m.2\/(a.2=m.2/\m.1<=a.1)
  ·refine⟨m,List.mem_cons_of_mem _ hm,fun q hq=>?_⟩
   rcases List.mem_cons.mp hq with rfl | hq
   ·exact z
   ·exact h q hq
  ·refine⟨a,List.mem_cons_self,fun q hq=>?_⟩
   rcases List.mem_cons.mp hq with rfl | hq
   ·omega
   ·have:=h q hq;omega
theorem yj:∀ {S:List Pt},S≠[]->∃m∈S,∀q∈S,m.2<q.2\/(q.2=m.2/\q.1<=m.1)
 |[a],_=>⟨a,by simp,fun q hq=>by rw[List.mem_singleton.mp hq];omega⟩
 |a::b::l,_=>by
  obtain⟨m,hm,h⟩:=yj (S:=b::l) (by simp)
  by_cases z:m.2<a.2\/(a.2=m.2/\a.1<=m.1)
  ·refine⟨m,List.mem_cons_of_mem _ hm,fun q hq=>?_⟩
   rcases List.mem_cons.mp hq with rfl | hq
   ·exact z
   ·exact h q hq
  ·refine⟨a,List.mem_cons_self,fun q hq=>?_⟩
   rcases List.mem_cons.mp hq with rfl | hq
   ·omega
   ·have:=h q hq;omega
theorem aa2{r:Pt}(hr:r∈S)(hq:∃q∈S,q≠r):∃c∈S,c≠r/\∃e∈bB c,e∉S:=by
 have hne:S≠[]:=List.ne_nil_of_mem hr
 obtain⟨t,ht,h1⟩:=Ci hne
 obtain⟨b,hb,h2⟩:=yj hne
 by_cases e:t=r
 ·have eb:b≠r:=fun z=>by
   obtain⟨q,hq,hn⟩:=hq
   have a1:=h1 q hq
   have a2:=h2 q hq
   rw[e] at a1
   rw[z] at a2
   exact hn (Prod.ext (by omega) (by omega))
  exact⟨b,hb,eb,(b.1+1,b.2),by rw[iK];dsimp only;omega,fun z=>by have:=h2 _ z;dsimp only at this;omega⟩
 ·exact⟨t,ht,e,(t.1-1,t.2),by rw[iK];dsimp only;omega,fun z=>by have:=h1 _ z;dsimp only at this;omega⟩
theorem HX:∀(n:Nat) {S:List Pt} {r:Pt},S.length<=n->(∀a∈S,∀b∈S,b7 S a b)->r∈S->(∃q∈S,q≠r)->∃c∈S,c≠r/\(∀a∈rem S c,∀b∈rem S c,b7 (rem S c) a b)/\∃e∈bB c,e∉S
 |0,S,r,hn,_,hr,_=>by
  have:S=[]:=List.eq_nil_of_length_eq_zero (by omega)
  rw[this] at hr;cases hr
 |n+1,S,r,hn,con,hr,hq=>by
  obtain⟨c0,hc0,hcr,e,he,heS⟩:=aa2 hr hq
  by_cases all:∀a∈rem S c0,∀b∈rem S c0,b7 (rem S c0) a b
  ·exact⟨c0,hc0,hcr,all,e,he,heS⟩
  have hrr:r∈rem S c0:=aW.mpr ⟨hr,fun z=>hcr z.symm⟩
  have ex:∃q∈rem S c0,¬b7 (rem S c0) r q:=by
   refine Classical.byContradiction fun z=>all fun a ha b hb=>?_
   have k:∀q∈rem S c0,b7 (rem S c0) r q:=fun q hq=>Classical.byContradiction fun y=>z ⟨q,hq,y⟩
   exact ((k a ha).symm hrr).trans (k b hb)
  obtain⟨q,hq1,hq2⟩:=ex
  have dec:∃A:List Pt,(∀x,x∈A↔x∈S/\(x=c0\/¬b7 (rem S c0) r x))/\A.length<S.length:=by
   refine⟨S.filter fun x=>@decide (x=c0\/¬b7 (rem S c0) r x) (Classical.propDecidable _),fun x=>?_,?_⟩
   ·rw[List.mem_filter,@decide_eq_true_iff _ (Classical.propDecidable _)]
   ·refine List.length_filter_lt_length_iff_exists.mpr ⟨r,hr,?_⟩
    rw[@decide_eq_true_iff _ (Classical.propDecidable _)]
    rintro (z | z)
    ·exact hcr z.symm
    ·exact z .refl
  obtain⟨A,hA,hAl⟩:=dec
  have hcA:c0∈A:=(hA c0).mpr ⟨hc0,.inl rfl⟩
  have toC:∀a∈A,b7 A a c0:=fun a ha=>by
   obtain⟨haS,haa⟩:=(hA a).mp ha
   by_cases z:a=c0
   ·subst z;exact .refl
   have haa:=haa.resolve_left z
   obtain⟨w,w1,w2,w3⟩:=(con a haS c0 hc0).hit haS z
   have k:=w3.into (T:=A) (P:=fun x=>¬b7 (rem S c0) r x) (aW.mpr ⟨haS,z⟩) haa (fun x m hxm hx hm hmr y=>hx (.step y (GP hm) hxm)) (fun x hx px=>(hA x).mpr ⟨(aW.mp hx).1,.inr px⟩)
   exact .step k.1 (GP w1) hcA
  obtain⟨c,hcA',hcc,hcon,e',he',heA⟩:=HX n (S:=A) (r:=c0) (by omega) (fun a ha b hb=>(toC a ha).trans ((toC b hb).symm hb)) hcA ⟨q,(hA q).mpr ⟨(aW.mp hq1).1,.inr hq2⟩,(aW.mp hq1).2⟩
  obtain⟨hcS,hcn⟩:=(hA c).mp hcA'
  have hcn:=hcn.resolve_left hcc
  have hcR:c∈rem S c0:=aW.mpr ⟨hcS,hcc⟩
  refine⟨c,hcS,fun z=>hcn (by rw[z];exact .refl),?_,e',he',fun z=>heA ((hA e').mpr ⟨z,.inr fun y=>?_⟩)⟩
  ·have h0:c0∈rem S c:=aW.mpr ⟨hc0,fun z=>hcc z.symm⟩
   have to0:∀a∈rem S c,b7 (rem S c) a c0:=fun a ha=>by
    obtain⟨haS,hac⟩:=aW.mp ha
    by_cases z:a∈A
    ·exact (hcon a (aW.mpr ⟨z,hac⟩) c0 (aW.mpr ⟨hcA,fun z=>hcc z.symm⟩)).mono fun x hx=>aW.mpr ⟨((hA x).mp (aW.mp hx).1).1,(aW.mp hx).2⟩
    ·have ha0:a≠c0:=fun y=>z (by rw[y];exact hcA)
     have hra:b7 (rem S c0) r a:=Classical.byContradiction fun y=>z ((hA a).mpr ⟨haS,.inr y⟩)
     obtain⟨w,w1,w2,w3⟩:=(con a haS c0 hc0).hit haS ha0
     have k:=w3.into (T:=rem S c) (P:=fun x=>b7 (rem S c0) r x) (aW.mpr ⟨haS,ha0⟩) hra (fun x m _ hx hm hmr=>.step hx hm hmr) (fun x hx px=>aW.mpr ⟨(aW.mp hx).1,fun y=>hcn (by rw[←y];exact px)⟩)
     exact .step k.1 (GP w1) h0
   exact fun a ha b hb=>(to0 a ha).trans ((to0 b hb).symm hb)
  ·refine hcn (.step y (GP he') hcR)
theorem xM{c:Pt}{w:Pt}(h:w∈bB c):∃i,i<4/\nb c i=w:=by
 rw[Qz] at h
 rcases h with rfl | rfl | rfl | rfl
 ·exact⟨0,by omega,Prod.ext rfl (by show c.2+0=c.2;omega)⟩
 ·exact⟨1,by omega,Prod.ext (by show c.1+0=c.1;omega) rfl⟩
 ·exact⟨2,by omega,Prod.ext rfl (by show c.2+0=c.2;omega)⟩
 ·exact⟨3,by omega,Prod.ext (by show c.1+0=c.1;omega) rfl⟩
theorem nbs(c:Pt):nb c 0=(c.1+1,c.2)/\nb c 1=(c.1,c.2+1)/\nb c 2=(c.1-1,c.2)/\nb c 3=(c.1,c.2-1) :=
 ⟨Prod.ext rfl (by show c.2+0=c.2;omega),Prod.ext (by show c.1+0=c.1;omega) rfl,Prod.ext rfl (by show c.2+0=c.2;omega),Prod.ext (by show c.1+0=c.1;omega) rfl⟩
theorem Sc.round(s:Sc S){c:Pt}(hc:c∈S)(con:∀a∈rem S c,∀b∈rem S c,b7 (rem S c) a b) :
  ¬(nb c 0∈rem S c/\nb c 2∈rem S c/\nb c 1∉rem S c/\nb c 3∉rem S c)/\¬(nb c 1∈rem S c/\nb c 3∈rem S c/\nb c 0∉rem S c/\nb c 2∉rem S c)/\∀j,j<4->nb c j∉rem S c->nb c (bD j)∉rem S c->CQ c j∉rem S c:=by
 have dg:=s.dg
 obtain⟨n0,n1,n2,n3⟩:=nbs c
 have q0:(c.1+1,c.2)≠c:=fun z=>by have:=congrArg Prod.fst z;dsimp only at this;omega
 have q1:(c.1,c.2+1)≠c:=fun z=>by have:=congrArg Prod.snd z;dsimp only at this;omega
 have q2:(c.1-1,c.2)≠c:=fun z=>by have:=congrArg Prod.fst z;dsimp only at this;omega
 have q3:(c.1,c.2-1)≠c:=fun z=>by have:=congrArg Prod.snd z;dsimp only at this;omega
 have off:∀ {q:Pt},q≠c->q∉rem S c->q∉S:=fun hq h z=>h (aW.mpr ⟨z,hq⟩)
 rw[n0,n1,n2,n3]
 refine⟨fun ⟨a,b,d,e⟩=>s.ns hc (aW.mp a).1 (aW.mp b).1 (off q1 d) (off q3 e) (con _ a _ b),fun ⟨a,b,d,e⟩=>s.we hc (aW.mp a).1 (aW.mp b).1 (off q0 d) (off q2 e) (con _ a _ b),fun j hj a b z=>?_⟩
 have z:=(aW.mp z).1
 rcases c4 hj with rfl | rfl | rfl | rfl <;> simp only[ZL,aav,aa8,aaV] at b
 ·rw[n0] at a;rw[n1] at b;rw[Xa] at z
  refine (dg (c.1+1,c.2+1)).1 ⟨z,?_,?_,?_⟩ <;> dsimp only <;> try simp only[Int.add_sub_cancel]
  ·exact hc
  ·exact off q1 b
  ·exact off q0 a
 ·rw[n1] at a;rw[n2] at b;rw[Yp] at z
  refine (dg (c.1,c.2+1)).2 ⟨z,?_,?_,?_⟩ <;> dsimp only <;> try simp only[Int.add_sub_cancel]
  ·exact hc
  ·exact off q1 a
  ·exact off q2 b
 ·rw[n2] at a;rw[n3] at b;rw[Yt] at z
  exact (dg (c.1,c.2)).1 ⟨hc,z,off q2 a,off q3 b⟩
 ·rw[n3] at a;rw[n0] at b;rw[Ze] at z
  refine (dg (c.1+1,c.2)).2 ⟨?_,z,off q0 b,?_⟩ <;> dsimp only <;> try simp only[Int.add_sub_cancel]
  ·exact hc
  ·exact off q3 a
theorem Sc.one:∀(n:Nat) {S:List Pt},S.length<=n->S≠[]->Sc S->One S
 |0,S,hn,h0,_=>absurd (List.eq_nil_of_length_eq_zero (by omega)) h0
 |n+1,S,hn,h0,s=>by
  obtain⟨r,hr⟩:=List.exists_mem_of_ne_nil _ h0
  by_cases hq:∃q∈S,q≠r
  ·obtain⟨c,hc,hcr,con,e,he,heS⟩:=HX S.length (Nat.le_refl _) s.con hr hq
   have hlt:(rem S c).length<S.length:=List.length_filter_lt_length_iff_exists.mpr ⟨c,hc,by rw[decide_eq_true_iff];exact fun z=>z rfl⟩
   have sub:∀x,x∈rem S c->x∈S:=fun x hx=>(aW.mp hx).1
   have esc:∀a,a∉S->Esc (rem S c) a:=fun a ha=>by
    obtain⟨b,w,hb⟩:=s.esc a ha
    exact⟨b,w.congr sub,fun x hx=>hb x (sub x hx)⟩
   have sT:Sc (rem S c):=⟨con,fun a ha=>by
    by_cases z:a=c
    ·subst z
     obtain⟨b,w,hb⟩:=esc e heS
     exact⟨b,Way.trans (.step .refl he fun y=>heS (sub _ y)) w,hb⟩
    ·exact esc a fun y=>ha (aW.mpr ⟨y,z⟩)⟩
   have hrT:r∈rem S c:=aW.mpr ⟨hr,fun z=>hcr z.symm⟩
   obtain⟨w,w1,w2,_⟩:=(s.con r hr c hc).hit hr fun z=>hcr z.symm
   obtain⟨i,hi,ew⟩:=xM w1
   obtain⟨k1,k2,k3⟩:=s.round hc con
   refine Qd (S:=rem S c) (T:=S) (c:=c) (Sc.one n (by omega) (List.ne_nil_of_mem hrT) sT) (fun x=>?_) (fun z=>(aW.mp z).2 rfl) k1 k2 k3 hi (by rw[ew];exact w2)
   rw[aW]
   constructor
   ·intro h
    by_cases z:x=c
    ·exact .inr z
    ·exact .inl ⟨h,z⟩
   ·rintro (h | h)
    ·exact h.1
    ·rw[h];exact hc
  ·have e1:=S9.mv r
   refine e1.congr fun x=>?_
   simp only[List.map_cons,List.map_nil,List.mem_singleton]
   rw[show ((0:Int)+r.1,(0:Int)+r.2)=r from Prod.ext (by dsimp only;omega) (by dsimp only;omega)]
   constructor
   ·intro h;rw[h];exact hr
   ·intro h;exact Classical.byContradiction fun z=>hq ⟨x,h,z⟩
end
def ltN(d:Nat):Lt:=match d with
 |0=>0
 |1=>1
 |2=>2
 |_=>3
theorem uw{d:Nat}(h:d<4):step (ltN d)=stp d:=by
 rcases c4 h with rfl | rfl | rfl | rfl <;> rfl
def mY(c:Pt)(d:Nat):Pt:=match d with
 |0=>(c.1,c.2)
 |1=>(c.1+1,c.2)
 |2=>(c.1+1,c.2+1)
 |_=>(c.1,c.2+1)
def um(c:Pt)(d:Nat):Pt:=match d with
 |0=>(c.1,c.2-1)
 |1=>(c.1+1,c.2)
 |2=>(c.1,c.2+1)
 |_=>(c.1-1,c.2)
theorem Tp{c:Pt}{d:Nat}(h:d<4):rD (mY c d) d=c:=by
 rcases c4 h with rfl | rfl | rfl | rfl
 ·rfl
 ·exact Prod.ext (by show c.1+1-1=c.1;omega) rfl
 ·exact Prod.ext (by show c.1+1-1=c.1;omega) (by show c.2+1-1=c.2;omega)
 ·exact Prod.ext rfl (by show c.2+1-1=c.2;omega)
theorem JR{c:Pt}{d:Nat}(h:d<4):oJ (mY c d) d=um c d:=by
 rcases c4 h with rfl | rfl | rfl | rfl
 ·rfl
 ·rfl
 ·exact Prod.ext (by show c.1+1-1=c.1;omega) rfl
 ·exact Prod.ext rfl (by show c.2+1-1=c.2;omega)
theorem sJ{p:Pt}{d:Nat}(h:d<4):p=mY (rD p d) d:=by
 rcases c4 h with rfl | rfl | rfl | rfl
 ·rfl
 ·exact Prod.ext (by show p.1=p.1-1+1;omega) rfl
 ·exact Prod.ext (by show p.1=p.1-1+1;omega) (by show p.2=p.2-1+1;omega)
 ·exact Prod.ext rfl (by show p.2=p.2-1+1;omega)
structure Lb(S:List Pt)(val:Pt->Nat->D)(i k:Nat)(kvs:List (Pt×D)):Prop where
 nd:(kvs.map (·.1)).Nodup
 sub:∀q∈kvs.map (·.1),jH S q
 has:∀(j d:Nat) (c:Pt),S[j]?=some c->d<4->(j<i\/(j=i/\d<k))->um c d∉S->mY c d∈kvs.map (·.1)
 look:∀q∈kvs.map (·.1),iY kvs q=some (val q (outD S q))
 len:kvs.length<=4*i+k
section
variable{S:List Pt}{val:Pt->Nat->D}{i k:Nat}{kvs:List (Pt×D)}{c:Pt}
theorem Lb.nil:Lb S val 0 0 []:=⟨by simp,by simp,fun j d c _ _ h=>by omega,by simp,by simp⟩
theorem Lb.skip(h:Lb S val i k kvs)(hc:S[i]?=some c)(hin:um c k∈S):Lb S val i (k+1) kvs :=
 ⟨h.nd,h.sub,fun j d c' hj hd hjk ho=>by
  by_cases e:j=i/\d=k
  ·obtain⟨rfl,rfl⟩:=e
   rw[hc] at hj;cases hj
   exact absurd hin ho
  ·exact h.has j d c' hj hd (hjk.imp_right fun ⟨a,b⟩=>⟨a,Nat.lt_of_le_of_ne (Nat.lt_succ_iff.mp b) fun z=>e ⟨a,z⟩⟩) ho,h.look,Nat.le_succ_of_le h.len⟩
theorem Lb.put(g:Dg S)(h:Lb S val i k kvs)(hc:S[i]?=some c)(hk:k<4)(hin:um c k∉S):Lb S val i (k+1) (vC kvs (mY c k) (val (mY c k) k)):=by
 have hcS:c∈S:=List.mem_of_getElem? hc
 have ed:jU S (mY c k) k:=⟨hk,by rw[Tp hk];exact hcS,by rw[JR hk];exact hin⟩
 have eo:outD S (mY c k)=k:=iM g (eG ⟨k,ed⟩) ed
 refine⟨FZ h.nd,fun q hq=>?_,fun j d c' hj hd hjk ho=>?_,fun q hq=>?_,?_⟩
 ·rcases oZ.mp hq with hq | rfl
  ·exact h.sub q hq
  ·exact⟨k,ed⟩
 ·by_cases e:j=i/\d=k
  ·obtain⟨rfl,rfl⟩:=e
   rw[hc] at hj;cases hj
   exact oZ.mpr (.inr rfl)
  ·exact oZ.mpr (.inl (h.has j d c' hj hd (hjk.imp_right fun ⟨a,b⟩=>⟨a,Nat.lt_of_le_of_ne (Nat.lt_succ_iff.mp b) fun z=>e ⟨a,z⟩⟩) ho))
 ·rw[Lf]
  by_cases e:q=mY c k
  ·subst e;rw[if_pos rfl,eo]
  ·rw[if_neg e]
   exact h.look q ((oZ.mp hq).resolve_right e)
 ·have hl:=h.len
  unfold vC
  split
  ·rw[List.length_map];omega
  ·rw[List.length_append,List.length_singleton];omega
theorem Lb.next(h:Lb S val i 4 kvs):Lb S val (i+1) 0 kvs :=
 ⟨h.nd,h.sub,fun j d c hj hd hjk ho=>h.has j d c hj hd (by omega) ho,h.look,by have:=h.len;omega⟩
theorem Lb.all(h:Lb S val S.length 0 kvs)(q:Pt):q∈kvs.map (·.1)↔jH S q:=by
 refine⟨h.sub q,fun ⟨d,e⟩=>?_⟩
 obtain⟨j,hj⟩:=List.mem_iff_getElem?.mp e.l
 have:=h.has j d _ hj e.lt (.inl (List.getElem?_eq_some_iff.mp hj).1) (by rw[←JR e.lt,←sJ e.lt];exact e.r)
 rw[←sJ e.lt] at this
 exact this
theorem Lb.at(h:Lb S val S.length 0 kvs){q:Pt}(hq:jH S q):iY kvs q=some (val q (outD S q)):=h.look q ((h.all q).mpr hq)
end
theorem Nj{S:List Pt}{s:Pt}(h:S[0]?=some s):nA (S.map bQ) 0=some (.tup [.int s.1,.int s.2]):=by
 have:=(List.getElem?_eq_some_iff.mp h).1
 unfold nA RC
 rw[List.length_map,if_pos (by omega),if_pos (by omega),Option.bind_some,List.getElem?_map]
 show (S[0]?).map bQ=_
 rw[h];rfl
theorem jx{S:List Pt}{p:Pt}:outD S p<4:=by unfold outD;repeat (first | omega | split)
def wd(S:List Pt)(p:Pt)(t:Nat):List Lt:=(List.range t).map fun i=>ltN (outD S (aX S p i))
theorem lB(S:List Pt)(p:Pt)(t:Nat):(wd S p t).length=t:=by unfold wd;rw[List.length_map,List.length_range]
theorem ph(S:List Pt)(p:Pt)(t:Nat):wd S p (t+1)=wd S p t++[ltN (outD S (aX S p t))]:=by unfold wd;rw[List.range_succ,List.map_append];rfl
theorem RT(S:List Pt)(p:Pt){t i:Nat}(h:i<=t):(wd S p t).take i=wd S p i:=by unfold wd;rw[←List.map_take,List.take_range,Nat.min_eq_left h]
theorem tR(S:List Pt)(p:Pt):∀t,fX p (wd S p t)=aX S p t
 |0=>rfl
 |t+1=>by
  rw[ph,xN,tR S p t,uw jx]
  exact Prod.ext rfl rfl
def J4(S cs:List Pt):Nat:=(cs.map fun c=>((bB c).filter fun q=>!decide (q∈S)).length).sum
theorem Rm(c:Pt):((List.range 4).map (um c)).Perm (bB c):=by
 show [(c.1,c.2-1),(c.1+1,c.2),(c.1,c.2+1),(c.1-1,c.2)].Perm [(c.1+1,c.2),(c.1,c.2+1),(c.1-1,c.2),(c.1,c.2-1)]
 exact List.perm_append_comm (l₁:=[(c.1,c.2-1)]) (l₂:=[(c.1+1,c.2),(c.1,c.2+1),(c.1-1,c.2)])
def j4(S cs:List Pt):List Pt:=(cs.map fun c=>((List.range 4).filter fun d=>!decide (um c d∈S)).map (mY c)).flatten
theorem QH(S:List Pt)(cs:List Pt):(j4 S cs).length=J4 S cs:=by
 unfold j4 J4
 rw[List.length_flatten,List.map_map]
 congr 1
 refine List.map_congr_left fun c _=>?_
 show (((List.range 4).filter fun d=>!decide (um c d∈S)).map (mY c)).length=_
 rw[List.length_map,←((Rm c).filter _).length_eq,List.filter_map,List.length_map]
 rfl
theorem oX{S cs:List Pt}{q:Pt}:q∈j4 S cs↔∃c∈cs,∃d,d<4/\um c d∉S/\q=mY c d:=by
 unfold j4
 simp only[List.mem_flatten,List.mem_map,List.mem_filter,List.mem_range,Bool.not_eq_true',decide_eq_false_iff_not]
 constructor
 ·rintro⟨_,⟨c,hc,rfl⟩,h⟩
  obtain⟨d,hd,rfl⟩:=List.mem_map.mp h
  have:=List.mem_filter.mp hd
  exact⟨c,hc,d,List.mem_range.mp this.1,by simpa using this.2,rfl⟩
 ·rintro⟨c,hc,d,h1,h2,rfl⟩
  exact⟨_,⟨c,hc,rfl⟩,List.mem_map.mpr ⟨d,List.mem_filter.mpr ⟨List.mem_range.mpr h1,by simpa using h2⟩,rfl⟩⟩
theorem gF{S:List Pt}{c:Pt}{d:Nat}(hc:c∈S)(hd:d<4)(ho:um c d∉S):jU S (mY c d) d:=⟨hd,by rw[Tp hd];exact hc,by rw[JR hd];exact ho⟩
theorem tM{S:List Pt}(g:Dg S):∀ {cs:List Pt},cs.Nodup->(∀c∈cs,c∈S)->(j4 S cs).Nodup
 |[],_,_=>by simp[j4]
 |c::cs,nd,sub=>by
  have h1:=List.nodup_cons.mp nd
  have e:j4 S (c::cs)=((List.range 4).filter fun d=>!decide (um c d∈S)).map (mY c)++j4 S cs:=by simp[j4]
  have hc:=sub c (by simp)
  rw[e,List.nodup_append]
  refine⟨?_,tM g h1.2 fun x hx=>sub x (by simp[hx]),fun a ha b hb z=>?_⟩
  ·rw[List.nodup_iff_pairwise_ne,List.pairwise_map]
   refine List.Pairwise.imp_of_mem (fun {a b} ha hb hne z=>?_) (List.nodup_iff_pairwise_ne.mp (List.nodup_range.filter _))
   have ka:=List.mem_filter.mp ha
   have kb:=List.mem_filter.mp hb
   have ea:=gF hc (List.mem_range.mp ka.1) (by simpa using ka.2)
   have eb:=gF hc (List.mem_range.mp kb.1) (by simpa using kb.2)
   rw[←z] at eb
   exact hne (iM g ea eb)
  ·subst z
   obtain⟨d,hd,rfl⟩:=List.mem_map.mp ha
   have kd:=List.mem_filter.mp hd
   obtain⟨c',hc',d',h1',h2',e'⟩:=oX.mp hb
   have ea:=gF hc (List.mem_range.mp kd.1) (by simpa using kd.2)
   have eb:=gF (sub c' (by simp[hc'])) h1' h2'
   have e2:=e'
   rw[←e'] at eb
   have ed:=iM g ea eb
   subst ed
   have:c=c':=by rw[←Tp (c:=c) ea.lt,e',Tp ea.lt]
   exact h1.1 (this▸hc')
theorem yJ{S:List Pt}{s0:Pt}{t:Nat}(g:Dg S)(nd:S.Nodup)(hcr:jH S s0)(r:oG S s0 t):J4 S S=t:=by
 rw[←QH]
 refine r.len hcr (tM g nd fun _ h=>h) fun q=>?_
 rw[oX]
 constructor
 ·rintro⟨c,hc,d,h1,h2,rfl⟩;exact⟨d,gF hc h1 h2⟩
 ·rintro⟨d,e⟩
  exact⟨_,e.l,d,e.lt,by rw[←JR e.lt,←sJ e.lt];exact e.r,sJ e.lt⟩
def ar(c:Pt):List Lt->Int
 |[]=>0
 |l::ls=>c.1*(step l).2+ar (JK (step l) c) ls
theorem XD(c:Pt)(as bs:List Lt):ar c (as++bs)=ar c as+ar (fX c as) bs:=by
 induction as generalizing c with
 |nil=>show ar c bs=0+ar c bs;omega
 |cons l as ih=>
  show c.1*(step l).2+ar (JK (step l) c) (as++bs)=c.1*(step l).2+ar (JK (step l) c) as+ar (fX (JK (step l) c) as) bs
  rw[ih];omega
theorem Uc(c:Pt)(ls:List Lt)(l:Lt):ar c (ls++[l])=ar c ls+(fX c ls).1*(step l).2:=by
 rw[XD]
 show _+((fX c ls).1*(step l).2+0)=_
 omega
def rgI(a b:Int):List Int:=(List.range (b-a).toNat).map fun i:Nat=>a+(i:Int)
def fill:List Int->List Int
 |a::b::r=>rgI a b++fill r
 |_=>[]
theorem Tq{as bs:List Int}(h:as.Perm bs):as.sum=bs.sum:=by
 induction h with
 |nil=>rfl
 |cons x _ ih=>rw[List.sum_cons,List.sum_cons,ih]
 |swap x y l=>rw[List.sum_cons,List.sum_cons,List.sum_cons,List.sum_cons];omega
 |trans _ _ i1 i2=>exact i1.trans i2
theorem iz{α:Type}(p:α->Bool)(g:α->Int):∀l:List α,((l.filter p).map g).sum=(l.map fun c=>if p c=true then g c else 0).sum
 |[]=>rfl
 |c::l=>by
  have ih:=iz p g l
  rw[List.map_cons,List.sum_cons,←ih]
  by_cases h:p c=true
  ·rw[List.filter_cons_of_pos h,List.map_cons,List.sum_cons,if_pos h]
  ·rw[List.filter_cons_of_neg h,if_neg h];omega
theorem sum_add{α:Type}(f g:α->Int):∀l:List α,(l.map fun c=>f c+g c).sum=(l.map f).sum+(l.map g).sum
 |[]=>rfl
 |c::l=>by rw[List.map_cons,List.map_cons,List.map_cons,List.sum_cons,List.sum_cons,List.sum_cons,sum_add f g l];omega
section
variable{S:List Pt}
theorem Q6(nd:S.Nodup):(S.map fun c=>if decide ((c.1+1,c.2)∈S)=true then c.1+1 else 0).sum=(S.map fun c=>if decide ((c.1-1,c.2)∈S)=true then c.1 else 0).sum:=by
 rw[←iz (fun c:Pt=>decide ((c.1+1,c.2)∈S)) (fun c=>c.1+1),←iz (fun c:Pt=>decide ((c.1-1,c.2)∈S)) (fun c=>c.1)]
 have hp:((S.filter fun c=>decide ((c.1+1,c.2)∈S)).map fun c=>(c.1+1,c.2)).Perm (S.filter fun c=>decide ((c.1-1,c.2)∈S)):=by
  refine (List.perm_ext_iff_of_nodup ?_ (nd.filter _)).mpr fun q=>?_
  ·rw[List.nodup_iff_pairwise_ne,List.pairwise_map]
   refine (List.nodup_iff_pairwise_ne.mp (nd.filter _)).imp fun {a b} hne z=>hne ?_
   have z1:a.1+1=b.1+1:=(Prod.mk.inj z).1
   exact Prod.ext (by omega) (Prod.mk.inj z).2
  ·rw[List.mem_map,List.mem_filter,decide_eq_true_iff]
   constructor
   ·rintro⟨c,hc,rfl⟩
    have:=List.mem_filter.mp hc
    refine⟨by simpa using this.2,?_⟩
    show (c.1+1-1,c.2)∈S
    rw[Int.add_sub_cancel];exact this.1
   ·rintro⟨h1,h2⟩
    refine⟨(q.1-1,q.2),List.mem_filter.mpr ⟨h2,?_⟩,Prod.ext (by show q.1-1+1=q.1;omega) rfl⟩
    rw[decide_eq_true_iff]
    show (q.1-1+1,q.2)∈S
    rw[Int.sub_add_cancel];exact h1
 have:=Tq (hp.map Prod.fst)
 rw[List.map_map] at this
 exact this
def gq(S:List Pt)(q:Pt):Int:=q.1*(stp (outD S q)).2
theorem Pj(q:Pt):∀n,ar q (wd S q n)=((List.range n).map fun i=>gq S (aX S q i)).sum
 |0=>rfl
 |n+1=>by
  rw[ph,Uc,Pj q n,tR,List.range_succ,List.map_append,List.sum_append,uw jx]
  simp[gq]
theorem Np(g:Dg S){c:Pt}(hc:c∈S):((((List.range 4).filter fun d=>!decide (um c d∈S)).map (mY c)).map (gq S)).sum=(if decide ((c.1+1,c.2)∈S)=true then 0 else c.1+1)+(if decide ((c.1-1,c.2)∈S)=true then 0 else -c.1):=by
 rw[List.map_map]
 have e:(((List.range 4).filter fun d=>!decide (um c d∈S)).map (gq S∘mY c))=(((List.range 4).filter fun d=>!decide (um c d∈S)).map fun d=>(mY c d).1*(stp d).2):=by
  refine List.map_congr_left fun d hd=>?_
  have k:=List.mem_filter.mp hd
  have ed:=gF hc (List.mem_range.mp k.1) (by simpa using k.2)
  show (mY c d).1*(stp (outD S (mY c d))).2=_
  rw[iM g (eG ⟨d,ed⟩) ed]
 rw[e,iz (fun d=>!decide (um c d∈S)) (fun d=>(mY c d).1*(stp d).2)]
 show (if (!decide (um c 0∈S))=true then (c.1*0:Int) else 0)+((if (!decide ((c.1+1,c.2)∈S))=true then ((c.1+1)*1:Int) else 0)+((if (!decide (um c 2∈S))=true then ((c.1+1)*0:Int) else 0)+((if (!decide ((c.1-1,c.2)∈S))=true then (c.1 * -1:Int) else 0)+0)))=_
 rw[Int.mul_zero,Int.mul_zero,Int.mul_one]
 cases decide ((c.1+1,c.2)∈S) <;> cases decide ((c.1-1,c.2)∈S) <;> simp <;> omega
theorem Ar(g:Dg S):∀ {cs:List Pt},(∀c∈cs,c∈S)->((j4 S cs).map (gq S)).sum=(cs.map fun c=>(if decide ((c.1+1,c.2)∈S)=true then 0 else c.1+1)+(if decide ((c.1-1,c.2)∈S)=true then 0 else -c.1)).sum
 |[],_=>rfl
 |c::cs,h=>by
  have e:j4 S (c::cs)=((List.range 4).filter fun d=>!decide (um c d∈S)).map (mY c)++j4 S cs:=by simp[j4]
  rw[e,List.map_append,List.sum_append,Np g (h c (by simp)),Ar g fun x hx=>h x (by simp[hx]),List.map_cons,List.sum_cons]
theorem Mw(g:Dg S)(nd:S.Nodup){q:Pt}{t:Nat}(hq:jH S q)(r:oG S q t):ar q (wd S q t)=S.length:=by
 have hp:((List.range t).map (aX S q)).Perm (j4 S S):=by
  refine (List.perm_ext_iff_of_nodup ?_ (tM g nd fun _ h=>h)).mpr fun p=>?_
  ·rw[List.nodup_iff_pairwise_ne,List.pairwise_map]
   refine List.Pairwise.imp_of_mem (fun {a b} _ hb hlt=>r.inj a b hlt (List.mem_range.mp hb)) List.pairwise_lt_range
  ·rw[oX,List.mem_map]
   constructor
   ·rintro⟨i,_,rfl⟩
    obtain⟨d,e⟩:=dF hq i
    exact⟨_,e.l,d,e.lt,by rw[←JR e.lt,←sJ e.lt];exact e.r,sJ e.lt⟩
   ·rintro⟨c,hc,d,h1,h2,rfl⟩
    obtain⟨m,hm,e⟩:=r.all _ ⟨d,gF hc h1 h2⟩
    exact⟨m,List.mem_range.mpr hm,e.symm⟩
 have e1:=Tq (hp.map (gq S))
 rw[List.map_map] at e1
 rw[Pj]
 show ((List.range t).map (gq S∘aX S q)).sum=_
 rw[e1,Ar g fun _ h=>h]
 have e2:=Q6 nd
 have e3:(S.map fun c:Pt=>(if decide ((c.1+1,c.2)∈S)=true then 0 else c.1+1)+(if decide ((c.1-1,c.2)∈S)=true then 0 else -c.1)).sum+(S.map fun c:Pt=>if decide ((c.1+1,c.2)∈S)=true then c.1+1 else 0).sum=(S.map fun c:Pt=>(1:Int)+if decide ((c.1-1,c.2)∈S)=true then c.1 else 0).sum:=by
  rw[←sum_add]
  congr 1
  refine List.map_congr_left fun c _=>?_
  cases decide ((c.1+1,c.2)∈S) <;> cases decide ((c.1-1,c.2)∈S) <;> simp <;> omega
 rw[sum_add (fun _=>(1:Int)) (fun c:Pt=>if decide ((c.1-1,c.2)∈S)=true then c.1 else 0),e2] at e3
 have e4:∀l:List Pt,(l.map fun _=>(1:Int)).sum=l.length:=by
  intro l
  induction l with
  |nil=>rfl
  |cons c l ih=>rw[List.map_cons,List.sum_cons,ih,List.length_cons];omega
 rw[e4] at e3
 omega
end
section
variable{S T:List Pt}{p:Pt}
theorem Ef(S:List Pt)(p:Pt)(a:Nat):∀b,wd S p (a+b)=wd S p a++wd S (aX S p a) b
 |0=>(List.append_nil _).symm
 |b+1=>by rw[←Nat.add_assoc,ph,ph,Ef S p a b,bY,List.append_assoc]
theorem Xi{t i:Nat}(hb:aX S p t=p)(h:i<=t):(wd S p t).drop i++(wd S p t).take i=wd S (aX S p i) t:=by
 obtain⟨k,rfl⟩:=Nat.exists_eq_add_of_le h
 have e:=Ef S p i k
 have l:=lB S p i
 rw[e,List.drop_left' l,List.take_left' l,Nat.add_comm i k,Ef S (aX S p i) k i,←bY,hb]
theorem Ue(S:List Pt)(cs:List Pt):J4 S cs<=4*cs.length:=by
 induction cs with
 |nil=>exact Nat.le_refl _
 |cons c cs ih=>
  have e:J4 S (c::cs)=((bB c).filter fun q=>!decide (q∈S)).length+J4 S cs:=rfl
  have:=List.length_filter_le (fun q=>!decide (q∈S)) (bB c)
  have h4:(bB c).length=4:=rfl
  rw[e,List.length_cons];omega
theorem oG.few{t:Nat}(g:Dg S)(nd:S.Nodup)(hp:jH S p)(r:oG S p t):t<=4*S.length:=by rw[←yJ g nd hp r];exact Ue S S
theorem oG.at(o:One S)(nd:S.Nodup)(hp:jH S p){t:Nat}(r:oG S p t)(i:Nat):oG S (aX S p i) t:=by
 obtain⟨t',r'⟩:=o.rnd (dF hp i)
 rw[←yJ o.dg nd hp r,yJ o.dg nd (dF hp i) r']
 exact r'
def jW(v p:Pt):Pt:=(p.1+v.1,p.2+v.2)
variable{v:Pt}(h:∀c:Pt,jW v c∈T↔c∈S)
end
def vo(a b d:Int):Prop:=0<a/\0<=b/\b<a/\0<d/\Bt 4000 a/\Bt 4000 d
theorem vo.bb{a b d:Int}(h:vo a b d):Bt 4000 b:=by
 obtain⟨h1,h2,h3,h4,h5,h6⟩:=h
 exact h5.of_le (by omega)
def Zh(d y:Int):Int:=y / d
def wsI(a b d x y:Int):Int:=(x-y / d*b) / a
def rsX(a b d x y:Int):Int:=(x-y / d*b)%a
def Wa(d y:Int):Int:=y%d
theorem Qc(a b d x y:Int):x-(wsI a b d x y*a+Zh d y*b)=rsX a b d x y:=by
 unfold rsX wsI Zh
 have:=Int.mul_ediv_add_emod (x-y / d*b) a
 rw[Int.mul_comm ((x-y / d*b) / a) a]
 omega
theorem G7(d y:Int):y-Zh d y*d=Wa d y:=by
 unfold Wa Zh
 have:=Int.mul_ediv_add_emod y d
 rw[Int.mul_comm (y / d) d]
 omega
theorem aad{a b d x y x' y':Int}(hg:vo a b d):(rsX a b d x y=rsX a b d x' y'/\Wa d y=Wa d y')↔∃i j,x'-x=i*a+j*b/\y'-y=j*d:=by
 constructor
 ·rintro⟨h1,h2⟩
  rw[←Qc,←Qc] at h1
  rw[←G7,←G7] at h2
  refine⟨wsI a b d x' y'-wsI a b d x y,Zh d y'-Zh d y,?_,?_⟩
  ·rw[Int.sub_mul,Int.sub_mul];omega
  ·rw[Int.sub_mul];omega
 ·rintro⟨i,j,h1,h2⟩
  obtain⟨g1,g2,g3,g4,g5,g6⟩:=hg
  obtain rfl:x'=x+(i*a+j*b):=by omega
  obtain rfl:y'=y+j*d:=by omega
  unfold rsX Wa
  have e1:(y+j*d) / d=y / d+j:=Int.add_mul_ediv_right y j (by omega)
  refine⟨?_,?_⟩
  ·rw[e1,Int.add_mul,show x+(i*a+j*b)-(y / d*b+j*b)=x-y / d*b+i*a from by omega,Int.add_mul_emod_self_right]
  ·rw[Int.add_mul_emod_self_right]
def fQ(p q v:Pt):Prop:=∃i j:Int,v.1=i*p.1+j*q.1/\v.2=i*p.2+j*q.2
structure xV(G:Pt->Prop):Prop where
 zero:G (0,0)
 sub:∀p q,G p->G q->G (p.1-q.1,p.2-q.2)
section
variable{G:Pt->Prop}{p q u v w:Pt}{i j:Int}
theorem xV.neg(h:xV G)(hp:G p):G (-p.1,-p.2):=by
 have:=h.sub _ _ h.zero hp
 rw[Int.zero_sub,Int.zero_sub] at this;exact this
theorem xV.add(h:xV G)(hp:G p)(hq:G q):G (p.1+q.1,p.2+q.2):=by
 have:=h.sub _ _ hp (h.neg hq)
 rw[Int.sub_neg,Int.sub_neg] at this;exact this
theorem xV.Xc(h:xV G)(hp:G p):∀n:Nat,G ((n:Int)*p.1,(n:Int)*p.2)
 |0=>by
  have:(((0:Nat):Int)*p.1,((0:Nat):Int)*p.2)=((0:Int),(0:Int)):=by simp
  rw[this];exact h.zero
 |n+1=>by
  have:=h.add (h.Xc hp n) hp
  have e:(((n+1:Nat):Int)*p.1,((n+1:Nat):Int)*p.2)=((n:Int)*p.1+p.1,(n:Int)*p.2+p.2):=by
   rw[Int.natCast_add,Int.add_mul,Int.add_mul];simp
  rw[e];exact this
theorem xV.mul(h:xV G)(hp:G p)(i:Int):G (i*p.1,i*p.2):=by
 rcases Int.eq_nat_or_neg i with ⟨n,rfl | rfl⟩
 ·exact h.Xc hp n
 ·have:=h.neg (h.Xc hp n)
  rw[Int.neg_mul,Int.neg_mul];exact this
theorem xV.lin(h:xV G)(hp:G p)(hq:G q)(hv:fQ p q v):G v:=by
 obtain⟨i,j,h1,h2⟩:=hv
 have:=h.add (h.mul hp i) (h.mul hq j)
 have e:v=(i*p.1+j*q.1,i*p.2+j*q.2):=Prod.ext h1 h2
 rw[e];exact this
theorem fQ.grp(p q:Pt):xV (fQ p q) where
 zero:=⟨0,0,by simp,by simp⟩
 sub:=by
  rintro u v ⟨i,j,h1,h2⟩ ⟨k,l,h3,h4⟩
  refine⟨i-k,j-l,?_,?_⟩
  ·show u.1-v.1=_;rw[h1,h3,Int.sub_mul,Int.sub_mul];omega
  ·show u.2-v.2=_;rw[h2,h4,Int.sub_mul,Int.sub_mul];omega
theorem fQ.left(p q:Pt):fQ p q p:=⟨1,0,by simp,by simp⟩
theorem fQ.right(p q:Pt):fQ p q q:=⟨0,1,by simp,by simp⟩
theorem fQ.trans(hu:fQ p q u)(hv:fQ p q v)(h:fQ u v w):fQ p q w:=(fQ.grp p q).lin hu hv h
end
theorem HN{a b:Int}(hb:b≠0):(a.fmod b).natAbs<b.natAbs:=by
 rcases Int.lt_or_gt_of_ne hb with h | h
 ·have e:=Int.neg_fmod_neg a b
  have h1:=Int.fmod_nonneg_of_pos (-a) (b:=-b) (by omega)
  have h2:=Int.fmod_lt_of_pos (-a) (b:=-b) (by omega)
  omega
 ·have h1:=Int.fmod_nonneg_of_pos a (b:=b) h
  have h2:=Int.fmod_lt_of_pos a (b:=b) h
  omega
def Reg(a b:Int):Prop:=(0<=b/\b<a)\/(b<=0/\a<b)
theorem Rj{a b:Int}(hb:b≠0):Reg b (a.fmod b):=by
 rcases Int.lt_or_gt_of_ne hb with h | h
 ·have e:=Int.neg_fmod_neg a b
  have h1:=Int.fmod_nonneg_of_pos (-a) (b:=-b) (by omega)
  have h2:=Int.fmod_lt_of_pos (-a) (b:=-b) (by omega)
  exact .inr ⟨by omega,by omega⟩
 ·exact .inl ⟨Int.fmod_nonneg_of_pos a h,Int.fmod_lt_of_pos a h⟩
theorem wV{a b:Int}(h0:0<b)(h1:b<a):a.fmod b+b<=a:=by
 have e:=Int.mul_fdiv_add_fmod a b
 have h2:=Int.fmod_lt_of_pos a (b:=b) h0
 have h3:1<=a.fdiv b:=by
  rcases Int.lt_or_le (a.fdiv b) 1 with z | z
  ·have:b*a.fdiv b<=b*0:=Int.mul_le_mul_of_nonneg_left (by omega) (by omega)
   omega
  ·exact z
 have:b*1<=b*a.fdiv b:=Int.mul_le_mul_of_nonneg_left h3 (by omega)
 omega
theorem Lz{a b:Int}(hb:b≠0)(h:Reg a b):2*(a.fmod b).natAbs<=a.natAbs:=by
 rcases h with ⟨h0,h1⟩ | ⟨h0,h1⟩
 ·have:=wV (a:=a) (b:=b) (by omega) h1
  have h2:=Int.fmod_lt_of_pos a (b:=b) (by omega)
  have h3:=Int.fmod_nonneg_of_pos a (b:=b) (by omega)
  omega
 ·have e:=Int.neg_fmod_neg a b
  have:=wV (a:=-a) (b:=-b) (by omega) (by omega)
  have h2:=Int.fmod_lt_of_pos (-a) (b:=-b) (by omega)
  have h3:=Int.fmod_nonneg_of_pos (-a) (b:=-b) (by omega)
  omega
theorem Bt.fdiv{m:Nat}{i j:Int}(h:Bt m i):Bt m (i.fdiv j):=h.of_le (Int.natAbs_fdiv_le_natAbs i j)
def Wh(p q:Pt):Pt:=(p.1-p.2.fdiv q.2*q.1,p.2-p.2.fdiv q.2*q.2)
theorem S6(p q:Pt):(Wh p q).2=p.2.fmod q.2:=by
 have:=Int.fmod_def p.2 q.2
 show p.2-p.2.fdiv q.2*q.2=_
 rw[this,Int.mul_comm]
theorem SX{G:Pt->Prop}(g:xV G){p q:Pt}(hp:G p)(hq:G q):G (Wh p q):=g.sub _ _ hp (g.mul hq _)
theorem Rf{p q v:Pt}(h:fQ p q v):fQ q (Wh p q) v:=by
 refine fQ.trans ⟨p.2.fdiv q.2,1,?_,?_⟩ (fQ.left _ _) h
 ·show p.1=p.2.fdiv q.2*q.1+1*(p.1-p.2.fdiv q.2*q.1);omega
 ·show p.2=p.2.fdiv q.2*q.2+1*(p.2-p.2.fdiv q.2*q.2);omega
structure UT(N:Nat)(p0 q0 p q:Pt):Prop where
 grp:∀G,xV G->G p0->G q0->G p/\G q
 i1:fQ p q p0
 i2:fQ p q q0
 bp:Bt 400 p.2
 bq:Bt 400 q.2
 bits:(Bt N p.1/\Bt N q.1)\/(Reg p.2 q.2/\∃n,n<=800/\(p.2*q.2).natAbs<2 ^ n/\Bt (N+402*(802-n)) p.1/\Bt (N+402*(802-n)) q.1)
theorem UT.start{N:Nat}{p q:Pt}(bp:Bt 400 p.2)(bq:Bt 400 q.2)(h1:Bt N p.1)(h2:Bt N q.1):UT N p q p q :=
 ⟨fun _ _ a b=>⟨a,b⟩,fQ.left _ _,fQ.right _ _,bp,bq,.inl ⟨h1,h2⟩⟩
theorem UT.step{N:Nat}{p0 q0 p q:Pt}(h:UT N p0 q0 p q)(hq:q.2≠0):UT N p0 q0 q (Wh p q)/\(Wh p q).2.natAbs<q.2.natAbs:=by
 have hs:=S6 p q
 have hab:=HN (a:=p.2) hq
 have bt:Bt 400 (p.2.fdiv q.2):=Bt.fdiv h.bp
 refine⟨⟨fun G g a b=>⟨(h.grp G g a b).2,SX g (h.grp G g a b).1 (h.grp G g a b).2⟩,Rf h.i1,Rf h.i2,h.bq,h.bq.of_le (by rw[hs];omega),.inr ⟨by rw[hs];exact Rj hq,?_⟩⟩,by rw[hs];exact hab⟩
 rcases h.bits with ⟨b1,b2⟩ | ⟨hr,n,hn,hm,b1,b2⟩
 ·refine⟨800,Nat.le_refl _,?_,b2.mono (by omega),?_⟩
  ·have:=Bt.mul h.bq (h.bq.of_le (i:=(Wh p q).2) (by rw[hs];omega));exact this
  ·exact (Bt.sub b1 (Bt.mul bt b2)).mono (by omega)
 ·have hh:=Lz hq hr
  have h0:0<n:=by
   rcases Nat.eq_zero_or_pos n with rfl | z
   ·exfalso
    rw[Int.natAbs_mul] at hm
    have h1:0<p.2.natAbs:=by rcases hr with ⟨_,_⟩ | ⟨_,_⟩ <;> omega
    have h2:0<q.2.natAbs:=by omega
    have:=Nat.mul_pos h1 h2
    simp only[Nat.pow_zero] at hm
    omega
   ·exact z
  refine⟨n-1,by omega,?_,b2.mono (by omega),?_⟩
  ·rw[Int.natAbs_mul] at hm ⊢
   rw[hs]
   have e:2 ^ n=2*2 ^ (n-1):=by rw[←Nat.pow_succ'];congr 1;omega
   have h3:q.2.natAbs*(2*(p.2.fmod q.2).natAbs)<=q.2.natAbs*p.2.natAbs:=Nat.mul_le_mul_left _ hh
   rw[Nat.mul_comm p.2.natAbs] at hm
   rw[Nat.mul_left_comm] at h3
   omega
  ·exact (Bt.sub b1 (Bt.mul bt b2)).mono (by omega)
theorem UT.all{N:Nat}{p0 q0 p q:Pt}(h:UT N p0 q0 p q):Bt (N+400000) p.1/\Bt (N+400000) q.1:=by
 rcases h.bits with ⟨b1,b2⟩ | ⟨hr,n,hn,hm,b1,b2⟩
 ·exact⟨b1.mono (by omega),b2.mono (by omega)⟩
 ·exact⟨b1.mono (by omega),b2.mono (by omega)⟩
def G6(p q:Pt):Int:=p.1*q.2-p.2*q.1
theorem G3{p q u v:Pt}(hu:fQ p q u)(hv:fQ p q v):∃k,G6 u v=k*G6 p q:=by
 obtain⟨i,j,h1,h2⟩:=hu
 obtain⟨k,l,h3,h4⟩:=hv
 refine⟨i*l-j*k,?_⟩
 unfold G6
 rw[h1,h2,h3,h4]
 simp only[Int.add_mul,Int.mul_add,Int.sub_mul,Int.mul_sub]
 have e1:i*p.1*(k*p.2)=i*p.2*(k*p.1):=by ac_rfl
 have e2:j*q.1*(l*q.2)=j*q.2*(l*q.1):=by ac_rfl
 have e3:i*p.1*(l*q.2)=i*l*(p.1*q.2):=by ac_rfl
 have e4:j*q.1*(k*p.2)=j*k*(p.2*q.1):=by ac_rfl
 have e5:i*p.2*(l*q.1)=i*l*(p.2*q.1):=by ac_rfl
 have e6:j*q.2*(k*p.1)=j*k*(p.1*q.2):=by ac_rfl
 rw[e1,e2,e3,e4,e5,e6]
 omega
theorem Cp.aaX{α:Type}{H:aF}{Q:aY}{cA:sY}{te:cC}{g:v9}{keep:aF->Prop}{σ0:cO}{as:List α}{E:α->D}(F:α->D)(T:α->Bool)(hk:∀H2:aF,aN H H2->keep H2)(hl:as.length<=10000)
  (hel:∀(i:Nat) a,as[i]?=some a->∀(R1:aY) (R0:aF->Prop) (H2:aF),aN H H2->(T a=true->∀H6,aN H2 H6->R1 (F a) H6)->(T a=false->∀H6,aN H2 H6->R0 H6)->g (E a) σ0 H2 fun σ2 H4=>cA σ2 H4 fun b H5=>if b=true then te σ2 H5 R1 else R0 H5)
  (fin:∀p,H p=none->Q (.ref p) (aO H p (.lst ((as.filter T).map F)))):Cp g cA te σ0 (as.map E) keep H Q:=by
 refine⟨hk,by rw[List.length_map];exact hl,as.map (fun a=>if T a=true then some (F a) else none),by simp,fun i d hd H2 hs=>?_,fun p hp=>?_⟩
 ·rw[List.getElem?_map] at hd
  cases e:as[i]? with
  |none=>rw[e] at hd;cases hd
  |some a=>
   rw[e] at hd
   cases hd
   have er:(as.map fun a=>if T a=true then some (F a) else none)[i]?=some (if T a=true then some (F a) else none):=by rw[List.getElem?_map,e];rfl
   exact hel i a e _ _ H2 hs (fun ht H6 h6=>⟨h6,by rw[er,if_pos ht]⟩) fun ht H6 h6=>⟨h6,by rw[er,if_neg (by rw[ht];exact Bool.false_ne_true)]⟩
 ·have e:∀as:List α,(as.map fun a=>if T a=true then some (F a) else none).filterMap id=(as.filter T).map F:=by
   intro as
   induction as with
   |nil=>rfl
   |cons a as ih=>
    rw[List.map_cons,List.filterMap_cons]
    cases h:T a with
    |true=>rw[List.filter_cons_of_pos h,List.map_cons,←ih];rfl
    |false=>rw[List.filter_cons_of_neg (by simp[h]),←ih];rfl
  rw[e]
  exact fin p hp
def cutD(cs:List Int):D:=.tup (cs.map D.int)
def v5(h:Int)(a:Nat)(n:Nat):List Pt:=(List.range n).map fun i:Nat=>((a:Int),(a:Int)+1+(i:Int))
def uP(h:Int):Nat->List Pt
 |0=>[]
 |n+1=>uP h n++v5 h n (h-((n:Int)+1)).toNat
def jR(h:Int):List Pt:=uP h h.toNat
def uH(h:Int)(p:Pt):List (Int×Int×Int):=(List.range (h-(p.2+1)).toNat).map fun i:Nat=>(p.1,p.2,p.2+1+(i:Int))
def jQ(h:Int)(ps:List Pt):List (Int×Int×Int):=(ps.map (uH h)).flatten
def Tf(q:Int×Int×Int):D:=.tup [.int q.1,.int q.2.1,.int q.2.2]
def wz(h:Int):List (List Int):=(jR h).map (fun p=>[p.1,p.2])++(jQ h (jR h)).map (fun q=>[q.1,q.2.1,q.2.2])
theorem YM(h:Int):(jR h).map bQ++(jQ h (jR h)).map Tf=(wz h).map cutD:=by
 unfold wz
 rw[List.map_append,List.map_map,List.map_map]
 rfl
theorem Jr(h:Int)(ps:List Pt)(p:Pt):jQ h (ps++[p])=jQ h ps++uH h p:=by unfold jQ;simp
theorem Dk{h:Int}{a n:Nat}{p:Pt}:p∈v5 h a n↔p.1=a/\(a:Int)<p.2/\p.2<(a:Int)+1+n:=by
 unfold v5
 rw[List.mem_map]
 constructor
 ·rintro⟨i,hi,rfl⟩
  have:=List.mem_range.mp hi
  exact⟨rfl,by dsimp only;omega,by dsimp only;omega⟩
 ·rintro⟨h1,h2,h3⟩
  exact⟨(p.2-(a:Int)-1).toNat,List.mem_range.mpr (by omega),Prod.ext h1.symm (by dsimp only;omega)⟩
theorem ie{h:Int}{p:Pt}:∀ {n:Nat},p∈uP h n↔0<=p.1/\p.1<n/\p.1<p.2/\p.2<h
 |0=>by
  constructor
  ·intro z;cases z
  ·intro z;omega
 |n+1=>by
  rw[uP,List.mem_append,ie,Dk]
  omega
theorem vI(h:Int)(hh:h<=21):∀n:Nat,(uP h n).length<=n*21
 |0=>by simp[uP]
 |n+1=>by
  rw[uP,List.length_append,Nat.succ_mul]
  have:=vI h hh n
  have e:(v5 h n (h-((n:Int)+1)).toNat).length=(h-((n:Int)+1)).toNat:=by simp[v5]
  omega
theorem vR{h:Int}(hh:h<=21):∀ {ps:List Pt},(∀p∈ps,0<=p.2)->(jQ h ps).length<=ps.length*20
 |[],_=>by simp[jQ]
 |p::ps,hp=>by
  have ih:=vR hh (ps:=ps) fun q hq=>hp q (by simp[hq])
  have e:jQ h (p::ps)=uH h p++jQ h ps:=by simp[jQ]
  have e2:(uH h p).length=(h-(p.2+1)).toNat:=by simp[uH]
  have:=hp p (by simp)
  rw[e,List.length_append,List.length_cons,Nat.succ_mul]
  omega
theorem oM{h:Int}(h0:0<=h)(hh:h<=21):(jR h).length<=441:=by
 have:=vI h hh h.toNat
 have:h.toNat*21<=21*21:=Nat.mul_le_mul_right _ (by omega)
 unfold jR
 omega
theorem two_pos{h:Int}:∀p∈jR h,0<=p.2:=fun p hp=>by have:=ie.mp hp;omega
theorem Je{h:Int}(h0:0<=h)(hh:h<=21):(jQ h (jR h)).length<=8820:=by
 have:=vR hh (two_pos (h:=h))
 have:=oM h0 hh
 omega
theorem Bo{h:Int}(h0:0<=h)(hh:h<=21):(wz h).length<=10000:=by
 unfold wz
 rw[List.length_append,List.length_map,List.length_map]
 have:=oM h0 hh
 have:=Je h0 hh
 omega
theorem Bc{h:Int}{ps:List Pt}{q:Int×Int×Int}:q∈jQ h ps↔∃p∈ps,q.1=p.1/\q.2.1=p.2/\p.2<q.2.2/\q.2.2<h:=by
 unfold jQ uH
 simp only[List.mem_flatten,List.mem_map]
 constructor
 ·rintro⟨_,⟨p,hp,rfl⟩,hq⟩
  obtain⟨i,hi,rfl⟩:=List.mem_map.mp hq
  have:=List.mem_range.mp hi
  exact⟨p,hp,rfl,rfl,by dsimp only;omega,by dsimp only;omega⟩
 ·rintro⟨p,hp,h1,h2,h3,h4⟩
  exact⟨_,⟨p,hp,rfl⟩,List.mem_map.mpr ⟨(q.2.2-p.2-1).toNat,List.mem_range.mpr (by omega),Prod.ext h1.symm (Prod.ext h2.symm (by dsimp only;omega))⟩⟩
theorem sX{n:Nat}(h:n<=10000):n<sizeLine:=by rw[bK];omega
def sm(G:Nat->Int)(a:Nat):Nat->Int
 |0=>0
 |n+1=>sm G a n+G (a+n)
theorem dY(G:Nat->Int)(a m:Nat):∀n,sm G a (m+n)=sm G a m+sm G (a+m) n
 |0=>by show sm G a m=sm G a m+0;omega
 |n+1=>by
  show sm G a (m+n)+G (a+(m+n))=sm G a m+(sm G (a+m) n+G (a+m+n))
  rw[dY G a m n,Nat.add_assoc a m n];omega
theorem BR(G:Nat->Int)(a n:Nat):sm G a (n+1)=G a+sm G (a+1) n:=by
 rw[Nat.add_comm n 1,dY]
 show 0+G (a+0)+_=_
 rw[Nat.add_zero];omega
theorem PN{G:Nat->Int}{t:Nat}(h:∀i,G (i+t)=G i):∀a,sm G a t=sm G 0 t
 |0=>rfl
 |a+1=>by
  have e1:=BR G a t
  have e2:sm G a (t+1)=sm G a t+G (a+t):=rfl
  rw[h] at e2
  have:=PN h a
  omega
theorem Rq(G:Nat->Int)(c e:Nat):∀n,n<=e->sm G c n+sm G (e-n) n=sm (fun k=>G (c+k)+G (e-1-k)) 0 n
 |0,_=>rfl
 |n+1,h=>by
  have ih:=Rq G c e n (by omega)
  rw[BR G (e-(n+1)) n]
  rw[show e-(n+1)+1=e-n from by omega]
  show sm G c n+G (c+n)+_=sm _ 0 n+(G (c+(0+n))+G (e-1-(0+n)))
  rw[←ih,Nat.zero_add,show e-(n+1)=e-1-n from by omega];omega
theorem Jh{G:Nat->Int}{a:Nat}:∀ {n:Nat},(∀k,k<n->G (a+k)=0)->sm G a n=0
 |0,_=>rfl
 |n+1,h=>by
  show sm G a n+G (a+n)=0
  rw[Jh fun k hk=>h k (by omega),h n (by omega)];rfl
theorem uN{G K:Nat->Int}{a:Nat}:∀ {n:Nat},(∀k,k<n->G (a+k)=K (a+k))->sm G a n=sm K a n
 |0,_=>rfl
 |n+1,h=>by
  show sm G a n+G (a+n)=sm K a n+K (a+n)
  rw[uN fun k hk=>h k (by omega),h n (by omega)]
theorem Ng(Y:Nat->Int)(v:Int)(a:Nat):∀n,sm (fun k=>v*(Y (k+1)-Y k)) a n=v*(Y (a+n)-Y a)
 |0=>by show 0=v*(Y a-Y a);rw[Int.sub_self,Int.mul_zero]
 |n+1=>by
  show sm _ a n+v*(Y (a+n+1)-Y (a+n))=_
  rw[Ng Y v a n,←Int.mul_add]
  congr 1
  rw[Nat.add_assoc a n 1];omega
theorem zu(G:Nat->Int):∀n,sm G 0 n=((List.range n).map G).sum
 |0=>rfl
 |n+1=>by
  rw[List.range_succ,List.map_append,List.sum_append]
  show sm G 0 n+G (0+n)=_
  rw[zu G n,Nat.zero_add];simp
def fC(a b:Pt):Pt:=(a.1-b.1,a.2-b.2)
def ngv(a:Pt):Pt:=(-a.1,-a.2)
def od:Nat->Nat
 |0=>2
 |1=>3
 |2=>0
 |_=>1
structure Wk(P:Nat->Pt)(D:Nat->Nat)(h:Nat):Prop where
 go:∀i,P (i+1)=pP (P i) (D i)
 lt:∀i,D i<4
 per:∀i,P (i+(h+h))=P i
 pd:∀i,D (i+(h+h))=D i
structure Sp(P:Nat->Pt)(D:Nat->Nat)(h c p:Nat)(v:Pt):Prop where
 lt:c<p
 le:p<=c+h
 pos:∀k,k<p-c->P (p+h-1-k)=fC (P (c+k+1)) v
 dir:∀k,k<p-c->D (p+h-1-k)=od (D (c+k))
section
variable{P:Nat->Pt}{D:Nat->Nat}{h:Nat}
theorem Sp.sum{c p:Nat}{v:Pt}(s:Sp P D h c p v)(F:Pt->Nat->Int):sm (fun i=>F (P i) (D i)) c (p-c)+sm (fun i=>F (P i) (D i)) (c+h) (p-c)=sm (fun i=>F (P i) (D i)+F (fC (P (i+1)) v) (od (D i))) c (p-c):=by
 have:=Rq (fun i=>F (P i) (D i)) c (p+h) (p-c) (by have:=s.le;omega)
 rw[show p+h-(p-c)=c+h from by have:=s.lt;omega] at this
 rw[this]
 have key:∀(G:Nat->Int) (n a:Nat),sm (fun k=>G (a+k)) 0 n=sm G a n:=by
  intro G n a
  induction n with
  |zero=>rfl
  |succ n ih=>show sm _ 0 n+G (a+(0+n))=sm G a n+G (a+n);rw[ih,Nat.zero_add]
 rw[←key (fun i=>F (P i) (D i)+F (fC (P (i+1)) v) (od (D i))) (p-c) c]
 refine uN fun k hk=>?_
 rw[Nat.zero_add]
 show F (P (c+k)) (D (c+k))+F (P (p+h-1-k)) (D (p+h-1-k))=_
 rw[s.pos k hk,s.dir k hk]
theorem Sp.zero(w:Wk P D h){c p:Nat}{v:Pt}(s:Sp P D h c p v){F:Pt->Nat->Int}(hF:∀q d,d<4->F q d+F (fC (pP q d) v) (od d)=0):sm (fun i=>F (P i) (D i)) c (p-c)+sm (fun i=>F (P i) (D i)) (c+h) (p-c)=0:=by
 rw[s.sum F]
 refine Jh fun k _=>?_
 rw[w.go]
 exact hF _ _ (w.lt _)
theorem Sp.Om(w:Wk P D h){c p:Nat}{v:Pt}(s:Sp P D h c p v):sm (fun i=>(P i).1*(stp (D i)).2) c (p-c)+sm (fun i=>(P i).1*(stp (D i)).2) (c+h) (p-c)=v.1*((P p).2-(P c).2):=by
 rw[s.sum (fun q d=>q.1*(stp d).2)]
 have e:=Ng (fun i=>(P i).2) v.1 c (p-c)
 rw[show c+(p-c)=p from by have:=s.lt;omega] at e
 rw[←e]
 refine uN fun k _=>?_
 rw[w.go]
 have hd:=w.lt (c+k)
 generalize P (c+k)=q
 generalize D (c+k)=d at hd
 rcases c4 hd with rfl | rfl | rfl | rfl
 ·show q.1*0+(q.1+1-v.1)*0=v.1*(q.2+0-q.2);rw[Int.mul_zero,Int.mul_zero,show q.2+0-q.2=0 from by omega,Int.mul_zero];rfl
 ·show q.1*1+(q.1+0-v.1) * -1=v.1*(q.2+1-q.2);rw[show q.2+1-q.2=1 from by omega];omega
 ·show q.1*0+(q.1 + -1-v.1)*0=v.1*(q.2+0-q.2);rw[Int.mul_zero,Int.mul_zero,show q.2+0-q.2=0 from by omega,Int.mul_zero];rfl
 ·show q.1 * -1+(q.1+0-v.1)*1=v.1*(q.2 + -1-q.2);rw[show q.2 + -1-q.2 = -1 from by omega];omega
theorem Wk.sum(w:Wk P D h)(F:Pt->Nat->Int)(c:Nat):sm (fun i=>F (P i) (D i)) 0 (h+h)=sm (fun i=>F (P i) (D i)) c h+sm (fun i=>F (P i) (D i)) (c+h) h:=by
 rw[←PN (G:=fun i=>F (P i) (D i)) (t:=h+h) (fun i=>by show F (P (i+(h+h))) (D (i+(h+h)))=_;rw[w.per,w.pd]) c,dY]
theorem Sp.ends(w:Wk P D h){c p:Nat}{v:Pt}(s:Sp P D h c p v):P (c+h)=fC (P p) v/\P (p+h)=fC (P c) v:=by
 have hl:=s.lt
 have hle:=s.le
 constructor
 ·have:=s.pos (p-c-1) (by omega)
  rw[show p+h-1-(p-c-1)=c+h from by omega,show c+(p-c-1)+1=p from by omega] at this
  exact this
 ·have h0:=s.pos 0 (by omega)
  have d0:=s.dir 0 (by omega)
  rw[Nat.sub_zero,Nat.add_zero] at h0 d0
  have e:=w.go (p+h-1)
  rw[show p+h-1+1=p+h from by omega,h0,d0,w.go c] at e
  rw[e]
  have hd:=w.lt c
  generalize P c=q
  generalize D c=d at hd
  rcases c4 hd with rfl | rfl | rfl | rfl
  ·exact Prod.ext (by show q.1+1-v.1 + -1=q.1-v.1;omega) (by show q.2+0-v.2+0=q.2-v.2;omega)
  ·exact Prod.ext (by show q.1+0-v.1+0=q.1-v.1;omega) (by show q.2+1-v.2 + -1=q.2-v.2;omega)
  ·exact Prod.ext (by show q.1 + -1-v.1+1=q.1-v.1;omega) (by show q.2+0-v.2+0=q.2-v.2;omega)
  ·exact Prod.ext (by show q.1+0-v.1+0=q.1-v.1;omega) (by show q.2 + -1-v.2+1=q.2-v.2;omega)
theorem P0(w:Wk P D h){a b:Nat}{u v:Pt}(s1:Sp P D h a b u)(s2:Sp P D h b (a+h) v){F:Pt->Nat->Int}(h1:∀q d,d<4->F q d+F (fC (pP q d) u) (od d)=0)(h2:∀q d,d<4->F q d+F (fC (pP q d) v) (od d)=0):sm (fun i=>F (P i) (D i)) 0 (h+h)=0:=by
 rw[w.sum F a]
 have z1:=s1.zero w h1
 have z2:=s2.zero w h2
 have l1:=s1.lt
 have l2:=s2.lt
 have e1:=dY (fun i=>F (P i) (D i)) a (b-a) (a+h-b)
 have e2:=dY (fun i=>F (P i) (D i)) (a+h) (b-a) (a+h-b)
 rw[show b-a+(a+h-b)=h from by omega] at e1 e2
 rw[show a+(b-a)=b from by omega] at e1
 rw[show a+h+(b-a)=b+h from by omega] at e2
 omega
theorem Gd(w:Wk P D h){a b c:Nat}{u v x:Pt}(s1:Sp P D h a b u)(s2:Sp P D h b c v)(s3:Sp P D h c (a+h) x){F:Pt->Nat->Int}(h1:∀q d,d<4->F q d+F (fC (pP q d) u) (od d)=0)(h2:∀q d,d<4->F q d+F (fC (pP q d) v) (od d)=0)(h3:∀q d,d<4->F q d+F (fC (pP q d) x) (od d)=0):sm (fun i=>F (P i) (D i)) 0 (h+h)=0:=by
 rw[w.sum F a]
 have z1:=s1.zero w h1
 have z2:=s2.zero w h2
 have z3:=s3.zero w h3
 have l1:=s1.lt
 have l2:=s2.lt
 have l3:=s3.lt
 have e1:=dY (fun i=>F (P i) (D i)) a (b-a) (a+h-b)
 have e2:=dY (fun i=>F (P i) (D i)) (a+h) (b-a) (a+h-b)
 have e3:=dY (fun i=>F (P i) (D i)) b (c-b) (a+h-c)
 have e4:=dY (fun i=>F (P i) (D i)) (b+h) (c-b) (a+h-c)
 rw[show b-a+(a+h-b)=h from by omega] at e1 e2
 rw[show c-b+(a+h-c)=a+h-b from by omega] at e3 e4
 rw[show a+(b-a)=b from by omega] at e1
 rw[show a+h+(b-a)=b+h from by omega] at e2
 rw[show b+(c-b)=c from by omega] at e3
 rw[show b+h+(c-b)=c+h from by omega] at e4
 omega
theorem Dt(w:Wk P D h){a b:Nat}{u v:Pt}(s1:Sp P D h a b u)(s2:Sp P D h b (a+h) v):sm (fun i=>(P i).1*(stp (D i)).2) 0 (h+h)=G6 u v:=by
 rw[w.sum (fun q d=>q.1*(stp d).2) a]
 have z1:=s1.Om w
 have z2:=s2.Om w
 have l1:=s1.lt
 have l2:=s2.lt
 have e1:=dY (fun i=>(P i).1*(stp (D i)).2) a (b-a) (a+h-b)
 have e2:=dY (fun i=>(P i).1*(stp (D i)).2) (a+h) (b-a) (a+h-b)
 rw[show b-a+(a+h-b)=h from by omega] at e1 e2
 rw[show a+(b-a)=b from by omega] at e1
 rw[show a+h+(b-a)=b+h from by omega] at e2
 obtain⟨p1,p2⟩:=s1.ends w
 obtain⟨p3,p4⟩:=s2.ends w
 rw[show a+h+h=a+(h+h) from by omega,w.per] at p4
 have y1:(P (a+h)).2=(P b).2-u.2:=congrArg Prod.snd p1
 have y4:(P a).2=(P b).2-v.2:=congrArg Prod.snd p4
 rw[show (P b).2-(P a).2=v.2 from by omega] at z1
 rw[show (P (a+h)).2-(P b).2 = -u.2 from by omega] at z2
 unfold G6
 rw[Int.mul_neg,Int.mul_comm v.1 u.2] at z2
 omega
theorem uz(w:Wk P D h){a b c:Nat}{u v x:Pt}(s1:Sp P D h a b u)(s2:Sp P D h b c v)(s3:Sp P D h c (a+h) x):v=(u.1+x.1,u.2+x.2)/\sm (fun i=>(P i).1*(stp (D i)).2) 0 (h+h)=G6 u x:=by
 rw[w.sum (fun q d=>q.1*(stp d).2) a]
 have z1:=s1.Om w
 have z2:=s2.Om w
 have z3:=s3.Om w
 have l1:=s1.lt
 have l2:=s2.lt
 have l3:=s3.lt
 have e1:=dY (fun i=>(P i).1*(stp (D i)).2) a (b-a) (a+h-b)
 have e2:=dY (fun i=>(P i).1*(stp (D i)).2) (a+h) (b-a) (a+h-b)
 have e3:=dY (fun i=>(P i).1*(stp (D i)).2) b (c-b) (a+h-c)
 have e4:=dY (fun i=>(P i).1*(stp (D i)).2) (b+h) (c-b) (a+h-c)
 rw[show b-a+(a+h-b)=h from by omega] at e1 e2
 rw[show c-b+(a+h-c)=a+h-b from by omega] at e3 e4
 rw[show a+(b-a)=b from by omega] at e1
 rw[show a+h+(b-a)=b+h from by omega] at e2
 rw[show b+(c-b)=c from by omega] at e3
 rw[show b+h+(c-b)=c+h from by omega] at e4
 obtain⟨p1,p2⟩:=s1.ends w
 obtain⟨p3,p4⟩:=s2.ends w
 obtain⟨p5,p6⟩:=s3.ends w
 rw[show a+h+h=a+(h+h) from by omega,w.per] at p6
 have x1:(P (a+h)).1=(P b).1-u.1:=congrArg Prod.fst p1
 have x2:(P (b+h)).1=(P a).1-u.1:=congrArg Prod.fst p2
 have x3:(P (b+h)).1=(P c).1-v.1:=congrArg Prod.fst p3
 have x6:(P a).1=(P c).1-x.1:=congrArg Prod.fst p6
 have y1:(P (a+h)).2=(P b).2-u.2:=congrArg Prod.snd p1
 have y2:(P (b+h)).2=(P a).2-u.2:=congrArg Prod.snd p2
 have y3:(P (b+h)).2=(P c).2-v.2:=congrArg Prod.snd p3
 have y6:(P a).2=(P c).2-x.2:=congrArg Prod.snd p6
 have ev:v.1=u.1+x.1:=by omega
 refine⟨Prod.ext ev (by show v.2=u.2+x.2;omega),?_⟩
 rw[ev,Int.add_mul] at z2
 have k1:u.1*((P b).2-(P a).2)+u.1*((P c).2-(P b).2)=u.1*x.2:=by rw[←Int.mul_add];congr 1;omega
 have k2:x.1*((P c).2-(P b).2)+x.1*((P (a+h)).2-(P c).2) = -(u.2*x.1):=by rw[←Int.mul_add,Int.mul_comm u.2 x.1,←Int.mul_neg];congr 1;omega
 unfold G6
 omega
end
section
variable{S:List Pt}
theorem Q9(g:Dg S)(nd:S.Nodup){q:Pt}{t:Nat}(hq:jH S q)(r:oG S q t):((List.range t).map (aX S q)).Perm (j4 S S):=by
 refine (List.perm_ext_iff_of_nodup ?_ (tM g nd fun _ h=>h)).mpr fun p=>?_
 ·rw[List.nodup_iff_pairwise_ne,List.pairwise_map]
  refine List.Pairwise.imp_of_mem (fun {a b} _ hb hlt=>r.inj a b hlt (List.mem_range.mp hb)) List.pairwise_lt_range
 ·rw[oX,List.mem_map]
  constructor
  ·rintro⟨i,_,rfl⟩
   obtain⟨d,e⟩:=dF hq i
   exact⟨_,e.l,d,e.lt,by rw[←JR e.lt,←sJ e.lt];exact e.r,sJ e.lt⟩
  ·rintro⟨c,hc,d,h1,h2,rfl⟩
   obtain⟨m,hm,e⟩:=r.all _ ⟨d,gF hc h1 h2⟩
   exact⟨m,List.mem_range.mpr hm,e.symm⟩
def tO(S:List Pt)(F:Pt->Nat->Int)(c:Pt)(d:Nat):Int:=if (!decide (um c d∈S))=true then F (mY c d) d else 0
theorem Jt(g:Dg S)(F:Pt->Nat->Int){c:Pt}(hc:c∈S):((((List.range 4).filter fun d=>!decide (um c d∈S)).map (mY c)).map fun p=>F p (outD S p)).sum=tO S F c 0+(tO S F c 1+(tO S F c 2+(tO S F c 3+0))):=by
 rw[List.map_map]
 have e:(((List.range 4).filter fun d=>!decide (um c d∈S)).map ((fun p=>F p (outD S p))∘mY c))=(((List.range 4).filter fun d=>!decide (um c d∈S)).map fun d=>F (mY c d) d):=by
  refine List.map_congr_left fun d hd=>?_
  have k:=List.mem_filter.mp hd
  have ed:=gF hc (List.mem_range.mp k.1) (by simpa using k.2)
  show F (mY c d) (outD S (mY c d))=_
  rw[iM g (eG ⟨d,ed⟩) ed]
 rw[e,iz (fun d=>!decide (um c d∈S)) (fun d=>F (mY c d) d)]
 rfl
theorem HD(g:Dg S)(F:Pt->Nat->Int):∀ {cs:List Pt},(∀c∈cs,c∈S)->((j4 S cs).map fun p=>F p (outD S p)).sum=(cs.map fun c=>tO S F c 0+(tO S F c 1+(tO S F c 2+(tO S F c 3+0)))).sum
 |[],_=>rfl
 |c::cs,h=>by
  have e:j4 S (c::cs)=((List.range 4).filter fun d=>!decide (um c d∈S)).map (mY c)++j4 S cs:=by simp[j4]
  rw[e,List.map_append,List.sum_append,Jt g F (h c (by simp)),HD g F fun x hx=>h x (by simp[hx]),List.map_cons,List.sum_cons]
theorem Cg(g:Dg S)(nd:S.Nodup){q:Pt}{t:Nat}(hq:jH S q)(r:oG S q t)(F:Pt->Nat->Int):sm (fun i=>F (aX S q i) (outD S (aX S q i))) 0 t=(S.map fun c=>tO S F c 0+(tO S F c 1+(tO S F c 2+(tO S F c 3+0)))).sum:=by
 have e1:=Tq ((Q9 g nd hq r).map fun p=>F p (outD S p))
 rw[List.map_map] at e1
 rw[zu,←HD g F fun _ h=>h,←e1]
 rfl
theorem QC(nd:S.Nodup)(e:Pt)(φ:Pt->Int):(S.map fun c=>if decide (jW e c∈S)=true then φ (jW e c) else 0).sum=(S.map fun c=>if decide (fC c e∈S)=true then φ c else 0).sum:=by
 rw[←iz (fun c:Pt=>decide (jW e c∈S)) (fun c=>φ (jW e c)),←iz (fun c:Pt=>decide (fC c e∈S)) φ]
 have back:∀c,fC (jW e c) e=c:=fun c=>Prod.ext (by show c.1+e.1-e.1=c.1;omega) (by show c.2+e.2-e.2=c.2;omega)
 have forth:∀c,jW e (fC c e)=c:=fun c=>Prod.ext (by show c.1-e.1+e.1=c.1;omega) (by show c.2-e.2+e.2=c.2;omega)
 have hp:((S.filter fun c=>decide (jW e c∈S)).map (jW e)).Perm (S.filter fun c=>decide (fC c e∈S)):=by
  refine (List.perm_ext_iff_of_nodup ?_ (nd.filter _)).mpr fun q=>?_
  ·rw[List.nodup_iff_pairwise_ne,List.pairwise_map]
   exact (List.nodup_iff_pairwise_ne.mp (nd.filter _)).imp fun {a b} hne z=>hne (by rw[←back a,z,back])
  ·rw[List.mem_map,List.mem_filter,decide_eq_true_iff]
   constructor
   ·rintro⟨c,hc,rfl⟩
    have:=List.mem_filter.mp hc
    exact⟨by simpa using this.2,by rw[back];exact this.1⟩
   ·rintro⟨h1,h2⟩
    exact⟨fC q e,List.mem_filter.mpr ⟨h2,by rw[decide_eq_true_iff,forth];exact h1⟩,forth q⟩
 have:=Tq (hp.map φ)
 rw[List.map_map] at this
 exact this
theorem xU(nd:S.Nodup)(e:Pt)(φ:Pt->Int):(S.map fun c=>(if decide (jW e c∈S)=true then 0 else φ (jW e c))+(if decide (fC c e∈S)=true then 0 else -φ c)).sum=(S.map fun c=>φ (jW e c)).sum-(S.map φ).sum:=by
 have e1:=QC nd e φ
 have e2:(S.map fun c=>((if decide (jW e c∈S)=true then 0 else φ (jW e c))+(if decide (fC c e∈S)=true then 0 else -φ c))+((if decide (jW e c∈S)=true then φ (jW e c) else 0)+φ c)).sum=(S.map fun c=>φ (jW e c)+(if decide (fC c e∈S)=true then φ c else 0)).sum:=by
  congr 1
  refine List.map_congr_left fun c _=>?_
  cases decide (jW e c∈S) <;> cases decide (fC c e∈S) <;> simp <;> omega
 rw[sum_add,sum_add (fun c:Pt=>if decide (jW e c∈S)=true then φ (jW e c) else 0) φ,sum_add (fun c:Pt=>φ (jW e c)) fun c=>if decide (fC c e∈S)=true then φ c else 0] at e2
 omega
def FU(φ:Pt->Int)(p:Pt)(d:Nat):Int:=if d=1 then φ (p.1,p.2) else if d=3 then -φ (p.1,p.2-1) else 0
def FV(φ:Pt->Int)(p:Pt)(d:Nat):Int:=if d=2 then φ (p.1-1,p.2) else if d=0 then -φ (p.1,p.2) else 0
theorem Y9(g:Dg S)(nd:S.Nodup){q:Pt}{t:Nat}(hq:jH S q)(r:oG S q t)(φ:Pt->Int):sm (fun i=>FU φ (aX S q i) (outD S (aX S q i))) 0 t=(S.map fun c=>φ (jW (1,0) c)).sum-(S.map φ).sum:=by
 rw[Cg g nd hq r,←xU nd (1,0) φ]
 congr 1
 refine List.map_congr_left fun c _=>?_
 have m1:jW (1,0) c=(c.1+1,c.2):=Prod.ext rfl (by show c.2+0=c.2;omega)
 have m2:fC c (1,0)=(c.1-1,c.2):=Prod.ext rfl (by show c.2-0=c.2;omega)
 rw[m1,m2]
 have f0:tO S (FU φ) c 0=0:=by unfold tO;rw[show FU φ (mY c 0) 0=0 from rfl];split <;> rfl
 have f2:tO S (FU φ) c 2=0:=by unfold tO;rw[show FU φ (mY c 2) 2=0 from rfl];split <;> rfl
 have f1:tO S (FU φ) c 1=if (!decide ((c.1+1,c.2)∈S))=true then φ (c.1+1,c.2) else 0:=rfl
 have f3:tO S (FU φ) c 3=if (!decide ((c.1-1,c.2)∈S))=true then -φ (c.1,c.2+1-1) else 0:=rfl
 rw[f0,f1,f2,f3,show c.2+1-1=c.2 from by omega]
 cases decide ((c.1+1,c.2)∈S) <;> cases decide ((c.1-1,c.2)∈S) <;> simp <;> omega
theorem WL(g:Dg S)(nd:S.Nodup){q:Pt}{t:Nat}(hq:jH S q)(r:oG S q t)(φ:Pt->Int):sm (fun i=>FV φ (aX S q i) (outD S (aX S q i))) 0 t=(S.map fun c=>φ (jW (0,1) c)).sum-(S.map φ).sum:=by
 rw[Cg g nd hq r,←xU nd (0,1) φ]
 congr 1
 refine List.map_congr_left fun c _=>?_
 have m1:jW (0,1) c=(c.1,c.2+1):=Prod.ext (by show c.1+0=c.1;omega) rfl
 have m2:fC c (0,1)=(c.1,c.2-1):=Prod.ext (by show c.1-0=c.1;omega) rfl
 rw[m1,m2]
 have f1:tO S (FV φ) c 1=0:=by unfold tO;rw[show FV φ (mY c 1) 1=0 from rfl];split <;> rfl
 have f3:tO S (FV φ) c 3=0:=by unfold tO;rw[show FV φ (mY c 3) 3=0 from rfl];split <;> rfl
 have f2:tO S (FV φ) c 2=if (!decide ((c.1,c.2+1)∈S))=true then φ (c.1+1-1,c.2+1) else 0:=rfl
 have f0:tO S (FV φ) c 0=if (!decide ((c.1,c.2-1)∈S))=true then -φ c else 0:=rfl
 rw[f0,f1,f2,f3,show c.1+1-1=c.1 from by omega]
 cases decide ((c.1,c.2+1)∈S) <;> cases decide ((c.1,c.2-1)∈S) <;> simp <;> omega
theorem U0{φ:Pt->Int}{v:Pt}(h:∀c,φ (fC c v)=φ c)(q:Pt)(d:Nat)(hd:d<4):FU φ q d+FU φ (fC (pP q d) v) (od d)=0:=by
 rcases c4 hd with rfl | rfl | rfl | rfl
 ·rfl
 ·show φ (q.1,q.2) + -φ (q.1+0-v.1,q.2+1-v.2-1)=0
  have:=h (q.1,q.2)
  rw[show fC (q.1,q.2) v=(q.1+0-v.1,q.2+1-v.2-1) from Prod.ext (by show q.1-v.1=_;omega) (by show q.2-v.2=_;omega)] at this
  omega
 ·rfl
 ·show -φ (q.1,q.2-1)+φ (q.1+0-v.1,q.2 + -1-v.2)=0
  have:=h (q.1,q.2-1)
  rw[show fC (q.1,q.2-1) v=(q.1+0-v.1,q.2 + -1-v.2) from Prod.ext (by show q.1-v.1=_;omega) (by show q.2-1-v.2=_;omega)] at this
  omega
theorem TV{φ:Pt->Int}{v:Pt}(h:∀c,φ (fC c v)=φ c)(q:Pt)(d:Nat)(hd:d<4):FV φ q d+FV φ (fC (pP q d) v) (od d)=0:=by
 rcases c4 hd with rfl | rfl | rfl | rfl
 ·show -φ (q.1,q.2)+φ (q.1+1-v.1-1,q.2+0-v.2)=0
  have:=h (q.1,q.2)
  rw[show fC (q.1,q.2) v=(q.1+1-v.1-1,q.2+0-v.2) from Prod.ext (by show q.1-v.1=_;omega) (by show q.2-v.2=_;omega)] at this
  omega
 ·rfl
 ·show φ (q.1-1,q.2) + -φ (q.1 + -1-v.1,q.2+0-v.2)=0
  have:=h (q.1-1,q.2)
  rw[show fC (q.1-1,q.2) v=(q.1 + -1-v.1,q.2+0-v.2) from Prod.ext (by show q.1-1-v.1=_;omega) (by show q.2-v.2=_;omega)] at this
  omega
 ·rfl
end
abbrev Tr:=Int×Int×Int
def Yd(t:Tr):D:=.tup [.int t.1,.int t.2.1,.int t.2.2]
def rst(g:Tr)(p:Pt):Pt:=(rsX g.1 g.2.1 g.2.2 p.1 p.2,Wa g.2.2 p.2)
def V5(g:Tr)(ps:List Pt):Prop:=(ps.map (rst g)).Nodup
instance (g:Tr) (ps:List Pt):Decidable (V5 g ps):=by unfold V5;exact inferInstance
def RD(g:Tr):Prop:=vo g.1 g.2.1 g.2.2
def FN(a d:Nat):List Pt:=((List.range a).map fun x:Nat=>(List.range d).map fun y:Nat=>((x:Int),(y:Int))).flatten
theorem Oi(a d:Nat):(FN a d).length=a*d:=by
 unfold FN
 rw[List.length_flatten,List.map_map,show ((List.length∘fun x:Nat=>(List.range d).map fun y:Nat=>((x:Int),(y:Int))):Nat->Nat)=fun _=>d from by funext x;simp,List.map_const',List.sum_replicate_nat,List.length_range]
theorem Uh{g:Tr}(hg:RD g):(((FN g.1.toNat g.2.2.toNat).length:Nat):Int)=g.1*g.2.2:=by
 obtain⟨a1,_,_,a4,_,_⟩:=hg
 rw[Oi,Int.natCast_mul,Int.toNat_of_nonneg (by omega),Int.toNat_of_nonneg (by omega)]
theorem Tz{g:Tr}{ps:List Pt}{p q:Pt}(h:V5 g ps)(hp:p∈ps)(hq:q∈ps)(e:rst g p=rst g q):p=q:=by
 obtain⟨i,hi,rfl⟩:=List.getElem_of_mem hp
 obtain⟨j,hj,rfl⟩:=List.getElem_of_mem hq
 unfold V5 at h
 have li:i<(ps.map (rst g)).length:=by rw[List.length_map];exact hi
 have lj:j<(ps.map (rst g)).length:=by rw[List.length_map];exact hj
 have:(ps.map (rst g))[i]=(ps.map (rst g))[j]:=by rw[List.getElem_map,List.getElem_map];exact e
 have:=(List.getElem_inj h).mp this
 subst this;rfl
theorem Gy{g:Tr}(hg:RD g){p q:Pt}:rst g p=rst g q↔fQ (g.1,0) (g.2.1,g.2.2) (fC q p):=by
 have k:=aad (x:=p.1) (y:=p.2) (x':=q.1) (y':=q.2) hg
 constructor
 ·intro e
  obtain⟨i,j,h1,h2⟩:=k.mp ⟨congrArg Prod.fst e,congrArg Prod.snd e⟩
  exact⟨i,j,h1,by show q.2-p.2=i*0+j*g.2.2;rw[Int.mul_zero,Int.zero_add];exact h2⟩
 ·rintro⟨i,j,h1,h2⟩
  have h2':q.2-p.2=i*0+j*g.2.2:=h2
  rw[Int.mul_zero,Int.zero_add] at h2'
  obtain⟨e1,e2⟩:=k.mpr ⟨i,j,h1,h2'⟩
  exact Prod.ext e1 e2
theorem FP{g:Tr}(hg:RD g){v:Pt}(hv:fQ (g.1,0) (g.2.1,g.2.2) v)(c:Pt):rst g (fC c v)=rst g c:=by
 rw[Gy hg,show fC c (fC c v)=v from Prod.ext (by show c.1-(c.1-v.1)=v.1;omega) (by show c.2-(c.2-v.2)=v.2;omega)]
 exact hv
def pW(g:Tr)(z c:Pt):Int:=if rst g c=rst g z then 1 else 0
theorem Y7{g:Tr}(hg:RD g)(e z c:Pt):pW g (jW e z) (jW e c)=pW g z c:=by
 unfold pW
 have:(rst g (jW e c)=rst g (jW e z))↔(rst g c=rst g z):=by
  rw[Gy hg,Gy hg,show fC (jW e z) (jW e c)=fC z c from Prod.ext (by show z.1+e.1-(c.1+e.1)=z.1-c.1;omega) (by show z.2+e.2-(c.2+e.2)=z.2-c.2;omega)]
 by_cases h:rst g c=rst g z
 ·rw[if_pos h,if_pos (this.mpr h)]
 ·rw[if_neg h,if_neg (fun z=>h (this.mp z))]
theorem Vp:∀l:List Pt,(l.map fun _=>(0:Int)).sum=0
 |[]=>rfl
 |_::l=>by rw[List.map_cons,List.sum_cons,Vp l];rfl
theorem Rr(g:Tr)(z:Pt):∀l:List Pt,0<=(l.map (pW g z)).sum/\((l.map (pW g z)).sum=0->∀c∈l,rst g c≠rst g z)
 |[]=>⟨Int.le_refl _,fun _ c hc=>by simp at hc⟩
 |c::l=>by
  obtain⟨h1,h2⟩:=Rr g z l
  rw[List.map_cons,List.sum_cons]
  by_cases h:rst g c=rst g z
  ·have e:pW g z c=1:=by unfold pW;rw[if_pos h]
   rw[e]
   exact⟨by omega,fun k=>by omega⟩
  ·have e:pW g z c=0:=by unfold pW;rw[if_neg h]
   rw[e]
   refine⟨by omega,fun k x hx=>?_⟩
   rcases List.mem_cons.mp hx with rfl | hx
   ·exact h
   ·exact h2 (by omega) x hx
section
variable{S:List Pt}{q:Pt}{t:Nat}{g:Tr}
def Bal(S:List Pt)(q:Pt)(t:Nat)(g:Tr):Prop:=∀F:Pt->Nat->Int,(∀v,fQ (g.1,0) (g.2.1,g.2.2) v->∀p d,d<4->F p d+F (fC (pP p d) v) (od d)=0)->sm (fun i=>F (aX S q i) (outD S (aX S q i))) 0 t=0
theorem yf(dg:Dg S)(nd:S.Nodup)(hq:jH S q)(r:oG S q t)(hg:RD g)(b:Bal S q t g)(z:Pt):(S.map (pW g (jW (1,0) z))).sum=(S.map (pW g z)).sum/\(S.map (pW g (jW (0,1) z))).sum=(S.map (pW g z)).sum:=by
 have per:∀w v,fQ (g.1,0) (g.2.1,g.2.2) v->∀c,pW g w (fC c v)=pW g w c:=fun w v hv c=>by unfold pW;rw[FP hg hv]
 have e1:=Y9 dg nd hq r (pW g (jW (1,0) z))
 rw[b _ fun v hv=>U0 (per _ v hv)] at e1
 have e2:=WL dg nd hq r (pW g (jW (0,1) z))
 rw[b _ fun v hv=>TV (per _ v hv)] at e2
 simp only[Y7 hg] at e1 e2
 exact⟨by show _=(S.map fun c=>pW g z c).sum;omega,by show _=(S.map fun c=>pW g z c).sum;omega⟩
theorem m8(dg:Dg S)(nd:S.Nodup)(hq:jH S q)(r:oG S q t)(hg:RD g)(b:Bal S q t g):∀(m n:Nat) (z:Pt),(S.map (pW g (z.1+m,z.2+n))).sum=(S.map (pW g z)).sum
 |0,0,z=>by rw[show (z.1+((0:Nat):Int),z.2+((0:Nat):Int))=z from Prod.ext (by show z.1+0=z.1;omega) (by show z.2+0=z.2;omega)]
 |0,n+1,z=>by
  rw[←m8 dg nd hq r hg b 0 n z,←(yf dg nd hq r hg b (z.1+((0:Nat):Int),z.2+(n:Int))).2]
  rw[show jW (0,1) (z.1+((0:Nat):Int),z.2+(n:Int))=(z.1+((0:Nat):Int),z.2+((n+1:Nat):Int)) from Prod.ext (by show z.1+((0:Nat):Int)+0=z.1+((0:Nat):Int);omega) (by show z.2+(n:Int)+1=z.2+((n+1:Nat):Int);omega)]
 |m+1,n,z=>by
  rw[←m8 dg nd hq r hg b m n z,←(yf dg nd hq r hg b (z.1+(m:Int),z.2+(n:Int))).1]
  rw[show jW (1,0) (z.1+(m:Int),z.2+(n:Int))=(z.1+((m+1:Nat):Int),z.2+(n:Int)) from Prod.ext (by show z.1+(m:Int)+1=z.1+((m+1:Nat):Int);omega) (by show z.2+(n:Int)+0=z.2+(n:Int);omega)]
theorem MP(dg:Dg S)(nd:S.Nodup)(hq:jH S q)(r:oG S q t)(hg:RD g)(b:Bal S q t g)(z:Pt):rst g z∈S.map (rst g):=by
 obtain⟨d,e⟩:=hq
 have hc:=e.l
 generalize rD q d=c at hc
 have low:∀w:Pt,(S.map (pW g w)).sum=(S.map (pW g (min w.1 c.1,min w.2 c.2))).sum:=by
  intro w
  have:=m8 dg nd ⟨d,e⟩ r hg b (w.1-min w.1 c.1).toNat (w.2-min w.2 c.2).toNat (min w.1 c.1,min w.2 c.2)
  rw[←this]
  congr 3
  exact Prod.ext (by show w.1=min w.1 c.1+_;omega) (by show w.2=min w.2 c.2+_;omega)
 have low2:(S.map (pW g c)).sum=(S.map (pW g (min z.1 c.1,min z.2 c.2))).sum:=by
  have:=m8 dg nd ⟨d,e⟩ r hg b (c.1-min z.1 c.1).toNat (c.2-min z.2 c.2).toNat (min z.1 c.1,min z.2 c.2)
  rw[←this]
  congr 3
  exact Prod.ext (by show c.1=min z.1 c.1+_;omega) (by show c.2=min z.2 c.2+_;omega)
 have same:=(low z).trans low2.symm
 apply Classical.byContradiction
 intro hz
 have z0:(S.map (pW g z)).sum=0:=by
  have:S.map (pW g z)=S.map fun _=>(0:Int):=List.map_congr_left fun x hx=>by
   unfold pW
   rw[if_neg fun e=>hz (by rw[←e];exact List.mem_map_of_mem hx)]
  rw[this]
  exact Vp S
 exact (Rr g c S).2 (by rw[←same];exact z0) c hc rfl
end
theorem Dn{α:Type}[DecidableEq α]:∀ {l m:List α},m.Nodup->(∀x∈m,x∈l)->l.length<=m.length->l.Nodup
 |[],_,_,_,_=>List.nodup_nil
 |x::l,m,nd,hs,hl=>by
  have hx:x∉l:=fun hx=>by
   have:=sub_len (xs:=m) (ys:=l) nd fun y hy=>by
    rcases List.mem_cons.mp (hs y hy) with rfl | h
    ·exact hx
    ·exact h
   rw[List.length_cons] at hl;omega
  refine List.nodup_cons.mpr ⟨hx,Dn (m:=m.erase x) (nd.erase x) (fun y hy=>?_) ?_⟩
  ·have h2:=(nd.mem_erase_iff).mp hy
   rcases List.mem_cons.mp (hs y h2.2) with h | h
   ·exact absurd h h2.1
   ·exact h
  ·rw[List.length_cons] at hl
   by_cases h:x∈m
   ·rw[List.length_erase_of_mem h];omega
   ·rw[List.erase_of_not_mem h];omega
theorem RX(a d:Nat):(FN a d).Nodup:=by
 unfold FN
 rw[List.nodup_iff_pairwise_ne,List.pairwise_flatten]
 refine⟨fun l hl=>?_,?_⟩
 ·obtain⟨x,_,rfl⟩:=List.mem_map.mp hl
  rw[List.pairwise_map]
  exact (List.nodup_iff_pairwise_ne.mp List.nodup_range).imp fun {i j} hne z=>hne (by have:=(Prod.mk.inj z).2;omega)
 ·rw[List.pairwise_map]
  refine (List.nodup_iff_pairwise_ne.mp List.nodup_range).imp fun {i j} hne u hu v hv z=>hne ?_
  obtain⟨_,_,rfl⟩:=List.mem_map.mp hu
  obtain⟨_,_,rfl⟩:=List.mem_map.mp hv
  have:=(Prod.mk.inj z).1
  omega
theorem Qh{a b d:Int}{p:Pt}(hg:vo a b d)(hp:p∈FN a.toNat d.toNat):rst (a,b,d) p=p:=by
 unfold FN at hp
 obtain⟨l,hl,hm⟩:=List.mem_flatten.mp hp
 obtain⟨x,hx,rfl⟩:=List.mem_map.mp hl
 obtain⟨y,hy,rfl⟩:=List.mem_map.mp hm
 rw[List.mem_range] at hx hy
 have e:((y:Nat):Int) / d=0:=Int.ediv_eq_zero_of_lt (by omega) (by omega)
 unfold rst rsX Wa
 dsimp only
 rw[e,Int.zero_mul,Int.sub_zero,Int.emod_eq_of_lt (by omega) (by omega),Int.emod_eq_of_lt (by omega) (by omega)]
theorem Ph{S:List Pt}{g:Tr}(hg:RD g)(hn:g.1*g.2.2=S.length)(h:∀z,rst g z∈S.map (rst g)):V5 g S:=by
 obtain⟨a,b,d⟩:=g
 have e:=Uh hg
 refine Dn (RX a.toNat d.toNat) (fun p hp=>?_) (by rw[List.length_map];dsimp only at e hn;omega)
 have:=h p
 rw[Qh hg hp] at this
 exact this
def pw(W:List Lt)(i:Nat):Pt:=fX (0,0) (W.take (i%W.length))
theorem aaU{W:List Lt}{i:Nat}(h:i<W.length):pw W i=fX (0,0) (W.take i):=by
 unfold pw;rw[Nat.mod_eq_of_lt h]
def sh(W:List Lt)(L:Int)(s:Int×Int):Pt:=fC (pw W s.1.toNat) (pw W (s.2+L).toNat)
def lM:mL:=fun ds H Q=>∃a b c d x,ds=[.tup [.int a,.int b],x]/\(x=.tup [.int c,.int d]\/x=.ktup [.int c,.int d])/\Q (.tup [.int (a+c),.int (b+d)]) H
theorem Qo{a b c d:Int}{H:aF}{Q:aY}(h:Q (.tup [.int (a+c),.int (b+d)]) H):lM [.tup [.int a,.int b],.ktup [.int c,.int d]] H Q:=⟨a,b,c,d,_,rfl,.inr rfl,h⟩
local macro_rules | `(tactic| walk_at "l3c")=>`(tactic| first | (with_reducible refine u_added ?_) | (with_reducible refine Qo ?_))
theorem KR:∀(ds:List D) (H:aF) (Q:aY),lM ds H Q->ds.length=mU.length:=by
 intro ds H Q h
 obtain⟨_,_,_,_,_,rfl,_⟩:=h
 rfl
def t6:dw:=(lD (jh (au (o3 bG (o3 aP (v3 0) (c3 (.int 0))) (o3 aP (v3 1) (c3 (.int 0)))) (au (o3 bG (o3 aP (v3 0) (c3 (.int 1))) (o3 aP (v3 1) (c3 (.int 1)))) aH))))
theorem Nt:∀(ds:List D) (H:aF) (Q:aY),lM ds H Q->t6 (dX Q) (aJ tZ ds) H:=by
 intro ds H Q h
 obtain⟨a,b,c,d,x,rfl,hx,h⟩:=h
 rcases hx with rfl | rfl
 ·simp only[t6,aJ,tZ,List.map_cons,List.map_nil,List.length_cons,List.length_nil,Nat.reduceAdd,Nat.reduceSub,Nat.zero_add,List.replicate,List.cons_append,List.nil_append]
  walk_at "l3"
  exact bT h aN.refl
 ·simp only[t6,aJ,tZ,List.map_cons,List.map_nil,List.length_cons,List.length_nil,Nat.reduceAdd,Nat.reduceSub,Nat.zero_add,List.replicate,List.cons_append,List.nil_append]
  walk_at "l3"
  exact bT h aN.refl
def lQ:mL:=fun ds H Q=>∃a b c d,ds=[.tup [.int a,.int b],.tup [.int c,.int d]]/\(Q (.tup [.int (a-c),.int (b-d)]) H)
theorem TQ{a b c d:Int}{H:aF}{Q:aY}(h:Q (.tup [.int (a-c),.int (b-d)]) H):lQ [.tup [.int a,.int b],.tup [.int c,.int d]] H Q:=⟨_,_,_,_,rfl,h⟩
local macro_rules | `(tactic| walk_at "l3c")=>`(tactic| (with_reducible refine TQ ?_))
theorem Ln:∀(ds:List D) (H:aF) (Q:aY),lQ ds H Q->ds.length=m9.length:=by
 intro ds H Q h
 obtain⟨_,_,_,_,rfl,_⟩:=h
 rfl
def yK:dw:=(lD (jh (au (o3 fH (o3 aP (v3 0) (c3 (.int 0))) (o3 aP (v3 1) (c3 (.int 0)))) (au (o3 fH (o3 aP (v3 0) (c3 (.int 1))) (o3 aP (v3 1) (c3 (.int 1)))) aH))))
theorem Qq:∀(ds:List D) (H:aF) (Q:aY),lQ ds H Q->yK (dX Q) (aJ zH ds) H:=by
 intro ds H Q h
 obtain⟨_,_,_,_,rfl,h⟩:=h
 simp only[yK,aJ,zH,List.map_cons,List.map_nil,List.length_cons,List.length_nil,Nat.reduceAdd,Nat.reduceSub,Nat.zero_add,List.replicate,List.cons_append,List.nil_append]
 walk_at "l3"
 exact bT h aN.refl
structure Ms(x y g:Int):Prop where
 nn:0<=g
 grp:∀G,xV G->G (x,0)->G (y,0)->G (g,0)
 i1:∃i,x=i*g
 i2:∃j,y=j*g
theorem Ms.bt{x y g:Int}{m n:Nat}(h:Ms x y g)(hx:Bt m x)(hy:Bt n y):Bt (max m n) g:=by
 have le:∀ {z:Int},z≠0->(∃i,z=i*g)->g.natAbs<=z.natAbs:=by
  rintro z hz ⟨i,rfl⟩
  rw[Int.natAbs_mul]
  refine Nat.le_mul_of_pos_left _ ?_
  rcases Nat.eq_zero_or_pos i.natAbs with z | z
  ·rw[Int.natAbs_eq_zero.mp z] at hz;simp at hz
  ·exact z
 by_cases h1:x=0
 ·by_cases h2:y=0
  ·subst h1 h2
   have g0:xV fun p:Pt=>p=(0,0):=⟨rfl,by rintro p q rfl rfl;rfl⟩
   have:=h.grp _ g0 rfl rfl
   have e:g=0:=congrArg Prod.fst this
   subst e
   exact Nat.two_pow_pos _
  ·exact (hy.of_le (le h2 h.i2)).mono (Nat.le_max_right _ _)
 ·exact (hx.of_le (le h1 h.i1)).mono (Nat.le_max_left _ _)
structure Zk(x0 y0 x y:Int):Prop where
 grp:∀G,xV G->G (x0,0)->G (y0,0)->G (x,0)/\G (y,0)
 i1:∃i j,x0=i*x+j*y
 i2:∃i j,y0=i*x+j*y
theorem Zk.step{x0 y0 x y:Int}(h:Zk x0 y0 x y):Zk x0 y0 y (x.fmod y):=by
 have e:=Int.fmod_def x y
 refine⟨fun G g a b=>⟨(h.grp G g a b).2,?_⟩,?_,?_⟩
 ·have:=g.sub _ _ (h.grp G g a b).1 (g.mul (h.grp G g a b).2 (x.fdiv y))
  simp only[Int.mul_zero,Int.sub_zero] at this
  rw[e,Int.mul_comm];exact this
 ·obtain⟨i,j,z⟩:=h.i1
  refine⟨i*x.fdiv y+j,i,?_⟩
  rw[z,e,Int.add_mul,Int.mul_sub]
  have:i*x.fdiv y*y=i*(y*x.fdiv y):=by ac_rfl
  omega
 ·obtain⟨i,j,z⟩:=h.i2
  refine⟨i*x.fdiv y+j,i,?_⟩
  rw[z,e,Int.add_mul,Int.mul_sub]
  have:i*x.fdiv y*y=i*(y*x.fdiv y):=by ac_rfl
  omega
theorem Zk.fin{x0 y0 x:Int}(h:Zk x0 y0 x 0):Ms x0 y0 (if x<0 then -x else x):=by
 obtain⟨i,j,z⟩:=h.i1
 obtain⟨k,l,z'⟩:=h.i2
 simp only[Int.mul_zero,Int.add_zero] at z z'
 split
 ·refine⟨by omega,fun G g a b=>?_,⟨-i,by rw[z,Int.neg_mul_neg]⟩,⟨-k,by rw[z',Int.neg_mul_neg]⟩⟩
  have:=g.neg (h.grp G g a b).1
  simpa using this
 ·exact⟨by omega,fun G g a b=>(h.grp G g a b).1,⟨i,z⟩,⟨k,z'⟩⟩
def cj:mL:=fun ds H Q=>∃x y,ds=[.int x,.int y]/\(∀g,Ms x y g->Q (.int g) H)
theorem rM{x y:Int}{H:aF}{Q:aY}(h:∀g,Ms x y g->Q (.int g) H):cj [.int x,.int y] H Q:=⟨_,_,rfl,h⟩
theorem nZ:∀(ds:List D) (H:aF) (Q:aY),cj ds H Q->ds.length=bU.length:=by
 intro ds H Q h
 obtain⟨_,_,rfl,_⟩:=h
 rfl
def gC:dw:=Zx (oK (o3 qF (v3 1) (c3 (.int 0)))) (cM (st3 2 (o3 Fi (v3 0) (v3 1)))
  (cM (st3 0 (v3 1))
  (st3 1 (v3 2))))
def fJ:dw:=(cM gC
  (lD (dH Oz (au (v3 0) aH))))
theorem pG:∀(ds:List D) (H:aF) (Q:aY),cj ds H Q->fJ (dX Q) (aJ fY ds) H:=by
 intro ds H Q h
 obtain⟨x0,y0,rfl,h⟩:=h
 simp only[fJ,aJ,fY,List.map_cons,List.map_nil,List.length_cons,List.length_nil,Nat.reduceAdd,Nat.reduceSub,Nat.zero_add,List.replicate,List.cons_append,List.nil_append]
 walk_at "l3"
 unfold gC
 refine Ui (fun σ H2=>H2=H/\∃x y z,Zk x0 y0 x y/\σ=[some (.int x),some (.int y),z]) (fun σ _=>match σ with | [_,some (.int y),_]=>y.natAbs | _=>0) ⟨rfl,x0,y0,none,⟨fun _ _ a b=>⟨a,b⟩,⟨1,0,by omega⟩,⟨0,1,by omega⟩⟩,rfl⟩ ?_
 rintro σ H2 ⟨rfl,x,y,z,hi,rfl⟩
 walk_at "l3"
 refine U9 (fun hy=>?_) fun hy=>?_
 ·walk_at "l3"
  refine Yq hy ?_
  walk_at "l3"
  exact⟨⟨rfl,y,x.fmod y,_,hi.step,rfl⟩,HN hy⟩
 ·subst hy
  walk_at "l3"
  refine aaA ?_
  exact bT (h _ hi.fin) aN.refl
structure Lvl(N:Nat)(p0 q0 u:Pt)(w:Int):Prop where
 grp:∀G,xV G->G p0->G q0->G u/\G (w,0)
 i1:fQ u (w,0) p0
 i2:fQ u (w,0) q0
 bu:Bt 400 u.2
 b1:Bt (N+400000) u.1
 bw:Bt (N+400000) w
def gf:mL:=fun ds H Q=>∃x1 y1 x2 y2,ds=[.tup [.int x1,.int y1],.tup [.int x2,.int y2]]/\(∃N:Nat,(N<=60000000/\Bt N x1/\Bt N x2/\Bt 400 y1/\Bt 400 y2)/\∀u:Pt,∀w:Int,Lvl N (x1,y1) (x2,y2) u w->Q (.tup [.tup [.int u.1,.int u.2],.tup [.int w,.int 0]]) H)
theorem Gh{x1 y1 x2 y2:Int}(N:Nat){H:aF}{Q:aY}(hN:N<=60000000)(h1:Bt N x1)(h2:Bt N x2)(h3:Bt 400 y1)(h4:Bt 400 y2)(h:∀u:Pt,∀w:Int,Lvl N (x1,y1) (x2,y2) u w->Q (.tup [.tup [.int u.1,.int u.2],.tup [.int w,.int 0]]) H):gf [.tup [.int x1,.int y1],.tup [.int x2,.int y2]] H Q:=⟨_,_,_,_,rfl,⟨N,⟨hN,h1,h2,h3,h4⟩,h⟩⟩
theorem yE:∀(ds:List D) (H:aF) (Q:aY),gf ds H Q->ds.length=fV.length:=by
 intro ds H Q h
 obtain⟨_,_,_,_,rfl,_⟩:=h
 rfl
def nH:dw:=Zx (oK (o3 qF (o3 aP (v3 1) (c3 (.int 1))) (c3 (.int 0)))) (cM (st3 2 (o3 En (o3 aP (v3 0) (c3 (.int 1))) (o3 aP (v3 1) (c3 (.int 1)))))
  (cM (st3 3 (jh (au (o3 fH (o3 aP (v3 0) (c3 (.int 0))) (o3 fP (v3 2) (o3 aP (v3 1) (c3 (.int 0))))) (au (o3 fH (o3 aP (v3 0) (c3 (.int 1))) (o3 fP (v3 2) (o3 aP (v3 1) (c3 (.int 1))))) aH))))
  (cM (st3 0 (v3 1))
  (st3 1 (v3 3)))))
def nQ:dw:=(cM nH
  (lD (jh (au (v3 0) (au (v3 1) aH)))))
theorem Cv:∀(ds:List D) (H:aF) (Q:aY),gf ds H Q->nQ (dX Q) (aJ nJ ds) H:=by
 intro ds H Q h
 obtain⟨x1,y1,x2,y2,rfl,h⟩:=h
 obtain⟨N,⟨hN,b1,b2,b3,b4⟩,h⟩:=h
 simp only[nQ,aJ,nJ,List.map_cons,List.map_nil,List.length_cons,List.length_nil,Nat.reduceAdd,Nat.reduceSub,Nat.zero_add,List.replicate,List.cons_append,List.nil_append]
 walk_at "l3"
 unfold nH
 refine Ui (fun σ H2=>H2=H/\∃p q:Pt,∃y z,UT N (x1,y1) (x2,y2) p q/\σ=[some (.tup [.int p.1,.int p.2]),some (.tup [.int q.1,.int q.2]),y,z]) (fun σ _=>match σ with | [_,some (.tup [_,.int y]),_,_]=>y.natAbs | _=>0) ⟨rfl,(x1,y1),(x2,y2),none,none,UT.start b3 b4 b1 b2,rfl⟩ ?_
 rintro σ H2 ⟨rfl,p,q,y,z,hi,rfl⟩
 obtain⟨c1,c2⟩:=hi.all
 have c3:=hi.bp
 have c4:=hi.bq
 have hs:=hi.step
 obtain⟨p1,p2⟩:=p
 obtain⟨q1,q2⟩:=q
 dsimp only at c1 c2 c3 c4
 have c5:Bt 400 (p2.fdiv q2):=Bt.fdiv c3
 walk_at "l3"
 refine U9 (fun hy=>?_) fun hy=>?_
 ·walk_at "l3"
  refine Wv ⟨hy,Bt.mono c4 (by decide)⟩ ?_
  walk_at "l3"
  refine Ej (.inr ⟨400,N+400000,c5,c2,by omega⟩) ?_
  walk_at "l3"
  exact⟨⟨rfl,(q1,q2),Wh (p1,p2) (q1,q2),_,_,(hs hy).1,rfl⟩,(hs hy).2⟩
 ·subst hy
  walk_at "l3"
  exact bT (h (p1,p2) q1 ⟨hi.grp,hi.i1,hi.i2,c3,c1,c2⟩) aN.refl
def eX:mL:=fun ds H Q=>∃z,ds=[.str z]/\(∃ls:List Lt,(z=bI ls/\ls.length<=500)/\Q (.str (bI (bk ls))) H)
theorem Dy(ls:List Lt){H:aF}{Q:aY}(hl:ls.length<=500)(h:Q (.str (bI (bk ls))) H):eX [.str (bI ls)] H Q:=⟨_,rfl,⟨ls,⟨rfl,hl⟩,h⟩⟩
theorem Y0(l:Lt):my.lookup (Dm l)=some (.str (Dm (ZS l))):=by
 match l with
 |0=>rfl
 |1=>rfl
 |2=>rfl
 |3=>rfl
theorem wH:∀(ds:List D) (H:aF) (Q:aY),eX ds H Q->ds.length=dZ.length:=by
 intro ds H Q h
 obtain⟨_,rfl,_⟩:=h
 rfl
def mz:dw:=(lD (mz3 rC (c3 (.str "")) (au (Er (irv (v3 0)) (qD 0) rG (kd3 my (v3 0)) ["letter"] []) aH)))
theorem yW:∀(ds:List D) (H:aF) (Q:aY),eX ds H Q->mz (dX Q) (aJ jq ds) H:=by
 intro ds H Q h
 obtain⟨z,rfl,h⟩:=h
 obtain⟨ls,⟨rfl,hl⟩,h⟩:=h
 simp only[mz,aJ,jq,List.map_cons,List.map_nil,List.length_cons,List.length_nil,Nat.reduceAdd,Nat.reduceSub,Nat.zero_add,List.replicate,List.cons_append,List.nil_append]
 walk_at "l3"
 refine aaL (mR _ (by omega)) ?_
 rw[Oh,←List.map_reverse]
 refine Cp.map (fun l=>.str (Dm (ZS l))) (fun _ _=>trivial) (by rw[List.length_reverse];omega) ?_ ?_
 ·intro i l hl2 R H2 hs hR
  walk_at "l3"
  refine VP (Y0 l) ?_
  exact hR H2 aN.refl
 intro p hp
 walk_at "l3"
 refine XF (ls:=bk ls) (by rw[aB];unfold bk;rw[←List.map_reverse,List.map_map];rfl) (by rw[Yo];omega) ?_
 exact bT h (aN.fresh hp)
def sub(l:List Lt)(c p:Int):List Lt:=(l.drop c.toNat).take (p-c).toNat
theorem Dr{l:List Lt}{c p:Int}(h0:0<=c)(h1:c<=p)(h2:p<=l.length):(sub l c p).length=(p-c).toNat:=by
 unfold sub
 rw[List.length_take,List.length_drop];omega
theorem Iz(l:List Lt){c p:Int}(h0:0<=c)(h1:c<=p)(h2:p<=l.length):tH (bI l) (some c) (some p)=bI (sub l c p):=by
 unfold tH bI
 rw[List.toList_toArray,qQ]
 congr 2
 unfold lO HT.eQ sub
 simp only[]
 rw[if_neg (by omega),if_neg (by omega),show min c.toNat l.length=c.toNat from by omega,show min p.toNat l.length=p.toNat from by omega,show p.toNat-c.toNat=(p-c).toNat from by omega]
def ends(cs:List Int)(L:Int):List Int:=cs.drop 1++[cs.headD 0+L]
def nW(cs:List Int)(L:Int):List (Int×Int):=cs.zip (ends cs L)
theorem QJ{cs:List Int}{L:Int}(h:cs≠[]):(ends cs L).length=cs.length:=by
 unfold ends
 rw[List.length_append,List.length_drop,List.length_singleton]
 have:=List.length_pos_iff.mpr h
 omega
theorem zm{cs:List Int}{L:Int}(h:cs≠[]):(nW cs L).length=cs.length:=by
 unfold nW
 rw[List.length_zip,QJ h,Nat.min_self]
theorem aaZ{cs:List Int}(h:cs≠[]):nA (cs.map D.int) 0=some (.int (cs.headD 0)):=by
 cases cs with
 |nil=>exact absurd rfl h
 |cons c cs=>
  unfold nA RC
  rw[List.length_map,List.length_cons,if_pos (by omega),if_pos (by omega),Option.bind_some]
  rfl
theorem Xv{α:Type}(xs:List α)(h:xs≠[]):lO xs (some 1) none=xs.drop 1:=by
 unfold lO HT.eQ
 simp only[]
 have:=List.length_pos_iff.mpr h
 rw[if_neg (by omega),show min (Int.toNat 1) xs.length=1 from by omega,List.take_of_length_le (by rw[List.length_drop];omega)]
structure JM(cs:List Int)(h:Int):Prop where
 len:cs.length=2\/cs.length=3
 Zq:cs.Pairwise (· < ·)
 rQ:∀c∈cs,0<=c/\c<h
theorem JM.ne{cs:List Int}{h:Int}(c:JM cs h):cs≠[]:=by intro z;have:=c.len;rw[z] at this;simp at this
theorem JM.nW{cs:List Int}{h:Int}(c:JM cs h):∀s∈nW cs h,0<=s.1/\s.1<s.2/\s.2<h+h/\s.1<h:=by
 obtain⟨hl,hs,hr⟩:=c
 intro s hm
 rcases cs with _ | ⟨a,_ | ⟨b,_ | ⟨d,_ | _⟩⟩⟩ <;> simp at hl
 ·have ha:=hr a (by simp)
  have hb:=hr b (by simp)
  simp only[List.pairwise_cons,List.mem_cons,List.not_mem_nil,or_false,forall_eq] at hs
  simp only[Law.nW,ends,List.drop_succ_cons,List.drop_zero,List.cons_append,List.nil_append,List.headD_cons,List.zip_cons_cons,List.zip_nil_right,List.mem_cons,List.not_mem_nil,or_false] at hm
  rcases hm with rfl | rfl
  ·exact⟨ha.1,hs.1,by omega,ha.2⟩
  ·exact⟨hb.1,by dsimp only;omega,by dsimp only;omega,hb.2⟩
 ·have ha:=hr a (by simp)
  have hb:=hr b (by simp)
  have hd:=hr d (by simp)
  simp only[List.pairwise_cons,List.mem_cons,List.not_mem_nil,or_false,forall_eq_or_imp,forall_eq] at hs
  simp only[Law.nW,ends,List.drop_succ_cons,List.drop_zero,List.cons_append,List.nil_append,List.headD_cons,List.zip_cons_cons,List.zip_nil_right,List.mem_cons,List.not_mem_nil,or_false] at hm
  rcases hm with rfl | rfl | rfl
  ·exact⟨ha.1,hs.1.1,by dsimp only;omega,ha.2⟩
  ·exact⟨hb.1,hs.2.1,by dsimp only;omega,hb.2⟩
  ·exact⟨hd.1,by dsimp only;omega,by dsimp only;omega,hd.2⟩
def eE:mL:=fun ds H Q=>∃z xs,ds=[.str z,.tup xs]/\(∃(W:List Lt) (cs:List Int),(z=bI W/\xs=cs.map D.int/\W.length<=500/\cs≠[]/\cs.length<=10)/\∀p,H p=none->Q (.ref p) (aO H p (.lst ((nW cs ((W.length:Int) / 2)).map bQ))))
theorem uG{W:List Lt}{cs:List Int}{H:aF}{Q:aY}(hl:W.length<=500)(hn:cs≠[])(hc:cs.length<=10)(h:∀p,H p=none->Q (.ref p) (aO H p (.lst ((nW cs ((W.length:Int) / 2)).map bQ)))):eE [.str (bI W),.tup (cs.map D.int)] H Q:=⟨_,_,rfl,⟨W,cs,⟨rfl,rfl,hl,hn,hc⟩,h⟩⟩
theorem yz:∀(ds:List D) (H:aF) (Q:aY),eE ds H Q->ds.length=fL.length:=by
 intro ds H Q h
 obtain⟨_,_,rfl,_⟩:=h
 rfl
def nY:dw:=(cM (st3 2 (o3 bG (dH zG (au (WK Nr (v3 1) (UG (c3 (.int 1))) Vu) aH)) (Il (au (o3 bG (o3 aP (v3 1) (c3 (.int 0))) (o3 fW (dH dj (au (v3 0) aH)) (c3 (.int 2)))) aH))))
  (lD (lz3 (v3 1) (v3 2))))
theorem Br:∀(ds:List D) (H:aF) (Q:aY),eE ds H Q->nY (dX Q) (aJ ou ds) H:=by
 intro ds H Q h
 obtain⟨_,_,rfl,h⟩:=h
 obtain⟨W,cs,⟨rfl,rfl,hl,hn,hc⟩,h⟩:=h
 have hp:=List.length_pos_iff.mpr hn
 simp only[nY,aJ,ou,List.map_cons,List.map_nil,List.length_cons,List.length_nil,Nat.reduceAdd,Nat.reduceSub,Nat.zero_add,List.replicate,List.cons_append,List.nil_append]
 walk_at "l3"
 refine aai (by rw[List.length_map];unfold HT.eQ;simp only[];rw[if_neg (by omega)];intro z;have:=z.1;omega) ?_
 rw[Ro,Xv _ hn]
 walk_at "l3"
 intro p1 hp1
 walk_at "l3"
 refine Cd (aaZ hn) ?_
 walk_at "l3"
 refine n8 (by omega) ?_
 walk_at "l3"
 intro p2 hp2
 walk_at "l3"
 have ee:(cs.drop 1).map D.int++[D.int (cs.headD 0+(W.length:Int) / 2)]=(ends cs ((W.length:Int) / 2)).map D.int:=by unfold ends;rw[List.map_append];rfl
 refine Wc (bC aB hp2) aB (by rw[List.length_map,List.length_drop,bK];show _+1<=_;omega) fun p3 hp3=>?_
 rw[ee]
 walk_at "l3"
 refine aaB aB (by rw[List.length_map];omega) fun p4 hp4=>?_
 have s2:=(aN.fresh (o:=.lst ((cs.drop 1).map D.int)) hp1).trans (aN.fresh (o:=.lst [D.int (cs.headD 0+(W.length:Int) / 2)]) hp2)
 have s3:=s2.trans (aN.fresh (o:=.lst ((ends cs ((W.length:Int) / 2)).map D.int)) hp3)
 have h0:H p4=none:=iy s3 hp4
 rw[Aq]
 exact bT (h p4 h0) (mQ (s3.upd h0) aB)
def cH:mL:=fun ds H Q=>∃h,ds=[.int h]/\((0<=h/\h<=21)/\∀p,H p=none->Q (.ref p) (aO H p (.lst ((jR h).map bQ))))
theorem nF{h:Int}{H:aF}{Q:aY}(h0:0<=h)(h1:h<=21)(q:∀p,H p=none->Q (.ref p) (aO H p (.lst ((jR h).map bQ)))):cH [.int h] H Q:=⟨_,rfl,⟨⟨h0,h1⟩,q⟩⟩
theorem sZ:∀(ds:List D) (H:aF) (Q:aY),cH ds H Q->ds.length=cX.length:=by
 intro ds H Q h
 obtain⟨_,rfl,_⟩:=h
 rfl
def jM:dw:=DQ (Zi (v3 0)) (qD 2) (RG (m3 xG (v3 1) (au (Er (ir2 (o3 bG (v3 2) (c3 (.int 1))) (v3 0)) (qD 0) rG (jh (au (v3 1) (au (v3 0) aH))) ["two"] [(2, "one")]) aH)))
def jC:dw:=(cM (st3 1 (Il aH))
  (cM jM
  (lD (v3 1))))
theorem uL:∀(ds:List D) (H:aF) (Q:aY),cH ds H Q->jC (dX Q) (aJ f9 ds) H:=by
 intro ds H Q h
 obtain⟨n,rfl,h⟩:=h
 obtain⟨⟨h0,h1⟩,h⟩:=h
 simp only[jC,aJ,f9,List.map_cons,List.map_nil,List.length_cons,List.length_nil,Nat.reduceAdd,Nat.reduceSub,Nat.zero_add,List.replicate,List.cons_append,List.nil_append]
 walk_at "l3"
 intro p hp
 walk_at "l3"
 unfold jM
 walk_at "l3"
 refine Lp.rQ (fun i σ H2=>aN H H2/\H2 p=some (.lst ((uP n i).map bQ))/\∃x,σ=[some (.int n),some (.ref p),x]) ⟨aN.fresh hp,aB,_,rfl⟩ ?_ ?_
 ·rintro i σ H2 hi ⟨hs,hH,x,rfl⟩
  rw[Int.zero_add]
  have hl2:=vI n h1 i
  have hi21:i*21<=21*21:=Nat.mul_le_mul_right _ (by omega)
  walk_at "l3"
  refine Cp.rQ (fun j=>bQ ((i:Int),(i:Int)+1+(j:Int))) (by omega) ?_ ?_
  ·intro j hj R H4 hs4 hR
   walk_at "l3"
   exact hR H4 aN.refl
  intro p2 hp2
  have e:((List.range (n-((i:Int)+1)).toNat).map fun j:Nat=>bQ ((i:Int),(i:Int)+1+(j:Int)))=(v5 n i (n-((i:Int)+1)).toNat).map bQ:=by unfold v5;rw[List.map_map];rfl
  rw[e]
  walk_at "l3"
  refine VL (bC hH hp2) aB (Nat.le_of_lt (sX (by rw[List.length_map,List.length_map];have:(v5 n i (n-((i:Int)+1)).toNat).length=(n-((i:Int)+1)).toNat:=(by simp[v5]);omega))) ?_
  walk_at "l3"
  refine⟨fun b o hb=>?_,?_,_,rfl⟩
  ·rw[aV (ne3 hb hp)];exact (hs.trans (aN.fresh hp2)) b o hb
  ·rw[aB,uP,List.map_append]
 ·rintro σ H2 ⟨hs,hH,x,rfl⟩
  walk_at "l3"
  exact bT (h p hp) (mQ hs hH)
def cat(ns:List Int)(k:Nat):Int:=if k<ns.length then ns.getD k 0 else if ns.length=0 then 0 else ns.getD (k%ns.length) 0*(48271+(k:Int)*(k:Int))%1000003
def bJ:mL:=fun ds H Q=>∃xs k,ds=[.fl xs,.int k]/\((match intsOf xs with
  |some ns=>(0<=k/\k<100000/\ns.length<=63)/\Q (.int (cat ns k.toNat)) H
  |none=>False))
theorem Ba{ns:List Int}{k:Int}{H:aF}{Q:aY}(hk:0<=k)(hk1:k<100000)(hl:ns.length<=63)(h:Q (.int (cat ns k.toNat)) H):bJ [.fl (ns.map D.int),.int k] H Q:=by
 refine⟨_,_,rfl,?_⟩
 simp only[iT];exact⟨⟨hk,hk1,hl⟩,h⟩
local macro_rules | `(tactic| walk_at "l3c")=>`(tactic| ((with_reducible show bJ _ _ _);refine Ba (by walk_at "l3a") (by walk_at "l3a") (by assumption) ?_))
theorem vV:∀(ds:List D) (H:aF) (Q:aY),bJ ds H Q->ds.length=d8.length:=by
 intro ds H Q h
 obtain⟨_,_,rfl,_⟩:=h
 rfl
def lr:dw:=(cM (DP (oK (o3 Bp (v3 1) (dH dj (au (v3 0) aH)))) (lD (o3 aP (v3 0) (v3 1))) DK)
  (cM (DP (oK (o3 vU (dH dj (au (v3 0) aH)) (c3 (.int 0)))) (lD (c3 (.int 0))) DK)
  (lD (o3 fG (o3 fP (o3 aP (v3 0) (o3 fG (v3 1) (dH dj (au (v3 0) aH)))) (o3 bG (c3 (.int 48271)) (o3 fP (v3 1) (v3 1)))) (c3 (.int 1000003))))))
theorem zx:∀(ds:List D) (H:aF) (Q:aY),bJ ds H Q->lr (dX Q) (aJ lA ds) H:=by
 intro ds H Q h
 obtain⟨xs,k,rfl,h⟩:=h
 split at h
 case h_2=>exact h.elim
 rename_i ns e
 have e':=fU e
 subst e'
 obtain⟨⟨hk,hk1,hns⟩,h⟩:=h
 obtain⟨n,rfl⟩:=Int.eq_ofNat_of_zero_le hk
 rw[Int.toNat_natCast] at h
 simp only[lr,aJ,lA,List.map_cons,List.map_nil,List.length_cons,List.length_nil,Nat.reduceAdd,Nat.reduceSub,Nat.zero_add,List.replicate,List.cons_append,List.nil_append]
 unfold cat at h
 walk_at "l3"
 rw[List.length_map]
 refine DN (fun hlt=>?_) fun hlt=>?_
 ·have hl:n<ns.length:=by omega
  rw[if_pos hl] at h
  have ha:nA (ns.map D.int) (n:Int)=some (.int (ns.getD n 0)):=by
   rw[uf (by omega) (by rw[Int.toNat_natCast];exact hl)]
   simp only[Int.toNat_natCast,List.getD_eq_getElem?_getD,List.getElem?_eq_getElem hl];rfl
  walk_at "l3"
  refine VF ha ?_
  walk_at "l3"
  exact bT h aN.refl
 ·have hl:¬n<ns.length:=by omega
  rw[if_neg hl] at h
  walk_at "l3"
  rw[List.length_map]
  refine DN (fun h0=>?_) fun h0=>?_
  ·walk_at "l3"
   rw[if_pos (by omega)] at h
   exact bT h aN.refl
  ·rw[if_neg (by omega)] at h
   have hp:(0:Int)<ns.length:=by omega
   have hm:n%ns.length<ns.length:=Nat.mod_lt _ (by omega)
   walk_at "l3"
   rw[List.length_map]
   refine Q0 hp ?_
   have ha:nA (ns.map D.int) ((n:Int)%(ns.length:Int))=some (.int (ns.getD (n%ns.length) 0)):=by
    rw[←Int.natCast_emod,uf (by omega) (by rw[Int.toNat_natCast];exact hm)]
    simp only[Int.toNat_natCast,List.getD_eq_getElem?_getD,List.getElem?_eq_getElem hm];rfl
   refine VF ha ?_
   walk_at "l3"
   have hq:(n:Int)*(n:Int)<=100000*100000:=Int.mul_le_mul (by omega) (by omega) (by omega) (by omega)
   have hq0:0<=(n:Int)*(n:Int):=Int.mul_nonneg (by omega) (by omega)
   refine Ej (.inl (.inr ⟨by omega,by omega⟩)) ?_
   walk_at "l3"
   exact bT h aN.refl
def gk:mL:=fun ds H Q=>∃w0_ w1_,ds=[.int w0_,.int w1_]/\(∀x y,Bt 200 x->Bt 200 y->Q (.tup [.int x,.int y]) H)
theorem G4{c d:Int}{H:aF}{Q:aY}(h:∀x y,Bt 200 x->Bt 200 y->Q (.tup [.int x,.int y]) H):gk [.int c,.int d] H Q:=⟨_,_,rfl,h⟩
theorem Qt{n:Int}:Bt 200 (n%(2*10 ^ Int.toNat 40+1)-10 ^ Int.toNat 40):=by
 have e1:(10:Int) ^ Int.toNat 40=10000000000000000000000000000000000000000:=by decide
 have e3:(2:Nat) ^ 200=1606938044258990275541962092341162602522202993782792835301376:=by decide
 rw[e1];unfold Bt;rw[e3];omega
theorem Jb{n:Int}:Bt 200 (n%41-20):=by
 have e3:(2:Nat) ^ 200=1606938044258990275541962092341162602522202993782792835301376:=by decide
 unfold Bt;rw[e3];omega
theorem yP:∀(ds:List D) (H:aF) (Q:aY),gk ds H Q->ds.length=fO.length:=by
 intro ds H Q h
 obtain⟨_,_,rfl,_⟩:=h
 rfl
def oF:dw:=(cM (DP (oK (o3 vU (o3 fG (v3 0) (c3 (.int 3))) (c3 (.int 0)))) (lD (jh (au (o3 fH (o3 fG (o3 fW (v3 0) (c3 (.int 3))) (c3 (.int 41))) (c3 (.int 20))) (au (o3 fH (o3 fG (o3 fW (v3 1) (c3 (.int 3))) (c3 (.int 41))) (c3 (.int 20))) aH)))) DK)
  (lD (jh (au (o3 fH (o3 fG (o3 fW (v3 0) (c3 (.int 3))) (o3 bG (o3 fP (c3 (.int 2)) (o3 xZ (c3 (.int 10)) (c3 (.int 40)))) (c3 (.int 1)))) (o3 xZ (c3 (.int 10)) (c3 (.int 40)))) (au (o3 fH (o3 fG (v3 1) (o3 bG (o3 fP (c3 (.int 2)) (o3 xZ (c3 (.int 10)) (c3 (.int 40)))) (c3 (.int 1)))) (o3 xZ (c3 (.int 10)) (c3 (.int 40)))) aH)))))
theorem Af:∀(ds:List D) (H:aF) (Q:aY),gk ds H Q->oF (dX Q) (aJ nP ds) H:=by
 intro ds H Q h
 obtain⟨_,_,rfl,h⟩:=h
 simp only[oF,aJ,nP,List.map_cons,List.map_nil,List.length_cons,List.length_nil,Nat.reduceAdd,Nat.reduceSub,Nat.zero_add,List.replicate,List.cons_append,List.nil_append]
 walk_at "l3"
 refine DN (fun hc=>?_) fun hc=>?_
 ·walk_at "l3"
  exact bT (h _ _ Jb Jb) aN.refl
 ·walk_at "l3"
  exact bT (h _ _ Qt Qt) aN.refl
def gP:mL:=fun ds H Q=>∃z,ds=[.str z]/\(∃l:Lt,z=Dm l/\Q (.tup [.int (step l).1,.int (step l).2]) H)
theorem Dz(l:Lt){H:aF}{Q:aY}(h:Q (.tup [.int (step l).1,.int (step l).2]) H):gP [.str (Dm l)] H Q:=⟨_,rfl,⟨l,rfl,h⟩⟩
theorem Sw(l:Lt):pA "enws" (Dm l)=some l.val:=by
 match l with
 |0=>rfl
 |1=>rfl
 |2=>rfl
 |3=>rfl
theorem step_at(l:Lt):nA [D.tup [.int 1,.int 0],.tup [.int 0,.int 1],.tup [.int (-1),.int 0],.tup [.int 0,.int (-1)]] (l.val:Int)=some (.tup [.int (step l).1,.int (step l).2]):=by
 match l with
 |0=>rfl
 |1=>rfl
 |2=>rfl
 |3=>rfl
theorem Ey:∀(ds:List D) (H:aF) (Q:aY),gP ds H Q->ds.length=jO.length:=by
 intro ds H Q h
 obtain⟨_,rfl,_⟩:=h
 rfl
def uZ:dw:=(lD (o3 aP (Il (au (jh (au (c3 (.int 1)) (au (c3 (.int 0)) aH))) (au (jh (au (c3 (.int 0)) (au (c3 (.int 1)) aH))) (au (jh (au (u3 o9 (c3 (.int 1))) (au (c3 (.int 0)) aH))) (au (jh (au (c3 (.int 0)) (au (u3 o9 (c3 (.int 1))) aH))) aH))))) (mz3 pO (c3 (.str "enws")) (au (v3 0) aH))))
theorem KY:∀(ds:List D) (H:aF) (Q:aY),gP ds H Q->uZ (dX Q) (aJ u6 ds) H:=by
 intro ds H Q h
 obtain⟨z,rfl,h⟩:=h
 obtain⟨l,rfl,h⟩:=h
 simp only[uZ,aJ,u6,List.map_cons,List.map_nil,List.length_cons,List.length_nil,Nat.reduceAdd,Nat.reduceSub,Nat.zero_add,List.replicate,List.cons_append,List.nil_append]
 walk_at "l3"
 intro p hp
 walk_at "l3"
 refine RM (Sw l) ?_
 walk_at "l3"
 refine uT aB (step_at l) ?_
 walk_at "l3"
 exact bT h (aN.fresh hp)
def iG:mL:=fun ds H Q=>∃w0_,ds=[.int w0_]/\(Q (.bl true) H)
theorem Jq{i:Int}{H:aF}{Q:aY}(h:Q (.bl true) H):iG [.int i] H Q:=⟨_,rfl,h⟩
local macro_rules | `(tactic| walk_at "l3c")=>`(tactic| (with_reducible refine Jq ?_))
theorem Aw:∀(ds:List D) (H:aF) (Q:aY),iG ds H Q->ds.length=gW.length:=by
 intro ds H Q h
 obtain⟨_,rfl,_⟩:=h
 rfl
def rJ:dw:=(lD (Zy (dH pH (au (v3 0) (au (c3 (.ty "int")) aH))) (nv3 (dH pH (au (v3 0) (au (c3 (.ty "bool")) aH))))))
theorem Gv:∀(ds:List D) (H:aF) (Q:aY),iG ds H Q->rJ (dX Q) (aJ qP ds) H:=by
 intro ds H Q h
 obtain⟨_,rfl,h⟩:=h
 simp only[rJ,aJ,qP,List.map_cons,List.map_nil,List.length_cons,List.length_nil,Nat.reduceAdd,Nat.reduceSub,Nat.zero_add,List.replicate,List.cons_append,List.nil_append]
 walk_at "l3"
 refine ifY rfl ?_
 walk_at "l3"
 exact bT h aN.refl
def wZ(w s:Int)(nx ny:Nat)(c:Pt):Prop:=(w<=c.1/\c.1<w+(nx:Int))/\s<=c.2/\c.2<s+(ny:Int)
def bxR(w y:Int)(nx:Nat):List Pt:=(List.range nx).map fun i:Nat=>(w+(i:Int),y)
def QS(w s:Int)(nx:Nat):Nat->List Pt
 |0=>[]
 |n+1=>QS w s nx n++bxR w (s+(n:Int)) nx
theorem ug(w s:Int)(nx:Nat):∀ny,(QS w s nx ny).length=ny*nx
 |0=>by simp[QS]
 |n+1=>by rw[QS,List.length_append,ug,Nat.succ_mul];simp[bxR]
theorem Im{w y:Int}{nx:Nat}{c:Pt}:c∈bxR w y nx↔(w<=c.1/\c.1<w+(nx:Int))/\c.2=y:=by
 unfold bxR
 rw[List.mem_map]
 constructor
 ·rintro⟨i,hi,rfl⟩
  have:=List.mem_range.mp hi
  exact⟨⟨by dsimp only;omega,by dsimp only;omega⟩,rfl⟩
 ·rintro⟨⟨h1,h2⟩,h3⟩
  exact⟨(c.1-w).toNat,List.mem_range.mpr (by omega),Prod.ext (by dsimp only;omega) h3.symm⟩
theorem oR{w s:Int}{nx:Nat}{c:Pt}:∀ {ny:Nat},c∈QS w s nx ny↔wZ w s nx ny c
 |0=>by
  unfold wZ
  constructor
  ·intro h;cases h
  ·intro h;omega
 |n+1=>by
  rw[QS,List.mem_append,oR,Im]
  unfold wZ
  omega
theorem QD(w s:Int)(nx:Nat):∀ny,(QS w s nx ny).Nodup
 |0=>by simp[QS]
 |n+1=>by
  rw[QS,List.nodup_append]
  refine⟨QD w s nx n,?_,fun a ha b hb z=>?_⟩
  ·unfold bxR
   refine List.nodup_range.map _ ?_
   intro a b hab z
   exact hab (by have:=congrArg Prod.fst z;dsimp only at this;omega)
  ·subst z
   have h1:=oR.mp ha
   have h2:=(Im.mp hb).2
   unfold wZ at h1
   omega
structure Bf(ps:List Pt)(w s:Int)(nx ny:Nat)(met kn:List Pt)(at0:Nat):Prop where
 st:(w,s)∈met
 nd:kn.Nodup
 iff:∀c,c∈kn↔c∈ps\/c∈met
 bx:∀c∈met,wZ w s nx ny c/\c∉ps/\Way ps (w,s) c
 ml:met.length<=kn.length
 al:at0<=met.length
 cl:∀i,i<at0->∀c,met[i]?=some c->∀n∈bB c,wZ w s nx ny n->n∈kn
section
variable{ps met kn:List Pt}{w s:Int}{nx ny at0:Nat}
theorem Bf.len(h:Bf ps w s nx ny met kn at0)(hb:∀c∈ps,wZ w s nx ny c):kn.length<=ny*nx:=by
 rw[←ug w s nx ny]
 refine sub_len h.nd fun c hc=>oR.mpr ?_
 rcases (h.iff c).mp hc with z | z
 ·exact hb c z
 ·exact (h.bx c z).1
theorem Bf.grow{c n:Pt}(h:Bf ps w s nx ny met kn at0)(hc:c∈met)(hn:n∈bB c)(hb:wZ w s nx ny n)(hk:n∉kn):Bf ps w s nx ny (met++[n]) (kn++[n]) at0:=by
 have hnp:n∉ps:=fun z=>hk ((h.iff n).mpr (.inl z))
 refine⟨List.mem_append_left _ h.st,?_,fun d=>?_,fun d hd=>?_,by have:=h.ml;simp;exact this,by have:=h.al;simp;omega,fun i hi d hd m hm hmb=>?_⟩
 ·rw[List.nodup_append]
  exact⟨h.nd,by simp,fun a ha b hb=>by rw[List.mem_singleton.mp hb];exact fun z=>hk (z▸ha)⟩
 ·rw[List.mem_append,List.mem_append,h.iff]
  exact or_assoc
 ·rcases List.mem_append.mp hd with hd | hd
  ·exact h.bx d hd
  ·rw[List.mem_singleton.mp hd]
   exact⟨hb,hnp,.step (h.bx c hc).2.2 hn hnp⟩
 ·have hl:=h.al
  rw[List.getElem?_append_left (by omega)] at hd
  exact List.mem_append_left _ (h.cl i hi d hd m hm hmb)
theorem Bf.next{c:Pt}(h:Bf ps w s nx ny met kn at0)(hc:met[at0]?=some c)(hn:∀n∈bB c,wZ w s nx ny n->n∈kn):Bf ps w s nx ny met kn (at0+1):=by
 have:=(List.getElem?_eq_some_iff.mp hc).1
 refine⟨h.st,h.nd,h.iff,h.bx,h.ml,by omega,fun i hi d hd m hm hmb=>?_⟩
 by_cases e:i=at0
 ·subst e
  rw[hc] at hd
  cases hd
  exact hn m hm hmb
 ·exact h.cl i (by omega) d hd m hm hmb
def Rim(ps:List Pt)(w s:Int)(nx ny:Nat):Prop:=∀c∈ps,(w<c.1/\c.1+1<w+(nx:Int))/\s<c.2/\c.2+1<s+(ny:Int)
theorem RB{x:Int}(hx:∀c∈ps,c.1≠x)(y:Int):∀n:Nat,Way ps (x,y) (x,y+(n:Int))
 |0=>by rw[show (x,y+((0:Nat):Int))=(x,y) from Prod.ext rfl (by dsimp only;omega)];exact .refl
 |n+1=>.step (RB hx y n) (by rw[iK];dsimp only;omega) fun z=>hx _ z rfl
theorem CT{y:Int}(hy:∀c∈ps,c.2≠y)(x:Int):∀n:Nat,Way ps (x,y) (x-(n:Int),y)
 |0=>by rw[show (x-((0:Nat):Int),y)=(x,y) from Prod.ext (by dsimp only;omega) rfl];exact .refl
 |n+1=>.step (CT hy x n) (by rw[iK];dsimp only;omega) fun z=>hy _ z rfl
theorem Way.symm{a b:Pt}(ha:a∉ps)(h:Way ps a b):Way ps b a:=by
 induction h with
 |refl=>exact .refl
 |step k h h' ih=>exact Way.trans (.step .refl (GP h) (k.off ha)) ih
theorem Um(hr:Rim ps w s nx ny)(hw:∀z,wZ w s nx ny z->z∉ps->Way ps (w,s) z)(z:Pt)(hz:z∉ps):Esc ps z:=by
 have col:∀ {x:Int} (y:Int),(x<=w\/w+(nx:Int)<=x+1)->Esc ps (x,y):=fun {x} y hx=>
  ⟨(x,y+((s+(ny:Int)-y).toNat:Int)),RB (fun c hc e=>by have:=hr c hc;omega) y _,fun c hc=>by have:=hr c hc;dsimp only;omega⟩
 have hws:(w,s)∉ps:=fun y=>by have:=hr _ y;dsimp only at this;omega
 by_cases c1:z.1<=w\/w+(nx:Int)<=z.1+1
 ·exact col z.2 c1
 by_cases c2:s+(ny:Int)<=z.2+1
 ·exact⟨z,.refl,fun c hc=>by have:=hr c hc;omega⟩
 by_cases c3:z.2<=s
 ·obtain⟨b,k,hb⟩:=col (x:=w) z.2 (.inl (Int.le_refl _))
  have:=CT (ps:=ps) (y:=z.2) (fun c hc e=>by have:=hr c hc;omega) z.1 (z.1-w).toNat
  rw[show z.1-((z.1-w).toNat:Int)=w by omega] at this
  exact⟨b,this.trans k,hb⟩
 ·obtain⟨b,k,hb⟩:=col (x:=w) s (.inl (Int.le_refl _))
  exact⟨b,((hw z ⟨by omega,by omega⟩ hz).symm hws).trans k,hb⟩
theorem Bf.full(h:Bf ps w s nx ny met kn met.length)(hb:∀c∈ps,wZ w s nx ny c)(hr:Rim ps w s nx ny)(hl:ny*nx<=kn.length)(z:Pt)(hz:z∉ps):Esc ps z:=by
 refine Um hr (fun z hb' hz'=>?_) z hz
 have:z∈kn:=Classical.byContradiction fun k=>by
  have:=sub_len (xs:=z::kn) (ys:=QS w s nx ny) (List.nodup_cons.mpr ⟨k,h.nd⟩) fun c hc=>oR.mpr (by
   rcases List.mem_cons.mp hc with rfl | hc
   ·exact hb'
   ·rcases (h.iff c).mp hc with y | y
    ·exact hb c y
    ·exact (h.bx c y).1)
  rw[ug,List.length_cons] at this
  omega
 exact (h.bx z (((h.iff z).mp this).resolve_left hz')).2.2
theorem Bf.lone{c:Pt}(h:Bf [c] (c.1-1) (c.2-1) 3 3 met kn met.length):9<=kn.length:=by
 have st:∀x y x' y':Int,(c.1+x,c.2+y)∈met->((x'=x+1/\y'=y)\/(x'=x/\y'=y+1)\/(x'=x-1/\y'=y)\/(x'=x/\y'=y-1))->(-1<=x'/\x'<=1)->(-1<=y'/\y'<=1)->¬(x'=0/\y'=0)->(c.1+x',c.2+y')∈met:=fun x y x' y' ha hn bx yb hne=>by
  obtain⟨i,hi⟩:=List.mem_iff_getElem?.mp ha
  have:=h.cl i (List.getElem?_eq_some_iff.mp hi).1 _ hi (c.1+x',c.2+y') (by
   rw[iK]
   rcases hn with ⟨rfl,rfl⟩ | ⟨rfl,rfl⟩ | ⟨rfl,rfl⟩ | ⟨rfl,rfl⟩
   ·exact .inl ⟨(Int.add_assoc ..).symm,rfl⟩
   ·exact .inr (.inl ⟨rfl,(Int.add_assoc ..).symm⟩)
   ·exact .inr (.inr (.inl ⟨(Int.add_sub_assoc ..).symm,rfl⟩))
   ·exact .inr (.inr (.inr ⟨rfl,(Int.add_sub_assoc ..).symm⟩)))
   ⟨by clear hn yb hne;dsimp only;omega,by clear hn bx hne;dsimp only;omega⟩
  exact ((h.iff _).mp this).resolve_left fun z=>hne (by
   have z:=List.mem_singleton.mp z
   exact⟨Int.add_left_cancel ((congrArg Prod.fst z).trans (Int.add_zero _).symm),Int.add_left_cancel ((congrArg Prod.snd z).trans (Int.add_zero _).symm)⟩)
 have m0:(c.1 + -1,c.2 + -1)∈met:=by have:=h.st;rw[Int.sub_eq_add_neg,Int.sub_eq_add_neg] at this;exact this
 have m1:=st (-1) (-1) 0 (-1) m0 (by decide) (by decide) (by decide) (by decide)
 have m2:=st 0 (-1) 1 (-1) m1 (by decide) (by decide) (by decide) (by decide)
 have m3:=st 1 (-1) 1 0 m2 (by decide) (by decide) (by decide) (by decide)
 have m4:=st 1 0 1 1 m3 (by decide) (by decide) (by decide) (by decide)
 have m5:=st 1 1 0 1 m4 (by decide) (by decide) (by decide) (by decide)
 have m6:=st 0 1 (-1) 1 m5 (by decide) (by decide) (by decide) (by decide)
 have m7:=st (-1) 1 (-1) 0 m6 (by decide) (by decide) (by decide) (by decide)
 have:=sub_len (xs:=QS (c.1-1) (c.2-1) 3 3) (ys:=kn) (QD _ _ _ _) fun p hp=>(h.iff p).mpr (by
  have key:∀x y:Int,p.1=c.1+x->p.2=c.2+y->(c.1+x,c.2+y)∈met->p∈met:=fun x y h1 h2 hm=>by rw[show p=(c.1+x,c.2+y) from Prod.ext h1 h2];exact hm
  have one:∀ {u v:Int},v-1<=u/\u<v-1+(3:Nat)->u=v + -1\/u=v+0\/u=v+1:=fun z=>by omega
  have hp:=oR.mp hp
  rcases one hp.1 with hx | hx | hx <;> rcases one hp.2 with hy | hy | hy
  ·exact .inr (key _ _ hx hy m0)
  ·exact .inr (key _ _ hx hy m7)
  ·exact .inr (key _ _ hx hy m6)
  ·exact .inr (key _ _ hx hy m1)
  ·exact .inl (List.mem_singleton.mpr (Prod.ext (hx.trans (Int.add_zero _)) (hy.trans (Int.add_zero _))))
  ·exact .inr (key _ _ hx hy m5)
  ·exact .inr (key _ _ hx hy m2)
  ·exact .inr (key _ _ hx hy m3)
  ·exact .inr (key _ _ hx hy m4))
 rw[ug] at this
 exact this
end
theorem WQ{j:Nat}{d:D}(h:[D.tup [.int 1,.int 0],.tup [.int 0,.int 1],.tup [.int (-1),.int 0],.tup [.int 0,.int (-1)]][j]?=some d):j<4/\d=.tup [.int (stp j).1,.int (stp j).2]:=by
 match j with
 |0=>cases h;exact⟨by omega,rfl⟩
 |1=>cases h;exact⟨by omega,rfl⟩
 |2=>cases h;exact⟨by omega,rfl⟩
 |3=>cases h;exact⟨by omega,rfl⟩
 |j+4=>simp at h
theorem nb4{c:Pt}{j:Nat}(h:j<4):nb c j∈bB c:=by
 rw[iK]
 rcases c4 h with rfl | rfl | rfl | rfl
 ·exact .inl ⟨rfl,Int.add_zero _⟩
 ·exact .inr (.inl ⟨Int.add_zero _,rfl⟩)
 ·exact .inr (.inr (.inl ⟨rfl,Int.add_zero _⟩))
 ·exact .inr (.inr (.inr ⟨Int.add_zero _,rfl⟩))
def atN(n i:Nat)(σ:cO):Nat:=match σ[i]? with
 |some (some (.int k))=>n-k.toNat
 |_=>0
section
variable(H:aF)(ps:List Pt)(a p5 p6:Addr)(xm xn ym yn:Int)
inductive HoA(i:Nat):cO->aF->Prop
 |mk {H2:aF} (cc:Option D) (sb:aN H H2) (k5:H2 p5=some (.lst [.tup [.int (xn-1),.int (yn-1)]])) (k6:H2 p6=some (.dic (gA ((ps.take i).foldl j8 [(xn-1,yn-1)])))):HoA i [some (.ref a),some (.int (xm+1)),some (.int (xn-1)),some (.int (ym+1)),some (.int (yn-1)),some (.ref p5),some (.ref p6),cc,none,none,none] H2
inductive HoB(nx ny:Nat):cO->aF->Prop
 |mk {H3:aF} (met kn:List Pt) (at0:Nat) (cc dd ee:Option D) (sb:aN H H3) (j5:H3 p5=some (.lst (met.map bQ))) (j6:H3 p6=some (.dic (gA kn))) (bf:Bf ps (xn-1) (yn-1) nx ny met kn at0):HoB nx ny [some (.ref a),some (.int (xm+1)),some (.int (xn-1)),some (.int (ym+1)),some (.int (yn-1)),some (.ref p5),some (.ref p6),cc,some (.int (at0:Nat)),dd,ee] H3
inductive HoC(nx ny:Nat)(p7:Addr)(c:Pt)(at0:Nat)(cc:Option D)(j:Nat):cO->aF->Prop
 |mk {H4:aF} (met kn:List Pt) (dd ee:Option D) (sb:aN H H4) (i7:H4 p7=some (.lst [.tup [.int 1,.int 0],.tup [.int 0,.int 1],.tup [.int (-1),.int 0],.tup [.int 0,.int (-1)]])) (j5:H4 p5=some (.lst (met.map bQ))) (j6:H4 p6=some (.dic (gA kn))) (bf:Bf ps (xn-1) (yn-1) nx ny met kn at0) (hc:met[at0]?=some c) (hk:∀k,k<j->wZ (xn-1) (yn-1) nx ny (nb c k)->nb c k∈kn):HoC nx ny p7 c at0 cc j [some (.ref a),some (.int (xm+1)),some (.int (xn-1)),some (.int (ym+1)),some (.int (yn-1)),some (.ref p5),some (.ref p6),cc,some (.int (at0:Nat)),dd,ee] H4
end
def jf:mL:=fun ds H Q=>∃a,ds=[.ref a]/\(∃ps:List Pt,(H a=some (.lst (ps.map bQ))/\ps≠[]/\ps.length<=100/\∀x∈ps,∀y∈ps,x.1-y.1<=18/\x.2-y.2<=18)/\∀b:Bool,(b=false->∀z,z∉ps->Esc ps z)->(ps.length=1->b=false)->Q (.bl b) H)
theorem Jz{ps:List Pt}{a:Addr}{H:aF}{Q:aY}(ha:H a=some (.lst (ps.map bQ)))(hn:ps≠[])(hl:ps.length<=100)(hb:∀x∈ps,∀y∈ps,x.1-y.1<=18/\x.2-y.2<=18)(h:∀b:Bool,(b=false->∀z,z∉ps->Esc ps z)->(ps.length=1->b=false)->Q (.bl b) H):jf [.ref a] H Q:=⟨_,rfl,⟨ps,⟨ha,hn,hl,hb⟩,h⟩⟩
theorem Ag:∀(ds:List D) (H:aF) (Q:aY),jf ds H Q->ds.length=gY.length:=by
 intro ds H Q h
 obtain⟨_,rfl,_⟩:=h
 rfl
def pJ:dw:=DQ (DR (v3 0)) (qD 7) (dp3 (v3 6) (v3 7) (c3 (.bl true)))
def pX:dw:=DQ (DR (Il (au (jh (au (c3 (.int 1)) (au (c3 (.int 0)) aH))) (au (jh (au (c3 (.int 0)) (au (c3 (.int 1)) aH))) (au (jh (au (u3 o9 (c3 (.int 1))) (au (c3 (.int 0)) aH))) (au (jh (au (c3 (.int 0)) (au (u3 o9 (c3 (.int 1))) aH))) aH)))))) (qD 9) (cM (st3 10 (jh (au (o3 bG (o3 aP (o3 aP (v3 5) (v3 8)) (c3 (.int 0))) (o3 aP (v3 9) (c3 (.int 0)))) (au (o3 bG (o3 aP (o3 aP (v3 5) (v3 8)) (c3 (.int 1))) (o3 aP (v3 9) (c3 (.int 1)))) aH))))
  (DP (an3 (oK (Wl Ko Ko (v3 2) (o3 aP (v3 10) (c3 (.int 0))) (v3 1))) (an3 (oK (Wl Ko Ko (v3 4) (o3 aP (v3 10) (c3 (.int 1))) (v3 3))) (oK (o3 (oN true) (v3 10) (v3 6))))) (cM (dp3 (v3 6) (v3 10) (c3 (.bl true)))
  (RG (m3 o8 (v3 5) (au (v3 10) aH)))) DK))
def pC:dw:=Zx (oK (o3 Bp (v3 8) (dH dj (au (v3 5) aH)))) (cM pX
  (st3 8 (o3 bG (v3 8) (c3 (.int 1)))))
def rm:dw:=(cM (st3 1 (o3 bG (dH Be (au (Er (DR (v3 0)) (qD 0) rG (o3 aP (v3 0) (c3 (.int 0))) ["_law_cell"] []) aH)) (c3 (.int 1))))
  (cM (st3 2 (o3 fH (dH BK (au (Er (DR (v3 0)) (qD 0) rG (o3 aP (v3 0) (c3 (.int 0))) ["_law_cell"] []) aH)) (c3 (.int 1))))
  (cM (st3 3 (o3 bG (dH Be (au (Er (DR (v3 0)) (qD 0) rG (o3 aP (v3 0) (c3 (.int 1))) ["_law_cell"] []) aH)) (c3 (.int 1))))
  (cM (st3 4 (o3 fH (dH BK (au (Er (DR (v3 0)) (qD 0) rG (o3 aP (v3 0) (c3 (.int 1))) ["_law_cell"] []) aH)) (c3 (.int 1))))
  (cM (st3 5 (Il (au (jh (au (v3 2) (au (v3 4) aH))) aH)))
  (cM (st3 6 (dd3 (jh (au (v3 2) (au (v3 4) aH))) (c3 (.bl true))))
  (cM pJ
  (cM (st3 8 (c3 (.int 0)))
  (cM pC
  (lD (o3 Bp (dH qY (au (v3 6) aH)) (o3 fP (o3 bG (o3 fH (v3 1) (v3 2)) (c3 (.int 1))) (o3 bG (o3 fH (v3 3) (v3 4)) (c3 (.int 1)))))))))))))))
theorem Hh:∀(ds:List D) (H:aF) (Q:aY),jf ds H Q->rm (dX Q) (aJ fK ds) H:=by
 intro ds H Q h
 obtain⟨a,rfl,h⟩:=h
 obtain⟨ps,⟨ha,hn,hl,hbd⟩,h⟩:=h
 have hne1:ps.map Prod.fst≠[]:=by simpa using hn
 have hne2:ps.map Prod.snd≠[]:=by simpa using hn
 obtain⟨e1,he1,ee1⟩:=List.mem_map.mp (jT hne1)
 obtain⟨e2,he2,ee2⟩:=List.mem_map.mp (rF hne1)
 obtain⟨e3,he3,ee3⟩:=List.mem_map.mp (jT hne2)
 obtain⟨e4,he4,ee4⟩:=List.mem_map.mp (rF hne2)
 have b1:=(hbd e1 he1 e2 he2).1
 have b2:=(hbd e3 he3 e4 he4).2
 rw[ee1,ee2] at b1
 rw[ee3,ee4] at b2
 have b3:=mC (jT hne1)
 have b4:=mC (jT hne2)
 have cmn:∀c∈ps,(jg (ps.map Prod.fst)<=c.1/\c.1<=ji (ps.map Prod.fst))/\jg (ps.map Prod.snd)<=c.2/\c.2<=ji (ps.map Prod.snd):=fun c hc=>⟨⟨mC (List.mem_map.mpr ⟨c,hc,rfl⟩),ur (List.mem_map.mpr ⟨c,hc,rfl⟩)⟩,mC (List.mem_map.mpr ⟨c,hc,rfl⟩),ur (List.mem_map.mpr ⟨c,hc,rfl⟩)⟩
 have lone:∀c:Pt,ps=[c]->jg (ps.map Prod.fst)=c.1/\ji (ps.map Prod.fst)=c.1/\jg (ps.map Prod.snd)=c.2/\ji (ps.map Prod.snd)=c.2:=fun c e=>by subst e;exact⟨rfl,rfl,rfl,rfl⟩
 simp only[rm,aJ,fK,List.map_cons,List.map_nil,List.length_cons,List.length_nil,Nat.reduceAdd,Nat.reduceSub,Nat.zero_add,List.replicate,List.cons_append,List.nil_append]
 walk_at "l3"
 refine Cp.map (fun p=>D.int p.1) (fun H2 hs=>hs _ _ ha) (by omega) ?_ ?_
 ·intro i p hp R H2 hs hR
  unfold bQ
  walk_at "l3"
  exact hR H2 aN.refl
 intro p1 hp1
 walk_at "l3"
 refine V3 (ns:=ps.map Prod.fst) (by rw[aB,List.map_map];rfl) hne1 ?_
 walk_at "l3"
 refine Cp.map (fun p=>D.int p.1) (fun H2 hs=>hs _ _ (bC ha hp1)) (by omega) ?_ ?_
 ·intro i p hp R H2 hs hR
  unfold bQ
  walk_at "l3"
  exact hR H2 aN.refl
 intro p2 hp2
 walk_at "l3"
 refine V2 (ns:=ps.map Prod.fst) (by rw[aB,List.map_map];rfl) hne1 ?_
 walk_at "l3"
 refine Cp.map (fun p=>D.int p.2) (fun H2 hs=>hs _ _ (by walk_at "l3h")) (by omega) ?_ ?_
 ·intro i p hp R H2 hs hR
  unfold bQ
  walk_at "l3"
  exact hR H2 aN.refl
 intro p3 hp3
 walk_at "l3"
 refine V3 (ns:=ps.map Prod.snd) (by rw[aB,List.map_map];rfl) hne2 ?_
 walk_at "l3"
 refine Cp.map (fun p=>D.int p.2) (fun H2 hs=>hs _ _ (by walk_at "l3h")) (by omega) ?_ ?_
 ·intro i p hp R H2 hs hR
  unfold bQ
  walk_at "l3"
  exact hR H2 aN.refl
 intro p4 hp4
 walk_at "l3"
 refine V2 (ns:=ps.map Prod.snd) (by rw[aB,List.map_map];rfl) hne2 ?_
 have hs:aN H (aO (aO (aO (aO H p1 (.lst (ps.map fun p=>D.int p.1))) p2 (.lst (ps.map fun p=>D.int p.1))) p3 (.lst (ps.map fun p=>D.int p.2))) p4 (.lst (ps.map fun p=>D.int p.2))):=(((aN.fresh hp1).trans (aN.fresh hp2)).trans (aN.fresh hp3)).trans (aN.fresh hp4)
 revert hs
 generalize aO (aO (aO (aO H p1 (.lst (ps.map fun p=>D.int p.1))) p2 (.lst (ps.map fun p=>D.int p.1))) p3 (.lst (ps.map fun p=>D.int p.2))) p4 (.lst (ps.map fun p=>D.int p.2))=H0
 intro hs
 clear hp1 hp2 hp3 hp4 he1 he2 he3 he4 ee1 ee2 ee3 ee4 hbd hne1 hne2
 generalize ji (ps.map Prod.fst)=xm at *
 generalize jg (ps.map Prod.fst)=xn at *
 generalize ji (ps.map Prod.snd)=ym at *
 generalize jg (ps.map Prod.snd)=yn at *
 have enx:((xm-xn+3).toNat:Int)=xm-xn+3:=Int.toNat_of_nonneg (by omega)
 have eny:((ym-yn+3).toNat:Int)=ym-yn+3:=Int.toNat_of_nonneg (by omega)
 have hrim:Rim ps (xn-1) (yn-1) (xm-xn+3).toNat (ym-yn+3).toNat:=fun c hc=>by
  obtain⟨⟨c1,c2⟩,c3,c4⟩:=cmn c hc
  rw[enx,eny]
  clear enx eny b1 b2 b3 b4
  exact⟨⟨by omega,by omega⟩,by omega,by omega⟩
 have hbox:∀c∈ps,wZ (xn-1) (yn-1) (xm-xn+3).toNat (ym-yn+3).toNat c:=fun c hc=>by obtain⟨⟨c1,c2⟩,c3,c4⟩:=hrim c hc;exact⟨⟨Int.le_of_lt c1,by omega⟩,Int.le_of_lt c3,by omega⟩
 have hws:(xn-1,yn-1)∉ps:=fun z=>by have:=hrim _ z;dsimp only at this;omega
 have hnx:(xm-xn+3).toNat<=21:=by omega
 have hny:(ym-yn+3).toNat<=21:=by omega
 have hlon:∀c:Pt,ps=[c]->xn=c.1/\(xm-xn+3).toNat=3/\yn=c.2/\(ym-yn+3).toNat=3:=fun c e=>by
  obtain⟨e1,e2,e3,e4⟩:=lone c e
  rw[e1,e2,e3,e4,Int.sub_self,Int.sub_self]
  exact⟨rfl,rfl,rfl,rfl⟩
 have hst:wZ (xn-1) (yn-1) (xm-xn+3).toNat (ym-yn+3).toNat (xn-1,yn-1):=⟨⟨Int.le_refl _,by dsimp only;rw[enx];clear enx eny;omega⟩,Int.le_refl _,by dsimp only;rw[eny];clear enx eny;omega⟩
 clear b1 b2 b3 b4 cmn lone
 generalize (xm-xn+3).toNat=nx at *
 generalize (ym-yn+3).toNat=ny at *
 have harea:ny*nx<=441:=Nat.mul_le_mul hny hnx
 walk_at "l3"
 intro p5 hp5
 walk_at "l3"
 intro p6 hp6
 walk_at "l3"
 refine aa0 aB ?_
 rw[mK]
 have n6:H p6=none:=iy (hs.trans (aN.fresh hp5)) hp6
 have n5:H p5=none:=iy hs hp5
 have n56:p5≠p6:=ne3 aB hp6
 have hs6:aN H (aO (aO H0 p5 (.lst [.tup [.int (xn-1),.int (yn-1)]])) p6 (.dic (gA [(xn-1,yn-1)]))):=(hs.trans (aN.fresh hp5)).trans (aN.fresh hp6)
 have h5:aO (aO H0 p5 (.lst [.tup [.int (xn-1),.int (yn-1)]])) p6 (.dic (gA [(xn-1,yn-1)])) p5=some (.lst [.tup [.int (xn-1),.int (yn-1)]]):=bC aB hp6
 have h6:aO (aO H0 p5 (.lst [.tup [.int (xn-1),.int (yn-1)]])) p6 (.dic (gA [(xn-1,yn-1)])) p6=some (.dic (gA [(xn-1,yn-1)])):=aB
 revert hs6 h5 h6
 generalize aO (aO H0 p5 (.lst [.tup [.int (xn-1),.int (yn-1)]])) p6 (.dic (gA [(xn-1,yn-1)]))=H1
 intro hs6 h5 h6
 walk_at "l3"
 unfold pJ
 walk_at "l3"
 refine Vz (hs6 _ _ ha) ?_
 refine Lp.by (HoA H ps a p5 p6 xm xn ym yn) (.mk _ hs6 h5 h6) (fun i σ H2 _ z=>by cases z with | mk _ sb=>exact sb _ _ ha) ?_ ?_
 ·rintro i d σ H2 hd ⟨cc,hs2,k5,k6⟩
  rw[List.getElem?_map] at hd
  obtain⟨c,hc,rfl⟩:=Option.map_eq_some_iff.mp hd
  have hfl:=xq (ps.take i) [(xn-1,yn-1)]
  have htl:=List.length_take_le i ps
  rw[List.length_singleton] at hfl
  have hi:=(List.getElem?_eq_some_iff.mp hc).1
  unfold bQ
  walk_at "l3"
  refine VN k6 (by rw[List.length_take] at hfl;omega) ?_
  walk_at "l3"
  exact .mk _ (fun b o hb=>by rw[aV (ne3 hb n6)];exact hs2 b o hb) (by rw[aV n56];exact k5) (by rw[aB,List.take_add_one,hc,List.foldl_append];rfl)
 rintro σ H2 ⟨cc,hs2,k5,k6⟩
 rw[List.length_map,List.take_length] at k6
 have hkm:∀c,c∈ps.foldl j8 [(xn-1,yn-1)]↔c∈ps\/c∈[(xn-1,yn-1)]:=fun c=>by rw[xK];exact Or.comm
 have hknd:(ps.foldl j8 [(xn-1,yn-1)]).Nodup:=by
  have:∀(qs acc:List Pt),acc.Nodup->(qs.foldl j8 acc).Nodup:=by
   intro qs
   induction qs with
   |nil=>exact fun _ z=>z
   |cons q qs ih=>
    intro acc z
    refine ih _ ?_
    unfold j8
    split
    ·exact z
    ·rename_i y
     rw[List.nodup_append]
     exact⟨z,by simp,fun a ha b hb=>by rw[List.mem_singleton.mp hb];exact fun e=>y (e▸ha)⟩
  exact this ps _ (by simp)
 have hk1:1<=(ps.foldl j8 [(xn-1,yn-1)]).length:=List.length_pos_of_mem ((hkm _).mpr (.inr (List.mem_singleton.mpr rfl)))
 generalize ps.foldl j8 [(xn-1,yn-1)]=kn0 at *
 have hbf:Bf ps (xn-1) (yn-1) nx ny [(xn-1,yn-1)] kn0 0:=⟨by simp,hknd,hkm,fun c hc=>by
  rw[List.mem_singleton.mp hc]
  exact⟨hst,hws,.refl⟩,hk1,Nat.zero_le _,fun i hi=>absurd hi (Nat.not_lt_zero _)⟩
 walk_at "l3"
 unfold pC
 refine Ui (HoB H ps a p5 p6 xm xn ym yn nx ny) (fun σ _=>atN (ny*nx) 8 σ) (.mk [(xn-1,yn-1)] kn0 0 _ _ _ hs2 k5 k6 hbf) ?_
 rintro σ H3 ⟨met,kn,at0,cc3,dd3,ee3,hs3,j5,j6,bf⟩
 have hkl:=bf.len hbox
 have hml:=bf.ml
 have hal:=bf.al
 walk_at "l3"
 refine DN (fun hlt=>?_) fun hlt=>?_
 ·rw[List.length_map] at hlt
  have hlt':at0<met.length:=by omega
  have hcm:met[at0]?=some met[at0]:=List.getElem?_eq_getElem hlt'
  have hcmm:=List.mem_of_getElem? hcm
  generalize met[at0]=c at hcm hcmm
  walk_at "l3"
  unfold pX
  walk_at "l3"
  intro p7 hp7
  walk_at "l3"
  have n57:p5≠p7:=ne3 j5 hp7
  have n67:p6≠p7:=ne3 j6 hp7
  have n7:H p7=none:=iy hs3 hp7
  refine Lp.by (HoC H ps a p5 p6 xm xn ym yn nx ny p7 c at0 cc3) (.mk met kn _ _ (hs3.trans (aN.fresh hp7)) aB (bC j5 hp7) (bC j6 hp7) bf hcm fun k hk=>absurd hk (Nat.not_lt_zero _)) (fun j σ H4 _ z=>by cases z with | mk _ _ _ _ _ i7=>exact i7) ?_ ?_
  ·rintro j d σ H4 hd ⟨met2,kn2,dd4,ee4,hs4,i7,i5,i6,bf2,hc2,hkk⟩
   obtain⟨hj,rfl⟩:=WQ hd
   have hkl2:=bf2.len hbox
   have hml2:=bf2.ml
   have hcm2:c∈met2:=List.mem_of_getElem? hc2
   have hat:nA (met2.map bQ) (at0:Int)=some (.tup [.int c.1,.int c.2]):=by
    have hl2:=(List.getElem?_eq_some_iff.mp hc2).1
    unfold nA RC
    rw[List.length_map,if_pos (by omega),if_pos (by omega),Option.bind_some,List.getElem?_map,Int.toNat_natCast,hc2]
    rfl
   have fin:∀kn3:List Pt,(∀m∈kn2,m∈kn3)->(wZ (xn-1) (yn-1) nx ny (nb c j)->nb c j∈kn3)->∀k,k<j+1->wZ (xn-1) (yn-1) nx ny (nb c k)->nb c k∈kn3:=fun kn3 h1 h2 k hk hb=>by
    by_cases e:k=j
    ·subst e;exact h2 hb
    ·exact h1 _ (hkk k (by omega) hb)
   walk_at "l3"
   refine uT i5 hat ?_
   walk_at "l3"
   refine uT i5 hat ?_
   walk_at "l3"
   have enb:(c.1+(stp j).1,c.2+(stp j).2)=nb c j:=rfl
   have eIn:wZ (xn-1) (yn-1) nx ny (nb c j)↔((xn-1<=c.1+(stp j).1/\c.1+(stp j).1<=xm+1)/\yn-1<=c.2+(stp j).2/\c.2+(stp j).2<=ym+1):=by
    rw[←enb]
    unfold wZ
    dsimp only
    rw[enx,eny]
    exact and_congr (and_congr_right fun _=>by omega) (and_congr_right fun _=>by omega)
   have nope:¬wZ (xn-1) (yn-1) nx ny (nb c j)->∀ {dd ee:Option D},HoC H ps a p5 p6 xm xn ym yn nx ny p7 c at0 cc3 (j+1) _ H4:=fun z {dd ee}=>.mk met2 kn2 dd ee hs4 i7 i5 i6 bf2 hc2 (fin kn2 (fun m hm=>hm) fun y=>absurd y z)
   refine DN (fun q1=>?_) fun q1=>?_
   rotate_left
   ·walk_at "l3"
    refine U8 rfl ?_
    walk_at "l3"
    exact nope fun y=>q1 (eIn.mp y).1.1
   walk_at "l3"
   refine DN (fun q2=>?_) fun q2=>?_
   rotate_left
   ·refine U8 rfl ?_
    walk_at "l3"
    exact nope fun y=>q2 (eIn.mp y).1.2
   walk_at "l3"
   refine DN (fun q3=>?_) fun q3=>?_
   rotate_left
   ·walk_at "l3"
    refine U8 rfl ?_
    walk_at "l3"
    exact nope fun y=>q3 (eIn.mp y).2.1
   walk_at "l3"
   refine DN (fun q4=>?_) fun q4=>?_
   rotate_left
   ·refine U8 rfl ?_
    walk_at "l3"
    exact nope fun y=>q4 (eIn.mp y).2.2
   have hin:wZ (xn-1) (yn-1) nx ny (nb c j):=eIn.mpr ⟨⟨q1,q2⟩,q3,q4⟩
   walk_at "l3"
   refine Y5 i6 ?_
   walk_at "l3"
   refine U9 (fun hnk=>?_) fun hnk=>?_
   ·rw[enb] at hnk
    walk_at "l3"
    refine VN i6 (by omega) ?_
    rw[enb,show j8 kn2 (nb c j)=kn2++[nb c j] from by unfold j8;exact if_neg hnk]
    walk_at "l3"
    refine Vx (ds:=met2.map bQ) (by rw[aV n56];exact i5) ?_
    walk_at "l3"
    refine CK (ds:=met2.map bQ) (by rw[aV n56];exact i5) (by rw[bK,List.length_map];omega) ?_
    walk_at "l3"
    refine .mk (met2++[nb c j]) (kn2++[nb c j]) _ _ (fun b o hb=>?_) ?_ ?_ ?_ (bf2.grow hcm2 (nb4 hj) hin hnk) ?_ (fin _ (fun m hm=>List.mem_append_left _ hm) fun _=>by simp)
    ·rw[aV (ne3 hb n5),aV (ne3 hb n6)];exact hs4 b o hb
    ·rw[aV (Ne.symm n57),aV (Ne.symm n67)];exact i7
    ·rw[aB,List.map_append];rfl
    ·rw[aV (Ne.symm n56),aB]
    ·rw[List.getElem?_append_left (List.getElem?_eq_some_iff.mp hc2).1];exact hc2
   ·rw[enb] at hnk
    walk_at "l3"
    exact .mk met2 kn2 _ _ hs4 i7 i5 i6 bf2 hc2 (fin kn2 (fun m hm=>hm) fun _=>hnk)
  ·rintro σ H4 ⟨met2,kn2,dd4,ee4,hs4,i7,i5,i6,bf2,hc2,hkk⟩
   have bf3:=bf2.next hc2 fun n hn hb=>by
    obtain⟨k,hk,rfl⟩:=xM hn
    exact hkk k hk hb
   have h3l:=bf3.len hbox
   have h3a:=bf3.al
   have h3m:=bf3.ml
   walk_at "l3"
   refine⟨.mk met2 kn2 (at0+1) _ _ _ hs4 i5 i6 bf3,?_⟩
   exact Nat.sub_succ_lt_self _ _ (Nat.lt_of_lt_of_le h3a (Nat.le_trans h3m h3l))
 ·rw[List.length_map] at hlt
  have hea:at0=met.length:=by omega
  subst hea
  walk_at "l3"
  refine O8 j6 ?_
  walk_at "l3"
  have e1:(xm+1-(xn-1)+1)*(ym+1-(yn-1)+1)=((ny*nx:Nat):Int):=by
   rw[Int.natCast_mul,enx,eny,Int.mul_comm]
   congr 1 <;> omega
  rw[e1]
  refine bT (h _ (fun hb z hz=>bf.full hbox hrim ?_ z hz) fun h1=>?_) hs3
  ·have:=of_decide_eq_false hb
   unfold gA at this
   rw[List.length_map] at this
   omega
  ·obtain⟨c,rfl⟩:=List.length_eq_one_iff.mp h1
   obtain⟨o1,o2,o3,o4⟩:=hlon c rfl
   subst o1 o2 o3 o4
   have:=bf.lone
   refine decide_eq_false ?_
   unfold gA
   rw[List.length_map]
   omega
def gO:mL:=fun ds H Q=>∃a b d x y,ds=[.tup [.int a,.int b,.int d],.tup [.int x,.int y]]/\((vo a b d/\Bt 20000 x/\Bt 20000 y)/\Q (.tup [.int (rst (a,b,d) (x,y)).1,.int (rst (a,b,d) (x,y)).2]) H)
theorem BJ{a b d x y:Int}{H:aF}{Q:aY}(hg:vo a b d)(hx:Bt 20000 x)(hy:Bt 20000 y)(h:Q (.tup [.int (rst (a,b,d) (x,y)).1,.int (rst (a,b,d) (x,y)).2]) H):gO [.tup [.int a,.int b,.int d],.tup [.int x,.int y]] H Q:=⟨_,_,_,_,_,rfl,⟨⟨hg,hx,hy⟩,h⟩⟩
theorem Gn:∀(ds:List D) (H:aF) (Q:aY),gO ds H Q->ds.length=jN.length:=by
 intro ds H Q h
 obtain⟨_,_,_,_,_,rfl,_⟩:=h
 rfl
def uB:dw:=(cM (st3 2 (o3 fW (o3 aP (v3 1) (c3 (.int 1))) (o3 aP (v3 0) (c3 (.int 2)))))
  (lD (jh (au (o3 fG (o3 fH (o3 aP (v3 1) (c3 (.int 0))) (o3 fP (v3 2) (o3 aP (v3 0) (c3 (.int 1))))) (o3 aP (v3 0) (c3 (.int 0)))) (au (o3 fH (o3 aP (v3 1) (c3 (.int 1))) (o3 fP (v3 2) (o3 aP (v3 0) (c3 (.int 2))))) aH)))))
theorem Mi:∀(ds:List D) (H:aF) (Q:aY),gO ds H Q->uB (dX Q) (aJ uI ds) H:=by
 intro ds H Q h
 obtain⟨a,b,d,x,y,rfl,h⟩:=h
 obtain⟨⟨hg,hx,hy⟩,h⟩:=h
 obtain⟨g1,g2,g3,g4,g5,g6⟩:=id hg
 have gb:=hg.bb
 simp only[uB,aJ,uI,List.map_cons,List.map_nil,List.length_cons,List.length_nil,Nat.reduceAdd,Nat.reduceSub,Nat.zero_add,List.replicate,List.cons_append,List.nil_append]
 walk_at "l3"
 rw[show y-y / d*d=Wa d y from G7 d y]
 exact bT h aN.refl
structure Ju(ps:List Pt)(N:Nat)(E:Int)(n:Pt):Prop where
 nn:0<=E
 grp:∀G,xV G->(∀p∈ps,G p)->G (E,0)/\G n
 ins:∀p∈ps,fQ (E,0) n p
 b1:Bt N n.1
 b2:Bt 400 n.2
 be:Bt N E
theorem Ju.step{ps:List Pt}{N:Nat}{E:Int}{n s u:Pt}{w g:Int}(h:Ju ps N E n)(l:Lvl N n s u w)(m:Ms E w g):Ju (ps++[s]) (N+400000) g u/\(g≠0->Ju (ps++[s]) (N+400000) g (u.1%g,u.2)):=by
 have bg:Bt (N+400000) g:=(m.bt h.be l.bw).mono (by omega)
 obtain⟨i,hi⟩:=m.i1
 obtain⟨j,hj⟩:=m.i2
 have iE:∀v,fQ (g,0) v (E,0):=fun v=>⟨i,0,by show E=i*g+0*v.1;omega,by show (0:Int)=i*0+0*v.2;omega⟩
 have iw:∀v,fQ (g,0) v (w,0):=fun v=>⟨j,0,by show w=j*g+0*v.1;omega,by show (0:Int)=j*0+0*v.2;omega⟩
 have ins:∀p∈ps++[s],fQ (g,0) u p:=by
  intro p hp
  rcases List.mem_append.mp hp with hp | hp
  ·exact fQ.trans (iE _) (fQ.trans (fQ.right _ _) (iw _) l.i1) (h.ins p hp)
  ·rw[List.mem_singleton.mp hp]
   exact fQ.trans (fQ.right _ _) (iw _) l.i2
 have grp:∀G,xV G->(∀p∈ps++[s],G p)->G (g,0)/\G u:=by
  intro G gG hG
  have h1:=h.grp G gG fun p hp=>hG p (List.mem_append_left _ hp)
  have h2:=l.grp G gG h1.2 (hG s (List.mem_append_right _ (List.mem_singleton.mpr rfl)))
  exact⟨m.grp G gG h1.1 h2.2,h2.1⟩
 refine⟨⟨m.nn,grp,ins,l.b1,l.bu,bg⟩,fun hg=>?_⟩
 have hp:0<g:=by have:=m.nn;omega
 have e:=Int.mul_ediv_add_emod u.1 g
 refine⟨m.nn,fun G gG hG=>⟨(grp G gG hG).1,?_⟩,fun p hp=>?_,Bt.mod bg hp,l.bu,bg⟩
 ·have:=gG.sub _ _ (grp G gG hG).2 (gG.mul (grp G gG hG).1 (u.1 / g))
  simp only[Int.mul_zero,Int.sub_zero] at this
  rw[show u.1%g=u.1-u.1 / g*g from by rw[Int.mul_comm];omega]
  exact this
 ·refine fQ.trans (fQ.left _ _) ⟨u.1 / g,1,?_,?_⟩ (ins p hp)
  ·show u.1=u.1 / g*g+1*(u.1%g);rw[Int.mul_comm (u.1 / g)];omega
  ·show u.2=u.1 / g*0+1*u.2;omega
structure wG(ps:List Pt)(e b d:Int):Prop where
 e0:0<e
 b0:0<=b
 b1:b<e
 d0:0<d
 grp:∀G,xV G->(∀p∈ps,G p)->G (e,0)/\G (b,d)
 ins:∀p∈ps,fQ (e,0) (b,d) p
def Wide(ps:List Pt):Prop:=∃p∈ps,∃q∈ps,G6 p q≠0
theorem Ju.wide{ps:List Pt}{N:Nat}{E:Int}{n:Pt}(h:Ju ps N E n)(w:Wide ps):E≠0/\n.2≠0:=by
 obtain⟨p,hp,q,hq,hc⟩:=w
 obtain⟨k,e⟩:=G3 (h.ins p hp) (h.ins q hq)
 have:G6 (E,0) n≠0:=by intro z;rw[z,Int.mul_zero] at e;exact hc e
 unfold G6 at this
 constructor
 ·intro z;rw[z] at this;simp at this
 ·intro z;rw[z] at this;simp at this
theorem Ju.empty:Ju [] 401 0 (0,0):=⟨by omega,fun G g _=>⟨g.zero,g.zero⟩,by simp,by unfold Bt;exact Nat.two_pow_pos _,by unfold Bt;exact Nat.two_pow_pos _,by unfold Bt;exact Nat.two_pow_pos _⟩
theorem Ju.mod{ps:List Pt}{N:Nat}{E:Int}{n:Pt}(h:Ju ps N E n)(hE:0<E)(g:Int)(hg:g=1\/g = -1):∀x:Int,x=g*n.1->Ju ps N E (x%E,g*n.2):=by
 intro x hx
 have e:=Int.mul_ediv_add_emod x E
 have gg:g*g=1:=by rcases hg with rfl | rfl <;> rfl
 refine⟨h.nn,fun G gG hG=>⟨(h.grp G gG hG).1,?_⟩,fun p hp=>?_,Bt.mod h.be hE,h.b2.of_le (by rcases hg with rfl | rfl <;> omega),h.be⟩
 ·have:=gG.sub _ _ (gG.mul (h.grp G gG hG).2 g) (gG.mul (h.grp G gG hG).1 (x / E))
  simp only[Int.mul_zero,Int.sub_zero] at this
  rw[show x%E=g*n.1-x / E*E from by rw[Int.mul_comm (x / E),←hx];omega]
  exact this
 ·refine fQ.trans (fQ.left _ _) ⟨g*(x / E),g,?_,?_⟩ (h.ins p hp)
  ·show n.1=g*(x / E)*E+g*(x%E)
   rw[Int.mul_assoc,←Int.mul_add,show x / E*E+x%E=x from by rw[Int.mul_comm (x / E)];omega,hx,←Int.mul_assoc,gg,Int.one_mul]
  ·show n.2=g*(x / E)*0+g*(g*n.2)
   rw[←Int.mul_assoc,gg,Int.mul_zero];omega
def iW:mL:=fun ds H Q=>∃a,ds=[.ref a]/\(∃ps:List Pt,(H a=some (.lst (ps.map bQ))/\ps.length<=100/\(∀p∈ps,Bt 400 p.1/\Bt 400 p.2)/\Wide ps)/\∀e b d,wG ps e b d->Q (.tup [.int e,.int b,.int d]) H)
theorem Kp{a:Addr}(ps:List Pt){H:aF}{Q:aY}(ha:H a=some (.lst (ps.map bQ)))(hl:ps.length<=100)(hb:∀p∈ps,Bt 400 p.1/\Bt 400 p.2)(hw:Wide ps)(h:∀e b d,wG ps e b d->Q (.tup [.int e,.int b,.int d]) H):iW [.ref a] H Q:=⟨_,rfl,⟨ps,⟨ha,hl,hb,hw⟩,h⟩⟩
theorem Aj:∀(ds:List D) (H:aF) (Q:aY),iW ds H Q->ds.length=gQ.length:=by
 intro ds H Q h
 obtain⟨_,rfl,_⟩:=h
 rfl
def qg:dw:=DQ (DR (v3 0)) (qD 3) (cM (st3 4 (dH gf (au (v3 2) (au (v3 3) aH))))
  (cM (st3 2 (o3 aP (v3 4) (c3 (.int 0))))
  (cM (st3 1 (dH cj (au (v3 1) (au (o3 aP (o3 aP (v3 4) (c3 (.int 1))) (c3 (.int 0))) aH))))
  (DP (oK (o3 qF (v3 1) (c3 (.int 0)))) (st3 2 (jh (au (o3 fG (o3 aP (v3 2) (c3 (.int 0))) (v3 1)) (au (o3 aP (v3 2) (c3 (.int 1))) aH)))) DK))))
def qG:dw:=(cM (st3 1 (c3 (.int 0)))
  (cM (st3 2 (jh (au (c3 (.int 0)) (au (c3 (.int 0)) aH))))
  (cM qg
  (cM (DP (or3 (oK (o3 vU (v3 1) (c3 (.int 0)))) (oK (o3 vU (o3 aP (v3 2) (c3 (.int 1))) (c3 (.int 0))))) ra3 DK)
  (cM (DP (oK (o3 Bp (o3 aP (v3 2) (c3 (.int 1))) (c3 (.int 0)))) (st3 2 (jh (au (o3 fG (u3 o9 (o3 aP (v3 2) (c3 (.int 0)))) (v3 1)) (au (u3 o9 (o3 aP (v3 2) (c3 (.int 1)))) aH)))) DK)
  (lD (jh (au (v3 1) (au (o3 aP (v3 2) (c3 (.int 0))) (au (o3 aP (v3 2) (c3 (.int 1))) aH))))))))))
theorem Gi:∀(ds:List D) (H:aF) (Q:aY),iW ds H Q->qG (dX Q) (aJ rN ds) H:=by
 intro ds H Q h
 obtain⟨a,rfl,h⟩:=h
 obtain⟨ps,⟨ha,hl,hb,hw⟩,h⟩:=h
 simp only[qG,aJ,rN,List.map_cons,List.map_nil,List.length_cons,List.length_nil,Nat.reduceAdd,Nat.reduceSub,Nat.zero_add,List.replicate,List.cons_append,List.nil_append]
 walk_at "l3"
 unfold qg
 walk_at "l3"
 refine Lp.by (fun i σ H2=>H2=H/\∃E:Int,∃n:Pt,∃y z,Ju (ps.take i) (401+i*400000) E n/\(E≠0->0<=n.1/\n.1<E)/\σ=[some (.ref a),some (.int E),some (.tup [.int n.1,.int n.2]),y,z]) ⟨rfl,0,(0,0),none,none,Ju.empty,fun z=>absurd rfl z,rfl⟩ (fun i σ H2 _ z=>by rw[z.1];exact ha) ?_ ?_
 ·rintro i dd σ H2 hd ⟨rfl,E,n,y,z,hi,hrd,rfl⟩
  rw[List.getElem?_map,Option.map_eq_some_iff] at hd
  obtain⟨s,hs,rfl⟩:=hd
  have hm:=List.mem_of_getElem? hs
  have hlt:=(List.getElem?_eq_some_iff.mp hs).1
  have htk:ps.take (i+1)=ps.take i++[s]:=by rw[List.take_add_one,hs];rfl
  have eN:401+(i+1)*400000=401+i*400000+400000:=by omega
  obtain⟨n1,n2⟩:=n
  obtain⟨s1,s2⟩:=s
  have bs:=hb _ hm
  unfold bQ
  walk_at "l3"
  refine Gh (401+i*400000) (by omega) hi.b1 (bs.1.mono (by omega)) hi.b2 bs.2 fun u w hlv=>?_
  walk_at "l3"
  refine rM fun g hms=>?_
  have hst:=hi.step hlv hms
  rw[←htk,←eN] at hst
  walk_at "l3"
  refine U9 (fun hg=>?_) fun hg=>?_
  ·walk_at "l3"
   have h0:0<g:=by have:=hms.nn;omega
   refine Q0 h0 ?_
   walk_at "l3"
   exact⟨rfl,g,(u.1%g,u.2),_,_,hst.2 hg,fun _=>⟨Int.emod_nonneg _ hg,Int.emod_lt_of_pos _ h0⟩,rfl⟩
  ·walk_at "l3"
   exact⟨rfl,g,u,_,_,hst.1,fun z=>absurd hg z,rfl⟩
 ·rintro σ H2 ⟨rfl,E,n,y,z,hi,hrd,rfl⟩
  rw[List.length_map,List.take_of_length_le (Nat.le_refl _)] at hi
  obtain⟨w1,w2⟩:=hi.wide hw
  have hE:0<E:=by have:=hi.nn;omega
  have m0:∀x:Int,0<=x%E:=fun x=>Int.emod_nonneg _ (by omega)
  have m1:∀x:Int,x%E<E:=fun x=>Int.emod_lt_of_pos _ hE
  obtain⟨n1,n2⟩:=n
  dsimp only at w2
  walk_at "l3"
  refine DN (fun z=>absurd z w1) fun _=>?_
  walk_at "l3"
  refine DN (fun z=>absurd z w2) fun _=>?_
  walk_at "l3"
  refine DN (fun hn=>?_) fun hn=>?_
  ·walk_at "l3"
   have hi':=hi.mod hE (-1) (.inr rfl) (-n1) (by omega)
   have e2:(-1)*n2 = -n2:=by omega
   dsimp only at hi'
   rw[e2] at hi'
   exact bT (h _ _ _ ⟨hE,m0 _,m1 _,by omega,hi'.grp,hi'.ins⟩) aN.refl
  ·walk_at "l3"
   exact bT (h _ _ _ ⟨hE,(hrd w1).1,(hrd w1).2,by omega,hi.grp,hi.ins⟩) aN.refl
def dN:mL:=fun ds H Q=>∃x y z,ds=[.tup [.int x,.int y],.str z]/\(∃ls:List Lt,(z=bI ls/\ls.length<=500)/\∀p,H p=none->Q (.ref p) (aO H p (.lst ((path (x,y) ls).map bQ))))
theorem yX{x y:Int}(ls:List Lt){H:aF}{Q:aY}(hl:ls.length<=500)(h:∀p,H p=none->Q (.ref p) (aO H p (.lst ((path (x,y) ls).map bQ)))):dN [.tup [.int x,.int y],.str (bI ls)] H Q:=⟨_,_,_,rfl,⟨ls,⟨rfl,hl⟩,h⟩⟩
theorem Oo(l:Lt):yu.lookup (Dm l)=some (.ktup [.int (step l).1,.int (step l).2]):=by
 revert l;intro l;match l with
 |0=>rfl
 |1=>rfl
 |2=>rfl
 |3=>rfl
theorem u5:∀(ds:List D) (H:aF) (Q:aY),dN ds H Q->ds.length=dD.length:=by
 intro ds H Q h
 obtain⟨_,_,_,rfl,_⟩:=h
 rfl
def lq:dw:=DQ (iz3 (v3 1)) (qD 3) (RG (m3 o8 (v3 2) (au (dH lM (au (o3 aP (v3 2) (u3 o9 (c3 (.int 1)))) (au (kd3 yu (v3 3)) aH))) aH)))
def j9:dw:=(cM (st3 2 (Il (au (v3 0) aH)))
  (cM lq
  (lD (v3 2))))
theorem wg:∀(ds:List D) (H:aF) (Q:aY),dN ds H Q->j9 (dX Q) (aJ kY ds) H:=by
 intro ds H Q h
 obtain⟨x,y,z,rfl,h⟩:=h
 obtain⟨ls,⟨rfl,hl⟩,h⟩:=h
 simp only[j9,aJ,kY,List.map_cons,List.map_nil,List.length_cons,List.length_nil,Nat.reduceAdd,Nat.reduceSub,Nat.zero_add,List.replicate,List.cons_append,List.nil_append]
 walk_at "l3"
 intro p hp
 walk_at "l3"
 unfold lq
 walk_at "l3"
 rw[Oh]
 refine Lp.by (fun i σ H2=>H2=aO H p (.lst ((path (x,y) (ls.take i)).map bQ))/\∃c,σ=[some (.tup [.int x,.int y]),some (.str (bI ls)),some (.ref p),c]) ⟨by rw[List.take_zero];rfl,_,rfl⟩ (fun _ _ _ _ _=>trivial) ?_ ?_
 ·rintro i d σ H2 hd ⟨rfl,c,rfl⟩
  rw[List.getElem?_map,Option.map_eq_some_iff] at hd
  obtain⟨l,hl2,rfl⟩:=hd
  walk_at "l3"
  refine uT aB (JP _ _) ?_
  walk_at "l3"
  refine VP (Oo l) ?_
  walk_at "l3"
  refine CK aB (nM (by rw[List.length_map,vg,List.length_take];omega)) ?_
  rw[mK]
  walk_at "l3"
  have ht:ls.take (i+1)=ls.take i++[l]:=by rw[List.take_add_one,hl2];rfl
  refine⟨?_,_,rfl⟩
  rw[ht,Kv,List.map_append]
  rfl
 ·rintro σ H2 ⟨rfl,c,rfl⟩
  rw[List.length_map,List.take_of_length_le (Nat.le_refl _)]
  walk_at "l3"
  exact bT (h p hp) aN.refl
def Gf(W:List Lt)(s:Int×Int):Bool:=decide (sub (W++W) (s.1+(W.length:Int) / 2) (s.2+(W.length:Int) / 2)=bk (sub (W++W) s.1 s.2))
def RJ(W:List Lt)(cs:List Int):Bool:=(nW cs ((W.length:Int) / 2)).all (Gf W)
def dM:mL:=fun ds H Q=>∃z xs,ds=[.str z,.tup xs]/\(∃(W:List Lt) (cs:List Int),(z=bI W/\xs=cs.map D.int/\W.length<=100/\JM cs ((W.length:Int) / 2))/\Q (.bl (RJ W cs)) H)
theorem zO{W:List Lt}{cs:List Int}{H:aF}{Q:aY}(hl:W.length<=100)(hc:JM cs ((W.length:Int) / 2))(h:Q (.bl (RJ W cs)) H):dM [.str (bI W),.tup (cs.map D.int)] H Q:=⟨_,_,rfl,⟨W,cs,⟨rfl,rfl,hl,hc⟩,h⟩⟩
theorem uy:∀(ds:List D) (H:aF) (Q:aY),dM ds H Q->ds.length=dC.length:=by
 intro ds H Q h
 obtain⟨_,_,rfl,_⟩:=h
 rfl
def lg:dw:=DQ (DR (dH eE (au (v3 0) (au (v3 1) aH)))) (qD 4) (cM (st3 5 (WK wQ (v3 3) (UG (o3 aP (v3 4) (c3 (.int 0)))) (UG (o3 aP (v3 4) (c3 (.int 1))))))
  (cM (st3 6 (WK wQ (v3 3) (UG (o3 bG (o3 aP (v3 4) (c3 (.int 0))) (v3 2))) (UG (o3 bG (o3 aP (v3 4) (c3 (.int 1))) (v3 2)))))
  (DP (oK (o3 qF (v3 6) (dH eX (au (v3 5) aH)))) (lD (c3 (.bl false))) DK)))
def kO:dw:=(cM (st3 2 (o3 fW (dH dj (au (v3 0) aH)) (c3 (.int 2))))
  (cM (st3 3 (o3 bG (v3 0) (v3 0)))
  (cM lg
  (lD (c3 (.bl true))))))
theorem wA:∀(ds:List D) (H:aF) (Q:aY),dM ds H Q->kO (dX Q) (aJ j7 ds) H:=by
 intro ds H Q h
 obtain⟨_,_,rfl,h⟩:=h
 obtain⟨W,cs,⟨rfl,rfl,hl,hc⟩,h⟩:=h
 have hcl:=hc.len
 have hsl:=zm (L:=(W.length:Int) / 2) hc.ne
 simp only[kO,aJ,j7,List.map_cons,List.map_nil,List.length_cons,List.length_nil,Nat.reduceAdd,Nat.reduceSub,Nat.zero_add,List.replicate,List.cons_append,List.nil_append]
 walk_at "l3"
 refine n8 (by omega) ?_
 walk_at "l3"
 refine GK (by rw[jJ,bK];omega) ?_
 rw[vd]
 walk_at "l3"
 unfold lg
 walk_at "l3"
 refine uG (by omega) hc.ne (by omega) fun p1 hp1=>?_
 walk_at "l3"
 refine Lp.by (fun i σ H2=>H2=aO H p1 (.lst ((nW cs ((W.length:Int) / 2)).map bQ))/\((nW cs ((W.length:Int) / 2)).take i).all (Gf W)=true/\∃x y z,σ=[some (.str (bI W)),some (.tup (cs.map D.int)),some (.int ((W.length:Int) / 2)),some (.str (bI (W++W))),x,y,z]) ⟨rfl,rfl,_,_,_,rfl⟩ (fun i σ H2 _ z=>by rw[z.1];exact aB) ?_ ?_
 ·rintro i d σ H2 hd ⟨rfl,hal,x,y,z,rfl⟩
  rw[List.getElem?_map] at hd
  obtain⟨s,hs,rfl⟩:=Option.map_eq_some_iff.mp hd
  obtain⟨b1,b2,b3,b4⟩:=hc.nW s (List.mem_of_getElem? hs)
  unfold bQ
  walk_at "l3"
  refine Jj (mR _ (by rw[List.length_append];omega)) ?_
  rw[Iz _ b1 (by omega) (by rw[List.length_append];omega)]
  walk_at "l3"
  refine Jj (mR _ (by rw[List.length_append];omega)) ?_
  rw[Iz _ (by omega) (by omega) (by rw[List.length_append];omega)]
  walk_at "l3"
  refine Dy _ (by rw[Dr b1 (by omega) (by rw[List.length_append];omega)];omega) ?_
  walk_at "l3"
  refine aau ?_
  walk_at "l3"
  refine U9 (fun hne=>?_) fun heq=>?_
  ·walk_at "l3"
   have hf:RJ W cs=false:=by
    unfold RJ
    rw[List.all_eq_false]
    exact⟨s,List.mem_of_getElem? hs,by unfold Gf;simpa using hne⟩
   rw[hf] at h
   exact bT h (aN.fresh hp1)
  ·walk_at "l3"
   refine⟨rfl,?_,_,_,_,rfl⟩
   rw[List.take_add_one,hs,List.all_append,hal]
   show (true&&(Gf W s&&true))=true
   unfold Gf
   rw[decide_eq_true heq];rfl
 ·rintro σ H2 ⟨rfl,hal,x,y,z,rfl⟩
  rw[List.length_map,List.take_length] at hal
  walk_at "l3"
  rw[show RJ W cs=true from hal] at h
  exact bT h (aN.fresh hp1)
def cI:mL:=fun ds H Q=>∃h,ds=[.int h]/\((0<=h/\h<=21)/\∀p,H p=none->Q (.ref p) (aO H p (.lst ((jQ h (jR h)).map Tf))))
theorem tE{h:Int}{H:aF}{Q:aY}(h0:0<=h)(h1:h<=21)(q:∀p,H p=none->Q (.ref p) (aO H p (.lst ((jQ h (jR h)).map Tf)))):cI [.int h] H Q:=⟨_,rfl,⟨⟨h0,h1⟩,q⟩⟩
theorem oU:∀(ds:List D) (H:aF) (Q:aY),cI ds H Q->ds.length=b8.length:=by
 intro ds H Q h
 obtain⟨_,rfl,_⟩:=h
 rfl
def ig:dw:=DQ (DR (dH cH (au (v3 0) aH))) (qD 2) (RG (m3 xG (v3 1) (au (Er (ir2 (o3 bG (o3 aP (v3 2) (c3 (.int 1))) (c3 (.int 1))) (v3 0)) (qD 0) rG (jh (au (o3 aP (v3 1) (c3 (.int 0))) (au (o3 aP (v3 1) (c3 (.int 1))) (au (v3 0) aH)))) ["three"] [(2, "pair")]) aH)))
def gn:dw:=(cM (st3 1 (Il aH))
  (cM ig
  (lD (v3 1))))
theorem rW:∀(ds:List D) (H:aF) (Q:aY),cI ds H Q->gn (dX Q) (aJ dU ds) H:=by
 intro ds H Q h
 obtain⟨n,rfl,h⟩:=h
 obtain⟨⟨h0,h1⟩,h⟩:=h
 have hl2:=oM h0 h1
 simp only[gn,aJ,dU,List.map_cons,List.map_nil,List.length_cons,List.length_nil,Nat.reduceAdd,Nat.reduceSub,Nat.zero_add,List.replicate,List.cons_append,List.nil_append]
 walk_at "l3"
 intro p hp
 walk_at "l3"
 unfold ig
 walk_at "l3"
 refine nF h0 h1 fun p1 hp1=>?_
 walk_at "l3"
 have n1:p≠p1:=ne3 aB hp1
 have hq1:H p1=none:=iy (aN.fresh hp) hp1
 refine Lp.by (fun i σ H2=>aN H H2/\H2 p1=some (.lst ((jR n).map bQ))/\H2 p=some (.lst ((jQ n ((jR n).take i)).map Tf))/\∃x,σ=[some (.int n),some (.ref p),x]) ⟨(aN.fresh hp).trans (aN.fresh hp1),aB,bC aB hp1,_,rfl⟩ (fun i σ H2 _ z=>z.2.1) ?_ ?_
 ·rintro i d σ H2 hd ⟨hs,hH1,hH,x,rfl⟩
  rw[List.getElem?_map] at hd
  obtain⟨c,hc,rfl⟩:=Option.map_eq_some_iff.mp hd
  have hcm:=List.mem_of_getElem? hc
  have hcp:=two_pos c hcm
  have hl3:=vR h1 (ps:=(jR n).take i) fun q hq=>two_pos q (List.mem_of_mem_take hq)
  have htl:((jR n).take i).length<=441:=by rw[List.length_take];omega
  unfold bQ
  walk_at "l3"
  refine Cp.rQ (fun j=>Tf (c.1,c.2,c.2+1+(j:Int))) (by omega) ?_ ?_
  ·intro j hj R H4 hs4 hR
   walk_at "l3"
   exact hR H4 aN.refl
  intro p2 hp2
  have e:((List.range (n-(c.2+1)).toNat).map fun j:Nat=>Tf (c.1,c.2,c.2+1+(j:Int)))=(uH n c).map Tf:=by unfold uH;rw[List.map_map];rfl
  rw[e]
  have e2:(uH n c).length=(n-(c.2+1)).toNat:=by simp[uH]
  have n2:p1≠p2:=ne3 hH1 hp2
  walk_at "l3"
  refine VL (bC hH hp2) aB (Nat.le_of_lt (sX (by rw[List.length_map,List.length_map];omega))) ?_
  walk_at "l3"
  refine⟨fun b o hb=>?_,?_,?_,_,rfl⟩
  ·rw[aV (ne3 hb hp)];exact (hs.trans (aN.fresh hp2)) b o hb
  ·rw[aV (Ne.symm n1)];exact bC hH1 hp2
  ·rw[aB,List.take_add_one,hc]
   show _=some (O3.lst ((jQ n ((jR n).take i++[c])).map Tf))
   rw[Jr,List.map_append]
 ·rintro σ H2 ⟨hs,hH1,hH,x,rfl⟩
  rw[List.length_map,List.take_length] at hH
  walk_at "l3"
  exact bT (h p hp) (mQ hs hH)
inductive Gw:List Pt->Prop
 |one:Gw [(0,0)]
 |add {ps:List Pt} {c d:Pt}:Gw ps->c∉ps->d∈ps->c∈bB d->Gw (ps++[c])
section
variable{ps:List Pt}
theorem Gw.nd(g:Gw ps):ps.Nodup:=by
 induction g with
 |one=>simp
 |add _ h _ _ ih=>
  rw[List.nodup_append]
  exact⟨ih,by simp,fun a ha b hb=>by rw[List.mem_singleton.mp hb];exact fun z=>h (z▸ha)⟩
theorem Gw.z(g:Gw ps):(0,0)∈ps:=by
 induction g with
 |one=>simp
 |add _ _ _ _ ih=>exact List.mem_append_left _ ih
theorem Gw.bnd(g:Gw ps):∀c∈ps,(-(ps.length:Int)<c.1/\c.1<ps.length)/\-(ps.length:Int)<c.2/\c.2<ps.length:=by
 induction g with
 |one=>intro c hc;rw[List.mem_singleton.mp hc];simp
 |@add ps e d _ _ hd ha ih=>
  intro c hc
  rw[List.length_append,List.length_singleton]
  rcases List.mem_append.mp hc with hc | hc
  ·have:=ih c hc;omega
  ·rw[List.mem_singleton.mp hc]
   have:=ih d hd
   rw[iK] at ha
   omega
theorem Gw.con(g:Gw ps):∀c∈ps,b7 ps (0,0) c:=by
 induction g with
 |one=>intro c hc;rw[List.mem_singleton.mp hc];exact .refl
 |@add ps e d _ _ hd ha ih=>
  intro c hc
  rcases List.mem_append.mp hc with hc | hc
  ·exact (ih c hc).mono fun x hx=>List.mem_append_left _ hx
  ·rw[List.mem_singleton.mp hc]
   exact .step ((ih d hd).mono fun x hx=>List.mem_append_left _ hx) ha (by simp)
theorem Gw.abW(g:Gw ps):∀a∈ps,∀b∈ps,b7 ps a b:=fun a ha b hb=>((g.con a ha).symm g.z).trans (g.con b hb)
theorem Gw.pop{c:Pt}(g:Gw (ps++[c]))(h:ps≠[]):Gw ps:=by
 generalize e:ps++[c]=qs at g
 cases g with
 |one=>
  have:=congrArg List.length e
  rw[List.length_append,List.length_singleton,List.length_singleton] at this
  exact absurd (List.eq_nil_of_length_eq_zero (by omega)) h
 |add g _ _ _=>rw[(List.append_inj' e rfl).1];exact g
end
def Yz(c:Int):Lt:=match (c%4).toNat with
 |0=>0
 |1=>1
 |2=>2
 |_=>3
theorem U4(c:Int):nA (Str.ofString "enws").cps.toList (c%4)=some (cp (Yz c)):=by
 have:c%4=0\/c%4=1\/c%4=2\/c%4=3:=by omega
 unfold Yz
 rcases this with e | e | e | e <;> rw[e] <;> rfl
theorem aaJ(l:Lt)(x y:Int):(x+(step l).1,y+(step l).2)∈bB (x,y):=by
 rw[iK]
 match l with
 |0=>exact .inl ⟨rfl,Int.add_zero _⟩
 |1=>exact .inr (.inl ⟨Int.add_zero _,rfl⟩)
 |2=>exact .inr (.inr (.inl ⟨rfl,Int.add_zero _⟩))
 |3=>exact .inr (.inr (.inr ⟨Int.add_zero _,rfl⟩))
def abg(H:aF)(a:Addr):Nat:=match H a with
 |some (.lst l)=>l.length
 |_=>0
def iQ:mL:=fun ds H Q=>∃xs at0 many,ds=[.fl xs,.int at0,.int many]/\(∃ns:List Int,(xs=ns.map D.int/\ns.length<=63/\(0<=at0/\at0<=500)/\1<=many/\many<=10)/\∀ps p,H p=none->Gw ps->ps.length<=10->Sc ps->Q (.ref p) (aO H p (.lst (ps.map bQ))))
theorem K4{ns:List Int}{at0 many:Int}{H:aF}{Q:aY}(hl:ns.length<=63)(h1:0<=at0/\at0<=500)(h2:1<=many/\many<=10)(h:∀ps p,H p=none->Gw ps->ps.length<=10->Sc ps->Q (.ref p) (aO H p (.lst (ps.map bQ)))):iQ [.fl (ns.map D.int),.int at0,.int many] H Q:=⟨_,_,_,rfl,⟨ns,⟨rfl,hl,h1,h2⟩,h⟩⟩
theorem CG:∀(ds:List D) (H:aF) (Q:aY),iQ ds H Q->ds.length=gZ.length:=by
 intro ds H Q h
 obtain⟨_,_,_,rfl,_⟩:=h
 rfl
def pL:dw:=DQ (Zi (c3 (.int 4))) (qD 8) (cM (st3 9 (dH gP (au (o3 aP (c3 (.str "enws")) (o3 fG (o3 bG (o3 fW (v3 5) (c3 (.int 60))) (v3 8)) (c3 (.int 4)))) aH)))
  (cM (st3 10 (jh (au (o3 bG (v3 6) (o3 aP (v3 9) (c3 (.int 0)))) (au (o3 bG (v3 7) (o3 aP (v3 9) (c3 (.int 1)))) aH))))
  (DP (oK (o3 (oN true) (v3 10) (v3 3))) (cM (RG (m3 o8 (v3 3) (au (v3 10) aH)))
  br3) DK)))
def qt:dw:=DQ (Zi (o3 fH (v3 2) (c3 (.int 1)))) (qD 4) (cM (st3 5 (dH bJ (au (v3 0) (au (o3 bG (v3 1) (v3 4)) aH))))
  (cM (as3 (o3 aP (v3 3) (o3 fG (v3 5) (dH dj (au (v3 3) aH)))) (Tn 6 7))
  pL))
def pZ:dw:=Zx (oK (dH jf (au (v3 3) aH))) (RG (m3 Ao (v3 3) aH))
def qO:dw:=(cM (st3 3 (Il (au (jh (au (c3 (.int 0)) (au (c3 (.int 0)) aH))) aH)))
  (cM qt
  (cM pZ
  (lD (v3 3)))))
theorem FQ:∀(ds:List D) (H:aF) (Q:aY),iQ ds H Q->qO (dX Q) (aJ qK ds) H:=by
 intro ds H Q h
 obtain⟨xs,at0,many,rfl,h⟩:=h
 obtain⟨ns,⟨rfl,hl,⟨a0,a1⟩,m0,m1⟩,h⟩:=h
 simp only[qO,aJ,qK,List.map_cons,List.map_nil,List.length_cons,List.length_nil,Nat.reduceAdd,Nat.reduceSub,Nat.zero_add,List.replicate,List.cons_append,List.nil_append]
 walk_at "l3"
 intro p hp
 walk_at "l3"
 unfold qt
 walk_at "l3"
 refine Lp.rQ (fun i σ H2=>aN H H2/\∃ps:List Pt,(H2 p=some (.lst (ps.map bQ))/\Gw ps/\ps.length<=i+1)/\∃k c x y t s n,σ=[some (.fl (ns.map D.int)),some (.int at0),some (.int many),some (.ref p),k,c,x,y,t,s,n]) ⟨aN.fresh hp,[(0,0)],⟨aB,.one,Nat.le_refl _⟩,_,_,_,_,_,_,_,rfl⟩ ?_ ?_
 ·rintro i σ H2 hi ⟨hs,ps,⟨hH,g,hgl⟩,k,c,x,y,t,s,n,rfl⟩
  have hpos:0<ps.length:=List.length_pos_of_mem g.z
  have hl0:(0:Int)<((ps.map bQ).length:Int):=by rw[List.length_map];omega
  walk_at "l3"
  rw[Int.zero_add]
  generalize cat ns (at0+(i:Int)).toNat=cc
  rw[List.length_map] at *
  have n0:0<=cc%(ps.length:Int):=Int.emod_nonneg _ (by omega)
  have n1:(cc%(ps.length:Int)).toNat<ps.length:=by have:=Int.emod_lt_of_pos cc hl0;omega
  refine uT hH (uf n0 n1) ?_
  have hqm:=List.getElem_mem n1
  generalize ps[(cc%(ps.length:Int)).toNat]=q at hqm
  obtain⟨qx,qy⟩:=q
  unfold bQ
  walk_at "l3"
  unfold pL
  walk_at "l3"
  refine Lp.rQ (fun j σ H3=>H3=H2/\∃t s n,σ=[some (.fl (ns.map D.int)),some (.int at0),some (.int many),some (.ref p),some (.int (i:Int)),some (.int cc),some (.int qx),some (.int qy),t,s,n]) ⟨rfl,_,_,_,by first | rfl | (rw[Int.zero_add])⟩ ?_ ?_
  ·rintro j σ H3 hj ⟨rfl,t,s,n,rfl⟩
   walk_at "l3"
   refine aak (by rw[bK];decide) (U4 _) ?_
   generalize Yz _=l
   walk_at "l3"
   refine Dz l ?_
   walk_at "l3"
   refine QX (ps:=ps) (Sg hH) ?_
   walk_at "l3"
   refine U9 (fun hnin=>?_) fun _=>?_
   ·walk_at "l3"
    refine CK hH (nM (by rw[List.length_map];omega)) ?_
    walk_at "l3"
    refine⟨fun b o hb=>?_,ps++[(qx+(step l).1,qy+(step l).2)],⟨?_,g.add hnin hqm (aaJ l qx qy),by simp;omega⟩,_,_,_,_,_,_,_,rfl⟩
    ·rw[aV (ne3 hb hp)];exact hs b o hb
    ·rw[aB,List.map_append];rfl
   ·walk_at "l3"
    exact⟨rfl,_,_,_,rfl⟩
  ·rintro σ H3 ⟨rfl,t,s,n,rfl⟩
   walk_at "l3"
   exact⟨hs,ps,⟨hH,g,by omega⟩,_,_,_,_,_,_,_,rfl⟩
 ·rintro σ H2 ⟨hs,ps,⟨hH,g,hgl⟩,k,c,x,y,t,s,n,rfl⟩
  have hpl:ps.length<=10:=by omega
  walk_at "l3"
  unfold pZ
  refine Ui (fun σ H3=>aN H H3/\∃qs:List Pt,(H3 p=some (.lst (qs.map bQ))/\Gw qs/\qs.length<=10)/\σ=[some (.fl (ns.map D.int)),some (.int at0),some (.int many),some (.ref p),k,c,x,y,t,s,n]) (fun _ H3=>abg H3 p) ⟨hs,ps,⟨hH,g,hpl⟩,rfl⟩ ?_
  rintro σ H3 ⟨hs3,qs,⟨hq,g3,hl3⟩,rfl⟩
  have hb3:=g3.bnd
  walk_at "l3"
  refine Jz hq (List.ne_nil_of_mem g3.z) (by omega) (fun x hx y hy=>by have:=hb3 x hx;have:=hb3 y hy;omega) fun b hb0 hb1=>?_
  walk_at "l3"
  refine ifB (fun hb=>?_) fun hb=>?_
  ·have h2:qs.length≠1:=fun z=>by rw[hb1 z] at hb;cases hb
   have hqn:qs≠[]:=List.ne_nil_of_mem g3.z
   obtain⟨rs,e,rfl⟩:∃rs e,qs=rs++[e]:=⟨qs.dropLast,qs.getLast hqn,(List.dropLast_concat_getLast hqn).symm⟩
   have hrn:rs≠[]:=fun z=>h2 (by rw[z];rfl)
   walk_at "l3"
   refine aay hq (y:=bQ e) (by simp) ?_
   rw[show ((rs++[e]).map bQ).dropLast=rs.map bQ by simp]
   walk_at "l3"
   refine⟨⟨fun b o hb=>?_,rs,⟨aB,g3.pop hrn,by simp at hl3;omega⟩,rfl⟩,?_⟩
   ·rw[aV (ne3 hb hp)];exact hs3 b o hb
   ·unfold abg
    rw[aB,hq]
    simp
  ·walk_at "l3"
   exact bT (h qs p hp g3 hl3 ⟨g3.abW,hb0 hb⟩) (mQ hs3 hq)
def ltD(_:Pt)(d:Nat):D:=.str (Dm (ltN d))
def sdT(c:Pt)(d:Nat):D:=.tup [.str (Dm (ltN d)),bQ (mY c d),bQ (um c d)]
section
variable(H:aF)(S:List Pt)(p:Addr)
inductive RoA(i:Nat):cO->aF->Prop
 |mk {H2:aF} (kvs:List (Pt×D)) (x y z u v:Option D) (sb:aN H H2) (hb:Lb S ltD i 0 kvs) (hH:H2 p=some (.dic (kI kvs))):RoA i [some (.tup (S.map bQ)),some (.ref p),x,y,z,u,v,none,none,none] H2
inductive RoB(i:Nat)(c:Pt)(p2:Addr)(k:Nat):cO->aF->Prop
 |mk {H3:aF} (kvs:List (Pt×D)) (z u v:Option D) (sb:aN H H3) (h2:H3 p2=some (.lst ((List.range 4).map (sdT c)))) (hb:Lb S ltD i k kvs) (hH:H3 p=some (.dic (kI kvs))):RoB i c p2 k [some (.tup (S.map bQ)),some (.ref p),some (.int c.1),some (.int c.2),z,u,v,none,none,none] H3
inductive RoC(s0:Pt)(kvs:List (Pt×D))(x y z:Option D)(i:Nat):cO->aF->Prop
 |mk {H3:aF} (v k s:Option D) (sb:aN H H3) (hH:H3 p=some (.dic (kI kvs))):RoC s0 kvs x y z i [some (.tup (S.map bQ)),some (.ref p),x,y,z,some (.tup [.int (aX S s0 i).1,.int (aX S s0 i).2]),v,some (.str (bI (wd S s0 i))),k,s] H3
end
def iZ:mL:=fun ds H Q=>∃xs,ds=[.tup xs]/\(∃S s0 t,(xs=S.map bQ/\S[0]?=some s0/\S.length<=10/\Dg S/\jH S s0/\oG S s0 t)/\Q (.str (bI (wd S s0 t))) H)
theorem Kl{S:List Pt}{s0:Pt}{t:Nat}{H:aF}{Q:aY}(h0:S[0]?=some s0)(hl:S.length<=10)(g:Dg S)(hcr:jH S s0)(r:oG S s0 t)(h:Q (.str (bI (wd S s0 t))) H):iZ [.tup (S.map bQ)] H Q:=⟨_,rfl,⟨S,s0,t,⟨rfl,h0,hl,g,hcr,r⟩,h⟩⟩
theorem Ac:∀(ds:List D) (H:aF) (Q:aY),iZ ds H Q->ds.length=gU.length:=by
 intro ds H Q h
 obtain⟨_,rfl,_⟩:=h
 rfl
def pQ:dw:=DQ (DR (Il (au (jh (au (c3 (.str "e")) (au (jh (au (v3 2) (au (v3 3) aH))) (au (jh (au (v3 2) (au (o3 fH (v3 3) (c3 (.int 1))) aH))) aH)))) (au (jh (au (c3 (.str "n")) (au (jh (au (o3 bG (v3 2) (c3 (.int 1))) (au (v3 3) aH))) (au (jh (au (o3 bG (v3 2) (c3 (.int 1))) (au (v3 3) aH))) aH)))) (au (jh (au (c3 (.str "w")) (au (jh (au (o3 bG (v3 2) (c3 (.int 1))) (au (o3 bG (v3 3) (c3 (.int 1))) aH))) (au (jh (au (v3 2) (au (o3 bG (v3 3) (c3 (.int 1))) aH))) aH)))) (au (jh (au (c3 (.str "s")) (au (jh (au (v3 2) (au (o3 bG (v3 3) (c3 (.int 1))) aH))) (au (jh (au (o3 fH (v3 2) (c3 (.int 1))) (au (v3 3) aH))) aH)))) aH)))))) (Xo 4 5 6) (DP (oK (o3 (oN true) (v3 6) (v3 0))) (dp3 (v3 1) (v3 5) (v3 4)) DK)
def o6:dw:=DQ (it3 (v3 0)) (Tn 2 3) pQ
def pI:dw:=DQ (Zi (dH qY (au (v3 1) aH))) (qD 8) (cM (st3 7 (o3 bG (v3 7) (dg3 (v3 1) (v3 5))))
  (cM (st3 9 (dH gP (au (dg3 (v3 1) (v3 5)) aH)))
  (st3 5 (jh (au (o3 bG (o3 aP (v3 5) (c3 (.int 0))) (o3 aP (v3 9) (c3 (.int 0)))) (au (o3 bG (o3 aP (v3 5) (c3 (.int 1))) (o3 aP (v3 9) (c3 (.int 1)))) aH))))))
def rn:dw:=(cM (st3 1 dn3)
  (cM o6
  (cM (st3 5 (o3 aP (v3 0) (c3 (.int 0))))
  (cM (st3 7 (c3 (.str "")))
  (cM pI
  (lD (v3 7)))))))
theorem Ez:∀(ds:List D) (H:aF) (Q:aY),iZ ds H Q->rn (dX Q) (aJ qZ ds) H:=by
 intro ds H Q h
 obtain⟨_,rfl,h⟩:=h
 obtain⟨S,s0,t,⟨rfl,h0,hl,g,hcr,r⟩,h⟩:=h
 simp only[rn,aJ,qZ,List.map_cons,List.map_nil,List.length_cons,List.length_nil,Nat.reduceAdd,Nat.reduceSub,Nat.zero_add,List.replicate,List.cons_append,List.nil_append]
 walk_at "l3"
 intro p hp
 walk_at "l3"
 unfold o6
 walk_at "l3"
 refine Lp.by (RoA H S p) (.mk [] _ _ _ _ _ (aN.fresh hp) Lb.nil aB) (fun _ _ _ _ _=>trivial) ?_ ?_
 ·rintro i d σ H2 hd ⟨kvs,x,y,z,u,v,sb,hb,hH⟩
  rw[List.getElem?_map,Option.map_eq_some_iff] at hd
  obtain⟨c,hc,rfl⟩:=hd
  have hi:=(List.getElem?_eq_some_iff.mp hc).1
  obtain⟨c1,c2⟩:=c
  unfold bQ
  walk_at "l3"
  unfold pQ
  walk_at "l3"
  intro p2 hp2
  walk_at "l3"
  have n2:p≠p2:=ne3 hH hp2
  refine Lp.by (RoB H S p i (c1,c2) p2) (.mk kvs _ _ _ (sb.trans (aN.fresh hp2)) aB hb (bC hH hp2)) (fun k σ H3 _ z=>by cases z with | mk _ _ _ _ _ h2=>exact h2) ?_ ?_
  ·rintro k d σ H3 hd ⟨kvs,z,u,v,sb3,h2,hb,hH⟩
   have hd':((List.range 4).map (sdT (c1,c2)))[k]?=some d:=hd
   have hk:k<4:=by have:=(List.getElem?_eq_some_iff.mp hd').1;simpa using this
   rw[List.getElem?_map,List.getElem?_range hk,Option.map_some] at hd'
   cases hd'
   unfold sdT
   walk_at "l3"
   unfold bQ
   refine QX (ps:=S) rfl ?_
   refine U9 (fun z=>?_) fun z=>?_
   ·walk_at "l3"
    refine aab hH (by have:=hb.len;omega) ?_
    walk_at "l3"
    exact .mk _ _ _ _ (fun q o hq=>by rw[aV (fun e=>by rw[e,hp] at hq;cases hq)];exact sb3 q o hq) (by rw[aV n2.symm];exact h2) (hb.put g hc hk z) aB
   ·walk_at "l3"
    exact .mk kvs _ _ _ sb3 h2 (hb.skip hc z) hH
  ·rintro σ H3 ⟨kvs,z,u,v,sb3,h2,hb,hH⟩
   walk_at "l3"
   exact .mk kvs _ _ _ _ _ sb3 hb.next hH
 ·rintro σ H2 ⟨kvs,x,y,z,u,v,sb,hb,hH⟩
  rw[List.length_map] at hb
  have hkl:=hb.len
  walk_at "l3"
  refine Cd (Nj h0) ?_
  walk_at "l3"
  unfold pI
  walk_at "l3"
  refine O8 hH ?_
  walk_at "l3"
  have hkt:(kI kvs).length=t:=by
   have:=r.len hcr hb.nd fun q=>hb.all q
   unfold kI
   rw[List.length_map] at this ⊢
   exact this
  have ht40:t<=40:=by rw[←hkt];unfold kI;rw[List.length_map];omega
  rw[hkt]
  refine Lp.rQ (RoC H S p s0 kvs x y z) (.mk _ _ _ sb hH) ?_ ?_
  ·rintro i σ H3 hi ⟨v3_,k,s,sb3,hH3⟩
   have enx:aX S s0 (i+1)=((aX S s0 i).1+(step (ltN (outD S (aX S s0 i)))).1,(aX S s0 i).2+(step (ltN (outD S (aX S s0 i)))).2):=by rw[uw jx];rfl
   have enx_1:=congrArg Prod.fst enx
   have enx_2:=congrArg Prod.snd enx
   dsimp only at enx_1 enx_2
   walk_at "l3"
   refine Vs hH3 (hb.at (dF hcr i)) ?_
   unfold ltD
   walk_at "l3"
   refine GK (by rw[jJ,lB,bK];show _+1<=_;omega) ?_
   rw[show bI (wd S s0 i)++Dm (ltN (outD S (aX S s0 i)))=bI (wd S s0 (i+1)) from by rw[ph,←vd];rfl]
   walk_at "l3"
   refine Vs hH3 (hb.at (dF hcr i)) ?_
   unfold ltD
   walk_at "l3"
   refine Dz _ ?_
   walk_at "l3"
   rw[←enx_1,←enx_2]
   exact .mk _ _ _ sb3 hH3
  ·rintro σ H3 ⟨v3_,k,s,sb3,hH3⟩
   walk_at "l3"
   exact bT h sb3
def fc:mL:=fun ds H Q=>∃a b d n,ds=[.tup [.int a,.int b,.int d],.int n]/\((vo a b d/\a*d=n)/\Q (.bl true) H)
theorem Bb{a b d n:Int}{H:aF}{Q:aY}(hg:vo a b d)(hn:a*d=n)(h:Q (.bl true) H):fc [.tup [.int a,.int b,.int d],.int n] H Q:=⟨_,_,_,_,rfl,⟨⟨hg,hn⟩,h⟩⟩
theorem vZ:∀(ds:List D) (H:aF) (Q:aY),fc ds H Q->ds.length=d9.length:=by
 intro ds H Q h
 obtain⟨_,_,_,_,rfl,_⟩:=h
 rfl
def lY:dw:=(cM (DP (or3 (no3 (oK (dH pH (au (v3 0) (au (c3 (.ty "tuple")) aH))))) (or3 (oK (o3 qF (dH dj (au (v3 0) aH)) (c3 (.int 3)))) (no3 (oK (dH Vo (au (Er (it3 (v3 0)) (qD 0) rG (dH iG (au (v3 0) aH)) ["_law_number"] []) aH)))))) (lD (c3 (.bl false))) DK)
  (lD (Zy (o3 Wy (o3 aP (v3 0) (c3 (.int 0))) (c3 (.int 0))) (Zy (Wl Ko Bp (c3 (.int 0)) (o3 aP (v3 0) (c3 (.int 1))) (o3 aP (v3 0) (c3 (.int 0)))) (Zy (o3 Wy (o3 aP (v3 0) (c3 (.int 2))) (c3 (.int 0))) (o3 vU (o3 fP (o3 aP (v3 0) (c3 (.int 0))) (o3 aP (v3 0) (c3 (.int 2)))) (v3 1)))))))
theorem zY:∀(ds:List D) (H:aF) (Q:aY),fc ds H Q->lY (dX Q) (aJ jk ds) H:=by
 intro ds H Q h
 obtain⟨a,b,d,n,rfl,h⟩:=h
 obtain⟨⟨hg,hn⟩,h⟩:=h
 obtain⟨g1,g2,g3,g4,g5,g6⟩:=id hg
 simp only[lY,aJ,jk,List.map_cons,List.map_nil,List.length_cons,List.length_nil,Nat.reduceAdd,Nat.reduceSub,Nat.zero_add,List.replicate,List.cons_append,List.nil_append]
 walk_at "l3"
 refine U8 rfl ?_
 walk_at "l3"
 refine U8 rfl ?_
 walk_at "l3"
 refine Cp.map (E:=D.int) (as:=[a,b,d]) (fun _=>D.bl true) (fun _ _=>trivial) (by simp) ?_ ?_
 ·intro i c hc R H3 hs3 hR
  walk_at "l3"
  exact hR H3 aN.refl
 intro p hp
 walk_at "l3"
 refine abI (bs:=[true,true,true]) aB ?_
 walk_at "l3"
 refine U8 rfl ?_
 walk_at "l3"
 refine DN (fun _=>?_) fun z=>absurd g1 z
 walk_at "l3"
 refine DN (fun _=>?_) fun z=>absurd g2 z
 walk_at "l3"
 refine DN (fun _=>?_) fun z=>absurd g3 z
 walk_at "l3"
 refine DN (fun _=>?_) fun z=>absurd g4 z
 walk_at "l3"
 rw[decide_eq_true hn]
 exact bT h (aN.fresh hp)
def Nm(W:List Lt):List (List Int):=if W.length%2=1 then [] else (wz ((W.length:Int) / 2)).filter (RJ W)
theorem Bu{h:Int}{cs:List Int}:cs∈wz h↔JM cs h:=by
 unfold wz
 rw[List.mem_append,List.mem_map,List.mem_map]
 constructor
 ·rintro (⟨p,hp,rfl⟩ | ⟨q,hq,rfl⟩)
  ·have:=ie.mp hp
   exact⟨.inl rfl,by simp;omega,by simp;omega⟩
  ·obtain⟨p,hp,k1,k2,k3,k4⟩:=Bc.mp hq
   have:=ie.mp hp
   exact⟨.inr rfl,by simp;omega,by simp;omega⟩
 ·intro c
  obtain⟨hl,hs,hr⟩:=c
  rcases cs with _ | ⟨a,_ | ⟨b,_ | ⟨d,_ | _⟩⟩⟩ <;> simp at hl
  ·have ha:=hr a (by simp)
   have hb:=hr b (by simp)
   simp only[List.pairwise_cons,List.mem_cons,List.not_mem_nil,or_false,forall_eq] at hs
   exact .inl ⟨(a,b),ie.mpr (by dsimp only;omega),rfl⟩
  ·have ha:=hr a (by simp)
   have hb:=hr b (by simp)
   have hd:=hr d (by simp)
   simp only[List.pairwise_cons,List.mem_cons,List.not_mem_nil,or_false,forall_eq_or_imp,forall_eq] at hs
   exact .inr ⟨(a,b,d),Bc.mpr ⟨(a,b),ie.mpr (by dsimp only;omega),rfl,rfl,by dsimp only;omega,by dsimp only;omega⟩,rfl⟩
def dm:mL:=fun ds H Q=>∃z,ds=[.str z]/\(∃W:List Lt,(z=bI W/\W.length<=42)/\∀p,H p=none->Q (.ref p) (aO H p (.lst ((Nm W).map cutD))))
theorem wu{W:List Lt}{H:aF}{Q:aY}(hl:W.length<=42)(h:∀p,H p=none->Q (.ref p) (aO H p (.lst ((Nm W).map cutD)))):dm [.str (bI W)] H Q:=⟨_,rfl,⟨W,⟨rfl,hl⟩,h⟩⟩
theorem tu:∀(ds:List D) (H:aF) (Q:aY),dm ds H Q->ds.length=cY.length:=by
 intro ds H Q h
 obtain⟨_,rfl,_⟩:=h
 rfl
def jA:dw:=(cM (DP (oK (o3 vU (o3 fG (dH dj (au (v3 0) aH)) (c3 (.int 2))) (c3 (.int 1)))) (lD (Il aH)) DK)
  (cM (st3 1 (o3 fW (dH dj (au (v3 0) aH)) (c3 (.int 2))))
  (lD (Er (DR (o3 bG (dH cH (au (v3 1) aH)) (dH cI (au (v3 1) aH)))) (qD 0) (oK (dH dM (au (v3 1) (au (v3 0) aH)))) (v3 0) ["cuts"] [(0, "word")]))))
theorem vD:∀(ds:List D) (H:aF) (Q:aY),dm ds H Q->jA (dX Q) (aJ fZ ds) H:=by
 intro ds H Q h
 obtain⟨_,rfl,h⟩:=h
 obtain⟨W,⟨rfl,hl⟩,h⟩:=h
 simp only[jA,aJ,fZ,List.map_cons,List.map_nil,List.length_cons,List.length_nil,Nat.reduceAdd,Nat.reduceSub,Nat.zero_add,List.replicate,List.cons_append,List.nil_append]
 walk_at "l3"
 refine n8 (by omega) ?_
 walk_at "l3"
 unfold Nm at h
 refine DN (fun z=>?_) fun z=>?_
 ·rw[if_pos (by omega)] at h
  walk_at "l3"
  intro p hp
  exact bT (h p hp) aN.refl
 ·rw[if_neg (by omega)] at h
  walk_at "l3"
  refine n8 (by omega) ?_
  walk_at "l3"
  have h0:0<=(W.length:Int) / 2:=by omega
  have h1:(W.length:Int) / 2<=21:=by omega
  refine nF h0 h1 fun p1 hp1=>?_
  walk_at "l3"
  refine tE h0 h1 fun p2 hp2=>?_
  walk_at "l3"
  refine Wc (bC aB hp2) aB (by rw[List.length_map,List.length_map,bK];have:=oM h0 h1;have:=Je h0 h1;omega) fun p3 hp3=>?_
  rw[YM]
  walk_at "l3"
  refine Cp.aaX (E:=cutD) cutD (RJ W) (fun H3 hs=>hs _ _ aB) (Bo h0 h1) ?_ ?_
  ·intro i cs hi R1 R0 H3 hs hy hno
   unfold cutD
   walk_at "l3"
   refine zO (by omega) (Bu.mp (List.mem_of_getElem? hi)) ?_
   walk_at "l3"
   refine ifB (fun z=>?_) fun z=>?_
   ·walk_at "l3"
    exact hy z H3 aN.refl
   ·exact hno z H3 aN.refl
  ·intro p4 hp4
   have hs:=((aN.fresh (o:=.lst ((jR ((W.length:Int) / 2)).map bQ)) hp1).trans (aN.fresh (o:=.lst ((jQ ((W.length:Int) / 2) (jR ((W.length:Int) / 2))).map Tf)) hp2)).trans (aN.fresh (o:=.lst ((wz ((W.length:Int) / 2)).map cutD)) hp3)
   have h4:H p4=none:=iy hs hp4
   exact bT (h p4 h4) (mQ (hs.upd h4) aB)
theorem U3{H:aF}{a:Addr}{o:O3}(h:H a=some o):aO H a o=H:=by
 funext q
 by_cases z:q=a
 ·rw[z,aB,h]
 ·rw[aV z]
theorem Ht{W:List Lt}{i:Int}(hW:fX (0,0) W=(0,0))(i0:0<=i)(h:i<W.length):nA ((path (0,0) W).map bQ) i=some (.tup [.int (pw W i.toNat).1,.int (pw W i.toNat).2]):=by
 have hl:=vg (0,0) W
 rw[uf i0 (by rw[hl];omega)]
 have:=CW (0,0) W i.toNat
 rw[if_pos (by omega),List.getElem?_eq_getElem (by rw[hl];omega)] at this
 rw[Option.some.inj this,aaU (by omega)];rfl
def fj:mL:=fun ds H Q=>∃z xs,ds=[.str z,.tup xs]/\(∃(W:List Lt) (cs:List Int),(z=bI W/\xs=cs.map D.int/\4<=W.length/\W.length<=240/\JM cs ((W.length:Int) / 2)/\fX (0,0) W=(0,0))/\∀p,H p=none->Q (.ref p) (aO H p (.lst ((nW cs ((W.length:Int) / 2)).map fun s=>bQ (sh W ((W.length:Int) / 2) s)))))
theorem Bv{W:List Lt}{cs:List Int}{H:aF}{Q:aY}(h4:4<=W.length)(hl:W.length<=240)(hc:JM cs ((W.length:Int) / 2))(hW:fX (0,0) W=(0,0))(h:∀p,H p=none->Q (.ref p) (aO H p (.lst ((nW cs ((W.length:Int) / 2)).map fun s=>bQ (sh W ((W.length:Int) / 2) s))))):fj [.str (bI W),.tup (cs.map D.int)] H Q:=⟨_,_,rfl,⟨W,cs,⟨rfl,rfl,h4,hl,hc,hW⟩,h⟩⟩
theorem wK:∀(ds:List D) (H:aF) (Q:aY),fj ds H Q->ds.length=d7.length:=by
 intro ds H Q h
 obtain⟨_,_,rfl,_⟩:=h
 rfl
def lG:dw:=DQ (DR (dH eE (au (v3 0) (au (v3 1) aH)))) (qD 5) (cM (st3 6 (o3 fG (o3 bG (o3 aP (v3 5) (c3 (.int 1))) (v3 3)) (dH dj (au (v3 0) aH))))
  (RG (m3 o8 (v3 4) (au (dH lQ (au (o3 aP (v3 2) (o3 aP (v3 5) (c3 (.int 0)))) (au (o3 aP (v3 2) (v3 6)) aH))) aH))))
def lC:dw:=(cM (st3 2 (dH dN (au (jh (au (c3 (.int 0)) (au (c3 (.int 0)) aH))) (au (v3 0) aH))))
  (cM (st3 3 (o3 fW (dH dj (au (v3 0) aH)) (c3 (.int 2))))
  (cM (st3 4 (Il aH))
  (cM lG
  (lD (v3 4))))))
theorem zK:∀(ds:List D) (H:aF) (Q:aY),fj ds H Q->lC (dX Q) (aJ mq ds) H:=by
 intro ds H Q h
 obtain⟨_,_,rfl,h⟩:=h
 obtain⟨W,cs,⟨rfl,rfl,h4,hl,hc,hW⟩,h⟩:=h
 have hcl:=hc.len
 simp only[lC,aJ,mq,List.map_cons,List.map_nil,List.length_cons,List.length_nil,Nat.reduceAdd,Nat.reduceSub,Nat.zero_add,List.replicate,List.cons_append,List.nil_append]
 walk_at "l3"
 refine yX W (by omega) fun p hp=>?_
 walk_at "l3"
 refine n8 (by omega) ?_
 walk_at "l3"
 intro p1 hp1
 walk_at "l3"
 unfold lG
 walk_at "l3"
 refine uG (by omega) hc.ne (by omega) fun p2 hp2=>?_
 generalize hL:(W.length:Int) / 2=L at *
 walk_at "l3"
 have q1:p≠p1:=ne3 aB hp1
 have q2:p≠p2:=ne3 (bC aB hp1) hp2
 have q3:p1≠p2:=ne3 aB hp2
 refine Lp.by (fun i σ H2=>H2=aO (aO (aO (aO H p (.lst ((path (0,0) W).map bQ))) p1 (.lst [])) p2 (.lst ((nW cs L).map bQ))) p1 (.lst (((nW cs L).take i).map fun s=>bQ (sh W L s)))/\∃x y,σ=[some (.str (bI W)),some (.tup (cs.map D.int)),some (.ref p),some (.int L),some (.ref p1),x,y]) ⟨by rw[List.take_zero];exact (U3 (by rw[aV q3];exact aB)).symm,_,_,rfl⟩ (fun i σ H2 _ z=>by rw[z.1,aV q3.symm];exact aB) ?_ ?_
 ·rintro i d σ H2 hd ⟨rfl,x,y,rfl⟩
  rw[List.getElem?_map,Option.map_eq_some_iff] at hd
  obtain⟨s,hs,rfl⟩:=hd
  obtain⟨b1,b2,b3,b4⟩:=hc.nW s (List.mem_of_getElem? hs)
  unfold bQ
  walk_at "l3"
  refine n8 (by omega) ?_
  walk_at "l3"
  have m0:=Int.emod_nonneg (s.2+L) (b:=(W.length:Int)) (by omega)
  have m1:=Int.emod_lt_of_pos (s.2+L) (b:=(W.length:Int)) (by omega)
  refine uT (by rw[aV q1,aV q2,aV q1];exact aB) (Ht hW b1 (by omega)) ?_
  walk_at "l3"
  refine uT (by rw[aV q1,aV q2,aV q1];exact aB) (Ht hW m0 m1) ?_
  walk_at "l3"
  refine CK aB (nM (by rw[List.length_map,List.length_take,zm hc.ne];omega)) ?_
  rw[mK]
  walk_at "l3"
  refine⟨?_,_,_,rfl⟩
  rw[List.take_add_one,hs,List.map_append]
  have e:pw W ((s.2+L)%(W.length:Int)).toNat=pw W (s.2+L).toNat:=by
   have t:((s.2+L)%(W.length:Int)).toNat=(s.2+L).toNat%W.length:=by
    obtain⟨n,hn⟩:=Int.eq_ofNat_of_zero_le (show 0<=s.2+L by omega)
    rw[hn];rfl
   unfold pw
   rw[t,Nat.mod_mod]
  rw[e];rfl
 ·rintro σ H2 ⟨rfl,x,y,rfl⟩
  rw[List.length_map,List.take_of_length_le (Nat.le_refl _)]
  walk_at "l3"
  have h1:H p1=none:=iy (aN.fresh hp) hp1
  refine bT (h p1 h1) (mQ (fun q o hq=>?_) aB)
  have z:q≠p1:=ne3 hq h1
  rw[aV z]
  exact bC (bC (bC hq hp) hp1) hp2
def iJ:mL:=fun ds H Q=>∃z xs,ds=[.str z,.tup xs]/\(∃(W:List Lt) (cs:List Int),(z=bI W/\xs=cs.map D.int/\4<=W.length/\W.length<=240/\JM cs ((W.length:Int) / 2)/\fX (0,0) W=(0,0)/\(∀p∈(nW cs ((W.length:Int) / 2)).map (sh W ((W.length:Int) / 2)),Bt 400 p.1/\Bt 400 p.2)/\Wide ((nW cs ((W.length:Int) / 2)).map (sh W ((W.length:Int) / 2))))/\∀e b d,wG ((nW cs ((W.length:Int) / 2)).map (sh W ((W.length:Int) / 2))) e b d->Q (.tup [.int e,.int b,.int d]) H)
theorem Mh{W:List Lt}{cs:List Int}{H:aF}{Q:aY}(h4:4<=W.length)(hl:W.length<=240)(hc:JM cs ((W.length:Int) / 2))(hW:fX (0,0) W=(0,0))(hb:∀p∈(nW cs ((W.length:Int) / 2)).map (sh W ((W.length:Int) / 2)),Bt 400 p.1/\Bt 400 p.2)(hw:Wide ((nW cs ((W.length:Int) / 2)).map (sh W ((W.length:Int) / 2))))(h:∀e b d,wG ((nW cs ((W.length:Int) / 2)).map (sh W ((W.length:Int) / 2))) e b d->Q (.tup [.int e,.int b,.int d]) H):iJ [.str (bI W),.tup (cs.map D.int)] H Q:=⟨_,_,rfl,⟨W,cs,⟨rfl,rfl,h4,hl,hc,hW,hb,hw⟩,h⟩⟩
theorem Bk:∀(ds:List D) (H:aF) (Q:aY),iJ ds H Q->ds.length=gM.length:=by
 intro ds H Q h
 obtain⟨_,_,rfl,_⟩:=h
 rfl
def rK:dw:=(lD (dH iW (au (dH fj (au (v3 0) (au (v3 1) aH))) aH)))
theorem Ep:∀(ds:List D) (H:aF) (Q:aY),iJ ds H Q->rK (dX Q) (aJ qU ds) H:=by
 intro ds H Q h
 obtain⟨_,_,rfl,h⟩:=h
 obtain⟨W,cs,⟨rfl,rfl,h4,hl,hc,hW,hb,hw⟩,h⟩:=h
 have hsl:((nW cs ((W.length:Int) / 2)).map (sh W ((W.length:Int) / 2))).length<=100:=by rw[List.length_map,zm hc.ne];have:=hc.len;omega
 simp only[rK,aJ,qU,List.map_cons,List.map_nil,List.length_cons,List.length_nil,Nat.reduceAdd,Nat.reduceSub,Nat.zero_add,List.replicate,List.cons_append,List.nil_append]
 walk_at "l3"
 refine Bv h4 hl hc hW fun p hp=>?_
 walk_at "l3"
 refine Kp ((nW cs ((W.length:Int) / 2)).map (sh W ((W.length:Int) / 2))) (by rw[aB,List.map_map];rfl) hsl hb hw fun e b d G=>?_
 walk_at "l3"
 exact bT (h e b d G) (aN.fresh hp)
def GZ(s:Pt)(p:Pt):Pt:=(p.1+s.1,p.2+s.2)
def yO(s:Pt)(ps:List Pt):List Pt:=lL (ps.map (GZ s))
def iV:mL:=fun ds H Q=>∃a sx sy,ds=[.ref a,.tup [.int sx,.int sy]]/\(∃(ps:List Pt) (T:Addr),(H a=some (.lst (ps.map bQ))/\ps.length<=60/\H T=some (.tab "_law_piece"))/\∀o:O3,Q (.tup ((yO (sx,sy) ps).map bQ)) (aO H T o))
theorem KH{ps:List Pt}{a T:Addr}{sx sy:Int}{H:aF}{Q:aY}(ha:H a=some (.lst (ps.map bQ)))(hl:ps.length<=60)(hT:H T=some (.tab "_law_piece"))(h:∀o:O3,Q (.tup ((yO (sx,sy) ps).map bQ)) (aO H T o)):iV [.ref a,.tup [.int sx,.int sy]] H Q:=⟨_,_,_,rfl,⟨ps,T,⟨ha,hl,hT⟩,h⟩⟩
theorem RN{H:aF}{p q T:Addr}{o u v w0:O3}(hp:H p=none)(hT:H T=some w0)(hq0:aO H p u q=none):aN (aO H T o) (aO (aO (aO H p u) T o) q v):=by
 have hq:aO (aO H p u) T o q=none:=by
  by_cases z:q=T
  ·rw[z,bC hT hp] at hq0;cases hq0
  ·rw[aV z];exact hq0
 intro b w e
 have hb:aO (aO H p u) T o b=some w:=by
  by_cases z:b=T
  ·rw[z,aB] at e ⊢;exact e
  ·rw[aV z] at e ⊢;exact bC e hp
 exact bC hb hq
theorem Az:∀(ds:List D) (H:aF) (Q:aY),iV ds H Q->ds.length=g8.length:=by
 intro ds H Q h
 obtain⟨_,_,_,rfl,_⟩:=h
 rfl
def qL:dw:=(cM (st3 2 (Er (DR (v3 0)) (qD 0) rG (jh (au (o3 bG (o3 aP (v3 0) (c3 (.int 0))) (o3 aP (v3 1) (c3 (.int 0)))) (au (o3 bG (o3 aP (v3 0) (c3 (.int 1))) (o3 aP (v3 1) (c3 (.int 1)))) aH))) ["_law_cell"] [(1, "_law_shift")]))
  (lD (dH mJ (au (soL "_law_piece" 140 46 (v3 2)) aH))))
theorem Ff:∀(ds:List D) (H:aF) (Q:aY),iV ds H Q->qL (dX Q) (aJ nu ds) H:=by
 intro ds H Q h
 obtain⟨a,sx,sy,rfl,h⟩:=h
 obtain⟨ps,T,⟨ha,hl,hT⟩,h⟩:=h
 simp only[qL,aJ,nu,List.map_cons,List.map_nil,List.length_cons,List.length_nil,Nat.reduceAdd,Nat.reduceSub,Nat.zero_add,List.replicate,List.cons_append,List.nil_append]
 walk_at "l3"
 refine Cp.map (E:=bQ) (as:=ps) (fun p=>bQ (GZ (sx,sy) p)) (fun H2 hs2=>hs2 _ _ ha) (by omega) ?_ ?_
 ·intro i c hc R H2 hs2 hR
  unfold bQ
  walk_at "l3"
  exact hR H2 aN.refl
 intro p hp
 walk_at "l3"
 refine Xu (T:=T) (ps:=ps.map (GZ (sx,sy))) (by rw[aB,List.map_map];rfl) (by rw[List.length_map];omega) (.inl (bC hT hp)) fun q hq=>?_
 walk_at "l3"
 exact bT (h _) (RN hp hT hq)
def rR:mL:=fun ds H Q=>∃xs,ds=[.fl xs]/\((match intsOf xs with
  |some ns=>(ns.length<=63/\∃T,H T=some (.tab "_law_piece"))/\∀H':aF,Q (.bl true) H'
  |none=>False))
theorem LQ{ns:List Int}{T:Addr}{H:aF}(h:ns.length<=63)(hT:H T=some (.tab "_law_piece")):rR [.fl (ns.map D.int)] H (fun d _=>d=.bl true):=by
 refine⟨_,rfl,?_⟩
 simp only[iT]
 exact⟨⟨h,T,hT⟩,fun _=>trivial⟩
theorem Kr{ps:List Pt}(s:Pt)(g:One ps)(hn:ps≠[]):∃s0,(yO s ps)[0]?=some s0/\One (yO s ps)/\jH (yO s ps) s0:=by
 have o:=(g.mv s).congr (T:=yO s ps) fun x=>((iU (ps.map (GZ s))).mem_iff (a:=x)).symm
 have hs:=qp (ps.map (GZ s))
 have hl:=xQ (ps.map (GZ s))
 have e:yO s ps=lL (ps.map (GZ s)):=rfl
 rw[←e] at hs hl
 cases h:yO s ps with
 |nil=>rw[h,List.length_map] at hl;exact absurd (List.eq_nil_of_length_eq_zero hl.symm) hn
 |cons m r=>
  rw[h] at o hs
  refine⟨m,rfl,o,0,by omega,List.mem_cons_self,fun z=>?_⟩
  rw[Uz] at z
  rcases List.mem_cons.mp z with z | z
  ·have:=congrArg Prod.snd z;dsimp only at this;omega
  ·have:=(List.pairwise_cons.mp hs).1 _ z
   unfold vY at this
   rw[mH] at this
   dsimp only at this
   omega
theorem Vk(s:Pt)(ps:List Pt):(yO s ps).length=ps.length:=by unfold yO;rw[xQ,List.length_map]
theorem Js{s:Pt}{ps:List Pt}(h:ps.Nodup):(yO s ps).Nodup:=by
 unfold yO
 rw[(iU _).nodup_iff]
 rw[List.nodup_iff_pairwise_ne] at h ⊢
 rw[List.pairwise_map]
 refine h.imp fun {p q} hn z=>hn ?_
 have z1:p.1+s.1=q.1+s.1:=congrArg Prod.fst z
 have z2:p.2+s.2=q.2+s.2:=congrArg Prod.snd z
 exact Prod.ext (by omega) (by omega)
theorem Vh{s c:Pt}{ps:List Pt}:jW s c∈yO s ps↔c∈ps:=by
 unfold yO
 rw[(iU _).mem_iff,List.mem_map]
 constructor
 ·rintro⟨d,hd,e⟩
  have e1:d.1+s.1=c.1+s.1:=congrArg Prod.fst e
  have e2:d.2+s.2=c.2+s.2:=congrArg Prod.snd e
  rw[show c=d from Prod.ext (by omega) (by omega)];exact hd
 ·exact fun h=>⟨c,h,rfl⟩
theorem M5{c:Pt}{ps:List Pt}:c∈yO (0,0) ps↔c∈ps:=by
 have:=Vh (s:=(0,0)) (c:=c) (ps:=ps)
 rw[show jW (0,0) c=c from Prod.ext (Int.add_zero _) (Int.add_zero _)] at this
 exact this
theorem wG.det{ps:List Pt}{e b d n:Int}{u x:Pt}(G:wG ps e b d)(hu:u∈ps)(hx:x∈ps)(hall:∀p∈ps,fQ u x p)(hc:G6 u x=n)(hn:0<n):e*d=n:=by
 obtain⟨g1,g2⟩:=G.grp (fQ u x) (fQ.grp u x) hall
 obtain⟨k,hk⟩:=G3 g1 g2
 obtain⟨l,hl⟩:=G3 (G.ins u hu) (G.ins x hx)
 have e1:G6 (e,0) (b,d)=e*d:=by show e*d-0*b=e*d;rw[Int.zero_mul,Int.sub_zero]
 rw[e1] at hk hl
 rw[hc] at hk hl
 have:=Int.mul_pos G.e0 G.d0
 exact Int.dvd_antisymm (by omega) (by omega) ⟨l,by rw[hl,Int.mul_comm]⟩ ⟨k,by rw[hk,Int.mul_comm]⟩
inductive Aa(P:Nat->Pt)(D:Nat->Nat)(h:Nat):List Nat->List Pt->Prop
 |two {a b:Nat} {u v:Pt} (hb:b<h) (s1:Sp P D h a b u) (s2:Sp P D h b (a+h) v):Aa P D h [a,b] [u,v]
 |thr {a b c:Nat} {u v x:Pt} (hc:c<h) (s1:Sp P D h a b u) (s2:Sp P D h b c v) (s3:Sp P D h c (a+h) x):Aa P D h [a,b,c] [u,v,x]
section
variable{P:Nat->Pt}{D:Nat->Nat}{h:Nat}{cs:List Nat}{vs:List Pt}
theorem Aa.zero(w:Wk P D h)(p:Aa P D h cs vs){F:Pt->Nat->Int}(hF:∀v∈vs,∀q d,d<4->F q d+F (fC (pP q d) v) (od d)=0):sm (fun i=>F (P i) (D i)) 0 (h+h)=0:=by
 cases p with
 |two hb s1 s2=>exact P0 w s1 s2 (hF _ (by simp)) (hF _ (by simp))
 |thr hc s1 s2 s3=>exact Gd w s1 s2 s3 (hF _ (by simp)) (hF _ (by simp)) (hF _ (by simp))
theorem Aa.base(w:Wk P D h)(p:Aa P D h cs vs):∃u∈vs,∃x∈vs,(∀v∈vs,fQ u x v)/\G6 u x=sm (fun i=>(P i).1*(stp (D i)).2) 0 (h+h):=by
 cases p with
 |@two a b u v hb s1 s2=>
  refine⟨u,by simp,v,by simp,fun y hy=>?_,(Dt w s1 s2).symm⟩
  simp only[List.mem_cons,List.not_mem_nil,or_false] at hy
  rcases hy with rfl | rfl
  ·exact fQ.left _ _
  ·exact fQ.right _ _
 |@thr a b c u v x hc s1 s2 s3=>
  obtain⟨ev,e⟩:=uz w s1 s2 s3
  refine⟨u,by simp,x,by simp,fun y hy=>?_,e.symm⟩
  simp only[List.mem_cons,List.not_mem_nil,or_false] at hy
  rcases hy with rfl | rfl | rfl
  ·exact fQ.left _ _
  ·exact⟨1,1,by rw[ev];show u.1+x.1=_;omega,by rw[ev];show u.2+x.2=_;omega⟩
  ·exact fQ.right _ _
end
theorem qR{S:List Pt}{q:Pt}{h:Nat}(r:oG S q (h+h)):Wk (aX S q) (fun i=>outD S (aX S q i)) h:=by
 have per:∀i,aX S q (i+(h+h))=aX S q i:=fun i=>by rw[Nat.add_comm,bY,r.back]
 exact⟨fun _=>rfl,fun _=>jx,per,fun i=>congrArg (outD S) (per i)⟩
section
variable{S:List Pt}{q:Pt}{h:Nat}{cs:List Nat}{vs:List Pt}{e b d:Int}
theorem zM(r:oG S q (h+h))(dg:Dg S)(nd:S.Nodup)(hq:jH S q):sm (fun i=>(aX S q i).1*(stp (outD S (aX S q i))).2) 0 (h+h)=S.length:=by
 rw[←Mw dg nd hq r,Pj,zu];rfl
theorem Aa.lays(dg:Dg S)(nd:S.Nodup)(hq:jH S q)(r:oG S q (h+h))(hl:S.length<=1000)(p:Aa (aX S q) (fun i=>outD S (aX S q i)) h cs vs)(G:wG vs e b d):e*d=S.length/\vo e b d/\V5 (e,b,d) S/\∀z,rst (e,b,d) z∈S.map (rst (e,b,d)):=by
 have w:=qR r
 have hpos:(0:Int)<S.length:=by
  obtain⟨k,ed⟩:=hq
  have:=List.length_pos_of_mem ed.l
  omega
 obtain⟨u,hu,x,hx,hall,hc⟩:=p.base w
 have hn:e*d=S.length:=by
  refine G.det hu hx hall (hc.trans (zM r dg nd hq)) hpos
 have e0:=G.e0
 have d0:=G.d0
 have h1:e*1<=e*d:=Int.mul_le_mul_of_nonneg_left (by omega) (by omega)
 have h2:1*d<=e*d:=Int.mul_le_mul_of_nonneg_right (by omega) (by omega)
 have small:∀n:Int,0<n->n<=1000->Bt 4000 n:=fun n h0 hn=>Bt.mono (m:=10) (by unfold Bt;show n.natAbs<2 ^ 10;omega) (by decide)
 have hg:vo e b d:=⟨e0,G.b0,G.b1,d0,small e e0 (by omega),small d d0 (by omega)⟩
 have all:=MP dg nd hq r (g:=(e,b,d)) hg fun F hF=>p.zero w fun v hv=>hF v (G.ins v hv)
 exact⟨hn,hg,Ph (g:=(e,b,d)) hg hn all,all⟩
theorem Aa.wide(dg:Dg S)(nd:S.Nodup)(hq:jH S q)(r:oG S q (h+h))(p:Aa (aX S q) (fun i=>outD S (aX S q i)) h cs vs):Wide vs:=by
 obtain⟨u,hu,x,hx,_,hc⟩:=p.base (qR r)
 refine⟨u,hu,x,hx,?_⟩
 rw[hc,zM r dg nd hq]
 obtain⟨k,ed⟩:=hq
 have:=List.length_pos_of_mem ed.l
 omega
end
theorem YF{p v:Pt}{d:Nat}(hd:d<4):rD (fC (pP p d) v) (od d)=fC (oJ p d) v/\oJ (fC (pP p d) v) (od d)=fC (rD p d) v:=by
 rcases c4 hd with rfl | rfl | rfl | rfl
 ·exact⟨Prod.ext (by show p.1+1-v.1-1=p.1-v.1;omega) (by show p.2+0-v.2-1=p.2-1-v.2;omega),Prod.ext (by show p.1+1-v.1-1=p.1-v.1;omega) (by show p.2+0-v.2=p.2-v.2;omega)⟩
 ·exact⟨Prod.ext (by show p.1+0-v.1=p.1-v.1;omega) (by show p.2+1-v.2-1=p.2-v.2;omega),Prod.ext (by show p.1+0-v.1-1=p.1-1-v.1;omega) (by show p.2+1-v.2-1=p.2-v.2;omega)⟩
 ·exact⟨Prod.ext (by show p.1 + -1-v.1=p.1-1-v.1;omega) (by show p.2+0-v.2=p.2-v.2;omega),Prod.ext (by show p.1 + -1-v.1=p.1-1-v.1;omega) (by show p.2+0-v.2-1=p.2-1-v.2;omega)⟩
 ·exact⟨Prod.ext (by show p.1+0-v.1-1=p.1-1-v.1;omega) (by show p.2 + -1-v.2=p.2-1-v.2;omega),Prod.ext (by show p.1+0-v.1=p.1-v.1;omega) (by show p.2 + -1-v.2=p.2-1-v.2;omega)⟩
def DG(S:List Pt)(q:Pt)(g:Tr)(i:Nat)(v:Pt):Prop:=fC (oJ (aX S q i) (outD S (aX S q i))) v∈S/\fQ (g.1,0) (g.2.1,g.2.2) v
section
variable{S:List Pt}{q:Pt}{h:Nat}{g:Tr}
theorem DG.uniq(hg:RD g)(hd:V5 g S){i:Nat}{v w:Pt}(a:DG S q g i v)(b:DG S q g i w):v=w:=by
 have:=Tz hd a.1 b.1 (by rw[FP hg a.2,FP hg b.2])
 generalize oJ (aX S q i) (outD S (aX S q i))=z at this
 have e1:z.1-v.1=z.1-w.1:=congrArg Prod.fst this
 have e2:z.2-v.2=z.2-w.2:=congrArg Prod.snd this
 exact Prod.ext (by omega) (by omega)
theorem DG.per(r:oG S q (h+h)){i:Nat}{v:Pt}:DG S q g (i+(h+h)) v↔DG S q g i v:=by unfold DG;rw[(qR r).per]
theorem Sp.ZF(hq:jH S q){c p:Nat}{v:Pt}(s:Sp (aX S q) (fun i=>outD S (aX S q i)) h c p v)(hv:fQ (g.1,0) (g.2.1,g.2.2) v):(∀i,c<=i->i<p->DG S q g i v)/\∀i,c+h<=i->i<p+h->DG S q g i (ngv v):=by
 have key:∀k,k<p-c->rD (aX S q (p+h-1-k)) (outD S (aX S q (p+h-1-k)))=fC (oJ (aX S q (c+k)) (outD S (aX S q (c+k)))) v/\oJ (aX S q (p+h-1-k)) (outD S (aX S q (p+h-1-k)))=fC (rD (aX S q (c+k)) (outD S (aX S q (c+k)))) v:=fun k hk=>by
  have h1:=s.pos k hk
  have h2:=s.dir k hk
  rw[h2,h1]
  exact YF jx
 have hl:=s.lt
 refine⟨fun i h1 h2=>⟨?_,hv⟩,fun i h1 h2=>⟨?_,?_⟩⟩
 ·have:=(key (i-c) (by omega)).1
  rw[show c+(i-c)=i from by omega] at this
  rw[←this]
  exact (eG (dF hq _)).l
 ·have:=(key (p+h-1-i) (by omega)).2
  rw[show p+h-1-(p+h-1-i)=i from by omega] at this
  rw[this]
  have e:=(eG (dF hq (c+(p+h-1-i)))).l
  generalize rD (aX S q (c+(p+h-1-i))) _=z at e
  rw[show fC (fC z v) (ngv v)=z from Prod.ext (by show z.1-v.1 - -v.1=z.1;omega) (by show z.2-v.2 - -v.2=z.2;omega)]
  exact e
 ·have:=(fQ.grp (g.1,0) (g.2.1,g.2.2)).neg hv
  exact this
def Chg(S:List Pt)(q:Pt)(g:Tr)(h i:Nat):Prop:=¬ ∃v,DG S q g i v/\DG S q g (i+(h+h)-1) v
theorem MK(u:Pt):G6 u u=0:=by show u.1*u.2-u.2*u.1=0;rw[Int.mul_comm];omega
theorem Jl(u:Pt):G6 (ngv u) u=0:=by show -u.1*u.2 - -u.2*u.1=0;rw[Int.neg_mul,Int.neg_mul,Int.mul_comm];omega
theorem Aa.cuts(hq:jH S q)(r:oG S q (h+h))(hg:RD g)(hd:V5 g S)(hn:sm (fun i=>(aX S q i).1*(stp (outD S (aX S q i))).2) 0 (h+h)≠0){cs:List Nat}{vs:List Pt}(p:Aa (aX S q) (fun i=>outD S (aX S q i)) h cs vs)(hv:∀v∈vs,fQ (g.1,0) (g.2.1,g.2.2) v):∀i,i∈cs↔i<h/\Chg S q g h i:=by
 have w:=qR r
 have per:∀ {i:Nat} {v:Pt},1<=i->DG S q g (i-1) v->DG S q g (i+(h+h)-1) v:=fun {i v} hi a=>by
  rw[show i+(h+h)-1=i-1+(h+h) from by omega];exact (DG.per r).mpr a
 cases p with
 |@two a b u v hb s1 s2=>
  obtain⟨n1,n3⟩:=s1.ZF (g:=g) hq (hv u (by simp))
  obtain⟨n2,n4⟩:=s2.ZF (g:=g) hq (hv v (by simp))
  have hc:=Dt w s1 s2
  rw[hc] at hn
  have l1:=s1.lt
  intro i
  simp only[List.mem_cons,List.not_mem_nil,or_false]
  constructor
  ·rintro (rfl | rfl)
   ·refine⟨by omega,fun ⟨y,y1,y2⟩=>hn ?_⟩
    have k1:=y1.uniq hg hd (n1 _ (Nat.le_refl _) l1)
    have k2:=y2.uniq hg hd (n4 _ (by omega) (by omega))
    rw[←k1,k2];exact Jl v
   ·refine⟨hb,fun ⟨y,y1,y2⟩=>hn ?_⟩
    have k1:=y1.uniq hg hd (n2 _ (Nat.le_refl _) s2.lt)
    have k2:=y2.uniq hg hd (per (by omega) (n1 _ (by omega) (by omega)))
    rw[←k1,←k2];exact MK y
  ·rintro⟨hi,ch⟩
   apply Classical.byContradiction
   intro z
   rcases Nat.lt_or_ge i a with y | y
   ·exact ch ⟨ngv v,(DG.per r).mp (n4 _ (by omega) (by omega)),n4 _ (by omega) (by omega)⟩
   ·rcases Nat.lt_or_ge i b with x | x
    ·exact ch ⟨u,n1 _ y x,per (by omega) (n1 _ (by omega) (by omega))⟩
    ·exact ch ⟨v,n2 _ x (by omega),per (by omega) (n2 _ (by omega) (by omega))⟩
 |@thr a b c u v x hc s1 s2 s3=>
  obtain⟨n1,n4⟩:=s1.ZF (g:=g) hq (hv u (by simp))
  obtain⟨n2,n5⟩:=s2.ZF (g:=g) hq (hv v (by simp))
  obtain⟨n3,n6⟩:=s3.ZF (g:=g) hq (hv x (by simp))
  obtain⟨ev,hcr⟩:=uz w s1 s2 s3
  rw[hcr] at hn
  have l1:=s1.lt
  have l2:=s2.lt
  have ev1:v.1=u.1+x.1:=congrArg Prod.fst ev
  have ev2:v.2=u.2+x.2:=congrArg Prod.snd ev
  intro i
  simp only[List.mem_cons,List.not_mem_nil,or_false]
  constructor
  ·rintro (rfl | rfl | rfl)
   ·refine⟨by omega,fun ⟨y,y1,y2⟩=>hn ?_⟩
    have k1:=y1.uniq hg hd (n1 _ (Nat.le_refl _) l1)
    have k2:=y2.uniq hg hd (n6 _ (by omega) (by omega))
    rw[←k1,k2];exact Jl x
   ·refine⟨by omega,fun ⟨y,y1,y2⟩=>hn ?_⟩
    have k1:=y1.uniq hg hd (n2 _ (Nat.le_refl _) l2)
    have k2:=y2.uniq hg hd (per (by omega) (n1 _ (by omega) (by omega)))
    have q1:=congrArg Prod.fst (k1.symm.trans k2)
    have q2:=congrArg Prod.snd (k1.symm.trans k2)
    have z1:x.1=0:=by omega
    have z2:x.2=0:=by omega
    show u.1*x.2-u.2*x.1=0
    rw[z1,z2];omega
   ·refine⟨hc,fun ⟨y,y1,y2⟩=>hn ?_⟩
    have k1:=y1.uniq hg hd (n3 _ (Nat.le_refl _) s3.lt)
    have k2:=y2.uniq hg hd (per (by omega) (n2 _ (by omega) (by omega)))
    have q1:=congrArg Prod.fst (k1.symm.trans k2)
    have q2:=congrArg Prod.snd (k1.symm.trans k2)
    have z1:u.1=0:=by omega
    have z2:u.2=0:=by omega
    show u.1*x.2-u.2*x.1=0
    rw[z1,z2];omega
  ·rintro⟨hi,ch⟩
   apply Classical.byContradiction
   intro z
   rcases Nat.lt_or_ge i a with y | y
   ·exact ch ⟨ngv x,(DG.per r).mp (n6 _ (by omega) (by omega)),n6 _ (by omega) (by omega)⟩
   ·rcases Nat.lt_or_ge i b with y2 | y2
    ·exact ch ⟨u,n1 _ y y2,per (by omega) (n1 _ (by omega) (by omega))⟩
    ·rcases Nat.lt_or_ge i c with y3 | y3
     ·exact ch ⟨v,n2 _ y2 y3,per (by omega) (n2 _ (by omega) (by omega))⟩
     ·exact ch ⟨x,n3 _ y3 (by omega),per (by omega) (n3 _ (by omega) (by omega))⟩
theorem Aa.Zq{P:Nat->Pt}{D:Nat->Nat}{cs:List Nat}{vs:List Pt}(p:Aa P D h cs vs):cs.Pairwise (· < ·):=by
 cases p with
 |two hb s1 s2=>simpa using s1.lt
 |thr hc s1 s2 s3=>have:=s1.lt;have:=s2.lt;simp;omega
theorem Aa.same(dg:Dg S)(nd:S.Nodup)(hq:jH S q)(r:oG S q (h+h))(hl:S.length<=1000){cs cs':List Nat}{vs vs':List Pt}{e b d:Int}(p:Aa (aX S q) (fun i=>outD S (aX S q i)) h cs vs)(p':Aa (aX S q) (fun i=>outD S (aX S q i)) h cs' vs')(G:wG vs e b d)(G':wG vs' e b d):cs=cs':=by
 obtain⟨hn,hg,hd,_⟩:=p.lays dg nd hq r hl G
 have ne:sm (fun i=>(aX S q i).1*(stp (outD S (aX S q i))).2) 0 (h+h)≠0:=by
  rw[zM r dg nd hq,←hn]
  have:=Int.mul_pos G.e0 G.d0
  omega
 have c1:=p.cuts (g:=(e,b,d)) hq r hg hd ne G.ins
 have c2:=p'.cuts (g:=(e,b,d)) hq r hg hd ne G'.ins
 have hp:cs.Perm cs':=(List.perm_ext_iff_of_nodup (p.Zq.imp fun h=>Nat.ne_of_lt h) (p'.Zq.imp fun h=>Nat.ne_of_lt h)).mpr fun i=>(c1 i).trans (c2 i).symm
 exact hp.eq_of_pairwise (le:=(·<=·)) (fun a b _ _ h1 h2=>Nat.le_antisymm h1 h2) (p.Zq.imp fun h=>Nat.le_of_lt h) (p'.Zq.imp fun h=>Nat.le_of_lt h)
end
theorem aag{l:List Lt}{j:Nat}(h:j<l.length):(bk l)[j]?=(l[l.length-1-j]?).map ZS:=by
 unfold bk
 rw[List.getElem?_reverse (by rw[List.length_map];exact h),List.length_map,List.getElem?_map]
theorem Ql{l:List Lt}{c p:Int}{j:Nat}(h:(j:Int)<p-c):(sub l c p)[j]?=l[c.toNat+j]?:=by
 unfold sub
 rw[List.getElem?_take,if_pos (by omega),List.getElem?_drop]
section
variable{S:List Pt}{q:Pt}{h:Nat}
theorem V9{t i:Nat}(hi:i<t):(wd S q t)[i]?=some (ltN (outD S (aX S q i))):=by
 unfold wd
 rw[List.getElem?_map,List.getElem?_range hi];rfl
theorem Vq{t i:Nat}(hb:aX S q t=q)(hi:i<t+t):(wd S q t++wd S q t)[i]?=some (ltN (outD S (aX S q i))):=by
 have hl:=lB S q t
 by_cases z:i<t
 ·rw[List.getElem?_append_left (by omega),V9 z]
 ·rw[List.getElem?_append_right (by omega),hl,V9 (by omega)]
  have:=bY (S:=S) (p:=q) t (i-t)
  rw[hb,show t+(i-t)=i from by omega] at this
  rw[this]
theorem S5{d e:Nat}(hd:d<4)(he:e<4)(k:ltN e=ZS (ltN d)):e=od d:=by
 rcases c4 hd with rfl | rfl | rfl | rfl <;> rcases c4 he with rfl | rfl | rfl | rfl <;> first | rfl | (exact absurd k (by decide))
theorem V0(r:oG S q (h+h))(i:Nat):pw (wd S q (h+h)) i=fC (aX S q i) q:=by
 have hp:=r.pos
 have hl:=lB S q (h+h)
 have hm:=Nat.mod_lt i hp
 have e1:=tR S q (i%(h+h))
 rw[Ab] at e1
 have per:∀k m,aX S q (m+k*(h+h))=aX S q m:=by
  intro k
  induction k with
  |zero=>intro m;rw[Nat.zero_mul];rfl
  |succ k ih=>intro m;rw[show m+(k+1)*(h+h)=m+k*(h+h)+(h+h) from by rw[Nat.add_mul];omega,(qR r).per,ih]
 have e2:=per (i / (h+h)) (i%(h+h))
 rw[show i%(h+h)+i / (h+h)*(h+h)=i from by rw[Nat.mul_comm];exact Nat.mod_add_div i (h+h)] at e2
 unfold pw
 rw[hl,RT S q (Nat.le_of_lt hm),e2,←e1]
 unfold fC JK
 exact Prod.ext (by dsimp only;omega) (by dsimp only;omega)
theorem Vm(r:oG S q (h+h))(c p:Int):sh (wd S q (h+h)) (h:Int) (c,p)=fC (aX S q c.toNat) (aX S q (p+h).toNat):=by
 unfold sh
 dsimp only
 rw[V0 r,V0 r]
 unfold fC
 exact Prod.ext (by dsimp only;omega) (by dsimp only;omega)
theorem zP:((wd S q (h+h)).length:Int) / 2=h:=by rw[lB];omega
theorem Cu(r:oG S q (h+h)){c p:Int}(c0:0<=c)(hcp:c<p)(hle:p<=c+h)(hlt:c<h)(hb:Gf (wd S q (h+h)) (c,p)=true):Sp (aX S q) (fun i=>outD S (aX S q i)) h c.toNat p.toNat (sh (wd S q (h+h)) (h:Int) (c,p)):=by
 have hl:=lB S q (h+h)
 unfold Gf at hb
 rw[decide_eq_true_iff,zP] at hb
 dsimp only at hb
 have dir:∀k,k<p.toNat-c.toNat->outD S (aX S q (p.toNat+h-1-k))=od (outD S (aX S q (c.toNat+k))):=by
  intro k hk
  have l1:(sub (wd S q (h+h)++wd S q (h+h)) c p).length=(p-c).toNat:=Dr c0 (by omega) (by rw[List.length_append,hl];omega)
  have e:=congrArg (fun l:List Lt=>l[p.toNat-c.toNat-1-k]?) hb
  rw[aag (by rw[l1];omega),l1,Ql (by omega),Ql (by omega),Vq r.back (by omega),Vq r.back (by omega),Option.map_some] at e
  have e':=Option.some.inj e
  rw[show (c+(h:Int)).toNat+(p.toNat-c.toNat-1-k)=p.toNat+h-1-k from by omega,show c.toNat+((p-c).toNat-1-(p.toNat-c.toNat-1-k))=c.toNat+k from by omega] at e'
  exact S5 jx jx e'
 have w:=qR r
 have pos:∀k,k<=p.toNat-c.toNat->aX S q (p.toNat+h-k)=fC (aX S q (c.toNat+k)) (sh (wd S q (h+h)) (h:Int) (c,p)):=by
  intro k
  induction k with
  |zero=>
   intro _
   rw[Vm r,show (p+(h:Int)).toNat=p.toNat+h from by omega,Nat.sub_zero,Nat.add_zero]
   unfold fC
   exact Prod.ext (by dsimp only;omega) (by dsimp only;omega)
  |succ k ih=>
   intro hk
   have e1:=ih (by omega)
   have e2:=w.go (p.toNat+h-(k+1))
   have e3:=w.go (c.toNat+k)
   rw[show p.toNat+h-(k+1)+1=p.toNat+h-k from by omega,e1,show p.toNat+h-(k+1)=p.toNat+h-1-k from by omega,dir k (by omega)] at e2
   rw[show p.toNat+h-(k+1)=p.toNat+h-1-k from by omega,←Nat.add_assoc,e3]
   have hd:=jx (S:=S) (p:=aX S q (c.toNat+k))
   generalize sh (wd S q (h+h)) (h:Int) (c,p)=v at *
   generalize outD S (aX S q (c.toNat+k))=d at *
   generalize aX S q (c.toNat+k)=A at *
   generalize aX S q (p.toNat+h-1-k)=B at *
   have x1:=congrArg Prod.fst e2
   have x2:=congrArg Prod.snd e2
   rcases c4 hd with rfl | rfl | rfl | rfl
   ·have y1:A.1-v.1=B.1 + -1:=x1
    have y2:A.2-v.2=B.2+0:=x2
    exact Prod.ext (by show B.1=A.1+1-v.1;omega) (by show B.2=A.2+0-v.2;omega)
   ·have y1:A.1-v.1=B.1+0:=x1
    have y2:A.2-v.2=B.2 + -1:=x2
    exact Prod.ext (by show B.1=A.1+0-v.1;omega) (by show B.2=A.2+1-v.2;omega)
   ·have y1:A.1-v.1=B.1+1:=x1
    have y2:A.2-v.2=B.2+0:=x2
    exact Prod.ext (by show B.1=A.1 + -1-v.1;omega) (by show B.2=A.2+0-v.2;omega)
   ·have y1:A.1-v.1=B.1+0:=x1
    have y2:A.2-v.2=B.2+1:=x2
    exact Prod.ext (by show B.1=A.1+0-v.1;omega) (by show B.2=A.2 + -1-v.2;omega)
 refine⟨by omega,by omega,fun k hk=>?_,dir⟩
 have:=pos (k+1) (by omega)
 rw[show p.toNat+h-(k+1)=p.toNat+h-1-k from by omega,←Nat.add_assoc] at this
 exact this
theorem QT(r:oG S q (h+h)){cs:List Int}(hc:JM cs h)(hp:RJ (wd S q (h+h)) cs=true):Aa (aX S q) (fun i=>outD S (aX S q i)) h (cs.map Int.toNat) ((nW cs h).map (sh (wd S q (h+h)) h)):=by
 obtain⟨hl,hs,hr⟩:=hc
 unfold RJ at hp
 rw[zP,List.all_eq_true] at hp
 rcases cs with _ | ⟨a,_ | ⟨b,_ | ⟨d,_ | _⟩⟩⟩ <;> simp at hl
 ·have ha:=hr a (by simp)
  have hb:=hr b (by simp)
  simp only[List.pairwise_cons,List.mem_cons,List.not_mem_nil,or_false,forall_eq] at hs
  simp only[nW,ends,List.drop_succ_cons,List.drop_zero,List.cons_append,List.nil_append,List.headD_cons,List.zip_cons_cons,List.zip_nil_right,List.mem_cons,List.not_mem_nil,or_false,forall_eq_or_imp,forall_eq,List.map_cons,List.map_nil] at hp ⊢
  have s1:=Cu r ha.1 hs.1 (by omega) ha.2 hp.1
  have s2:=Cu r hb.1 (by omega) (by omega) hb.2 hp.2
  rw[show (a+(h:Int)).toNat=a.toNat+h from by omega] at s2
  exact .two (by omega) s1 s2
 ·have ha:=hr a (by simp)
  have hb:=hr b (by simp)
  have hd:=hr d (by simp)
  simp only[List.pairwise_cons,List.mem_cons,List.not_mem_nil,or_false,forall_eq_or_imp,forall_eq] at hs
  simp only[nW,ends,List.drop_succ_cons,List.drop_zero,List.cons_append,List.nil_append,List.headD_cons,List.zip_cons_cons,List.zip_nil_right,List.mem_cons,List.not_mem_nil,or_false,forall_eq_or_imp,forall_eq,List.map_cons,List.map_nil] at hp ⊢
  have s1:=Cu r ha.1 hs.1.1 (by omega) ha.2 hp.1
  have s2:=Cu r hb.1 hs.2.1 (by omega) hb.2 hp.2.1
  have s3:=Cu r hd.1 (by omega) (by omega) hd.2 hp.2.2
  rw[show (a+(h:Int)).toNat=a.toNat+h from by omega] at s3
  exact .thr (by omega) s1 s2 s3
end
theorem Hv(h:Int):∀n:Nat,(uP h n).Nodup
 |0=>List.nodup_nil
 |n+1=>by
  unfold uP
  rw[List.nodup_append]
  refine⟨Hv h n,?_,fun p hp p' hq z=>?_⟩
  ·unfold v5
   rw[List.nodup_iff_pairwise_ne,List.pairwise_map]
   exact (List.nodup_iff_pairwise_ne.mp List.nodup_range).imp fun {i j} hne z=>hne (by have:=(Prod.mk.inj z).2;omega)
  ·have h1:=ie.mp hp
   have h2:=Dk.mp hq
   rw[z] at h1
   omega
theorem T4(h:Int){ps:List Pt}(hp:ps.Nodup):(jQ h ps).Nodup:=by
 unfold jQ
 rw[List.nodup_iff_pairwise_ne,List.pairwise_flatten]
 refine⟨fun l hl=>?_,?_⟩
 ·obtain⟨p,_,rfl⟩:=List.mem_map.mp hl
  unfold uH
  rw[List.pairwise_map]
  exact (List.nodup_iff_pairwise_ne.mp List.nodup_range).imp fun {i j} hne z=>hne (by have:=(Prod.mk.inj (Prod.mk.inj z).2).2;omega)
 ·rw[List.pairwise_map]
  refine (List.nodup_iff_pairwise_ne.mp hp).imp fun {p p'} hne u hu v hv z=>hne ?_
  obtain⟨_,_,rfl⟩:=List.mem_map.mp hu
  obtain⟨_,_,rfl⟩:=List.mem_map.mp hv
  exact Prod.ext (Prod.mk.inj z).1 (Prod.mk.inj (Prod.mk.inj z).2).1
theorem T7(h:Int):(wz h).Nodup:=by
 unfold wz
 rw[List.nodup_append]
 have n2:(jR h).Nodup:=Hv h _
 refine⟨?_,?_,fun a ha b hb z=>?_⟩
 ·rw[List.nodup_iff_pairwise_ne,List.pairwise_map]
  exact (List.nodup_iff_pairwise_ne.mp n2).imp fun {p p'} hne z=>hne (by simp at z;exact Prod.ext z.1 z.2)
 ·rw[List.nodup_iff_pairwise_ne,List.pairwise_map]
  exact (List.nodup_iff_pairwise_ne.mp (T4 h n2)).imp fun {p p'} hne z=>hne (by simp at z;exact Prod.ext z.1 (Prod.ext z.2.1 z.2.2))
 ·obtain⟨_,_,rfl⟩:=List.mem_map.mp ha
  obtain⟨_,_,rfl⟩:=List.mem_map.mp hb
  simp at z
theorem Zb(W:List Lt):(Nm W).Nodup:=by
 unfold Nm
 split
 ·exact List.nodup_nil
 ·exact (T7 _).filter _
theorem Hs{W:List Lt}{cs:List Int}(h:cs∈Nm W):W.length%2=0/\JM cs ((W.length:Int) / 2)/\RJ W cs=true:=by
 unfold Nm at h
 split at h
 ·simp at h
 ·have:=List.mem_filter.mp h
  exact⟨by omega,Bu.mp this.1,this.2⟩
theorem Am:∀ {l:List Pt} {x:Pt},x∉l->l.countP (fun c=>decide (c=x))=0
 |[],_,_=>rfl
 |a::l,x,h=>by
  rw[List.countP_cons,Am fun z=>h (List.mem_cons_of_mem _ z),if_neg (by rw[decide_eq_true_iff];rintro rfl;exact h List.mem_cons_self)]
theorem Hy:∀ {l:List Pt} {x:Pt},l.Nodup->x∈l->l.countP (fun c=>decide (c=x))=1
 |[],_,_,h=>absurd h (by simp)
 |a::l,x,nd,h=>by
  have nd':=List.nodup_cons.mp nd
  rw[List.countP_cons]
  by_cases z:a=x
  ·subst z
   rw[Am nd'.1,if_pos (decide_eq_true rfl)]
  ·rw[if_neg (by rw[decide_eq_true_iff];exact z)]
   rcases List.mem_cons.mp h with e | e
   ·exact absurd e.symm z
   ·exact Hy nd'.2 e
theorem Nu:∀gs:List Tr,jd (qC 4) (gs.map Yd)=some (gs.map fun g=>PyData.tuple [.int g.1,.int g.2.1,.int g.2.2])
 |[]=>rfl
 |g::gs=>by
  have e:qC 4 (Yd g)=some (.tuple [.int g.1,.int g.2.1,.int g.2.2]):=rfl
  simp only[List.map_cons,jd,e,Nu gs]
theorem W4{gs:List Tr}{l:Addr}{a b d:Int}{H:aF}{Q:aY}(hl:H l=some (.lst (gs.map Yd)))(hm:(a,b,d)∉gs)(q:Q (.bl false) H):oN false (.tup [.int a,.int b,.int d]) (.ref l) H Q:=by
 refine .inl ?_
 have e:yU H (.ref l)=some (gs.map Yd):=by (delta yU;simp only[hl])
 have e3:qC 4 (.tup [.int a,.int b,.int d])=some (.tuple [.int a,.int b,.int d]):=rfl
 have e4:((gs.map fun g=>PyData.tuple [.int g.1,.int g.2.1,.int g.2.2]).any fun q=>PyData.eqv q (.tuple [.int a,.int b,.int d]))=false:=by
  rw[List.any_map,List.any_eq_false]
  rintro⟨a',b',d'⟩ hx z
  simp[PyData.eqv,PyData.eqvAll] at z
  exact hm (by rw[←z.1,←z.2.1,←z.2.2];exact hx)
 (delta Ce;simp only[e,Option.bind_some,Nu,e3,e4])
 exact q
theorem Cj{S:List Pt}{q:Pt}{n:Int}(hq:jH S q)(hb:∀c∈S,(-n<=c.1/\c.1<=n)/\-n<=c.2/\c.2<=n)(i:Nat):(-n<=(aX S q i).1/\(aX S q i).1<=n+1)/\-n<=(aX S q i).2/\(aX S q i).2<=n+1:=by
 have e:=eG (dF hq i)
 have hc:=hb _ e.l
 have hd:=e.lt
 generalize aX S q i=p at hc hd
 generalize outD S p=d at hc hd
 rcases c4 hd with rfl | rfl | rfl | rfl
 ·rw[UJ] at hc;dsimp only at hc;omega
 ·rw[Us] at hc;dsimp only at hc;omega
 ·rw[T5] at hc;dsimp only at hc;omega
 ·rw[Tc] at hc;dsimp only at hc;omega
theorem T6:∀(ds:List D) (H:aF) (Q:aY),rR ds H Q->ds.length=PB.length:=by
 intro ds H Q h
 obtain⟨_,rfl,_⟩:=h
 rfl
def Dc:dw:=DQ (DR (dH dm (au (v3 3) aH))) (qD 7) (cM (st3 8 (dH iJ (au (v3 3) (au (v3 7) aH))))
  (cM (DP (or3 (no3 (oK (dH fc (au (v3 8) (au (dH dj (au (v3 2) aH)) aH))))) (oK (o3 (oN false) (v3 8) (v3 6)))) (lD (c3 (.bl false))) DK)
  (cM (RG (m3 o8 (v3 6) (au (v3 8) aH)))
  (cM (st3 9 (Er (it3 (v3 2)) (qD 0) rG (dH gO (au (v3 1) (au (v3 0) aH))) ["_law_cell"] [(8, "_law_grid")]))
  (DP (or3 (oK (o3 qF (dH vp (au (v3 9) aH)) (dH dj (au (v3 9) aH)))) (oK (o3 qF (m3 OJ (v3 9) (au (dH gO (au (v3 8) (au (v3 5) aH))) aH)) (c3 (.int 1))))) (lD (c3 (.bl false))) DK)))))
def N6:dw:=(cM (st3 1 (dH iQ (au (v3 0) (au (c3 (.int 3)) (au (o3 bG (c3 (.int 1)) (o3 fG (dH bJ (au (v3 0) (au (c3 (.int 0)) aH))) (c3 (.int 10)))) aH)))))
  (cM (st3 2 (dH iV (au (v3 1) (au (jh (au (c3 (.int 0)) (au (c3 (.int 0)) aH))) aH))))
  (cM (st3 3 (dH iZ (au (v3 2) aH)))
  (cM (st3 4 (o3 fG (o3 fW (dH bJ (au (v3 0) (au (c3 (.int 0)) aH))) (c3 (.int 10))) (dH dj (au (v3 3) aH))))
  (cM (st3 3 (o3 bG (WK wQ (v3 3) (UG (v3 4)) Vu) (WK wQ (v3 3) Vu (UG (v3 4)))))
  (cM (st3 5 (dH gk (au (dH bJ (au (v3 0) (au (c3 (.int 1)) aH))) (au (dH bJ (au (v3 0) (au (c3 (.int 2)) aH))) aH))))
  (cM (st3 6 (Il aH))
  (cM Dc
  (lD (c3 (.bl true)))))))))))
theorem YZ:∀(ds:List D) (H:aF) (Q:aY),rR ds H Q->N6 (dX Q) (aJ Hk ds) H:=by
 intro ds H Q h
 obtain⟨xs,rfl,h⟩:=h
 split at h
 case h_2=>exact h.elim
 rename_i ns e
 have e':=fU e
 subst e'
 obtain⟨⟨hl,T,hT⟩,h⟩:=h
 simp only[N6,aJ,Hk,List.map_cons,List.map_nil,List.length_cons,List.length_nil,Nat.reduceAdd,Nat.reduceSub,Nat.zero_add,List.replicate,List.cons_append,List.nil_append]
 walk_at "l3"
 refine K4 hl ⟨by decide,by decide⟩ ⟨by omega,by omega⟩ fun ps p hp gw hpl sc=>?_
 walk_at "l3"
 refine KH aB (by omega) (bC hT hp) fun o=>?_
 have hne:=List.ne_nil_of_mem gw.z
 have hon:One ps:=Sc.one ps.length (Nat.le_refl _) hne sc
 obtain⟨s0,h0,hO,hcr⟩:=Kr (0,0) hon hne
 have hlS:(yO (0,0) ps).length<=10:=by rw[Vk];omega
 have nd0:(yO (0,0) ps).Nodup:=Js gw.nd
 have hbS:∀c∈yO (0,0) ps,(-10<=c.1/\c.1<=10)/\-10<=c.2/\c.2<=10:=fun c hc=>by
  have:=gw.bnd c (M5.mp hc)
  omega
 generalize yO (0,0) ps=S at *
 generalize aO (aO H p (.lst (ps.map bQ))) T o=H1
 obtain⟨t,r⟩:=hO.rnd hcr
 have htl:t<=40:=by have:=r.few hO.dg nd0 hcr;omega
 have htp:=r.pos
 have hti:(0:Int)<t:=by omega
 have hwl:=lB S s0 t
 walk_at "l3"
 refine Kl h0 hlS hO.dg hcr r ?_
 walk_at "l3"
 refine n8 (by omega) ?_
 rw[hwl]
 walk_at "l3"
 obtain⟨pl,hpe⟩:=Int.eq_ofNat_of_zero_le (Int.emod_nonneg (cat ns (Int.toNat 0) / 10) (b:=(t:Int)) (by omega))
 have hplt:pl<t:=by have:=Int.emod_lt_of_pos (cat ns (Int.toNat 0) / 10) (b:=(t:Int)) (by omega);omega
 rw[hpe]
 refine Jj (mR _ (by omega)) ?_
 rw[Ri]
 walk_at "l3"
 refine Jj (mR _ (by omega)) ?_
 rw[Px]
 walk_at "l3"
 refine GK (by rw[jJ,jJ,List.length_drop,List.length_take,bK];omega) ?_
 have rq:=r.at hO nd0 hcr pl
 have hcq:=dF hcr pl
 have hbeg:=Xi r.back (Nat.le_of_lt hplt)
 rw[vd,hbeg]
 generalize aX S s0 pl=q at rq hcq hbeg
 have hwq:=lB S q t
 walk_at "l3"
 refine G4 fun fx fy bx by'=>?_
 walk_at "l3"
 intro p6 hp6
 walk_at "l3"
 unfold Dc
 walk_at "l3"
 refine wu (by omega) fun p7 hp7=>?_
 walk_at "l3"
 have n67:p6≠p7:=ne3 aB hp7
 refine Lp.by (fun i σ H2=>H2 p7=some (.lst ((Nm (wd S q t)).map cutD))/\(∃gs:List Tr,H2 p6=some (.lst (gs.map Yd))/\gs.length=i/\∀g∈gs,∃(j:Nat) (cs:List Int),j<i/\(Nm (wd S q t))[j]?=some cs/\wG ((nW cs (((wd S q t).length:Int) / 2)).map (sh (wd S q t) (((wd S q t).length:Int) / 2))) g.1 g.2.1 g.2.2)/\∃u v w,σ=[some (.fl (ns.map D.int)),some (.ref p),some (.tup (S.map bQ)),some (.str (bI (wd S q t))),some (.int pl),some (.tup [.int fx,.int fy]),some (.ref p6),u,v,w]) ⟨aB,⟨[],bC aB hp7,rfl,by simp⟩,_,_,_,rfl⟩ (fun i σ H2 _ z=>z.1) ?_ ?_
 ·rintro i dd σ H2 hd ⟨k7,⟨gs,k6,gl,hgs⟩,u,v,w,rfl⟩
  rw[List.getElem?_map,Option.map_eq_some_iff] at hd
  obtain⟨cs,hcs,rfl⟩:=hd
  have hi:=(List.getElem?_eq_some_iff.mp hcs).1
  obtain⟨ev,hc,hP⟩:=Hs (List.mem_of_getElem? hcs)
  obtain⟨hh,rfl⟩:∃hh,t=hh+hh:=⟨t / 2,by rw[hwq] at ev;omega⟩
  have hhalf:((wd S q (hh+hh)).length:Int) / 2=hh:=zP
  rw[hhalf] at hc hgs
  have hcl:(Nm (wd S q (hh+hh))).length<=10000:=by
   unfold Nm
   split
   ·exact Nat.zero_le _
   ·exact Nat.le_trans (List.length_filter_le _ _) (Bo (by omega) (by omega))
  have par:=QT rq hc hP
  have wide:=par.wide hO.dg nd0 hcq rq
  have h4:4<=(wd S q (hh+hh)).length:=by
   have z1:=hc.nW (cs.headD 0,(cs.drop 1).headD 0)
   have:2<=hh:=by
    have hs:=hc.Zq
    have hr:=hc.rQ
    have hl:=hc.len
    rcases cs with _ | ⟨a,_ | ⟨b,cs⟩⟩
    ·simp at hl
    ·simp at hl
    ·have:=(List.pairwise_cons.mp hs).1 b (by simp)
     have:=hr a (by simp)
     have:=hr b (by simp)
     omega
   omega
  have hW:fX (0,0) (wd S q (hh+hh))=(0,0):=by
   have e1:=tR S q (hh+hh)
   rw[rq.back,Ab] at e1
   have x1:q.1+(fX (0,0) (wd S q (hh+hh))).1=q.1:=congrArg Prod.fst e1
   have x2:q.2+(fX (0,0) (wd S q (hh+hh))).2=q.2:=congrArg Prod.snd e1
   exact Prod.ext (by show _=(0:Int);omega) (by show _=(0:Int);omega)
  have hbt:∀v∈(nW cs (hh:Int)).map (sh (wd S q (hh+hh)) hh),Bt 400 v.1/\Bt 400 v.2:=by
   intro v hv
   obtain⟨⟨c1,c2⟩,_,rfl⟩:=List.mem_map.mp hv
   rw[Vm rq]
   have b1:=Cj hcq hbS c1.toNat
   have b2:=Cj hcq hbS (c2+hh).toNat
   generalize aX S q c1.toNat=A at b1
   generalize aX S q (c2+(hh:Int)).toNat=B at b2
   exact⟨Bt.mono (m:=10) (by unfold Bt;show (A.1-B.1).natAbs<2 ^ 10;omega) (by decide),Bt.mono (m:=10) (by unfold Bt;show (A.2-B.2).natAbs<2 ^ 10;omega) (by decide)⟩
  unfold cutD
  walk_at "l3"
  refine Mh h4 (by omega) (by rw[hhalf];exact hc) hW (by rw[hhalf];exact hbt) (by rw[hhalf];exact wide) fun e b d G=>?_
  rw[hhalf] at G
  obtain⟨hn,hg,hdst,hall⟩:=par.lays hO.dg nd0 hcq rq (by omega) G
  walk_at "l3"
  refine Bb hg (by rw[List.length_map];exact hn) ?_
  walk_at "l3"
  refine U8 rfl ?_
  walk_at "l3"
  refine W4 k6 (fun z=>?_) ?_
  ·obtain⟨j,cs',hj,hcs',G'⟩:=hgs _ z
   obtain⟨ev',hc',hP'⟩:=Hs (List.mem_of_getElem? hcs')
   rw[hhalf] at hc'
   have par':=QT rq hc' hP'
   have es:=par.same hO.dg nd0 hcq rq (by omega) par' G G'
   have inj:cs=cs':=by
    have key:∀ {as bs:List Int},(∀a∈as,0<=a)->(∀b∈bs,0<=b)->as.map Int.toNat=bs.map Int.toNat->as=bs:=by
     intro as
     induction as with
     |nil=>intro bs _ _ z;simp at z;exact z.symm
     |cons a as ih=>
      intro bs ha hb z
      cases bs with
      |nil=>simp at z
      |cons b bs=>
       rw[List.map_cons,List.map_cons] at z
       have z1:=(List.cons.inj z).1
       have z2:=(List.cons.inj z).2
       have y1:=ha a (by simp)
       have y2:=hb b (by simp)
       rw[show a=b from by omega,ih (fun x hx=>ha x (by simp[hx])) (fun x hx=>hb x (by simp[hx])) z2]
    exact key (fun a ha=>(hc.rQ a ha).1) (fun a ha=>(hc'.rQ a ha).1) es
   subst inj
   have l1:=(List.getElem?_eq_some_iff.mp hcs)
   have l2:=(List.getElem?_eq_some_iff.mp hcs')
   have:=(List.getElem_inj (Zb _)).mp (l1.2.trans l2.2.symm)
   omega
  walk_at "l3"
  refine U8 rfl ?_
  walk_at "l3"
  refine CK k6 (by rw[bK,List.length_map];omega) ?_
  walk_at "l3"
  refine Cp.map (E:=bQ) (as:=S) (fun c=>bQ (rst (e,b,d) c)) (fun _ _=>trivial) (by omega) ?_ ?_
  ·intro i2 c hc2 R H4 hs4 hR
   have hb:=hbS c (List.mem_of_getElem? hc2)
   unfold bQ
   walk_at "l3"
   refine BJ hg (Bt.mono (m:=10) (by unfold Bt;show c.1.natAbs<2 ^ 10;omega) (by decide)) (Bt.mono (m:=10) (by unfold Bt;show c.2.natAbs<2 ^ 10;omega) (by decide)) ?_
   exact hR H4 aN.refl
  intro p9 hp9
  walk_at "l3"
  refine Pz (ps:=S.map (rst (e,b,d))) (by rw[aB,List.map_map];rfl) (by rw[List.length_map];omega) fun n hnn _=>?_
  rw[List.length_map] at hnn
  have hnS:n=S.length:=hnn.mpr hdst
  walk_at "l3"
  refine U9 (fun z=>absurd (by rw[List.length_map,hnS]) z) fun _=>?_
  walk_at "l3"
  refine BJ hg (bx.mono (by decide)) (by'.mono (by decide)) ?_
  walk_at "l3"
  refine Z5 (ps:=S.map (rst (e,b,d))) (by rw[aB,List.map_map];rfl) ?_
  rw[Hy hdst (hall (fx,fy))]
  walk_at "l3"
  refine U9 (fun z=>absurd rfl z) fun _=>?_
  walk_at "l3"
  have k6':aO (aO H2 p6 (.lst (gs.map Yd++[.tup [.int e,.int b,.int d]]))) p9 (.lst (S.map fun c=>bQ (rst (e,b,d) c))) p6=some (.lst ((gs++[(e,b,d)]).map Yd)):=by
   rw[bC aB hp9,List.map_append];rfl
  refine⟨bC (by rw[aV n67.symm];exact k7) hp9,⟨gs++[(e,b,d)],k6',by rw[List.length_append,gl];rfl,fun g hgm=>?_⟩,_,_,_,rfl⟩
  rw[hhalf]
  rcases List.mem_append.mp hgm with z | z
  ·obtain⟨j,cs',hj,h1,h2⟩:=hgs g z
   exact⟨j,cs',by omega,h1,h2⟩
  ·rw[List.mem_singleton.mp z]
   exact⟨i,cs,by omega,hcs,G⟩
 ·rintro σ H2 ⟨k7,⟨gs,k6,gl,hgs⟩,u,v,w,rfl⟩
  walk_at "l3"
  exact bT (h _) aN.refl
abbrev tU:Stmt:=top 1
abbrev uc:Stmt:=top 2
abbrev dG:Stmt:=top 7
abbrev kJ:Stmt:=top 8
abbrev mG:Stmt:=top 9
abbrev gK:Stmt:=top 13
abbrev gj:Stmt:=top 14
abbrev jZ:Stmt:=top 16
abbrev gD:Stmt:=top 17
abbrev dJ:Stmt:=top 18
abbrev cU:Stmt:=top 19
abbrev dO:Stmt:=top 20
abbrev jw:Stmt:=top 21
abbrev mX:Stmt:=top 22
abbrev jr:Stmt:=top 24
abbrev jX:Stmt:=top 25
abbrev p8:Stmt:=top 26
abbrev mO:Stmt:=top 27
abbrev eF:Stmt:=top 29
abbrev nj:Stmt:=top 30
abbrev jK:Stmt:=top 31
abbrev mW:Stmt:=top 32
abbrev gm:Stmt:=top 33
abbrev pB:Stmt:=top 34
abbrev nG:Stmt:=top 35
theorem Rz:bc tZ mU (aA tU):=⟨rfl,rfl,rfl,by decide +kernel,rfl,by decide +kernel,by decide +kernel⟩
theorem NK:bc zH m9 (aA uc):=⟨rfl,rfl,rfl,by decide +kernel,rfl,by decide +kernel,by decide +kernel⟩
theorem di:bc fY bU (aA dG):=⟨rfl,rfl,rfl,by decide +kernel,rfl,by decide +kernel,by decide +kernel⟩
theorem gh:bc nJ fV (aA kJ):=⟨rfl,rfl,rfl,by decide +kernel,rfl,by decide +kernel,by decide +kernel⟩
theorem cQ:bc rN gQ (aA mG):=⟨rfl,rfl,rfl,by decide +kernel,rfl,by decide +kernel,by decide +kernel⟩
theorem jB:bc kY dD (aA gK):=⟨rfl,rfl,rfl,by decide +kernel,rfl,by decide +kernel,by decide +kernel⟩
theorem yr:bc jq dZ (aA gj):=⟨rfl,rfl,rfl,by decide +kernel,rfl,by decide +kernel,by decide +kernel⟩
theorem sH:bc ou fL (aA jZ):=⟨rfl,rfl,rfl,by decide +kernel,rfl,by decide +kernel,by decide +kernel⟩
theorem cW:bc j7 dC (aA gD):=⟨rfl,rfl,rfl,by decide +kernel,rfl,by decide +kernel,by decide +kernel⟩
theorem iD:bc f9 cX (aA dJ):=⟨rfl,rfl,rfl,by decide +kernel,rfl,by decide +kernel,by decide +kernel⟩
theorem fM:bc dU b8 (aA cU):=⟨rfl,rfl,rfl,by decide +kernel,rfl,by decide +kernel,by decide +kernel⟩
theorem mj:bc fZ cY (aA dO):=⟨rfl,rfl,rfl,by decide +kernel,rfl,by decide +kernel,by decide +kernel⟩
theorem dB:bc mq d7 (aA jw):=⟨rfl,rfl,rfl,by decide +kernel,rfl,by decide +kernel,by decide +kernel⟩
theorem Gg:bc qU gM (aA mX):=⟨rfl,rfl,rfl,by decide +kernel,rfl,by decide +kernel,by decide +kernel⟩
theorem yH:bc lA d8 (aA jr):=⟨rfl,rfl,rfl,by decide +kernel,rfl,by decide +kernel,by decide +kernel⟩
theorem Ax:bc nP fO (aA jX):=⟨rfl,rfl,rfl,by decide +kernel,rfl,by decide +kernel,by decide +kernel⟩
theorem JQ:bc u6 jO (aA p8):=⟨rfl,rfl,rfl,by decide +kernel,rfl,by decide +kernel,by decide +kernel⟩
theorem Fb:bc qP gW (aA mO):=⟨rfl,rfl,rfl,by decide +kernel,rfl,by decide +kernel,by decide +kernel⟩
theorem bM:bc fK gY (aA eF):=⟨rfl,rfl,rfl,by decide +kernel,rfl,by decide +kernel,by decide +kernel⟩
theorem du:bc qK gZ (aA nj):=⟨rfl,rfl,rfl,by decide +kernel,rfl,by decide +kernel,by decide +kernel⟩
theorem vh:bc nu g8 (aA jK):=⟨rfl,rfl,rfl,by decide +kernel,rfl,by decide +kernel,by decide +kernel⟩
theorem cz:bc qZ gU (aA mW):=⟨rfl,rfl,rfl,by decide +kernel,rfl,by decide +kernel,by decide +kernel⟩
theorem zr:bc jk d9 (aA gm):=⟨rfl,rfl,rfl,by decide +kernel,rfl,by decide +kernel,by decide +kernel⟩
theorem ye:bc uI jN (aA pB):=⟨rfl,rfl,rfl,by decide +kernel,rfl,by decide +kernel,by decide +kernel⟩
theorem ir:bc Hk PB (aA nG):=⟨rfl,rfl,rfl,by decide +kernel,rfl,by decide +kernel,by decide +kernel⟩
theorem Mz:rP "added" "added" tU mU:=fun _ _ _ _ _ _ _ _=>rfl
theorem M4:rP "taken" "taken" uc m9:=fun _ _ _ _ _ _ _ _=>rfl
theorem qu:rP "common_measure" "common_measure" dG bU:=fun _ _ _ _ _ _ _ _=>rfl
theorem Ae:rP "levelled" "levelled" kJ fV:=fun _ _ _ _ _ _ _ _=>rfl
theorem Gu:rP "grid_of" "grid_of" mG gQ:=fun _ _ _ _ _ _ _=>rfl
theorem wy:rP "corners_of" "corners_of" gK dD:=fun _ _ _ _ _ _ _ _=>rfl
theorem yw:rP "backwards" "backwards" gj dZ:=fun _ _ _ _ _ _ _=>rfl
theorem BW:rP "spans_of" "spans_of" jZ fL:=fun _ _ _ _ _ _ _ _=>rfl
theorem wj:rP "is_parting" "is_parting" gD dC:=fun _ _ _ _ _ _ _ _=>rfl
theorem vA:rP "cuts_of_two" "cuts_of_two" dJ cX:=fun _ _ _ _ _ _ _=>rfl
theorem qT:rP "cuts_of_three" "cuts_of_three" cU b8:=fun _ _ _ _ _ _ _=>rfl
theorem uJ:rP "partings_of" "partings_of" dO cY:=fun _ _ _ _ _ _ _=>rfl
theorem zX:rP "shifts_by" "shifts_by" jw d7:=fun _ _ _ _ _ _ _ _=>rfl
theorem Ft:rP "grid_by" "grid_by" mX gM:=fun _ _ _ _ _ _ _ _=>rfl
theorem zL:rP "_law_cell_at" "_law_cell_at" jr d8:=fun _ _ _ _ _ _ _ _=>rfl
theorem Ay:rP "_law_corner" "_law_corner" jX fO:=fun _ _ _ _ _ _ _ _=>rfl
theorem Ld:rP "_law_step" "_law_step" p8 jO:=fun _ _ _ _ _ _ _=>rfl
theorem Hi:rP "_law_whole" "_law_whole" mO gW:=fun _ _ _ _ _ _ _=>rfl
theorem Fx:rP "_law_holed" "_law_holed" eF gY:=fun _ _ _ _ _ _ _=>rfl
theorem Ek:rP "_law_grown" "_law_grown" nj gZ:=fun _ _ _ _ _ _ _ _ _=>rfl
theorem Gz:rP "_law_piece" "_law_piece" jK g8:=fun _ _ _ _ _ _ _ _=>rfl
theorem GC:rP "_law_round" "_law_round" mW gU:=fun _ _ _ _ _ _ _=>rfl
theorem zN:rP "_law_is_grid" "_law_is_grid" gm d9:=fun _ _ _ _ _ _ _ _=>rfl
theorem Le:rP "_law_rest" "_law_rest" pB jN:=fun _ _ _ _ _ _ _ _=>rfl
structure Tx(K:PySem.W.Frag)(mg:Str->Option Value)(w:World):Prop where
 f_added:bO K mg "added" tU mU
 f_taken:bO K mg "taken" uc m9
 f_common_measure:bO K mg "common_measure" dG bU
 f_levelled:bO K mg "levelled" kJ fV
 f_grid_of:bO K mg "grid_of" mG gQ
 f_corners_of:bO K mg "corners_of" gK dD
 f_backwards:bO K mg "backwards" gj dZ
 f_spans_of:bO K mg "spans_of" jZ fL
 f_is_parting:bO K mg "is_parting" gD dC
 f_cuts_of_two:bO K mg "cuts_of_two" dJ cX
 f_cuts_of_three:bO K mg "cuts_of_three" cU b8
 f_partings_of:bO K mg "partings_of" dO cY
 f_shifts_by:bO K mg "shifts_by" jw d7
 f_grid_by:bO K mg "grid_by" mX gM
 f_l_cell_at:bO K mg "_law_cell_at" jr d8
 f_l_corner:bO K mg "_law_corner" jX fO
 f_l_step:bO K mg "_law_step" p8 jO
 f_l_whole:bO K mg "_law_whole" mO gW
 f_l_holed:bO K mg "_law_holed" eF gY
 f_l_grown:bO K mg "_law_grown" nj gZ
 f_l_piece:bO K mg "_law_piece" jK g8
 f_l_round:bO K mg "_law_round" mW gU
 f_l_is_grid:bO K mg "_law_is_grid" gm d9
 f_l_rest:bO K mg "_law_rest" pB jN
 m_abs:mg "abs" = none
 m_all:mg "all" = none
 m_bool:mg "bool" = none
 m_int:mg "int" = none
 m_isinstance:mg "isinstance" = none
 m_len:mg "len" = none
 m_list:mg "list" = none
 m_max:mg "max" = none
 m_min:mg "min" = none
 m_range:mg "range" = none
 m_reversed:mg "reversed" = none
 m_set:mg "set" = none
 m_sorted:mg "sorted" = none
 m_tuple:mg "tuple" = none
 m_zip:mg "zip" = none
 d_STEPS:∃a,mg "STEPS" = some (.ref a)/\DC K w a yu
 d_OPPOSITES:∃a,mg "OPPOSITES" = some (.ref a)/\DC K w a my
section
variable{P:Program}{w:World}{K:PySem.W.Frag}{mg:Str->Option Value}{base:Heap}
theorem Qk(T:Tx K mg w):Fn P w K mg base 1 "added" mU lM :=
 iC (t:=t6) T.f_added Rz KR (fun f cdv A outer s H E hr=>(aL (bF (aZ (ao (aG aU (aK cL (aa 0) aq) (aK cL (aa 1) aq)) (ao (aG aU (aK cL (aa 0) aq) (aK cL (aa 1) aq)) az)))))) Nt
theorem Qi(T:Tx K mg w):Fn P w K mg base 1 "taken" m9 lQ :=
 iC (t:=yK) T.f_taken NK Ln (fun f cdv A outer s H E hr=>(aL (bF (aZ (ao (aG cu (aK cL (aa 0) aq) (aK cL (aa 1) aq)) (ao (aG cu (aK cL (aa 0) aq) (aK cL (aa 1) aq)) az)))))) Qq
theorem oY(T:Tx K mg w):Fn P w K mg base 1 "common_measure" bU cj :=
 iC (t:=fJ) T.f_common_measure di nZ (fun f cdv A outer s H E hr=>(aC (pK PassesOwn.never (bR (oh hr.units) (aa 1) aq) (aC (aM 2 di.nd (aG Q5 (aa 0) (aa 1)))
   (aC (aM 0 di.nd (aa 1))
   (aL (aM 1 di.nd (aa 2))))))
   (aL (bF (bA Va rfl T.m_abs (by rfl) (ao (aa 0) az)))))) pG
theorem Cz(T:Tx K mg w):Fn P w K mg base 1 "levelled" fV gf :=
 iC (t:=nQ) T.f_levelled gh yE (fun f cdv A outer s H E hr=>(aC (pK PassesOwn.never (bR (oh hr.units) (aK cL (aa 1) aq) aq) (aC (aM 2 gh.nd (aG Kh (aK cL (aa 0) aq) (aK cL (aa 1) aq)))
   (aC (aM 3 gh.nd (aZ (ao (aG cu (aK cL (aa 0) aq) (aG dI (aa 2) (aK cL (aa 1) aq))) (ao (aG cu (aK cL (aa 0) aq) (aG dI (aa 2) (aK cL (aa 1) aq))) az))))
   (aC (aM 0 gh.nd (aa 1))
   (aL (aM 1 gh.nd (aa 3)))))))
   (aL (bF (aZ (ao (aa 0) (ao (aa 1) az))))))) Cv
theorem zJ(T:Tx K mg w):Fn P w K mg base 1 "backwards" dZ eX :=
 iC (t:=mz) T.f_backwards yr wH (fun f cdv A outer s H E hr=>(aL (bF (VM PySem.F.slot_str_join PySem.F.type_str_join Pr lE (ao (gH (fv:=[]) (by show cF (aA gj) jq _ _ _ _;exact⟨rfl,by decide +kernel,by decide +kernel,by decide +kernel,rfl,by decide +kernel,by decide +kernel⟩) rfl (YD T.m_reversed (aa 0)) (fun pins cl s1 H1 fp=>dR) (fun pins cl s1 H1 fp=>(VJ rfl T.d_OPPOSITES (aa 0)))) az))))) yW
theorem sU(T:Tx K mg w):Fn P w K mg base 1 "spans_of" fL eE :=
 iC (t:=nY) T.f_spans_of sH yz (fun f cdv A outer s H E hr=>(aC (aM 2 sH.nd (aG aU (wN Pa rfl T.m_list (by rfl) (ao (lK R8 (aa 1) (je aq) uW) az)) (gr (ao (aG aU (aK cL (aa 1) aq) (aG cV (bA cP rfl T.m_len (by rfl) (ao (aa 0) az)) aq)) az))))
   (aL (bF (Gr rfl T.m_list T.m_zip (aa 1) (aa 2)))))) Br
theorem lF(T:Tx K mg w):Fn P w K mg base 1 "cuts_of_two" cX cH :=
 iC (t:=jC) T.f_cuts_of_two iD sZ (fun f cdv A outer s H E hr=>(aC (aM 1 iD.nd (gr az))
   (aC (fu PassesOwn.never rfl (uh T.m_range (aa 0)) (dW 2 iD.nd) (aL (jj (sO PySem.F.slot_list_extend PySem.F.type_list_extend Ie (aa 1) (ao (gH (fv:=[(2, "one")]) (by show cF (aA dJ) f9 _ _ _ _; exact ⟨rfl,by decide +kernel,by decide +kernel,by decide +kernel,rfl,by decide +kernel,by decide +kernel⟩) rfl (Hl T.m_range (aG aU (aa 2) aq) (aa 0)) (fun pins cl s1 H1 fp => dR) (fun pins cl s1 H1 fp => (aZ (ao (aa 1) (ao (aa 0) az))))) az)))))
   (aL (bF (aa 1)))))) uL
theorem eY(T:Tx K mg w):Fn P w K mg base 1 "_law_cell_at" d8 bJ :=
 iC (t:=lr) T.f_l_cell_at yH vV (fun f cdv A outer s H E hr=>(aC (jl (bR (vH hr.qJ) (aa 1) (bA cP rfl T.m_len (by rfl) (ao (aa 0) az))) (aL (bF (aK cL (aa 0) (aa 1)))) eZ)
   (aC (jl (bR (rO hr.units) (bA cP rfl T.m_len (by rfl) (ao (aa 0) az)) aq) (aL (bF aq)) eZ)
   (aL (bF (aG cD (aG dI (aK cL (aa 0) (aG cD (aa 1) (bA cP rfl T.m_len (by rfl) (ao (aa 0) az)))) (aG aU aq (aG dI (aa 1) (aa 1)))) aq)))))) zx
theorem Cw(T:Tx K mg w):Fn P w K mg base 1 "_law_corner" fO gk :=
 iC (t:=oF) T.f_l_corner Ax yP (fun f cdv A outer s H E hr=>(aC (jl (bR (rO hr.units) (aG cD (aa 0) aq) aq) (aL (bF (aZ (ao (aG cu (aG cD (aG cV (aa 0) aq) aq) aq) (ao (aG cu (aG cD (aG cV (aa 1) aq) aq) aq) az))))) eZ)
   (aL (bF (aZ (ao (aG cu (aG cD (aG cV (aa 0) aq) (aG aU (aG dI aq (aG ud aq aq)) aq)) (aG ud aq aq)) (ao (aG cu (aG cD (aa 1) (aG aU (aG dI aq (aG ud aq aq)) aq)) (aG ud aq aq)) az))))))) Af
theorem yl(T:Tx K mg w):Fn P w K mg base 1 "_law_step" jO gP :=
 iC (t:=uZ) T.f_l_step JQ Ey (fun f cdv A outer s H E hr=>(aL (bF (aK cL (gr (ao (aZ (ao aq (ao aq az))) (ao (aZ (ao aq (ao aq az))) (ao (aZ (ao (vz jY aq) (ao aq az))) (ao (aZ (ao aq (ao (vz jY aq) az))) az))))) (VM PySem.F.slot_str_index PySem.F.type_str_index J1 lE (ao (aa 0) az)))))) KY
theorem Gk(T:Tx K mg w):Fn P w K mg base 1 "_law_whole" gW iG :=
 iC (t:=rJ) T.f_l_whole Fb Aw (fun f cdv A outer s H E hr=>(aL (bF (yI (bA yp rfl T.m_isinstance (by rfl) (ao (aa 0) (ao (Q7 rfl T.m_int (by rfl)) az))) (Ry (XJ (bA yp rfl T.m_isinstance (by rfl) (ao (aa 0) (ao (Q7 rfl T.m_bool (by rfl)) az))))))))) Gv
theorem Fy(T:Tx K mg w):Fn P w K mg base 1 "_law_holed" gY jf :=
 iC (t:=rm) T.f_l_holed bM Ag (fun f cdv A outer s H E hr=>(aC (aM 1 bM.nd (aG aU (bA (Hu rfl) rfl T.m_max (by rfl) (ao (gH (fv:=[]) (by show cF (aA eF) fK _ _ _ _;exact⟨rfl,by decide +kernel,by decide +kernel,by decide +kernel,rfl,by decide +kernel,by decide +kernel⟩) rfl (cZ (aa 0)) (fun pins cl s1 H1 fp=>dR) (fun pins cl s1 H1 fp=>(aK cL (aa 0) aq))) az)) aq))
   (aC (aM 2 bM.nd (aG cu (bA (Ib rfl) rfl T.m_min (by rfl) (ao (gH (fv:=[]) (by show cF (aA eF) fK _ _ _ _; exact ⟨rfl,by decide +kernel,by decide +kernel,by decide +kernel,rfl,by decide +kernel,by decide +kernel⟩) rfl (cZ (aa 0)) (fun pins cl s1 H1 fp => dR) (fun pins cl s1 H1 fp => (aK cL (aa 0) aq))) az)) aq))
   (aC (aM 3 bM.nd (aG aU (bA (Hu rfl) rfl T.m_max (by rfl) (ao (gH (fv:=[]) (by show cF (aA eF) fK _ _ _ _; exact ⟨rfl,by decide +kernel,by decide +kernel,by decide +kernel,rfl,by decide +kernel,by decide +kernel⟩) rfl (cZ (aa 0)) (fun pins cl s1 H1 fp => dR) (fun pins cl s1 H1 fp => (aK cL (aa 0) aq))) az)) aq))
   (aC (aM 4 bM.nd (aG cu (bA (Ib rfl) rfl T.m_min (by rfl) (ao (gH (fv:=[]) (by show cF (aA eF) fK _ _ _ _; exact ⟨rfl,by decide +kernel,by decide +kernel,by decide +kernel,rfl,by decide +kernel,by decide +kernel⟩) rfl (cZ (aa 0)) (fun pins cl s1 H1 fp => dR) (fun pins cl s1 H1 fp => (aK cL (aa 0) aq))) az)) aq))
   (aC (aM 5 bM.nd (gr (ao (aZ (ao (aa 2) (ao (aa 4) az))) az)))
   (aC (aM 6 bM.nd (Rv hr.qJ (aZ (ao (aa 2) (ao (aa 4) az))) o7))
   (aC (fu PassesOwn.never rfl (cZ (aa 0)) (dW 7 bM.nd) (aL (yZ hr.units (aa 6) (aa 7) o7)))
   (aC (aM 8 bM.nd aq)
   (aC (pK PassesOwn.never (bR (vH hr.qJ) (aa 8) (bA cP rfl T.m_len (by rfl) (ao (aa 5) az))) (aC (fu PassesOwn.never rfl (cZ (gr (ao (aZ (ao aq (ao aq az))) (ao (aZ (ao aq (ao aq az))) (ao (aZ (ao (vz jY aq) (ao aq az))) (ao (aZ (ao aq (ao (vz jY aq) az))) az)))))) (dW 9 bM.nd) (aC (aM 10 bM.nd (aZ (ao (aG aU (aK cL (aK cL (aa 5) (aa 8)) aq) (aK cL (aa 9) aq)) (ao (aG aU (aK cL (aK cL (aa 5) (aa 8)) aq) (aK cL (aa 9) aq)) az))))
   (aL (jl (Df (Ja (wX vQ vQ (aa 2) (aK cL (aa 10) aq) (aa 1)) (Ja (wX vQ vQ (aa 4) (aK cL (aa 10) aq) (aa 3)) (Rc (bR (oE hr.units) (aa 10) (aa 6)))))) (aC (yZ hr.units (aa 6) (aa 10) o7)
   (aL (jj (sO PySem.F.slot_list_append PySem.F.type_list_append pM (aa 5) (ao (aa 10) az))))) eZ))))
   (aL (aM 8 bM.nd (aG aU (aa 8) aq)))))
   (aL (bF (zg (vH hr.qJ) (bA Bw rfl T.m_len (by rfl) (ao (aa 6) az)) (aG dI (aG aU (aG cu (aa 1) (aa 2)) aq) (aG aU (aG cu (aa 3) (aa 4)) aq))))))))))))))) Hh
theorem yg(T:Tx K mg w):Fn P w K mg base 1 "_law_rest" jN gO :=
 iC (t:=uB) T.f_l_rest ye Gn (fun f cdv A outer s H E hr=>(aC (aM 2 ye.nd (aG cV (aK cL (aa 1) aq) (aK cL (aa 0) aq)))
   (aL (bF (aZ (ao (aG cD (aG cu (aK cL (aa 1) aq) (aG dI (aa 2) (aK cL (aa 0) aq))) (aK cL (aa 0) aq)) (ao (aG cu (aK cL (aa 1) aq) (aG dI (aa 2) (aK cL (aa 0) aq))) az))))))) Mi
theorem Et(T:Tx K mg w):Fn P w K mg base 2 "grid_of" gQ iW :=
 iC (t:=qG) T.f_grid_of cQ Aj (fun f cdv A outer s H E hr=>(aC (aM 1 cQ.nd aq)
   (aC (aM 2 cQ.nd (aZ (ao aq (ao aq az))))
   (aC (fu PassesOwn.never rfl (cZ (aa 0)) (dW 3 cQ.nd) (aC (aM 4 cQ.nd (bz (Cz T) (hr.mono (by decide)) (ao (aa 2) (ao (aa 3) az))))
   (aC (aM 2 cQ.nd (aK cL (aa 4) aq))
   (aC (aM 1 cQ.nd (bz (oY T) (hr.mono (by decide)) (ao (aa 1) (ao (aK cL (aK cL (aa 4) aq) aq) az))))
   (aL (jl (bR (oh hr.units) (aa 1) aq) (aL (aM 2 cQ.nd (aZ (ao (aG cD (aK cL (aa 2) aq) (aa 1)) (ao (aK cL (aa 2) aq) az))))) eZ))))))
   (aC (jl (Df (uV (bR (rO hr.units) (aa 1) aq) (uq (bR (rO hr.units) (aK cL (aa 2) aq) aq)))) (aL Rw) eZ)
   (aC (jl (bR (vH hr.qJ) (aK cL (aa 2) aq) aq) (aL (aM 2 cQ.nd (aZ (ao (aG cD (vz jY (aK cL (aa 2) aq)) (aa 1)) (ao (vz jY (aK cL (aa 2) aq)) az))))) eZ)
   (aL (bF (aZ (ao (aa 1) (ao (aK cL (aa 2) aq) (ao (aK cL (aa 2) aq) az)))))))))))) Gi
theorem v8(T:Tx K mg w):Fn P w K mg base 2 "corners_of" dD dN :=
 iC (t:=j9) T.f_corners_of jB u5 (fun f cdv A outer s H E hr=>(aC (aM 2 jB.nd (gr (ao (aa 0) az)))
   (aC (fu PassesOwn.never rfl (Uk (aa 1)) (dW 3 jB.nd) (aL (jj (sO PySem.F.slot_list_append PySem.F.type_list_append pM (aa 2) (ao (bz (Qk T) (hr.mono (by decide)) (ao (aK cL (aa 2) (vz jY aq)) (ao (VJ rfl T.d_STEPS (aa 3)) az))) az)))))
   (aL (bF (aa 2)))))) wg
theorem wC(T:Tx K mg w):Fn P w K mg base 2 "is_parting" dC dM :=
 iC (t:=kO) T.f_is_parting cW uy (fun f cdv A outer s H E hr=>(aC (aM 2 cW.nd (aG cV (bA cP rfl T.m_len (by rfl) (ao (aa 0) az)) aq))
   (aC (aM 3 cW.nd (aG aU (aa 0) (aa 0)))
   (aC (fu PassesOwn.never rfl (cZ (bz (sU T) (hr.mono (by decide)) (ao (aa 0) (ao (aa 1) az)))) (dW 4 cW.nd) (aC (aM 5 cW.nd (lK ql (aa 3) (je (aK cL (aa 4) aq)) (je (aK cL (aa 4) aq))))
   (aC (aM 6 cW.nd (lK ql (aa 3) (je (aG aU (aK cL (aa 4) aq) (aa 2))) (je (aG aU (aK cL (aa 4) aq) (aa 2)))))
   (aL (jl (bR (oh hr.units) (aa 6) (bz (zJ T) (hr.mono (by decide)) (ao (aa 5) az))) (aL (bF o7)) eZ)))))
   (aL (bF o7)))))) wA
theorem rA(T:Tx K mg w):Fn P w K mg base 2 "cuts_of_three" b8 cI :=
 iC (t:=gn) T.f_cuts_of_three fM oU (fun f cdv A outer s H E hr=>(aC (aM 1 fM.nd (gr az))
   (aC (fu PassesOwn.never rfl (cZ (bz (lF T) (hr.mono (by decide)) (ao (aa 0) az))) (dW 2 fM.nd) (aL (jj (sO PySem.F.slot_list_extend PySem.F.type_list_extend Ie (aa 1) (ao (gH (fv:=[(2, "pair")]) (by show cF (aA cU) dU _ _ _ _; exact ⟨rfl,by decide +kernel,by decide +kernel,by decide +kernel,rfl,by decide +kernel,by decide +kernel⟩) rfl (Hl T.m_range (aG aU (aK cL (aa 2) aq) aq) (aa 0)) (fun pins cl s1 H1 fp => dR) (fun pins cl s1 H1 fp => (aZ (ao (aK cL (aa 1) aq) (ao (aK cL (aa 1) aq) (ao (aa 0) az)))))) az)))))
   (aL (bF (aa 1)))))) rW
theorem Gs(T:Tx K mg w):Fn P w K mg base 2 "_law_grown" gZ iQ :=
 iC (t:=qO) T.f_l_grown du CG (fun f cdv A outer s H E hr=>(aC (aM 3 du.nd (gr (ao (aZ (ao aq (ao aq az))) az)))
   (aC (fu PassesOwn.never rfl (uh T.m_range (aG cu (aa 2) aq)) (dW 4 du.nd) (aC (aM 5 du.nd (bz (eY T) (hr.mono (by decide)) (ao (aa 0) (ao (aG aU (aa 1) (aa 4)) az))))
   (aC (Xw (aK cL (aa 3) (aG cD (aa 5) (bA cP rfl T.m_len (by rfl) (ao (aa 3) az)))) (Ir 6 7 rfl du.nd))
   (aL (fu PassesOwn.never rfl (uh T.m_range aq) (dW 8 du.nd) (aC (aM 9 du.nd (bz (yl T) (hr.mono (by decide)) (ao (aK cL lE (aG cD (aG aU (aG cV (aa 5) aq) (aa 8)) aq)) az)))
   (aC (aM 10 du.nd (aZ (ao (aG aU (aa 6) (aK cL (aa 9) aq)) (ao (aG aU (aa 7) (aK cL (aa 9) aq)) az))))
   (aL (jl (bR (oE hr.units) (aa 10) (aa 3)) (aC (jj (sO PySem.F.slot_list_append PySem.F.type_list_append pM (aa 3) (ao (aa 10) az)))
   (aL Qf)) eZ)))))))))
   (aC (pK PassesOwn.never (pF (bz (Fy T) (hr.mono (by decide)) (ao (aa 3) az))) (aL (jj (Yy PySem.F.slot_list_pop PySem.F.type_list_pop Tv (aa 3)))))
   (aL (bF (aa 3))))))) FQ
theorem GF(T:Tx K mg w):Fn P w K mg base 2 "_law_round" gU iZ :=
 iC (t:=rn) T.f_l_round cz Ac (fun f cdv A outer s H E hr=>(aC (aM 1 cz.nd Up)
   (aC (fu PassesOwn.never rfl (Eo (aa 0)) (Ir 2 3 rfl cz.nd) (aL (fu PassesOwn.never rfl (cZ (gr (ao (aZ (ao lE (ao (aZ (ao (aa 2) (ao (aa 3) az))) (ao (aZ (ao (aa 2) (ao (aG cu (aa 3) aq) az))) az)))) (ao (aZ (ao lE (ao (aZ (ao (aG aU (aa 2) aq) (ao (aa 3) az))) (ao (aZ (ao (aG aU (aa 2) aq) (ao (aa 3) az))) az)))) (ao (aZ (ao lE (ao (aZ (ao (aG aU (aa 2) aq) (ao (aG aU (aa 3) aq) az))) (ao (aZ (ao (aa 2) (ao (aG aU (aa 3) aq) az))) az)))) (ao (aZ (ao lE (ao (aZ (ao (aa 2) (ao (aG aU (aa 3) aq) az))) (ao (aZ (ao (aG cu (aa 2) aq) (ao (aa 3) az))) az)))) az)))))) (QM 4 5 6 rfl cz.nd) (aL (jl (bR (oE hr.units) (aa 6) (aa 0)) (aL (yZ hr.units (aa 1) (aa 5) (aa 4))) eZ)))))
   (aC (aM 5 cz.nd (aK cL (aa 0) aq))
   (aC (aM 7 cz.nd lE)
   (aC (fu PassesOwn.never rfl (uh T.m_range (bA Bw rfl T.m_len (by rfl) (ao (aa 1) az))) (dW 8 cz.nd) (aC (aM 7 cz.nd (aG aU (aa 7) (Ij hr.units (aa 1) (aa 5))))
   (aC (aM 9 cz.nd (bz (yl T) (hr.mono (by decide)) (ao (Ij hr.units (aa 1) (aa 5)) az)))
   (aL (aM 5 cz.nd (aZ (ao (aG aU (aK cL (aa 5) aq) (aK cL (aa 9) aq)) (ao (aG aU (aK cL (aa 5) aq) (aK cL (aa 9) aq)) az))))))))
   (aL (bF (aa 7))))))))) Ez
theorem yC(T:Tx K mg w):Fn P w K mg base 2 "_law_is_grid" d9 fc :=
 iC (t:=lY) T.f_l_is_grid zr vZ (fun f cdv A outer s H E hr=>(aC (jl (Df (uV (zE (pF (bA yp rfl T.m_isinstance (by rfl) (ao (aa 0) (ao (Q7 rfl T.m_tuple (by rfl)) az))))) (uV (bR (oh hr.units) (bA cP rfl T.m_len (by rfl) (ao (aa 0) az)) aq) (uq (zE (pF (bA (Ul rfl) rfl T.m_all (by rfl) (ao (gH (fv:=[]) (by show cF (aA gm) jk _ _ _ _;exact⟨rfl,by decide +kernel,by decide +kernel,by decide +kernel,rfl,by decide +kernel,by decide +kernel⟩) rfl (Eo (aa 0)) (fun pins cl s1 H1 fp=>dR) (fun pins cl s1 H1 fp=>(bz (Gk T) (hr.mono (by decide)) (ao (aa 0) az)))) az)))))))) (aL (bF o7)) eZ)
   (aL (bF (yI (zg Ol (aK cL (aa 0) aq) aq) (yI (Ot vQ (vH hr.qJ) aq (aK cL (aa 0) aq) (aK cL (aa 0) aq)) (yI (zg Ol (aK cL (aa 0) aq) aq) (Ry (zg (rO hr.units) (aG dI (aK cL (aa 0) aq) (aK cL (aa 0) aq)) (aa 1)))))))))) zY
theorem uv(T:Tx K mg w):Fn P w K mg base 3 "partings_of" cY dm :=
 iC (t:=jA) T.f_partings_of mj tu (fun f cdv A outer s H E hr=>(aC (jl (bR (rO hr.units) (aG cD (bA cP rfl T.m_len (by rfl) (ao (aa 0) az)) aq) aq) (aL (bF (gr az))) eZ)
   (aC (aM 1 mj.nd (aG cV (bA cP rfl T.m_len (by rfl) (ao (aa 0) az)) aq))
   (aL (bF (gH (fv:=[(0, "word")]) (by show cF (aA dO) fZ _ _ _ _;exact⟨rfl,by decide +kernel,by decide +kernel,by decide +kernel,rfl,by decide +kernel,by decide +kernel⟩) rfl (cZ (aG aU (bz (lF T) (hr.mono (by decide)) (ao (aa 1) az)) (bz (rA T) (hr.mono (by decide)) (ao (aa 1) az)))) (fun pins cl s1 H1 fp=>(QK (pF (bz (wC T) (hr.mono (by decide)) (ao (aa 1) (ao (aa 0) az)))))) (fun pins cl s1 H1 fp=>(aa 0)))))))) vD
theorem yL(T:Tx K mg w):Fn P w K mg base 3 "shifts_by" d7 fj :=
 iC (t:=lC) T.f_shifts_by dB wK (fun f cdv A outer s H E hr=>(aC (aM 2 dB.nd (bz (v8 T) (hr.mono (by decide)) (ao (aZ (ao aq (ao aq az))) (ao (aa 0) az))))
   (aC (aM 3 dB.nd (aG cV (bA cP rfl T.m_len (by rfl) (ao (aa 0) az)) aq))
   (aC (aM 4 dB.nd (gr az))
   (aC (fu PassesOwn.never rfl (cZ (bz (sU T) (hr.mono (by decide)) (ao (aa 0) (ao (aa 1) az)))) (dW 5 dB.nd) (aC (aM 6 dB.nd (aG cD (aG aU (aK cL (aa 5) aq) (aa 3)) (bA cP rfl T.m_len (by rfl) (ao (aa 0) az))))
   (aL (jj (sO PySem.F.slot_list_append PySem.F.type_list_append pM (aa 4) (ao (bz (Qi T) (hr.mono (by decide)) (ao (aK cL (aa 2) (aK cL (aa 5) aq)) (ao (aK cL (aa 2) (aa 6)) az))) az))))))
   (aL (bF (aa 4)))))))) zK
theorem DY(T:Tx K mg w):Fn P w K mg base 4 "grid_by" gM iJ :=
 iC (t:=rK) T.f_grid_by Gg Bk (fun f cdv A outer s H E hr=>(aL (bF (bz (Et T) (hr.mono (by decide)) (ao (bz (yL T) (hr.mono (by decide)) (ao (aa 0) (ao (aa 1) az))) az))))) Ep
theorem Fv(T:Tx K mg w):Fn P w K mg base 4 "_law_piece" g8 iV:=by
 cases T.f_l_piece with
 | mk F hm hb => exact acG F vh hm hb Az fun oc od sl lk A outer s H E hr => ⟨qL,(aC (vJ (fv:=[(1, "_law_shift")]) 2 vh.nd (by show cF (aA jK) nu _ _ _ _; exact ⟨rfl,by decide +kernel,by decide +kernel,by decide +kernel,rfl,by decide +kernel,by decide +kernel⟩) rfl (cZ (aa 0)) (fun pins cl s1 H1 fp => dR) (fun pins cl s1 H1 fp => (aZ (ao (aG aU (aK cL (aa 0) aq) (aK cL (aa 1) aq)) (ao (aG aU (aK cL (aa 0) aq) (aK cL (aa 1) aq)) az)))))
   (aL (bF (wN Ku rfl T.m_tuple (by rfl) (ao (Es (x := "_law_piece") (y := "_law_cell") (q:=0) hm lk rfl ⟨rfl,rfl,rfl,by decide +kernel,rfl,by decide +kernel,by decide +kernel⟩ (hr.mono (by decide)) T.m_sorted (aa 2) (fun _ _ _ _ _ _=>aZ (ao (aK cL (aa 0) aq) (ao (aK cL (aa 0) aq) az))) Sq (fun _ _ _ _=>rfl)) az))))),Ff⟩
theorem Xk(T:Tx K mg w){f:Addr}{fd:FuncData}(F:N8 K "law" "law" nG f fd):vX P w K mg base zZ 5 f fd PB (vG K rR) :=
 V6 F ir T6 fun cdv A outer s H E hr=>⟨N6,(aC (aM 1 ir.nd (bz (Gs T) (hr.mono (by decide)) (ao (aa 0) (ao aq (ao (aG aU aq (aG cD (bz (eY T) (hr.mono (by decide)) (ao (aa 0) (ao aq az))) aq)) az)))))
   (aC (aM 2 ir.nd (bz (Fv T) (hr.mono (by decide)) (ao (aa 1) (ao (aZ (ao aq (ao aq az))) az))))
   (aC (aM 3 ir.nd (bz (GF T) (hr.mono (by decide)) (ao (aa 2) az)))
   (aC (aM 4 ir.nd (aG cD (aG cV (bz (eY T) (hr.mono (by decide)) (ao (aa 0) (ao aq az))) aq) (bA cP rfl T.m_len (by rfl) (ao (aa 3) az))))
   (aC (aM 3 ir.nd (aG aU (lK ql (aa 3) (je (aa 4)) uW) (lK ql (aa 3) uW (je (aa 4)))))
   (aC (aM 5 ir.nd (bz (Cw T) (hr.mono (by decide)) (ao (bz (eY T) (hr.mono (by decide)) (ao (aa 0) (ao aq az))) (ao (bz (eY T) (hr.mono (by decide)) (ao (aa 0) (ao aq az))) az))))
   (aC (aM 6 ir.nd (gr az))
   (aC (fu PassesOwn.never rfl (cZ (bz (uv T) (hr.mono (by decide)) (ao (aa 3) az))) (dW 7 ir.nd) (aC (aM 8 ir.nd (bz (DY T) (hr.mono (by decide)) (ao (aa 3) (ao (aa 7) az))))
   (aC (jl (Df (uV (zE (pF (bz (yC T) (hr.mono (by decide)) (ao (aa 8) (ao (bA cP rfl T.m_len (by rfl) (ao (aa 2) az)) az))))) (uq (bR (R9 hr.units) (aa 8) (aa 6))))) (aL (bF o7)) eZ)
   (aC (jj (sO PySem.F.slot_list_append PySem.F.type_list_append pM (aa 6) (ao (aa 8) az)))
   (aC (vJ (fv:=[(8, "_law_grid")]) 9 ir.nd (by show cF (aA nG) Hk _ _ _ _; exact ⟨rfl,by decide +kernel,by decide +kernel,by decide +kernel,rfl,by decide +kernel,by decide +kernel⟩) rfl (Eo (aa 2)) (fun pins cl s1 H1 fp => dR) (fun pins cl s1 H1 fp => (bz (yg T) (hr.mono (by decide)) (ao (aa 1) (ao (aa 0) az)))))
   (aL (jl (Df (uV (bR (oh hr.units) (LK rfl hr.units rfl T.m_len rfl T.m_set (by rfl) (by rfl) (ao (aa 9) az)) (bA cP rfl T.m_len (by rfl) (ao (aa 9) az))) (uq (bR (oh hr.units) (sO PySem.F.slot_list_count PySem.F.type_list_count (R5 hr.units) (aa 9) (ao (bz (yg T) (hr.mono (by decide)) (ao (aa 8) (ao (aa 5) az))) az)) aq)))) (aL (bF o7)) eZ)))))))
   (aL (bF o7)))))))))),YZ⟩
end
theorem all_mk{l:PySem.W.OpenLaw}{w:World}{K:PySem.W.Frag}{h:Heap}{mg:Str->Option Value}{fa f24:Addr}(X:K.In h)(G:h.Ns mainGlobals mg)(hfa:mg "law" = some (.ref fa))
  {od24 an24:Option Addr} {sl24:Array (Option Value)} {oc24 kV24 dc24 pm24 cd24 ct24:Value}
  (q0:bO K mg "added" tU mU)
  (q1:bO K mg "taken" uc m9)
  (q2:bO K mg "common_measure" dG bU)
  (q3:bO K mg "levelled" kJ fV)
  (q4:bO K mg "grid_of" mG gQ)
  (q5:bO K mg "corners_of" gK dD)
  (q6:bO K mg "backwards" gj dZ)
  (q7:bO K mg "spans_of" jZ fL)
  (q8:bO K mg "is_parting" gD dC)
  (q9:bO K mg "cuts_of_two" dJ cX)
  (q10:bO K mg "cuts_of_three" cU b8)
  (q11:bO K mg "partings_of" dO cY)
  (q12:bO K mg "shifts_by" jw d7)
  (q13:bO K mg "grid_by" mX gM)
  (q14:bO K mg "_law_cell_at" jr d8)
  (q15:bO K mg "_law_corner" jX fO)
  (q16:bO K mg "_law_step" p8 jO)
  (q17:bO K mg "_law_whole" mO gW)
  (q18:bO K mg "_law_holed" eF gY)
  (q19:bO K mg "_law_grown" nj gZ)
  (q20:bO K mg "_law_piece" jK g8)
  (q21:bO K mg "_law_round" mW gU)
  (q22:bO K mg "_law_is_grid" gm d9)
  (q23:bO K mg "_law_rest" pB jN)
  (a24:PySem.W.nsIn K mainGlobals "law" = some (some (.ref f24))) (l24:K.lookup f24=some ⟨oc24,od24,.func (PySem.W.fnOf "law" "law" (bh nG) (aR nG) (aA nG) .none kV24 dc24 pm24 an24 cd24 ct24),sl24⟩) (c24:PySem.W.codeIn K cd24 "law" = true) (k24:PySem.W.keepIn K (.ref f24)=true)
  (z0:PySem.W.nsIn K mainGlobals "abs" = some none)
  (z1:PySem.W.nsIn K mainGlobals "all" = some none)
  (z2:PySem.W.nsIn K mainGlobals "bool" = some none)
  (z3:PySem.W.nsIn K mainGlobals "int" = some none)
  (z4:PySem.W.nsIn K mainGlobals "isinstance" = some none)
  (z5:PySem.W.nsIn K mainGlobals "len" = some none)
  (z6:PySem.W.nsIn K mainGlobals "list" = some none)
  (z7:PySem.W.nsIn K mainGlobals "max" = some none)
  (z8:PySem.W.nsIn K mainGlobals "min" = some none)
  (z9:PySem.W.nsIn K mainGlobals "range" = some none)
  (z10:PySem.W.nsIn K mainGlobals "reversed" = some none)
  (z11:PySem.W.nsIn K mainGlobals "set" = some none)
  (z12:PySem.W.nsIn K mainGlobals "sorted" = some none)
  (z13:PySem.W.nsIn K mainGlobals "tuple" = some none)
  (z14:PySem.W.nsIn K mainGlobals "zip" = some none)
  {dA0 dB0_0 dB0_1 dB0_2 dB0_3:Addr} {dT0_0 dX0_0_0 dX0_0_1 dT0_1 dX0_1_0 dX0_1_1 dT0_2 dX0_2_0 dX0_2_1 dT0_3 dX0_3_0 dX0_3_1:Tok} {dE0 dN0_0 dN0_1 dN0_2 dN0_3:Nat}
  (dQ0:PySem.W.nsIn K mainGlobals "STEPS" = some (some (.ref dA0))) (dR0:K.lookup dA0=some ⟨.type "dict",none,.dict #[⟨PyData.keyHash w.params "e",.str "e" dT0_0,.ref dB0_0⟩,⟨PyData.keyHash w.params "n",.str "n" dT0_1,.ref dB0_1⟩,⟨PyData.keyHash w.params "w",.str "w" dT0_2,.ref dB0_2⟩,⟨PyData.keyHash w.params "s",.str "s" dT0_3,.ref dB0_3⟩] dE0,#[]⟩) (dU0:(dA0==sysModules)=false)
  (dS0_0:K.lookup dB0_0=some ⟨.type "tuple",none,.seq #[.int 1 dX0_0_0,.int 0 dX0_0_1] dN0_0,#[]⟩)
  (dS0_1:K.lookup dB0_1=some ⟨.type "tuple",none,.seq #[.int 0 dX0_1_0,.int 1 dX0_1_1] dN0_1,#[]⟩)
  (dS0_2:K.lookup dB0_2=some ⟨.type "tuple",none,.seq #[.int (-1) dX0_2_0,.int 0 dX0_2_1] dN0_2,#[]⟩)
  (dS0_3:K.lookup dB0_3=some ⟨.type "tuple",none,.seq #[.int 0 dX0_3_0,.int (-1) dX0_3_1] dN0_3,#[]⟩)
  {dA1:Addr} {dT1_0 dX1_0 dT1_1 dX1_1 dT1_2 dX1_2 dT1_3 dX1_3:Tok} {dE1:Nat}
  (dQ1:PySem.W.nsIn K mainGlobals "OPPOSITES" = some (some (.ref dA1))) (dR1:K.lookup dA1=some ⟨.type "dict",none,.dict #[⟨PyData.keyHash w.params "e",.str "e" dT1_0,.str "w" dX1_0⟩,⟨PyData.keyHash w.params "n",.str "n" dT1_1,.str "s" dX1_1⟩,⟨PyData.keyHash w.params "w",.str "w" dT1_2,.str "e" dX1_2⟩,⟨PyData.keyHash w.params "s",.str "s" dT1_3,.str "n" dX1_3⟩] dE1,#[]⟩) (dU1:(dA1==sysModules)=false)
  : ∃fd:FuncData,(∀(s:Shared) (v:Value),BindsTo s fd ⟨[v],[]⟩ [("_law_script",v)])/\∀base:Heap,K.In base->base.Ns mainGlobals mg->vX l.prog w K mg base zZ 5 fa fd ["_law_script"] (vG K rR):=by
 have F24:=Ec (st:=nG) l24 c24 k24
 have T:Tx K mg w:=⟨q0,q1,q2,q3,q4,q5,q6,q7,q8,q9,q10,q11,q12,q13,q14,q15,q16,q17,q18,q19,q20,q21,q22,q23,PySem.W.mg_none_of X G z0,PySem.W.mg_none_of X G z1,PySem.W.mg_none_of X G z2,PySem.W.mg_none_of X G z3,PySem.W.mg_none_of X G z4,PySem.W.mg_none_of X G z5,PySem.W.mg_none_of X G z6,PySem.W.mg_none_of X G z7,PySem.W.mg_none_of X G z8,PySem.W.mg_none_of X G z9,PySem.W.mg_none_of X G z10,PySem.W.mg_none_of X G z11,PySem.W.mg_none_of X G z12,PySem.W.mg_none_of X G z13,PySem.W.mg_none_of X G z14,⟨_,PySem.W.mg_of X G dQ0,⟨⟨_,_,_,dR0,⟨rfl,rfl,rfl⟩,rfl,.cons (.tupI ⟨_,_,_,dS0_0,rfl,rfl,(by show 2<=sizeLine;decide),.cons ⟨_,rfl⟩ (.cons ⟨_,rfl⟩ (.nil))⟩) (.cons (.tupI ⟨_,_,_,dS0_1,rfl,rfl,(by show 2<=sizeLine;decide),.cons ⟨_,rfl⟩ (.cons ⟨_,rfl⟩ (.nil))⟩) (.cons (.tupI ⟨_,_,_,dS0_2,rfl,rfl,(by show 2<=sizeLine;decide),.cons ⟨_,rfl⟩ (.cons ⟨_,rfl⟩ (.nil))⟩) (.cons (.tupI ⟨_,_,_,dS0_3,rfl,rfl,(by show 2<=sizeLine;decide),.cons ⟨_,rfl⟩ (.cons ⟨_,rfl⟩ (.nil))⟩) (.nil))))⟩,by decide,dU0⟩⟩,⟨_,PySem.W.mg_of X G dQ1,⟨⟨_,_,_,dR1,⟨rfl,rfl,rfl⟩,rfl,.cons (.str _ _) (.cons (.str _ _) (.cons (.str _ _) (.cons (.str _ _) (.nil))))⟩,by decide,dU1⟩⟩⟩
 have e:=hfa.symm.trans (PySem.W.mg_of X G a24)
 cases e
 refine⟨PySem.W.fnOf "law" "law" (bh nG) (aR nG) (aA nG) .none kV24 dc24 pm24 an24 cd24 ct24,fun s v=>.of_eq rfl,fun base _ _=>?_⟩
 exact Xk T F24
end Law
open PySem PySem.W PyProof.Rows
set_option maxRecDepth 100000 in
set_option maxHeartbeats 0 in
theorem PySem.Challenge.cw_borderfloor_k45_whole_partings_lay_floor_holds : PySem.Challenge.rw_borderfloor_k45_whole_partings_lay_floor.Holds := by
 w_on;o_law
 refine holds_open (r:=OpenLaw.row PySem.Challenge.rw_borderfloor_k45_whole_partings_lay_floor) (q:=Law.vw) (loose:=Law.lo) (Xt:=Law.xT) (XP:=XL Law.vw []) (YP:=(PySem.W.kmHook Law.K0 Law.kA Law.kE [184]).says)
  (N:=20100) Law.ld (Hook.of _) (Hook.keeps _) (fun s z=>xl_of s (Bool.and_eq_true_iff.mp z).1) XL.keeps (by rfl) (by rfl) (by rfl) (fun s z=>recFacts_of (Bool.and_eq_true_iff.mp z).2) (by rfl) (by assumption)
  (by decide +kernel) ⟨rfl,rfl,rfl,rfl,rfl,by decide +kernel⟩ ?hw ?hc
 case hw=>w_witness2
 k_fill
 refine' L3.Qa (l:=PySem.Challenge.rw_borderfloor_k45_whole_partings_lay_floor) (n:=63) (k:=5) (x := "_law_script") (xt := "_law_piece") (sp:=Law.rR) rfl (by decide) rfl ⟨rfl,by decide,by decide⟩ (fun w h Y=>PySem.W.km_in_of Y) ?R ?T ?B ?NB ?NT ?F ?S
 case R=>rfl
 case T=>
  intro w
  refine' L3.Rh ?h1 ?h2 ?h3 ?h4 ?h5
  (case h1=>k_is)
  (case h2=>k_is)
  (case h3=>rfl)
  (case h4=>k_is)
  (case h5=>rfl)
 case B=>intro w;k_is
 case NB=>intro w;kernel_rfl
 case NT=>intro w;kernel_rfl
 case F=>
  intro w mg fa h KX G hmg
  refine' Law.all_mk KX G hmg (L3.dh KX G ?a0 ?l0 ?c0 ?k0 Law.Mz) (L3.dh KX G ?a1 ?l1 ?c1 ?k1 Law.M4) (L3.dh KX G ?a2 ?l2 ?c2 ?k2 Law.qu) (L3.dh KX G ?a3 ?l3 ?c3 ?k3 Law.Ae) (L3.dh KX G ?a4 ?l4 ?c4 ?k4 Law.Gu) (L3.dh KX G ?a5 ?l5 ?c5 ?k5 Law.wy) (L3.dh KX G ?a6 ?l6 ?c6 ?k6 Law.yw) (L3.dh KX G ?a7 ?l7 ?c7 ?k7 Law.BW) (L3.dh KX G ?a8 ?l8 ?c8 ?k8 Law.wj) (L3.dh KX G ?a9 ?l9 ?c9 ?k9 Law.vA) (L3.dh KX G ?a10 ?l10 ?c10 ?k10 Law.qT) (L3.dh KX G ?a11 ?l11 ?c11 ?k11 Law.uJ) (L3.dh KX G ?a12 ?l12 ?c12 ?k12 Law.zX) (L3.dh KX G ?a13 ?l13 ?c13 ?k13 Law.Ft) (L3.dh KX G ?a14 ?l14 ?c14 ?k14 Law.zL) (L3.dh KX G ?a15 ?l15 ?c15 ?k15 Law.Ay) (L3.dh KX G ?a16 ?l16 ?c16 ?k16 Law.Ld) (L3.dh KX G ?a17 ?l17 ?c17 ?k17 Law.Hi) (L3.dh KX G ?a18 ?l18 ?c18 ?k18 Law.Fx) (L3.dh KX G ?a19 ?l19 ?c19 ?k19 Law.Ek) (L3.dh KX G ?a20 ?l20 ?c20 ?k20 Law.Gz) (L3.dh KX G ?a21 ?l21 ?c21 ?k21 Law.GC) (L3.dh KX G ?a22 ?l22 ?c22 ?k22 Law.zN) (L3.dh KX G ?a23 ?l23 ?c23 ?k23 Law.Le) ?a24 ?l24 ?c24 ?k24 ?z0 ?z1 ?z2 ?z3 ?z4 ?z5 ?z6 ?z7 ?z8 ?z9 ?z10 ?z11 ?z12 ?z13 ?z14 ?dQ0 ?dR0 ?dU0 ?dS0_0 ?dS0_1 ?dS0_2 ?dS0_3 ?dQ1 ?dR1 ?dU1
  (case a0=>k_is)
  (case l0=>k_is)
  (case c0=>k_is)
  (case k0=>k_is)
  (case a1=>k_is)
  (case l1=>k_is)
  (case c1=>k_is)
  (case k1=>k_is)
  (case a2=>k_is)
  (case l2=>k_is)
  (case c2=>k_is)
  (case k2=>k_is)
  (case a3=>k_is)
  (case l3=>k_is)
  (case c3=>k_is)
  (case k3=>k_is)
  (case a4=>k_is)
  (case l4=>k_is)
  (case c4=>k_is)
  (case k4=>k_is)
  (case a5=>k_is)
  (case l5=>k_is)
  (case c5=>k_is)
  (case k5=>k_is)
  (case a6=>k_is)
  (case l6=>k_is)
  (case c6=>k_is)
  (case k6=>k_is)
  (case a7=>k_is)
  (case l7=>k_is)
  (case c7=>k_is)
  (case k7=>k_is)
  (case a8=>k_is)
  (case l8=>k_is)
  (case c8=>k_is)
  (case k8=>k_is)
  (case a9=>k_is)
  (case l9=>k_is)
  (case c9=>k_is)
  (case k9=>k_is)
  (case a10=>k_is)
  (case l10=>k_is)
  (case c10=>k_is)
  (case k10=>k_is)
  (case a11=>k_is)
  (case l11=>k_is)
  (case c11=>k_is)
  (case k11=>k_is)
  (case a12=>k_is)
  (case l12=>k_is)
  (case c12=>k_is)
  (case k12=>k_is)
  (case a13=>k_is)
  (case l13=>k_is)
  (case c13=>k_is)
  (case k13=>k_is)
  (case a14=>k_is)
  (case l14=>k_is)
  (case c14=>k_is)
  (case k14=>k_is)
  (case a15=>k_is)
  (case l15=>k_is)
  (case c15=>k_is)
  (case k15=>k_is)
  (case a16=>k_is)
  (case l16=>k_is)
  (case c16=>k_is)
  (case k16=>k_is)
  (case a17=>k_is)
  (case l17=>k_is)
  (case c17=>k_is)
  (case k17=>k_is)
  (case a18=>k_is)
  (case l18=>k_is)
  (case c18=>k_is)
  (case k18=>k_is)
  (case a19=>k_is)
  (case l19=>k_is)
  (case c19=>k_is)
  (case k19=>k_is)
  (case a20=>k_is)
  (case l20=>k_is)
  (case c20=>k_is)
  (case k20=>k_is)
  (case a21=>k_is)
  (case l21=>k_is)
  (case c21=>k_is)
  (case k21=>k_is)
  (case a22=>k_is)
  (case l22=>k_is)
  (case c22=>k_is)
  (case k22=>k_is)
  (case a23=>k_is)
  (case l23=>k_is)
  (case c23=>k_is)
  (case k23=>k_is)
  (case a24=>k_is)
  (case l24=>k_is)
  (case c24=>k_is)
  (case k24=>k_is)
  (case z0=>k_is)
  (case z1=>k_is)
  (case z2=>k_is)
  (case z3=>k_is)
  (case z4=>k_is)
  (case z5=>k_is)
  (case z6=>k_is)
  (case z7=>k_is)
  (case z8=>k_is)
  (case z9=>k_is)
  (case z10=>k_is)
  (case z11=>k_is)
  (case z12=>k_is)
  (case z13=>k_is)
  (case z14=>k_is)
  (case dQ0=>k_is)
  (case dR0=>k_is)
  (case dU0=>rfl)
  (case dS0_0=>k_is)
  (case dS0_1=>k_is)
  (case dS0_2=>k_is)
  (case dS0_3=>k_is)
  (case dQ1=>k_is)
  (case dR1=>k_is)
  (case dU1=>rfl)
 case S=>exact fun H ns hl h=>Law.LQ hl h
end
