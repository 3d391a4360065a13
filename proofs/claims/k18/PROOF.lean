import PyProof.Rows.All
import Wide.All
import OpenK.AllK
import Wide.FinOn
import Lean
import PyProof.EqAt
import PyProof.EqKinds
import PyProof.TupleCall
import PySem.Challenge.RW_borderfloor_k18_whole_borders_turned
set_option bootstrap.genMatcherCode false
set_option compiler.extract_closed false
set_option Elab.async false
set_option linter.all false
set_option maxRecDepth 100000
noncomputable section
namespace L2
open PySem PySem.Spec PyProof.Rows
def inClass(s:Stmt)(j:Nat):Stmt:=match s with
 |.ClassDef _ _ _ body _ _ _ _ _ _ _=>body.getD j (.Pass ⟨0,0,0,0⟩)
 |_=>.Pass ⟨0,0,0,0⟩
def aQ(s:Stmt):Arguments:=match s with
 |.FunctionDef _ a _ _ _ _ _ _ _ _=>a
 |_=>{ posonlyargs:=[],args:=[],vararg:=none,kwonlyargs:=[],kw_defaults:=[],kwarg:=none,defaults:=[] }
def aN(s:Stmt):List Stmt:=match s with
 |.FunctionDef _ _ b _ _ _ _ _ _ _=>b
 |_=>[]
def az(s:Stmt):Scope:=match s with
 |.FunctionDef _ _ _ _ _ _ sc _ _ _=>sc
 |_=>{ kind:=.function,names:=[],isGenerator:=false,isCoroutine:=false }
end L2
namespace L3
open PySem PySem.W PySem.Spec PyProof.Rows
abbrev JC:=@PySem.W.Fast.tw14364793385576792824
theorem Dj:treeTable=JC:=PySem.W.Fast.te14364793385576792824
abbrev goF:=@PySem.W.Fast.tw15667345088766844465
theorem Zm:@topGo=@goF:=PySem.W.Fast.te15667345088766844465
abbrev sgF:=@PySem.W.Fast.tw14374325043358763698
theorem Zg:@segRun=@sgF:=PySem.W.Fast.te14374325043358763698
abbrev stF:=@PySem.W.Fast.tw10110043849684766642
theorem YT:@segRunT=@stF:=PySem.W.Fast.te10110043849684766642
abbrev trF:=@PySem.W.Fast.tw14082659384304107361
theorem YF:@topRun=@trF:=PySem.W.Fast.te14082659384304107361
abbrev dnF:=@PySem.W.Fast.tw11892475500146522536
theorem Zo:@denote=@dnF:=PySem.W.Fast.te11892475500146522536
abbrev Xq:=@PySem.W.Fast.tw5923862056798008813
theorem Yk:@importedModules=@Xq:=PySem.W.Fast.te5923862056798008813
abbrev osF:=@PySem.W.Fast.tw4187177175401517315
theorem Zz:@openSeen=@osF:=PySem.W.Fast.te4187177175401517315
def Dy(d:SharedT):Option (Flow×SharedT×Code×Pos)->SharedT
 |some (_,s,_,_)=>s
 |none=>d
def acP(d:Shared):Option (Shared×Thread)->Shared
 |some (s,_)=>s
 |none=>d
def aca(d:Shared):Option Shared->Shared
 |some s=>s
 |none=>d
def S0(w:World)(os:OsState):Shared:=⟨boot_heap w.params,Array.mk [],boot_drawn,boot_toks,os⟩
theorem MJ(w:World):((boot_heap w.params).isNs mainGlobals&&(Array.mk []:Array GenState).size==0)=true/\(boot_heap w.params).objs.size=11/\(boot_heap w.params).nsMap mainGlobals "__annotations__" = some (.ref 6) :=
 ⟨by kernel_rfl,by kernel_rfl,by kernel_rfl⟩
def acd:Obj:={ cls:=.type "tuple",data:=.seq #[] }
def acA:Obj:={ cls:=.none,data:=.fields #[] }
def acv:Obj:={ cls:=.type "code",data:=.fields #[.str "<module>" 182,.str "<module>" 183,.str "/claim/cut.py" 184,.int 1 0,.int 0 0,.int 0 0,.int 0 0,.int 0 0,.ref 11,.bool false,.int 181 0,.ref 12,.none,.none,.none,.none,.int 185 0,.int 1 0,.str "/claim/cut.py" 186] }
def acn:Obj:={ cls:=.type "frame",slots:=#[some (.ref 13),some (.ref 3),some (.ref 3),none,some (.str "__main__" 164),none,some (.ref 0)] }
def Sb(w:World)(os:OsState):SharedT :=
 ⟨.node (boot_o_0 w.params) (.node (boot_o_1 w.params) (.node (boot_o_3 w.params) (.node (boot_o_7 w.params) .nil .nil) (.node acd .nil .nil)) (.node (boot_o_5 w.params) (.node (boot_o_9 w.params) .nil .nil) (.node acv .nil .nil)))
  (.node (boot_o_2 w.params) (.node (boot_o_4 w.params) (.node (boot_o_8 w.params) .nil .nil) (.node acA .nil .nil)) (.node (boot_o_6 w.params) (.node (boot_o_10 w.params) .nil .nil) (.node acn .nil .nil))),15,{},Array.mk [],⟨0,0,0,0⟩,187,os⟩
def Ja(p:Program):Env:={ scope:=p.main.scope,locals:=mainNs,globals:=mainNs,cells:=[],code:=.ref 13,frame:=some 14 }
def sA(p:Program)(w:World)(os:OsState):Shared:=acP (S0 w os) (goF JC p w 11 (some (.ref 6)) 12 (S0 w os) (topStub p))
def sR(p:Program)(w:World)(os:OsState):Option (Flow×SharedT×Code×Pos):=stF JC p w 11 (some (.ref 6)) 1 20000 (Sb w os) (piecesOf (behindTheImports p) (Ja p) (.body (behindTheImports p) (Ja p)) ⟨0,0,0,0⟩ [topFrame ⟨0,0,0,0⟩])
def Uv:Option (Flow×SharedT×Code×Pos)->Pos
 |some (_,_,_,q)=>q
 |none=>⟨0,0,0,0⟩
def sE(p:Program)(w:World)(os:OsState):Option Shared:=trF JC p w 11 (some (.ref 6)) 2 (Dy (Sb w os) (sR p w os)).abs ⟨doneF .next,.body (behindTheImports p) (Ja p),Uv (sR p w os),[topFrame ⟨0,0,0,0⟩]⟩
def sF(p:Program)(w:World)(os:OsState):Shared:=aca (S0 w os) (sE p w os)
theorem Wb{p q:Program}{loose:List Str}{Xt:Shared->Bool}{α:Type}{Yf:Shared->α}{Ya:World->α}{N:Nat}{g0:Bool}{w:World}{ev:Env}{p0 p1 qf:Pos}{p2:OsState->Pos}{m a b n k:Nat}{ann:Option Value}
  {Sa F:OsState->Shared} {Sb G:OsState->SharedT}
  (h1:opening p=plainProg p.main.scope.names) (h2:Nat.ble 600 N=true) (h3:∀s,fenceModules? p s=some s)
  (sz:((boot_heap w.params).isNs mainGlobals&&(Array.mk []:Array GenState).size==0)=true/\(boot_heap w.params).objs.size=m/\(boot_heap w.params).nsMap mainGlobals "__annotations__" = ann)
  (pre:∀os,goF JC p w m ann a (S0 w os) (topStub p)=some (Sa os,⟨dnF JC (.body (behindTheImports p) ev),.body (behindTheImports p) ev,p0,[topFrame qf]⟩))
  (blk:∀os,sgF JC p w m ann 1 b (Sa os) (blockOf (behindTheImports p) ev (.body (behindTheImports p) ev) p0 [topFrame qf])=some (.next,(Sb os).abs,.body (behindTheImports p) ev,p1))
  (seg:∀os,stF JC p w m ann 1 n (Sb os) (piecesOf (behindTheImports p) ev (.body (behindTheImports p) ev) p1 [topFrame qf])=some (.next,G os,.body (behindTheImports p) ev,p2 os))
  (fin:∀os,trF JC p w m ann k (G os).abs ⟨doneF .next,.body (behindTheImports p) ev,p2 os,[topFrame qf]⟩=some (F os))
  (le:Nat.ble (a+(b+(n+k))) N=true)
  (looks:∀os,((staticsOk (Xq p.main.body) (boot_heap w.params) (F os).heap&&namesBound p (F os).heap&&gensDone (F os)&&laidKept (boot_heap w.params) (F os).heap),osF q loose (Xq p.main.body) Xt g0 (F os),Yf (F os))=(true,openGood q loose,Ya w)) :
  (openEnds treeTable p w N).map (fun s=>(openSeen q loose (importedModules p.main.body) Xt g0 s,Yf s))=some (openGood q loose,Ya w):=by
 obtain⟨⟨hp,gs,dr,tk,os⟩,e,e'⟩:=Option.map_eq_some_iff.mp (boot_open h1 h2 h3 w)
 obtain⟨rfl,e'⟩:=Prod.mk.inj e'
 obtain⟨rfl,e'⟩:=Prod.mk.inj e'
 obtain⟨rfl,rfl⟩:=Prod.mk.inj e'
 obtain⟨z1,z2,z3⟩:=sz
 have l:=looks os
 rw[←Yk,←Zz] at l
 obtain⟨l1,l⟩:=Prod.mk.inj l
 obtain⟨l2,l3⟩:=Prod.mk.inj l
 have r1:=pre os
 rw[←Zm,←Zo,←Dj] at r1
 have r2:=blk os
 rw[←Zg,←Dj] at r2
 have r3:=seg os
 rw[←YT,←Dj] at r3
 have r4:=fin os
 rw[←YF,←Dj] at r4
 have r5:=piece_app (rest:=[]) (segRun_of r3) (piece_nil r4)
 rw[List.append_nil] at r5
 have r:=topRun_mono (N-(a+(b+(n+k)))) _ _ _ _ (go_top r1 (piece_block r2 r5))
 rw[Nat.add_sub_cancel' (Nat.le_of_ble_eq_true le)] at r
 have t:topFrom treeTable p w N (S0 w os)=some (F os):=by
  unfold topFrom
  show (match _ with | true=>_ | false=>_)=_
  dsimp only[S0]
  rw[z1,z2,z3]
  dsimp only
  rw[show topRun treeTable p w m ann N ⟨boot_heap w.params,Array.mk [],boot_drawn,boot_toks,os⟩ (topStub p)=some (F os) from r]
  show (match _ with | true=>_ | false=>_)=_
  rw[l1]
 unfold openEnds
 rw[e]
 show (topFrom treeTable p w N (S0 w os)).map _=_
 rw[t]
 exact congrArg some (Prod.ext l2 l3)
theorem Rh(row:String){p q:Program}{loose:List Str}{Xt:Shared->Bool}{α:Type}{Yf:Shared->α}{Ya:World->α}{g0:Bool}
  (h1:opening p=plainProg p.main.scope.names) (h3:∀s,fenceModules? p s=some s)
  (pre:∀(b:Bool) (w:World) (os:OsState),goF JC p (w.withFollow row b) 11 (some (.ref 6)) 12 (S0 (w.withFollow row b) os) (topStub p)=some (sA p (w.withFollow row b) os,⟨dnF JC (.body (behindTheImports p) (Ja p)),.body (behindTheImports p) (Ja p),⟨0,0,0,0⟩,[topFrame ⟨0,0,0,0⟩]⟩))
  (blk:∀(b:Bool) (w:World) (os:OsState),sgF JC p (w.withFollow row b) 11 (some (.ref 6)) 1 1 (sA p (w.withFollow row b) os) (blockOf (behindTheImports p) (Ja p) (.body (behindTheImports p) (Ja p)) ⟨0,0,0,0⟩ [topFrame ⟨0,0,0,0⟩])=some (.next,(Sb (w.withFollow row b) os).abs,.body (behindTheImports p) (Ja p),⟨0,0,0,0⟩))
  (seg:∀(b:Bool) (w:World) (os:OsState),sR p (w.withFollow row b) os=some (.next,Dy (Sb (w.withFollow row b) os) (sR p (w.withFollow row b) os),.body (behindTheImports p) (Ja p),Uv (sR p (w.withFollow row b) os)))
  (fin:∀(b:Bool) (w:World) (os:OsState),sE p (w.withFollow row b) os=some (sF p (w.withFollow row b) os))
  (looks:∀(b:Bool) (w:World) (os:OsState),((staticsOk (Xq p.main.body) (boot_heap (w.withFollow row b).params) (sF p (w.withFollow row b) os).heap&&namesBound p (sF p (w.withFollow row b) os).heap&&gensDone (sF p (w.withFollow row b) os)&&laidKept (boot_heap (w.withFollow row b).params) (sF p (w.withFollow row b) os).heap),osF q loose (Xq p.main.body) Xt g0 (sF p (w.withFollow row b) os),Yf (sF p (w.withFollow row b) os))=(true,openGood q loose,Ya (w.withFollow row b))) :
  LeftO p q loose Xt Yf Ya 20100 g0:=by
 have z:∀(b:Bool) (w:World),(openEnds treeTable p (w.withFollow row b) 20100).map (fun s=>(openSeen q loose (importedModules p.main.body) Xt g0 s,Yf s))=some (openGood q loose,Ya (w.withFollow row b)):=fun b w=>
  Wb (n:=20000) (k:=2) (Sa:=sA p (w.withFollow row b)) (Sb:=Sb (w.withFollow row b)) (G:=fun os=>Dy (Sb (w.withFollow row b) os) (sR p (w.withFollow row b) os)) (F:=sF p (w.withFollow row b)) (p2:=fun os=>Uv (sR p (w.withFollow row b) os)) h1 (by decide) h3 (MJ _) (pre b w) (blk b w) (seg b w) (fin b w) (by decide) (looks b w)
 exact byRow2 row (z false) (z true)
abbrev Z7(p:Program)(w:World)(os:OsState):Prop:=goF JC p w 11 (some (.ref 6)) 12 (S0 w os) (topStub p)=some (sA p w os,⟨dnF JC (.body (behindTheImports p) (Ja p)),.body (behindTheImports p) (Ja p),⟨0,0,0,0⟩,[topFrame ⟨0,0,0,0⟩]⟩)
abbrev YZ(p:Program)(w:World)(os:OsState):Prop:=sgF JC p w 11 (some (.ref 6)) 1 1 (sA p w os) (blockOf (behindTheImports p) (Ja p) (.body (behindTheImports p) (Ja p)) ⟨0,0,0,0⟩ [topFrame ⟨0,0,0,0⟩])=some (.next,(Sb w os).abs,.body (behindTheImports p) (Ja p),⟨0,0,0,0⟩)
abbrev Zx(p:Program)(w:World)(os:OsState):Prop:=sR p w os=some (.next,Dy (Sb w os) (sR p w os),.body (behindTheImports p) (Ja p),Uv (sR p w os))
abbrev Yy(p:Program)(w:World)(os:OsState):Prop:=sE p w os=some (sF p w os)
abbrev LkA(p:Program)(w:World)(os:OsState):Prop:=(staticsOk (Xq p.main.body) (boot_heap w.params) (sF p w os).heap&&namesBound p (sF p w os).heap&&gensDone (sF p w os)&&laidKept (boot_heap w.params) (sF p w os).heap)=true
abbrev LkB(p q:Program)(loose:List Str)(Xt:Shared->Bool)(g0:Bool)(w:World)(os:OsState):Prop:=osF q loose (Xq p.main.body) Xt g0 (sF p w os)=openGood q loose
abbrev LkC(p:Program){α:Type}(Yf:Shared->α)(Ya:World->α)(w:World)(os:OsState):Prop:=Yf (sF p w os)=Ya w
theorem Oc{p q:Program}{loose:List Str}{Xt:Shared->Bool}{α:Type}{Yf:Shared->α}{Ya:World->α}{g0:Bool}(row:String)(h1:opening p=plainProg p.main.scope.names)(h3:∀s,fenceModules? p s=some s)
  (pre:∀b (w:World) os,Z7 p (w.withFollow row b) os) (blk:∀b (w:World) os,YZ p (w.withFollow row b) os) (seg:∀b (w:World) os,Zx p (w.withFollow row b) os) (fin:∀b (w:World) os,Yy p (w.withFollow row b) os)
  (a:∀b (w:World) os,LkA p (w.withFollow row b) os) (b:∀b (w:World) os,LkB p q loose Xt g0 (w.withFollow row b) os) (c:∀b (w:World) os,LkC p Yf Ya (w.withFollow row b) os):LeftO p q loose Xt Yf Ya 20100 g0 :=
 Rh row h1 h3 pre blk seg fin fun i w os=>Prod.ext (a i w os) (Prod.ext (b i w os) (c i w os))
end L3
namespace Law
open PySem PySem.Spec PyProof.Rows L2 L3
def top(i:Nat):Stmt:=PySem.Challenge.pw_borderfloor_k18_whole_borders_turned.main.body.getD i (.Pass ⟨0,0,0,0⟩)
abbrev en(P:Params)(k:Str)(t:Tok)(v:Value):DictEntry:=⟨PyData.keyHash P k,.str k t,v⟩
open PySem.W in
def K0(P:Params):Frag:=(nat_lit 2,⟨.none,none,.dict #[] 0,#[]⟩) ::
 (nat_lit 3,⟨.type "dict",none,.dict #[en P "__name__" 165 (.str "law_borderfloor_k18_whole_borders_turned" 526),en P "__doc__" 166 .none,en P "__package__" 167 .none,en P "__loader__" 168 (.builtin "__main__.__loader__#opaque"),en P "__spec__" 169 .none,en P "__annotations__" 170 (.ref 6),en P "__builtins__" 171 (.ref 4),en P "__file__" 173 (.str "/claim/cut.py" 172),en P "__cached__" 174 .none,en P "rank_of" 195 (.ref 21),en P "in_order" 202 (.ref 28),en P "added" 210 (.ref 35),en P "FloorError" 230 (.ref 45),en P "TooMany" 246 (.ref 58),en P "Backward" 262 (.ref 70),en P "NoWord" 287 (.ref 89),en P "Crossed" 312 (.ref 108),en P "Open" 337 (.ref 127),en P "MOST_CELLS" 339 (.int 10 338),en P "turned" 352 (.ref 136),en P "turned_piece" 358 (.ref 141),en P "STEPS" 379 (.ref 142),en P "OPPOSITES" 392 (.ref 147),en P "corners_of" 402 (.ref 154),en P "way_of" 409 (.ref 161),en P "backwards" 415 (.ref 166),en P "turned_letter" 421 (.ref 171),en P "turned_word" 427 (.ref 176),en P "begun_at" 435 (.ref 183),en P "area_of" 445 (.ref 190),en P "sides_of" 456 (.ref 197),en P "letters_by_corner" 466 (.ref 204),en P "border_of" 478 (.ref 211),en P "check_letters" 487 (.ref 218),en P "check_crossings" 498 (.ref 225),en P "upright_sides" 509 (.ref 232),en P "cells_within" 515 (.ref 237),en P "inside_of" 525 (.ref 244),en P "_law_cell_at" 535 (.ref 251),en P "_law_corner" 543 (.ref 258),en P "_law_step" 550 (.ref 265),en P "_law_whole" 557 (.ref 272),en P "_law_pair" 565 (.ref 279),en P "_law_holed" 571 (.ref 284),en P "_law_grown" 588 (.ref 291),en P "_law_piece" 594 (.ref 296),en P "_law_is_piece" 600 (.ref 301),en P "_law_turned" 610 (.ref 308),en P "_law_turned_corner" 616 (.ref 313),en P "law" 622 (.ref 318)] 50,#[]⟩) ::
 (nat_lit 15,⟨.type "tuple",none,.seq #[] 0,#[]⟩) ::
 (nat_lit 17,⟨.type "tuple",none,.seq #[.str "cell" 192] 0,#[]⟩) ::
 (nat_lit 18,⟨.type "tuple",none,.seq #[] 0,#[]⟩) ::
 (nat_lit 20,⟨.type "code",none,.fields #[.str "rank_of" 189,.str "rank_of" 190,.str "/claim/cut.py" 191,.int 2 0,.int 1 0,.int 0 0,.int 0 0,.int 3 0,.ref 15,.bool true,.int 181 0,.ref 16,.none,.ref 17,.ref 18,.ref 19,.int 193 0,.int 2 0,.str "/claim/cut.py" 194],#[]⟩) ::
 (nat_lit 21,⟨.type "function",none,.func (fnOf "rank_of" "rank_of" (aQ (top 1)) (aN (top 1)) (az (top 1)) .none .none .none (.str "borderfloor.cells" 187) none (.ref 20) .none),#[]⟩) ::
 (nat_lit 22,⟨.type "tuple",none,.seq #[] 0,#[]⟩) ::
 (nat_lit 24,⟨.type "tuple",none,.seq #[.str "some" 199] 0,#[]⟩) ::
 (nat_lit 25,⟨.type "tuple",none,.seq #[] 0,#[]⟩) ::
 (nat_lit 27,⟨.type "code",none,.fields #[.str "in_order" 196,.str "in_order" 197,.str "/claim/cut.py" 198,.int 4 0,.int 1 0,.int 0 0,.int 0 0,.int 3 0,.ref 22,.bool true,.int 181 0,.ref 23,.none,.ref 24,.ref 25,.ref 26,.int 200 0,.int 4 0,.str "/claim/cut.py" 201],#[]⟩) ::
 (nat_lit 28,⟨.type "function",none,.func (fnOf "in_order" "in_order" (aQ (top 2)) (aN (top 2)) (az (top 2)) .none .none .none (.str "borderfloor.cells" 187) none (.ref 27) .none),#[]⟩) ::
 (nat_lit 29,⟨.type "tuple",none,.seq #[] 0,#[]⟩) ::
 (nat_lit 31,⟨.type "tuple",none,.seq #[.str "one" 206,.str "other" 207] 0,#[]⟩) ::
 (nat_lit 32,⟨.type "tuple",none,.seq #[] 0,#[]⟩) ::
 (nat_lit 34,⟨.type "code",none,.fields #[.str "added" 203,.str "added" 204,.str "/claim/cut.py" 205,.int 6 0,.int 2 0,.int 0 0,.int 0 0,.int 3 0,.ref 29,.bool true,.int 181 0,.ref 30,.none,.ref 31,.ref 32,.ref 33,.int 208 0,.int 6 0,.str "/claim/cut.py" 209],#[]⟩) ::
 (nat_lit 35,⟨.type "function",none,.func (fnOf "added" "added" (aQ (top 3)) (aN (top 3)) (az (top 3)) .none .none .none (.str "borderfloor.cells" 187) none (.ref 34) .none),#[]⟩) ::
 (nat_lit 36,⟨.type "tuple",none,.seq #[.type "ValueError"] 0,#[]⟩) ::
 (nat_lit 43,⟨.type "tuple",none,.seq #[] 0,#[]⟩) ::
 (nat_lit 44,⟨.type "dict",none,.dict #[en P "__module__" 220 (.str "borderfloor.errors" 211),en P "__firstlineno__" 224 (.int 9 223),en P "__static_attributes__" 225 (.ref 43),en P "__weakref__" 227 (.ref 46),en P "__doc__" 228 .none] 3,#[]⟩) ::
 (nat_lit 45,⟨.type "type",none,.cls ⟨"FloorError",[.type "ValueError"],[.ref 45,.type "ValueError",.type "Exception",.type "BaseException",.type "object"],44, "FloorError",true,[],[.ref 58,.ref 70,.ref 89,.ref 108,.ref 127],false,none,false⟩,#[some (.ref 36),none,some (.str "FloorError" 213),some (.str "FloorError" 221),some (.builtin "ValueError.__new__"),some (.bool true)]⟩) ::
 (nat_lit 46,⟨.type "getset_descriptor",none,.fields #[.str "__weakref__" 226,.ref 45,.builtin "ExceptionGroup.__weakref__",.none],#[]⟩) ::
 (nat_lit 49,⟨.type "tuple",none,.seq #[.ref 45] 0,#[]⟩) ::
 (nat_lit 56,⟨.type "tuple",none,.seq #[] 0,#[]⟩) ::
 (nat_lit 57,⟨.type "dict",none,.dict #[en P "__module__" 238 (.str "borderfloor.errors" 211),en P "__firstlineno__" 242 (.int 11 241),en P "__static_attributes__" 243 (.ref 56),en P "__doc__" 244 .none] 2,#[]⟩) ::
 (nat_lit 58,⟨.type "type",none,.cls ⟨"TooMany",[.ref 45],[.ref 58,.ref 45,.type "ValueError",.type "Exception",.type "BaseException",.type "object"],57, "TooMany",true,[],[],false,none,false⟩,#[some (.ref 49),none,some (.str "TooMany" 231),some (.str "TooMany" 239),some (.builtin "ValueError.__new__"),some (.bool true)]⟩) ::
 (nat_lit 61,⟨.type "tuple",none,.seq #[.ref 45] 0,#[]⟩) ::
 (nat_lit 68,⟨.type "tuple",none,.seq #[] 0,#[]⟩) ::
 (nat_lit 69,⟨.type "dict",none,.dict #[en P "__module__" 254 (.str "borderfloor.errors" 211),en P "__firstlineno__" 258 (.int 13 257),en P "__static_attributes__" 259 (.ref 68),en P "__doc__" 260 .none] 2,#[]⟩) ::
 (nat_lit 70,⟨.type "type",none,.cls ⟨"Backward",[.ref 45],[.ref 70,.ref 45,.type "ValueError",.type "Exception",.type "BaseException",.type "object"],69, "Backward",true,[],[],false,none,false⟩,#[some (.ref 61),none,some (.str "Backward" 247),some (.str "Backward" 255),some (.builtin "ValueError.__new__"),some (.bool true)]⟩) ::
 (nat_lit 73,⟨.type "tuple",none,.seq #[.ref 45] 0,#[]⟩) ::
 (nat_lit 80,⟨.type "tuple",none,.seq #[] 0,#[]⟩) ::
 (nat_lit 82,⟨.type "tuple",none,.seq #[.str "self" 278,.str "place" 279] 0,#[]⟩) ::
 (nat_lit 83,⟨.type "tuple",none,.seq #[] 0,#[]⟩) ::
 (nat_lit 85,⟨.type "code",none,.fields #[.str "__init__" 275,.str "NoWord.__init__" 276,.str "/claim/cut.py" 277,.int 17 0,.int 2 0,.int 0 0,.int 0 0,.int 3 0,.ref 80,.bool true,.int 181 0,.ref 81,.none,.ref 82,.ref 83,.ref 84,.int 280 0,.int 17 0,.str "/claim/cut.py" 281],#[]⟩) ::
 (nat_lit 86,⟨.type "function",none,.func (fnOf "__init__" "NoWord.__init__" (aQ (inClass (top 8) 0)) (aN (inClass (top 8) 0)) (az (inClass (top 8) 0)) .none .none .none (.str "borderfloor.errors" 211) none (.ref 85) .none),#[]⟩) ::
 (nat_lit 87,⟨.type "tuple",none,.seq #[.str "place" 283] 0,#[]⟩) ::
 (nat_lit 88,⟨.type "dict",none,.dict #[en P "__module__" 270 (.str "borderfloor.errors" 211),en P "__firstlineno__" 274 (.int 15 273),en P "__init__" 282 (.ref 86),en P "__static_attributes__" 284 (.ref 87),en P "__doc__" 285 .none] 2,#[]⟩) ::
 (nat_lit 89,⟨.type "type",none,.cls ⟨"NoWord",[.ref 45],[.ref 89,.ref 45,.type "ValueError",.type "Exception",.type "BaseException",.type "object"],88, "NoWord",true,[],[],false,none,false⟩,#[some (.ref 73),none,some (.str "NoWord" 263),some (.str "NoWord" 271),some (.builtin "ValueError.__new__"),some (.bool true)]⟩) ::
 (nat_lit 92,⟨.type "tuple",none,.seq #[.ref 45] 0,#[]⟩) ::
 (nat_lit 99,⟨.type "tuple",none,.seq #[] 0,#[]⟩) ::
 (nat_lit 101,⟨.type "tuple",none,.seq #[.str "self" 303,.str "place" 304] 0,#[]⟩) ::
 (nat_lit 102,⟨.type "tuple",none,.seq #[] 0,#[]⟩) ::
 (nat_lit 104,⟨.type "code",none,.fields #[.str "__init__" 300,.str "Crossed.__init__" 301,.str "/claim/cut.py" 302,.int 22 0,.int 2 0,.int 0 0,.int 0 0,.int 3 0,.ref 99,.bool true,.int 181 0,.ref 100,.none,.ref 101,.ref 102,.ref 103,.int 305 0,.int 22 0,.str "/claim/cut.py" 306],#[]⟩) ::
 (nat_lit 105,⟨.type "function",none,.func (fnOf "__init__" "Crossed.__init__" (aQ (inClass (top 9) 0)) (aN (inClass (top 9) 0)) (az (inClass (top 9) 0)) .none .none .none (.str "borderfloor.errors" 211) none (.ref 104) .none),#[]⟩) ::
 (nat_lit 106,⟨.type "tuple",none,.seq #[.str "place" 308] 0,#[]⟩) ::
 (nat_lit 107,⟨.type "dict",none,.dict #[en P "__module__" 295 (.str "borderfloor.errors" 211),en P "__firstlineno__" 299 (.int 20 298),en P "__init__" 307 (.ref 105),en P "__static_attributes__" 309 (.ref 106),en P "__doc__" 310 .none] 2,#[]⟩) ::
 (nat_lit 108,⟨.type "type",none,.cls ⟨"Crossed",[.ref 45],[.ref 108,.ref 45,.type "ValueError",.type "Exception",.type "BaseException",.type "object"],107, "Crossed",true,[],[],false,none,false⟩,#[some (.ref 92),none,some (.str "Crossed" 288),some (.str "Crossed" 296),some (.builtin "ValueError.__new__"),some (.bool true)]⟩) ::
 (nat_lit 111,⟨.type "tuple",none,.seq #[.ref 45] 0,#[]⟩) ::
 (nat_lit 118,⟨.type "tuple",none,.seq #[] 0,#[]⟩) ::
 (nat_lit 120,⟨.type "tuple",none,.seq #[.str "self" 328,.str "way" 329] 0,#[]⟩) ::
 (nat_lit 121,⟨.type "tuple",none,.seq #[] 0,#[]⟩) ::
 (nat_lit 123,⟨.type "code",none,.fields #[.str "__init__" 325,.str "Open.__init__" 326,.str "/claim/cut.py" 327,.int 27 0,.int 2 0,.int 0 0,.int 0 0,.int 3 0,.ref 118,.bool true,.int 181 0,.ref 119,.none,.ref 120,.ref 121,.ref 122,.int 330 0,.int 27 0,.str "/claim/cut.py" 331],#[]⟩) ::
 (nat_lit 124,⟨.type "function",none,.func (fnOf "__init__" "Open.__init__" (aQ (inClass (top 10) 0)) (aN (inClass (top 10) 0)) (az (inClass (top 10) 0)) .none .none .none (.str "borderfloor.errors" 211) none (.ref 123) .none),#[]⟩) ::
 (nat_lit 125,⟨.type "tuple",none,.seq #[.str "way" 333] 0,#[]⟩) ::
 (nat_lit 126,⟨.type "dict",none,.dict #[en P "__module__" 320 (.str "borderfloor.errors" 211),en P "__firstlineno__" 324 (.int 25 323),en P "__init__" 332 (.ref 124),en P "__static_attributes__" 334 (.ref 125),en P "__doc__" 335 .none] 2,#[]⟩) ::
 (nat_lit 127,⟨.type "type",none,.cls ⟨"Open",[.ref 45],[.ref 127,.ref 45,.type "ValueError",.type "Exception",.type "BaseException",.type "object"],126, "Open",true,[],[],false,none,false⟩,#[some (.ref 111),none,some (.str "Open" 313),some (.str "Open" 321),some (.builtin "ValueError.__new__"),some (.bool true)]⟩) ::
 (nat_lit 130,⟨.type "tuple",none,.seq #[] 0,#[]⟩) ::
 (nat_lit 132,⟨.type "tuple",none,.seq #[.str "pair" 345,.str "k" 346,.str "x" 347,.str "y" 348,.str "quarters" 349] 0,#[]⟩) ::
 (nat_lit 133,⟨.type "tuple",none,.seq #[] 0,#[]⟩) ::
 (nat_lit 135,⟨.type "code",none,.fields #[.str "turned" 342,.str "turned" 343,.str "/claim/cut.py" 344,.int 32 0,.int 2 0,.int 0 0,.int 0 0,.int 3 0,.ref 130,.bool true,.int 181 0,.ref 131,.none,.ref 132,.ref 133,.ref 134,.int 350 0,.int 32 0,.str "/claim/cut.py" 351],#[]⟩) ::
 (nat_lit 136,⟨.type "function",none,.func (fnOf "turned" "turned" (aQ (top 13)) (aN (top 13)) (az (top 13)) .none .none .none (.str "borderfloor.turns" 340) none (.ref 135) .none),#[]⟩) ::
 (nat_lit 137,⟨.type "tuple",none,.seq #[] 0,#[]⟩) ::
 (nat_lit 140,⟨.type "code",none,.fields #[.str "turned_piece" 353,.str "turned_piece" 354,.str "/claim/cut.py" 355,.int 45 0,.int 2 0,.int 0 0,.int 0 0,.int 3 0,.ref 137,.bool true,.int 181 0,.ref 138,.none,.none,.none,.ref 139,.int 356 0,.int 45 0,.str "/claim/cut.py" 357],#[]⟩) ::
 (nat_lit 141,⟨.type "function",none,.func (fnOf "turned_piece" "turned_piece" (aQ (top 14)) (aN (top 14)) (az (top 14)) .none .none .none (.str "borderfloor.turns" 340) none (.ref 140) .none),#[]⟩) ::
 (nat_lit 142,⟨.type "dict",none,.dict #[en P "e" 361 (.ref 143),en P "n" 364 (.ref 144),en P "w" 367 (.ref 145),en P "s" 371 (.ref 146)] 4,#[]⟩) ::
 (nat_lit 143,⟨.type "tuple",none,.seq #[.int 1 362,.int 0 363] 0,#[]⟩) ::
 (nat_lit 144,⟨.type "tuple",none,.seq #[.int 0 365,.int 1 366] 0,#[]⟩) ::
 (nat_lit 145,⟨.type "tuple",none,.seq #[.int (-1) 369,.int 0 370] 0,#[]⟩) ::
 (nat_lit 146,⟨.type "tuple",none,.seq #[.int 0 372,.int (-1) 374] 0,#[]⟩) ::
 (nat_lit 147,⟨.type "dict",none,.dict #[en P "e" 380 (.str "w" 381),en P "n" 382 (.str "s" 383),en P "w" 384 (.str "e" 385),en P "s" 386 (.str "n" 387)] 4,#[]⟩) ::
 (nat_lit 148,⟨.type "tuple",none,.seq #[] 0,#[]⟩) ::
 (nat_lit 150,⟨.type "tuple",none,.seq #[.str "corner" 396,.str "word" 397,.str "corners" 398,.str "letter" 399] 0,#[]⟩) ::
 (nat_lit 151,⟨.type "tuple",none,.seq #[] 0,#[]⟩) ::
 (nat_lit 153,⟨.type "code",none,.fields #[.str "corners_of" 393,.str "corners_of" 394,.str "/claim/cut.py" 395,.int 50 0,.int 2 0,.int 0 0,.int 0 0,.int 3 0,.ref 148,.bool true,.int 181 0,.ref 149,.none,.ref 150,.ref 151,.ref 152,.int 400 0,.int 50 0,.str "/claim/cut.py" 401],#[]⟩) ::
 (nat_lit 154,⟨.type "function",none,.func (fnOf "corners_of" "corners_of" (aQ (top 18)) (aN (top 18)) (az (top 18)) .none .none .none (.str "borderfloor.words" 359) none (.ref 153) .none),#[]⟩) ::
 (nat_lit 155,⟨.type "tuple",none,.seq #[] 0,#[]⟩) ::
 (nat_lit 157,⟨.type "tuple",none,.seq #[.str "word" 406] 0,#[]⟩) ::
 (nat_lit 158,⟨.type "tuple",none,.seq #[] 0,#[]⟩) ::
 (nat_lit 160,⟨.type "code",none,.fields #[.str "way_of" 403,.str "way_of" 404,.str "/claim/cut.py" 405,.int 55 0,.int 1 0,.int 0 0,.int 0 0,.int 3 0,.ref 155,.bool true,.int 181 0,.ref 156,.none,.ref 157,.ref 158,.ref 159,.int 407 0,.int 55 0,.str "/claim/cut.py" 408],#[]⟩) ::
 (nat_lit 161,⟨.type "function",none,.func (fnOf "way_of" "way_of" (aQ (top 19)) (aN (top 19)) (az (top 19)) .none .none .none (.str "borderfloor.words" 359) none (.ref 160) .none),#[]⟩) ::
 (nat_lit 162,⟨.type "tuple",none,.seq #[] 0,#[]⟩) ::
 (nat_lit 165,⟨.type "code",none,.fields #[.str "backwards" 410,.str "backwards" 411,.str "/claim/cut.py" 412,.int 57 0,.int 1 0,.int 0 0,.int 0 0,.int 3 0,.ref 162,.bool true,.int 181 0,.ref 163,.none,.none,.none,.ref 164,.int 413 0,.int 57 0,.str "/claim/cut.py" 414],#[]⟩) ::
 (nat_lit 166,⟨.type "function",none,.func (fnOf "backwards" "backwards" (aQ (top 20)) (aN (top 20)) (az (top 20)) .none .none .none (.str "borderfloor.words" 359) none (.ref 165) .none),#[]⟩) ::
 (nat_lit 167,⟨.type "tuple",none,.seq #[] 0,#[]⟩) ::
 (nat_lit 170,⟨.type "code",none,.fields #[.str "turned_letter" 416,.str "turned_letter" 417,.str "/claim/cut.py" 418,.int 59 0,.int 2 0,.int 0 0,.int 0 0,.int 3 0,.ref 167,.bool true,.int 181 0,.ref 168,.none,.none,.none,.ref 169,.int 419 0,.int 59 0,.str "/claim/cut.py" 420],#[]⟩) ::
 (nat_lit 171,⟨.type "function",none,.func (fnOf "turned_letter" "turned_letter" (aQ (top 21)) (aN (top 21)) (az (top 21)) .none .none .none (.str "borderfloor.words" 359) none (.ref 170) .none),#[]⟩) ::
 (nat_lit 172,⟨.type "tuple",none,.seq #[] 0,#[]⟩) ::
 (nat_lit 175,⟨.type "code",none,.fields #[.str "turned_word" 422,.str "turned_word" 423,.str "/claim/cut.py" 424,.int 62 0,.int 2 0,.int 0 0,.int 0 0,.int 3 0,.ref 172,.bool true,.int 181 0,.ref 173,.none,.none,.none,.ref 174,.int 425 0,.int 62 0,.str "/claim/cut.py" 426],#[]⟩) ::
 (nat_lit 176,⟨.type "function",none,.func (fnOf "turned_word" "turned_word" (aQ (top 22)) (aN (top 22)) (az (top 22)) .none .none .none (.str "borderfloor.words" 359) none (.ref 175) .none),#[]⟩) ::
 (nat_lit 177,⟨.type "tuple",none,.seq #[] 0,#[]⟩) ::
 (nat_lit 179,⟨.type "tuple",none,.seq #[.str "word" 431,.str "place" 432] 0,#[]⟩) ::
 (nat_lit 180,⟨.type "tuple",none,.seq #[] 0,#[]⟩) ::
 (nat_lit 182,⟨.type "code",none,.fields #[.str "begun_at" 428,.str "begun_at" 429,.str "/claim/cut.py" 430,.int 64 0,.int 2 0,.int 0 0,.int 0 0,.int 3 0,.ref 177,.bool true,.int 181 0,.ref 178,.none,.ref 179,.ref 180,.ref 181,.int 433 0,.int 64 0,.str "/claim/cut.py" 434],#[]⟩) ::
 (nat_lit 183,⟨.type "function",none,.func (fnOf "begun_at" "begun_at" (aQ (top 23)) (aN (top 23)) (az (top 23)) .none .none .none (.str "borderfloor.words" 359) none (.ref 182) .none),#[]⟩) ::
 (nat_lit 184,⟨.type "tuple",none,.seq #[] 0,#[]⟩) ::
 (nat_lit 186,⟨.type "tuple",none,.seq #[.str "word" 439,.str "area" 440,.str "corner" 441,.str "letter" 442] 0,#[]⟩) ::
 (nat_lit 187,⟨.type "tuple",none,.seq #[] 0,#[]⟩) ::
 (nat_lit 189,⟨.type "code",none,.fields #[.str "area_of" 436,.str "area_of" 437,.str "/claim/cut.py" 438,.int 66 0,.int 1 0,.int 0 0,.int 0 0,.int 3 0,.ref 184,.bool true,.int 181 0,.ref 185,.none,.ref 186,.ref 187,.ref 188,.int 443 0,.int 66 0,.str "/claim/cut.py" 444],#[]⟩) ::
 (nat_lit 190,⟨.type "function",none,.func (fnOf "area_of" "area_of" (aQ (top 24)) (aN (top 24)) (az (top 24)) .none .none .none (.str "borderfloor.words" 359) none (.ref 189) .none),#[]⟩) ::
 (nat_lit 191,⟨.type "tuple",none,.seq #[] 0,#[]⟩) ::
 (nat_lit 193,⟨.type "tuple",none,.seq #[.str "cell" 451,.str "x" 452,.str "y" 453] 0,#[]⟩) ::
 (nat_lit 194,⟨.type "tuple",none,.seq #[] 0,#[]⟩) ::
 (nat_lit 196,⟨.type "code",none,.fields #[.str "sides_of" 448,.str "sides_of" 449,.str "/claim/cut.py" 450,.int 75 0,.int 1 0,.int 0 0,.int 0 0,.int 3 0,.ref 191,.bool true,.int 181 0,.ref 192,.none,.ref 193,.ref 194,.ref 195,.int 454 0,.int 75 0,.str "/claim/cut.py" 455],#[]⟩) ::
 (nat_lit 197,⟨.type "function",none,.func (fnOf "sides_of" "sides_of" (aQ (top 26)) (aN (top 26)) (az (top 26)) .none .none .none (.str "borderfloor.borders" 446) none (.ref 196) .none),#[]⟩) ::
 (nat_lit 198,⟨.type "tuple",none,.seq #[] 0,#[]⟩) ::
 (nat_lit 200,⟨.type "tuple",none,.seq #[.str "piece" 460,.str "letters" 461,.str "cell" 462,.str "side" 463] 0,#[]⟩) ::
 (nat_lit 201,⟨.type "tuple",none,.seq #[] 0,#[]⟩) ::
 (nat_lit 203,⟨.type "code",none,.fields #[.str "letters_by_corner" 457,.str "letters_by_corner" 458,.str "/claim/cut.py" 459,.int 79 0,.int 1 0,.int 0 0,.int 0 0,.int 3 0,.ref 198,.bool true,.int 181 0,.ref 199,.none,.ref 200,.ref 201,.ref 202,.int 464 0,.int 79 0,.str "/claim/cut.py" 465],#[]⟩) ::
 (nat_lit 204,⟨.type "function",none,.func (fnOf "letters_by_corner" "letters_by_corner" (aQ (top 27)) (aN (top 27)) (az (top 27)) .none .none .none (.str "borderfloor.borders" 446) none (.ref 203) .none),#[]⟩) ::
 (nat_lit 205,⟨.type "tuple",none,.seq #[] 0,#[]⟩) ::
 (nat_lit 207,⟨.type "tuple",none,.seq #[.str "piece" 470,.str "letters" 471,.str "start" 472,.str "word" 473,.str "corner" 474,.str "letter" 475] 0,#[]⟩) ::
 (nat_lit 208,⟨.type "tuple",none,.seq #[] 0,#[]⟩) ::
 (nat_lit 210,⟨.type "code",none,.fields #[.str "border_of" 467,.str "border_of" 468,.str "/claim/cut.py" 469,.int 86 0,.int 1 0,.int 0 0,.int 0 0,.int 3 0,.ref 205,.bool true,.int 181 0,.ref 206,.none,.ref 207,.ref 208,.ref 209,.int 476 0,.int 86 0,.str "/claim/cut.py" 477],#[]⟩) ::
 (nat_lit 211,⟨.type "function",none,.func (fnOf "border_of" "border_of" (aQ (top 28)) (aN (top 28)) (az (top 28)) .none .none .none (.str "borderfloor.borders" 446) none (.ref 210) .none),#[]⟩) ::
 (nat_lit 212,⟨.type "tuple",none,.seq #[] 0,#[]⟩) ::
 (nat_lit 214,⟨.type "tuple",none,.seq #[.str "word" 482,.str "place" 483,.str "letter" 484] 0,#[]⟩) ::
 (nat_lit 215,⟨.type "tuple",none,.seq #[] 0,#[]⟩) ::
 (nat_lit 217,⟨.type "code",none,.fields #[.str "check_letters" 479,.str "check_letters" 480,.str "/claim/cut.py" 481,.int 96 0,.int 1 0,.int 0 0,.int 0 0,.int 3 0,.ref 212,.bool true,.int 181 0,.ref 213,.none,.ref 214,.ref 215,.ref 216,.int 485 0,.int 96 0,.str "/claim/cut.py" 486],#[]⟩) ::
 (nat_lit 218,⟨.type "function",none,.func (fnOf "check_letters" "check_letters" (aQ (top 29)) (aN (top 29)) (az (top 29)) .none .none .none (.str "borderfloor.borders" 446) none (.ref 217) .none),#[]⟩) ::
 (nat_lit 219,⟨.type "tuple",none,.seq #[] 0,#[]⟩) ::
 (nat_lit 221,⟨.type "tuple",none,.seq #[.str "word" 491,.str "corners" 492,.str "seen" 493,.str "place" 494,.str "corner" 495] 0,#[]⟩) ::
 (nat_lit 222,⟨.type "tuple",none,.seq #[] 0,#[]⟩) ::
 (nat_lit 224,⟨.type "code",none,.fields #[.str "check_crossings" 488,.str "check_crossings" 489,.str "/claim/cut.py" 490,.int 102 0,.int 1 0,.int 0 0,.int 0 0,.int 3 0,.ref 219,.bool true,.int 181 0,.ref 220,.none,.ref 221,.ref 222,.ref 223,.int 496 0,.int 102 0,.str "/claim/cut.py" 497],#[]⟩) ::
 (nat_lit 225,⟨.type "function",none,.func (fnOf "check_crossings" "check_crossings" (aQ (top 30)) (aN (top 30)) (az (top 30)) .none .none .none (.str "borderfloor.borders" 446) none (.ref 224) .none),#[]⟩) ::
 (nat_lit 226,⟨.type "tuple",none,.seq #[] 0,#[]⟩) ::
 (nat_lit 228,⟨.type "tuple",none,.seq #[.str "corner" 502,.str "word" 503,.str "rows" 504,.str "here" 505,.str "letter" 506] 0,#[]⟩) ::
 (nat_lit 229,⟨.type "tuple",none,.seq #[] 0,#[]⟩) ::
 (nat_lit 231,⟨.type "code",none,.fields #[.str "upright_sides" 499,.str "upright_sides" 500,.str "/claim/cut.py" 501,.int 110 0,.int 2 0,.int 0 0,.int 0 0,.int 3 0,.ref 226,.bool true,.int 181 0,.ref 227,.none,.ref 228,.ref 229,.ref 230,.int 507 0,.int 110 0,.str "/claim/cut.py" 508],#[]⟩) ::
 (nat_lit 232,⟨.type "function",none,.func (fnOf "upright_sides" "upright_sides" (aQ (top 31)) (aN (top 31)) (az (top 31)) .none .none .none (.str "borderfloor.borders" 446) none (.ref 231) .none),#[]⟩) ::
 (nat_lit 233,⟨.type "tuple",none,.seq #[] 0,#[]⟩) ::
 (nat_lit 236,⟨.type "code",none,.fields #[.str "cells_within" 510,.str "cells_within" 511,.str "/claim/cut.py" 512,.int 118 0,.int 2 0,.int 0 0,.int 0 0,.int 3 0,.ref 233,.bool true,.int 181 0,.ref 234,.none,.none,.none,.ref 235,.int 513 0,.int 118 0,.str "/claim/cut.py" 514],#[]⟩) ::
 (nat_lit 237,⟨.type "function",none,.func (fnOf "cells_within" "cells_within" (aQ (top 32)) (aN (top 32)) (az (top 32)) .none .none .none (.str "borderfloor.borders" 446) none (.ref 236) .none),#[]⟩) ::
 (nat_lit 238,⟨.type "tuple",none,.seq #[] 0,#[]⟩) ::
 (nat_lit 240,⟨.type "tuple",none,.seq #[.str "corner" 519,.str "word" 520,.str "way" 521,.str "area" 522] 0,#[]⟩) ::
 (nat_lit 241,⟨.type "tuple",none,.seq #[] 0,#[]⟩) ::
 (nat_lit 243,⟨.type "code",none,.fields #[.str "inside_of" 516,.str "inside_of" 517,.str "/claim/cut.py" 518,.int 126 0,.int 2 0,.int 0 0,.int 0 0,.int 3 0,.ref 238,.bool true,.int 181 0,.ref 239,.none,.ref 240,.ref 241,.ref 242,.int 523 0,.int 126 0,.str "/claim/cut.py" 524],#[]⟩) ::
 (nat_lit 244,⟨.type "function",none,.func (fnOf "inside_of" "inside_of" (aQ (top 33)) (aN (top 33)) (az (top 33)) .none .none .none (.str "borderfloor.borders" 446) none (.ref 243) .none),#[]⟩) ::
 (nat_lit 245,⟨.type "tuple",none,.seq #[] 0,#[]⟩) ::
 (nat_lit 247,⟨.type "tuple",none,.seq #[.str "_law_script" 531,.str "_law_k" 532] 0,#[]⟩) ::
 (nat_lit 248,⟨.type "tuple",none,.seq #[] 0,#[]⟩) ::
 (nat_lit 250,⟨.type "code",none,.fields #[.str "_law_cell_at" 528,.str "_law_cell_at" 529,.str "/claim/cut.py" 530,.int 139 0,.int 2 0,.int 0 0,.int 0 0,.int 3 0,.ref 245,.bool true,.int 181 0,.ref 246,.none,.ref 247,.ref 248,.ref 249,.int 533 0,.int 139 0,.str "/claim/cut.py" 534],#[]⟩) ::
 (nat_lit 251,⟨.type "function",none,.func (fnOf "_law_cell_at" "_law_cell_at" (aQ (top 35)) (aN (top 35)) (az (top 35)) .none .none .none (.str "law_borderfloor_k18_whole_borders_turned" 526) none (.ref 250) .none),#[]⟩) ::
 (nat_lit 252,⟨.type "tuple",none,.seq #[] 0,#[]⟩) ::
 (nat_lit 254,⟨.type "tuple",none,.seq #[.str "_law_cell" 539,.str "_law_other" 540] 0,#[]⟩) ::
 (nat_lit 255,⟨.type "tuple",none,.seq #[] 0,#[]⟩) ::
 (nat_lit 257,⟨.type "code",none,.fields #[.str "_law_corner" 536,.str "_law_corner" 537,.str "/claim/cut.py" 538,.int 145 0,.int 2 0,.int 0 0,.int 0 0,.int 3 0,.ref 252,.bool true,.int 181 0,.ref 253,.none,.ref 254,.ref 255,.ref 256,.int 541 0,.int 145 0,.str "/claim/cut.py" 542],#[]⟩) ::
 (nat_lit 258,⟨.type "function",none,.func (fnOf "_law_corner" "_law_corner" (aQ (top 36)) (aN (top 36)) (az (top 36)) .none .none .none (.str "law_borderfloor_k18_whole_borders_turned" 526) none (.ref 257) .none),#[]⟩) ::
 (nat_lit 259,⟨.type "tuple",none,.seq #[] 0,#[]⟩) ::
 (nat_lit 261,⟨.type "tuple",none,.seq #[.str "_law_letter" 547] 0,#[]⟩) ::
 (nat_lit 262,⟨.type "tuple",none,.seq #[] 0,#[]⟩) ::
 (nat_lit 264,⟨.type "code",none,.fields #[.str "_law_step" 544,.str "_law_step" 545,.str "/claim/cut.py" 546,.int 149 0,.int 1 0,.int 0 0,.int 0 0,.int 3 0,.ref 259,.bool true,.int 181 0,.ref 260,.none,.ref 261,.ref 262,.ref 263,.int 548 0,.int 149 0,.str "/claim/cut.py" 549],#[]⟩) ::
 (nat_lit 265,⟨.type "function",none,.func (fnOf "_law_step" "_law_step" (aQ (top 37)) (aN (top 37)) (az (top 37)) .none .none .none (.str "law_borderfloor_k18_whole_borders_turned" 526) none (.ref 264) .none),#[]⟩) ::
 (nat_lit 266,⟨.type "tuple",none,.seq #[] 0,#[]⟩) ::
 (nat_lit 268,⟨.type "tuple",none,.seq #[.str "_law_found" 554] 0,#[]⟩) ::
 (nat_lit 269,⟨.type "tuple",none,.seq #[] 0,#[]⟩) ::
 (nat_lit 271,⟨.type "code",none,.fields #[.str "_law_whole" 551,.str "_law_whole" 552,.str "/claim/cut.py" 553,.int 151 0,.int 1 0,.int 0 0,.int 0 0,.int 3 0,.ref 266,.bool true,.int 181 0,.ref 267,.none,.ref 268,.ref 269,.ref 270,.int 555 0,.int 151 0,.str "/claim/cut.py" 556],#[]⟩) ::
 (nat_lit 272,⟨.type "function",none,.func (fnOf "_law_whole" "_law_whole" (aQ (top 38)) (aN (top 38)) (az (top 38)) .none .none .none (.str "law_borderfloor_k18_whole_borders_turned" 526) none (.ref 271) .none),#[]⟩) ::
 (nat_lit 273,⟨.type "tuple",none,.seq #[] 0,#[]⟩) ::
 (nat_lit 275,⟨.type "tuple",none,.seq #[.str "_law_found" 561,.str "_law_due" 562] 0,#[]⟩) ::
 (nat_lit 276,⟨.type "tuple",none,.seq #[] 0,#[]⟩) ::
 (nat_lit 278,⟨.type "code",none,.fields #[.str "_law_pair" 558,.str "_law_pair" 559,.str "/claim/cut.py" 560,.int 153 0,.int 2 0,.int 0 0,.int 0 0,.int 3 0,.ref 273,.bool true,.int 181 0,.ref 274,.none,.ref 275,.ref 276,.ref 277,.int 563 0,.int 153 0,.str "/claim/cut.py" 564],#[]⟩) ::
 (nat_lit 279,⟨.type "function",none,.func (fnOf "_law_pair" "_law_pair" (aQ (top 39)) (aN (top 39)) (az (top 39)) .none .none .none (.str "law_borderfloor_k18_whole_borders_turned" 526) none (.ref 278) .none),#[]⟩) ::
 (nat_lit 280,⟨.type "tuple",none,.seq #[] 0,#[]⟩) ::
 (nat_lit 283,⟨.type "code",none,.fields #[.str "_law_holed" 566,.str "_law_holed" 567,.str "/claim/cut.py" 568,.int 157 0,.int 1 0,.int 0 0,.int 0 0,.int 3 0,.ref 280,.bool true,.int 181 0,.ref 281,.none,.none,.none,.ref 282,.int 569 0,.int 157 0,.str "/claim/cut.py" 570],#[]⟩) ::
 (nat_lit 284,⟨.type "function",none,.func (fnOf "_law_holed" "_law_holed" (aQ (top 40)) (aN (top 40)) (az (top 40)) .none .none .none (.str "law_borderfloor_k18_whole_borders_turned" 526) none (.ref 283) .none),#[]⟩) ::
 (nat_lit 285,⟨.type "tuple",none,.seq #[] 0,#[]⟩) ::
 (nat_lit 287,⟨.type "tuple",none,.seq #[.str "_law_script" 575,.str "_law_at" 576,.str "_law_many" 577,.str "_law_cells" 578,.str "_law_k" 579,.str "_law_cell" 580,.str "_law_x" 581,.str "_law_y" 582,.str "_law_turn" 583,.str "_law_step_here" 584,.str "_law_new" 585] 0,#[]⟩) ::
 (nat_lit 288,⟨.type "tuple",none,.seq #[] 0,#[]⟩) ::
 (nat_lit 290,⟨.type "code",none,.fields #[.str "_law_grown" 572,.str "_law_grown" 573,.str "/claim/cut.py" 574,.int 175 0,.int 3 0,.int 0 0,.int 0 0,.int 3 0,.ref 285,.bool true,.int 181 0,.ref 286,.none,.ref 287,.ref 288,.ref 289,.int 586 0,.int 175 0,.str "/claim/cut.py" 587],#[]⟩) ::
 (nat_lit 291,⟨.type "function",none,.func (fnOf "_law_grown" "_law_grown" (aQ (top 41)) (aN (top 41)) (az (top 41)) .none .none .none (.str "law_borderfloor_k18_whole_borders_turned" 526) none (.ref 290) .none),#[]⟩) ::
 (nat_lit 292,⟨.type "tuple",none,.seq #[] 0,#[]⟩) ::
 (nat_lit 295,⟨.type "code",none,.fields #[.str "_law_piece" 589,.str "_law_piece" 590,.str "/claim/cut.py" 591,.int 189 0,.int 2 0,.int 0 0,.int 0 0,.int 3 0,.ref 292,.bool true,.int 181 0,.ref 293,.none,.none,.none,.ref 294,.int 592 0,.int 189 0,.str "/claim/cut.py" 593],#[]⟩) ::
 (nat_lit 296,⟨.type "function",none,.func (fnOf "_law_piece" "_law_piece" (aQ (top 42)) (aN (top 42)) (az (top 42)) .none .none .none (.str "law_borderfloor_k18_whole_borders_turned" 526) none (.ref 295) .none),#[]⟩) ::
 (nat_lit 297,⟨.type "tuple",none,.seq #[] 0,#[]⟩) ::
 (nat_lit 300,⟨.type "code",none,.fields #[.str "_law_is_piece" 595,.str "_law_is_piece" 596,.str "/claim/cut.py" 597,.int 192 0,.int 2 0,.int 0 0,.int 0 0,.int 3 0,.ref 297,.bool true,.int 181 0,.ref 298,.none,.none,.none,.ref 299,.int 598 0,.int 192 0,.str "/claim/cut.py" 599],#[]⟩) ::
 (nat_lit 301,⟨.type "function",none,.func (fnOf "_law_is_piece" "_law_is_piece" (aQ (top 43)) (aN (top 43)) (az (top 43)) .none .none .none (.str "law_borderfloor_k18_whole_borders_turned" 526) none (.ref 300) .none),#[]⟩) ::
 (nat_lit 302,⟨.type "tuple",none,.seq #[] 0,#[]⟩) ::
 (nat_lit 304,⟨.type "tuple",none,.seq #[.str "_law_pair_here" 604,.str "_law_k" 605,.str "_law_x" 606,.str "_law_y" 607] 0,#[]⟩) ::
 (nat_lit 305,⟨.type "tuple",none,.seq #[] 0,#[]⟩) ::
 (nat_lit 307,⟨.type "code",none,.fields #[.str "_law_turned" 601,.str "_law_turned" 602,.str "/claim/cut.py" 603,.int 196 0,.int 2 0,.int 0 0,.int 0 0,.int 3 0,.ref 302,.bool true,.int 181 0,.ref 303,.none,.ref 304,.ref 305,.ref 306,.int 608 0,.int 196 0,.str "/claim/cut.py" 609],#[]⟩) ::
 (nat_lit 308,⟨.type "function",none,.func (fnOf "_law_turned" "_law_turned" (aQ (top 44)) (aN (top 44)) (az (top 44)) .none .none .none (.str "law_borderfloor_k18_whole_borders_turned" 526) none (.ref 307) .none),#[]⟩) ::
 (nat_lit 309,⟨.type "tuple",none,.seq #[] 0,#[]⟩) ::
 (nat_lit 312,⟨.type "code",none,.fields #[.str "_law_turned_corner" 611,.str "_law_turned_corner" 612,.str "/claim/cut.py" 613,.int 201 0,.int 2 0,.int 0 0,.int 0 0,.int 3 0,.ref 309,.bool true,.int 181 0,.ref 310,.none,.none,.none,.ref 311,.int 614 0,.int 201 0,.str "/claim/cut.py" 615],#[]⟩) ::
 (nat_lit 313,⟨.type "function",none,.func (fnOf "_law_turned_corner" "_law_turned_corner" (aQ (top 45)) (aN (top 45)) (az (top 45)) .none .none .none (.str "law_borderfloor_k18_whole_borders_turned" 526) none (.ref 312) .none),#[]⟩) ::
 (nat_lit 314,⟨.type "tuple",none,.seq #[] 0,#[]⟩) ::
 (nat_lit 317,⟨.type "code",none,.fields #[.str "law" 617,.str "law" 618,.str "/claim/cut.py" 619,.int 205 0,.int 1 0,.int 0 0,.int 0 0,.int 3 0,.ref 314,.bool true,.int 181 0,.ref 315,.none,.none,.none,.ref 316,.int 620 0,.int 205 0,.str "/claim/cut.py" 621],#[]⟩) ::
 (nat_lit 318,⟨.type "function",none,.func (fnOf "law" "law" (aQ (top 46)) (aN (top 46)) (az (top 46)) .none .none .none (.str "law_borderfloor_k18_whole_borders_turned" 526) none (.ref 317) .none),#[]⟩)::[]
def kA:List Addr:=[2,3,15,17,18,20,21,22,24,25,27,28,29,31,32,34,35,36,43,44,45,46,49,56,57,58,61,68,69,70,73,80,82,83,85,86,87,88,89,92,99,101,102,104,105,106,107,108,111,118,120,121,123,124,125,126,127,130,132,133,135,136,137,140,141,142,143,144,145,146,147,148,150,151,153,154,155,157,158,160,161,162,165,166,167,170,171,172,175,176,177,179,180,182,183,184,186,187,189,190,191,193,194,196,197,198,200,201,203,204,205,207,208,210,211,212,214,215,217,218,219,221,222,224,225,226,228,229,231,232,233,236,237,238,240,241,243,244,245,247,248,250,251,252,254,255,257,258,259,261,262,264,265,266,268,269,271,272,273,275,276,278,279,280,283,284,285,287,288,290,291,292,295,296,297,300,301,302,304,305,307,308,309,312,313,314,317,318]
theorem kE(P:Params):kA=(K0 P).map (·.1):=by kernel_rfl
def vw:Program:={ PySem.Challenge.pw_borderfloor_k18_whole_borders_turned with main:={ (PySem.Challenge.pw_borderfloor_k18_whole_borders_turned).main with body:=[top 1,top 2,top 3,top 5,top 6,top 7,top 8,top 9,top 10,top 11,top 13,top 14,top 16,top 17,top 18,top 19,top 20,top 21,top 22,top 23,top 24,top 26,top 27,top 28,top 29,top 30,top 31,top 32,top 33,top 35,top 36,top 37,top 38,top 39,top 40,top 41,top 42,top 43,top 44,top 45,top 46] } }
def lo:List Str:=["STEPS", "OPPOSITES"]
abbrev xT(s:Shared):Bool:=PySem.W.xlAt vw [] s&&PySem.W.recOk (PySem.W.RowW.records (PySem.W.OpenRow.toRowW (PySem.W.OpenLaw.row PySem.Challenge.rw_borderfloor_k18_whole_borders_turned))) s
theorem ld1:PySem.W.opening PySem.Challenge.pw_borderfloor_k18_whole_borders_turned=PySem.W.plainProg (PySem.Challenge.pw_borderfloor_k18_whole_borders_turned).main.scope.names:=by kernel_rfl
theorem ld3(s:Shared):fenceModules? PySem.Challenge.pw_borderfloor_k18_whole_borders_turned s=some s:=by kernel_rfl
theorem ac6(w:World)(os:OsState):Z7 PySem.Challenge.pw_borderfloor_k18_whole_borders_turned (w.withFollow "special-get-raises" false) os:=by kernel_rfl
theorem adK(w:World)(os:OsState):Z7 PySem.Challenge.pw_borderfloor_k18_whole_borders_turned (w.withFollow "special-get-raises" true) os:=by kernel_rfl
theorem acQ(w:World)(os:OsState):YZ PySem.Challenge.pw_borderfloor_k18_whole_borders_turned (w.withFollow "special-get-raises" false) os:=by kernel_rfl
theorem acb(w:World)(os:OsState):YZ PySem.Challenge.pw_borderfloor_k18_whole_borders_turned (w.withFollow "special-get-raises" true) os:=by kernel_rfl
theorem adg(w:World)(os:OsState):Zx PySem.Challenge.pw_borderfloor_k18_whole_borders_turned (w.withFollow "special-get-raises" false) os:=by kernel_rfl
theorem adt(w:World)(os:OsState):Zx PySem.Challenge.pw_borderfloor_k18_whole_borders_turned (w.withFollow "special-get-raises" true) os:=by kernel_rfl
theorem adf(w:World)(os:OsState):Yy PySem.Challenge.pw_borderfloor_k18_whole_borders_turned (w.withFollow "special-get-raises" false) os:=by kernel_rfl
theorem adl(w:World)(os:OsState):Yy PySem.Challenge.pw_borderfloor_k18_whole_borders_turned (w.withFollow "special-get-raises" true) os:=by kernel_rfl
theorem ady(w:World)(os:OsState):LkA PySem.Challenge.pw_borderfloor_k18_whole_borders_turned (w.withFollow "special-get-raises" false) os:=by kernel_rfl
theorem aci(w:World)(os:OsState):LkA PySem.Challenge.pw_borderfloor_k18_whole_borders_turned (w.withFollow "special-get-raises" true) os:=by kernel_rfl
theorem adJ(w:World)(os:OsState):LkB PySem.Challenge.pw_borderfloor_k18_whole_borders_turned vw lo xT true (w.withFollow "special-get-raises" false) os:=by kernel_rfl
theorem aco(w:World)(os:OsState):LkB PySem.Challenge.pw_borderfloor_k18_whole_borders_turned vw lo xT true (w.withFollow "special-get-raises" true) os:=by kernel_rfl
theorem ad9(w:World)(os:OsState):LkC PySem.Challenge.pw_borderfloor_k18_whole_borders_turned (PySem.W.Hook.obs (PySem.W.kmHook K0 kA kE [293])) (PySem.W.Hook.val (PySem.W.kmHook K0 kA kE [293])) (w.withFollow "special-get-raises" false) os:=by kernel_rfl
theorem acL(w:World)(os:OsState):LkC PySem.Challenge.pw_borderfloor_k18_whole_borders_turned (PySem.W.Hook.obs (PySem.W.kmHook K0 kA kE [293])) (PySem.W.Hook.val (PySem.W.kmHook K0 kA kE [293])) (w.withFollow "special-get-raises" true) os:=by kernel_rfl
theorem ld:PySem.W.LeftO PySem.Challenge.pw_borderfloor_k18_whole_borders_turned vw lo xT (PySem.W.Hook.obs (PySem.W.kmHook K0 kA kE [293])) (PySem.W.Hook.val (PySem.W.kmHook K0 kA kE [293])) 20100 :=
 Oc "special-get-raises" ld1 ld3 (fun b=>by cases b;exact ac6;exact adK) (fun b=>by cases b;exact acQ;exact acb) (fun b=>by cases b;exact adg;exact adt) (fun b=>by cases b;exact adf;exact adl) (fun b=>by cases b;exact ady;exact aci) (fun b=>by cases b;exact adJ;exact aco) (fun b=>by cases b;exact ad9;exact acL)
end Law
namespace L2
open PySem PySem.Spec PyProof.Rows
abbrev Key:=Sum Int Str
def wR:Key->Value->Bool
 |.inl k,v=>Value.isInt k v
 |.inr x,v=>Value.isStrOf x v
def ac8(w:World):Key->Int
 |.inl k=>hashInt k
 |.inr x=>hashStr w x
theorem cC:∀ {k:Key} {v:Value},wR k v=true->(∃i t,k=Sum.inl i/\v=Value.int i t)\/(∃x t,k=Sum.inr x/\v=Value.str x t)
 |.inl i,v,h=>by
  obtain⟨t,e⟩:=Value.isInt_shape (k:=i) (v:=v) h
  exact .inl ⟨i,t,rfl,e⟩
 |.inr x,v,h=>by
  obtain⟨t,e⟩:=Value.isStrOf_shape (x:=x) (v:=v) h
  exact .inr ⟨x,t,rfl,e⟩
theorem Oi(i:Int)(t:Tok):wR (.inl i) (.int i t)=true:=by simp[wR,Value.isInt]
theorem M4(x:Str)(t:Tok):wR (.inr x) (.str x t)=true:=by simp[wR,Value.isStrOf]
theorem Xo(a b:Int):decide ((Sum.inl a:Key)=Sum.inl b)=(a==b):=by
 by_cases e:a=b
 ·subst e;simp
 ·have h:¬(Sum.inl a:Key)=Sum.inl b:=fun q=>e (Sum.inl.inj q)
  rw[decide_eq_false h]
  exact (beq_eq_false_iff_ne.mpr e).symm
theorem Yl(a b:Str):decide ((Sum.inr a:Key)=Sum.inr b)=decide (a=b):=by
 by_cases e:a=b
 ·subst e;simp
 ·have h:¬(Sum.inr a:Key)=Sum.inr b:=fun q=>e (Sum.inr.inj q)
  rw[decide_eq_false h,decide_eq_false e]
theorem X8(a:Int)(b:Str):decide ((Sum.inl a:Key)=Sum.inr b)=false:=decide_eq_false (fun q=>nomatch q)
theorem Yh(a:Str)(b:Int):decide ((Sum.inr a:Key)=Sum.inl b)=false:=decide_eq_false (fun q=>nomatch q)
def bH(prog:Program)(w:World):PySem.KeyKind prog w Key where
 is:=wR
 hash:=ac8 w
 inj:=fun v a b ha hb=>by
  rcases cC ha with ⟨i,t,rfl,rfl⟩ | ⟨x,t,rfl,rfl⟩
  ·rcases cC hb with ⟨j,u,rfl,e⟩ | ⟨y,u,rfl,e⟩
   ·injection e with e1 _;rw[e1]
   ·exact nomatch e
  ·rcases cC hb with ⟨j,u,rfl,e⟩ | ⟨y,u,rfl,e⟩
   ·exact nomatch e
   ·injection e with e1 _;rw[e1]
 byValue:=fun k v h=>by
  rcases cC h with ⟨i,t,rfl,rfl⟩ | ⟨x,t,rfl,rfl⟩ <;> rfl
 pyHash:=fun hv h=>by
  rcases cC hv with ⟨i,t,rfl,rfl⟩ | ⟨x,t,rfl,rfl⟩
  ·exact wpAny_pyHash_int h
  ·exact wpAny_pyHash_str h
 eqBool:=fun hu hv h=>by
  rcases cC hu with ⟨i,t,rfl,rfl⟩ | ⟨x,t,rfl,rfl⟩
  ·rcases cC hv with ⟨j,u,rfl,rfl⟩ | ⟨y,u,rfl,rfl⟩
   ·rw[Xo] at h;exact wpAny_eqBool_int h
   ·rw[X8] at h;exact SeqAt.EqAt.int_str i t y u _ _ _ _ h
  ·rcases cC hv with ⟨j,u,rfl,rfl⟩ | ⟨y,u,rfl,rfl⟩
   ·rw[Yh] at h;exact SeqAt.EqAt.str_int x t j u _ _ _ _ h
   ·rw[Yl] at h;exact wpAny_eqBool_str h
 «strs»:=fun k x t v h=>by
  rcases cC h with ⟨i,u,rfl,e⟩ | ⟨y,u,rfl,e⟩
  ·exact nomatch e
  ·injection e with e1 _
   subst e1
   cases v <;> rfl
theorem Gi(prog:Program)(w:World)(i:Int)(t:Tok):(bH prog w).is (.inl i) (.int i t)=true:=Oi i t
theorem oE(prog:Program)(w:World)(x:Str)(t:Tok):(bH prog w).is (.inr x) (.str x t)=true:=M4 x t
end L2
namespace L2
open PySem PySem.Spec PyProof.Rows
inductive V where
 |non | bl (b:Bool) | int (i:Int) | str (x:Str) | byt (b:Array UInt8) | flt (b:UInt64) | ref (a:Addr) | ty (n:String)
 deriving DecidableEq
def RelV:V->Value->Prop
 |.non,u=>u=Value.none
 |.bl b,u=>u=Value.bool b
 |.int i,u=>∃t,u=Value.int i t
 |.str x,u=>∃t,u=Value.str x t
 |.byt b,u=>∃t,u=Value.bytes b t
 |.flt b,u=>∃t,u=Value.float b t
 |.ref a,u=>u=Value.ref a
 |.ty n,u=>u=Value.type n
abbrev Vals:List V->List Value->Prop:=Paired RelV
theorem Vals.length{xs:List V}{us:List Value}(r:Vals xs us):xs.length=us.length:=Paired.length r
theorem Vals.get:∀ {xs:List V} {us:List Value} {i:Nat} {x:V},Vals xs us->xs[i]?=some x->∃u,us[i]?=some u/\RelV x u
 |_,_,_,_,.nil,e=>by simp at e
 |_,_,0,_,.cons r _,e=>by simp at e;subst e;exact⟨_,rfl,r⟩
 |_,_,i+1,x,.cons _ t,e=>by
  obtain⟨u,h1,h2⟩:=Vals.get (i:=i) (x:=x) t (by simpa using e)
  exact⟨u,by simpa using h1,h2⟩
theorem Vals.append:∀ {xs ys:List V} {us ws:List Value},Vals xs us->Vals ys ws->Vals (xs++ys) (us++ws)
 |_,_,_,_,.nil,s=>s
 |_,_,_,_,.cons r t,s=>.cons r (Vals.append t s)
theorem Vals.take:∀ {xs:List V} {us:List Value} (n:Nat),Vals xs us->Vals (xs.take n) (us.take n)
 |_,_,0,_=>.nil
 |_,_,_+1,.nil=>.nil
 |_,_,n+1,.cons r t=>.cons r (Vals.take n t)
theorem Vals.drop:∀ {xs:List V} {us:List Value} (n:Nat),Vals xs us->Vals (xs.drop n) (us.drop n)
 |_,_,0,r=>r
 |_,_,_+1,.nil=>.nil
 |_,_,n+1,.cons _ t=>Vals.drop n t
def qm:Option V->Option Value->Prop
 |some v,some u=>RelV v u
 |none,none=>True
 |_,_=>False
def KV{κ:Type}:List (κ×V)->List (κ×Value)->Prop:=Paired fun (p:κ×V) (q:κ×Value)=>p.1=q.1/\RelV p.2 q.2
def kV:Key->V
 |.inl i=>.int i
 |.inr x=>.str x
inductive HO where
 |lst (xs:List V)
 |tup (xs:List V)
 |dK (kvs:List (Key×V)) | dT (kvs:List (List Key×V))
 |set (S:Int->Bool) (n:Nat)
 |ins (C dx:Addr) (fs:List (Str×V))
 |own (x:Addr)
 |xd (fs:List (Str×V))
 |met (f x:Addr)
 |rO (lo hi:Int)
 |frz (o:Obj) (u:HO)
 |tbl (ps:Array Value)
 |ext (φ:Heap->Prop)
abbrev Hp:=Addr->Option HO
def upd(H:Hp)(a:Addr)(o:HO):Hp:=fun b=>if b=a then some o else H b
theorem aR{H:Hp}{a:Addr}{o:HO}:upd H a o a=some o:=by unfold upd;rw[if_pos rfl]
theorem aF{H:Hp}{a b:Addr}{o:HO}(h:b≠a):upd H a o b=H b:=by unfold upd;rw[if_neg h]
theorem qF{H:Hp}{a b:Addr}{o u:HO}(h:H a=some o)(h':H b=some u)(d:o≠u):a≠b:=by
 intro e;subst e;rw[h] at h';exact d (Option.some.inj h')
theorem bJ{H:Hp}{a b:Addr}{o:HO}(h:H a=some o)(h':H b=none):a≠b:=by
 intro e;subst e;rw[h] at h';cases h'
def Er(h:Heap)(a:Addr)(items:Array Value):Prop:=∃o,h.get? a=some o/\o.cls=.type "tuple"/\∃n,o.data=.seq items n/\o.dict=none
theorem Er.tup{h:Heap}{a:Addr}{items:Array Value}(x:Er h a items):IsTup h a items:=by
 obtain⟨o,e,c,n,d,_⟩:=x
 exact⟨o,e,c,n,d⟩
theorem Er.lt{h:Heap}{a:Addr}{items:Array Value}(x:Er h a items):a<h.objs.size:=x.tup.lt
theorem Er.new(h:Heap)(items:Array Value):Er (h.push { cls:=.type "tuple",data:=.seq items }) h.objs.size items:=⟨_,Heap.get?_push_size _ rfl,rfl,_,rfl,rfl⟩
section
variable(P:Program)(w:World)
def cP(H:Hp)(h:Heap)(a:Addr):HO->Prop
 |.lst xs=>xs.length<=sizeLine/\∃(its:List Value) (n:Nat),Vals xs its/\h.get? a=some { cls:=.type "list",data:=.seq its.toArray n }
 |.tup xs=>xs.length<=sizeLine/\∃its:List Value,Vals xs its/\Er h a its.toArray
 |.dK kvs=>kvs.length<=sizeLine/\(a==sysModules)=false/\∃vs,KV kvs vs/\h.DictOf (bH P w) a vs
 |.dT kvs=>kvs.length<=sizeLine/\(a==sysModules)=false/\∃xs:List (List Key×Addr×Value),
   Paired (fun (p:List Key×V) (q:List Key×Addr×Value)=>p.1=q.1/\H q.2.1=some (.tup (p.1.map kV))/\RelV p.2 q.2.2) kvs xs /\
   ∃o es ep,h.get? a=some o/\o.ExactDict/\o.data=.dict es ep/\es.toList=xs.map (entryOfKey (tupleKind (bH P w)))/\(xs.map (·.1)).Nodup
 |.set S n=>h.SetOf (intKind P w) a S n
 |.ins C dx fs=>H dx=some (.own a)/\fs.length<=1000/\dx≠a/\h.get? a=some (PySem.W.instObj C dx) /\
   ∃mA,h.Ns1 dx mA/\(∀f,qm (fs.lookup f) (mA f))/\PySem.Within mA (fs.map (·.1))
 |.own _=>∃o,h.get? a=some o
 |.xd fs=>∃mA,h.Ns1 a mA/\∀f,qm (fs.lookup f) (mA f)
 |.rO lo hi=>∃t u v,h.get? a=some { cls:=.type "range",data:=.fields #[.int lo t,.int hi u,.int 1 v] }
 |.frz o u=>h.get? a=some o/\cP H h a u
 |.tbl ps=>h.get? a=some { cls:=.none,data:=.fields ps }
 |.met f x=>h.get? a=some (PySem.W.methodObj (.ref f) (.ref x))
 |.ext φ=>φ h/\(∃o,h.get? a=some o)/\∀h1 h2:Heap,φ h1->(∀o,h1.get? a=some o->h2.get? a=some o)->φ h2
def rK(H:Hp)(h:Heap):Prop:=∀a o,H a=some o->cP P w H h a o
end
section
variable{P:Program}{w:World}{H H':Hp}{h h':Heap}{a:Addr}{o:HO}
theorem cP.lt(x:cP P w H h a o):a<h.objs.size:=by
 cases o with
 |lst xs=>obtain⟨_,_,_,_,e⟩:=x;exact Heap.lt_size e
 |tup xs=>obtain⟨_,_,_,p⟩:=x;exact p.lt
 |dK kvs=>obtain⟨_,_,_,_,o,_,_,e,_⟩:=x;exact Heap.lt_size e
 |dT kvs=>obtain⟨_,_,_,_,o,_,_,e,_⟩:=x;exact Heap.lt_size e
 |set S n=>obtain⟨o,_,_,_,e,_⟩:=x;exact Heap.lt_size e
 |ins C dx fs=>obtain⟨_,_,_,e,_⟩:=x;exact Heap.lt_size e
 |own y=>obtain⟨_,e⟩:=x;exact Heap.lt_size e
 |xd fs=>obtain⟨_,⟨_,_,_,e,_⟩,_⟩:=x;exact Heap.lt_size e
 |rO lo hi=>obtain⟨_,_,_,e⟩:=x;exact Heap.lt_size e
 |frz ob u=>obtain⟨e,_⟩:=x;exact Heap.lt_size e
 |tbl ps=>exact Heap.lt_size (show h.get? a=some _ from x)
 |met f y=>exact Heap.lt_size (show h.get? a=some _ from x)
 |ext φ=>obtain⟨_,⟨_,e⟩,_⟩:=x;exact Heap.lt_size e
theorem Paired.yh{α β:Type}{F G:α->β->Prop}:∀ {l₁:List α} {l₂:List β},Paired F l₁ l₂->(∀a b,F a b->G a b)->Paired G l₁ l₂
 |_,_,.nil,_=>.nil
 |_,_,.cons r t,f=>.cons (f _ _ r) (Paired.yh t f)
theorem cP.stay(x:cP P w H h a o)(k:∀b u,(b=a\/H b=some (.own a))->h.get? b=some u->h'.get? b=some u)
  (ho:∀b,H b=some (.own a)->H' b=some (.own a)) (ht:∀b xs,H b=some (.tup xs)->H' b=some (.tup xs)):cP P w H' h' a o:=by
 induction o with
 |lst xs=>obtain⟨z,its,n,r,e⟩:=x;exact⟨z,its,n,r,k _ _ (.inl rfl) e⟩
 |tup xs=>obtain⟨z,its,r,ob,e,c⟩:=x;exact⟨z,its,r,ob,k _ _ (.inl rfl) e,c⟩
 |dK kvs=>obtain⟨z,y,vs,r,ob,es,ep,e,c⟩:=x;exact⟨z,y,vs,r,ob,es,ep,k _ _ (.inl rfl) e,c⟩
 |dT kvs=>
  obtain⟨z,y,xs,r,ob,es,ep,e,c⟩:=x
  exact⟨z,y,xs,Paired.yh r fun p q z=>⟨z.1,ht _ _ z.2.1,z.2.2⟩,ob,es,ep,k _ _ (.inl rfl) e,c⟩
 |set S n=>obtain⟨ob,es,ep,t,e,c⟩:=x;exact⟨ob,es,ep,t,k _ _ (.inl rfl) e,c⟩
 |ins C dx fs=>
  obtain⟨d,z,ne,e,mA,⟨od,es,ep,e2,c⟩,r⟩:=x
  exact⟨ho _ d,z,ne,k _ _ (.inl rfl) e,mA,⟨od,es,ep,k _ _ (.inr d) e2,c⟩,r⟩
 |own y=>obtain⟨ob,e⟩:=x;exact⟨ob,k _ _ (.inl rfl) e⟩
 |xd fs=>obtain⟨mA,⟨od,es,ep,e,c⟩,r⟩:=x;exact⟨mA,⟨od,es,ep,k _ _ (.inl rfl) e,c⟩,r⟩
 |rO lo hi=>obtain⟨t,u,v,e⟩:=x;exact⟨t,u,v,k _ _ (.inl rfl) e⟩
 |frz ob u ih=>obtain⟨e,q⟩:=x;exact⟨k _ _ (.inl rfl) e,ih q⟩
 |tbl ps=>
  have e:h.get? a=some { cls:=.none,data:=.fields ps }:=x
  show h'.get? a=some { cls:=.none,data:=.fields ps }
  exact k a _ (.inl rfl) e
 |met f y=>
  have e:h.get? a=some (PySem.W.methodObj (.ref f) (.ref y)):=x
  show h'.get? a=some (PySem.W.methodObj (.ref f) (.ref y))
  exact k a _ (.inl rfl) e
 |ext φ=>obtain⟨p,⟨o,e⟩,st⟩:=x;exact⟨st _ _ p fun o q=>k _ _ (.inl rfl) q,⟨o,k _ _ (.inl rfl) e⟩,st⟩
theorem rK.lt(x:rK P w H h)(e:H a=some o):a<h.objs.size:=(x a o e).lt
theorem rK.fresh(x:rK P w H h)(e:h.objs.size<=a):H a=none:=by
 cases q:H a with
 |none=>rfl
 |some u=>exact absurd (Nat.lt_of_lt_of_le (x.lt q) e) (Nat.lt_irrefl _)
theorem rK.kept(x:rK P w H h)(k:∀b u,h.get? b=some u->h'.get? b=some u):rK P w H h':=fun a o e=>
 (x a o e).stay (fun b u _ q=>k b u q) (fun _ q=>q) fun _ _ q=>q
theorem rK.laid(x:rK P w H h)(k:∀b u,h.get? b=some u->h'.get? b=some u)(hp:h.objs.size<=a)(new:cP P w (upd H a o) h' a o):rK P w (upd H a o) h':=fun b u e=>by
 have hn:=x.fresh hp
 by_cases hb:b=a
 ·subst hb;rw[aR] at e;cases e;exact new
 ·rw[aF hb] at e
  exact (x b u e).stay (fun c v _ q=>k c v q) (fun c q=>by rw[aF (bJ q hn)];exact q) fun c xs q=>by rw[aF (bJ q hn)];exact q
end
def Rd(H:Hp)(a:Addr)(u:HO):Prop:=H a=some u\/∃o,H a=some (.frz o u)
theorem Rd.ok{P:Program}{w:World}{H:Hp}{h:Heap}{a:Addr}{u:HO}(r:Rd H a u)(x:rK P w H h):cP P w H h a u:=by
 rcases r with r | ⟨o,r⟩
 ·exact x a u r
 ·obtain⟨_,q⟩:=x a _ r
  exact q
def Mut:Option HO->Prop
 |some (.lst _)=>True
 |some (.dK _)=>True
 |some (.dT _)=>True
 |some (.set _ _)=>True
 |some (.ins _ _ _)=>True
 |some (.ext _)=>True
 |_=>False
section
variable{P:Program}{w:World}{H:Hp}{h h':Heap}{x e:Addr}{o':HO}
theorem rK.write(ok:rK P w H h)(mu:Mut (H x))(he:e=x\/H e=some (.own x))(k:∀b u,b≠e->h.get? b=some u->h'.get? b=some u)(heo:∃u,h'.get? e=some u)
  (new:cP P w (upd H x o') h' x o'):rK P w (upd H x o') h':=fun b u q=>by
 have nown:∀c y,H c=some (.own y)->c≠x:=fun c y r z=>by subst z;rw[r] at mu;exact mu
 have ntup:∀c xs,H c=some (.tup xs)->c≠x:=fun c xs r z=>by subst z;rw[r] at mu;exact mu
 by_cases hb:b=x
 ·subst hb;rw[aR] at q;cases q;exact new
 ·rw[aF hb] at q
  by_cases hbe:b=e
  ·have q':H b=some (.own x):=by
    rcases he with z | z
    ·exact absurd (hbe.trans z) hb
    ·rw[hbe];exact z
   rw[q] at q';cases q'
   obtain⟨v,hv⟩:=heo
   exact⟨v,by rw[hbe];exact hv⟩
  ·refine (ok b u q).stay (fun c v hc r=>k c v ?_ r) (fun c r=>by rw[aF (nown c b r)];exact r) fun c xs r=>by rw[aF (ntup c xs r)];exact r
   rcases hc with rfl | hc
   ·exact hbe
   ·rintro rfl
    rcases he with z | z
    ·exact nown c b hc z
    ·rw[hc] at z;cases z;exact hb rfl
end
structure Un(fs ex:List Addr)(H H':Hp)(h h':Heap):Prop where
 keep:∀b o,h.get? b=some o->H b=none->b∉fs->b∉ex->h'.get? b=some o
 slot:∀b o,h.get? b=some o->H b=none->b∈fs->b∉ex->∃sl,h'.get? b=some { o with slots:=sl }
 free:∀b o,h.get? b=some o->H b=none->b∉ex->H' b=none
 there:∀b o,h.get? b=some o->b∉ex->∃o',h'.get? b=some o'
 tups:∀b xs,H b=some (.tup xs)->H' b=some (.tup xs)
 frzs:∀b o u,H b=some (.frz o u)->H' b=some (.frz o u)
 tbls:∀b ps,H b=some (.tbl ps)->∃more,H' b=some (.tbl (ps++more))
section
variable{fs fs' ex ex':List Addr}{H H1 H2:Hp}{h h1 h2 h':Heap}{a x e:Addr}{o:HO}
theorem Un.any(u:Un fs ex H H1 h h1){b:Addr}{ob:Obj}(q:h.get? b=some ob)(n:H b=none)(hx:b∉ex):∃sl,h1.get? b=some { ob with slots:=sl }:=by
 by_cases hb:b∈fs
 ·exact u.slot b ob q n hb hx
 ·exact⟨ob.slots,u.keep b ob q n hb hx⟩
theorem Un.kept(k:∀b u,h.get? b=some u->h'.get? b=some u):Un fs ex H H h h' :=
 ⟨fun b ob q _ _ _=>k b ob q,fun b ob q _ _ _=>⟨ob.slots,k b ob q⟩,fun _ _ _ n _=>n,fun b ob q _=>⟨ob,k b ob q⟩,fun _ _ q=>q,fun _ _ _ q=>q,fun _ ps q=>⟨#[],by rw[q];simp⟩⟩
theorem Un.refl:Un fs ex H H h h:=Un.kept fun _ _ q=>q
theorem Un.laid(k:∀b u,h.get? b=some u->h'.get? b=some u)(hp:h.objs.size<=a)(hn:H a=none):Un fs ex H (upd H a o) h h' where
 keep:=fun b u q _ _ _=>k b u q
 slot:=fun b u q _ _ _=>⟨u.slots,k b u q⟩
 free:=fun b u q n _=>by rw[aF (Nat.ne_of_lt (Nat.lt_of_lt_of_le (Heap.lt_size q) hp))];exact n
 there:=fun b u q _=>⟨u,k b u q⟩
 tups:=fun b xs q=>by rw[aF (bJ q hn)];exact q
 frzs:=fun b u xs q=>by rw[aF (bJ q hn)];exact q
 tbls:=fun b ps q=>⟨#[],by rw[aF (bJ q hn),q];simp⟩
theorem Un.write(mu:Mut (H x))(he:e=x\/H e=some (.own x))(k:∀b u,b≠e->h.get? b=some u->h'.get? b=some u)(heo:∃u,h'.get? e=some u):Un fs ex H (upd H x o) h h':=by
 have hx:∀b,H b=none->b≠x:=fun b n z=>by subst z;rw[n] at mu;exact mu
 have hb:∀b,H b=none->b≠e:=fun b n z=>by
  subst z
  rcases he with r | r
  ·exact hx b n r
  ·rw[n] at r;cases r
 have hm:∀b u,H b=some u->¬Mut (some u)->b≠x:=fun b u q nm z=>by subst z;rw[q] at mu;exact nm mu
 refine⟨fun b u q n _ _=>k b u (hb b n) q,fun b u q n _ _=>⟨u.slots,k b u (hb b n) q⟩,fun b u q n _=>by rw[aF (hx b n)];exact n,fun b u q _=>?_,
  fun b xs q=>by rw[aF (hm b _ q fun z=>z)];exact q,fun b u xs q=>by rw[aF (hm b _ q fun z=>z)];exact q,fun b ps q=>⟨#[],by rw[aF (hm b _ q fun z=>z),q];simp⟩⟩
 by_cases hbe:b=e
 ·subst hbe;exact heo
 ·exact⟨u,k b u hbe q⟩
end
def trk(h:Heap)(H:Hp):List Addr:=(List.range h.objs.size).filter fun a=>(H a).isSome
def Bx(h:Heap)(H:Hp):Heap:=PySem.W.hideAll h (trk h H)
theorem M6(h:Heap)(H:Hp):(Bx h H).objs.size=h.objs.size:=PySem.W.hideAll_size _ _
theorem Sy{h:Heap}{H:Hp}{b:Addr}{o:Obj}(e:h.get? b=some o)(n:H b=none):(Bx h H).get? b=some o :=
 PySem.W.hideAll_get _ e fun hm=>by
  have q:(H b).isSome=true:=(List.mem_filter.mp hm).2
  rw[n] at q;simp at q
theorem Vd{h:Heap}{H:Hp}{b:Addr}{o:Obj}(e:(Bx h H).get? b=some o):h.get? b=some o/\H b=none:=by
 have e':h.get? b=some o:=PySem.W.of_hideAll (trk h H) e
 refine⟨e',?_⟩
 cases q:H b with
 |none=>rfl
 |some x=>
  have hm:b∈trk h H:=List.mem_filter.mpr ⟨List.mem_range.mpr (Heap.lt_size e'),by simp[q]⟩
  have z:(Bx h H).get? b=none:=PySem.W.hideAll_none (trk h H) hm
  rw[z] at e;cases e
def Vg(g h:Heap)(L:Addr):List (Addr×Obj):=(List.range h.objs.size).filterMap fun a=>if a=L\/(g.get? a).isSome=true then none else (h.get? a).map fun o=>(a,o)
def rest(g h:Heap)(L d:Addr):List (Addr×Obj):=(Vg g h L).filter fun p=>decide (p.1≠d)
end L2
namespace L2
open PySem PySem.Spec PyProof.Rows
structure Mod(K:PySem.W.Frag)(mg:Str->Option Value)(base:Heap):Prop where
 kin:K.In base
 glob:base.Ns mainGlobals mg
 blt:∃mb,base.Ns builtinsNs mb/\∀x:Str,x ≠ "__name__"->mb x=bootBuiltins x
 nolimit:base.NoLimit
structure Cx where
 prog:Program
 w:World
 K:PySem.W.Frag
 mg:Str->Option Value
 base:Heap
 A:Around
 N:List Str
 s₀:Shared
 H₀:Hp
 env:Env
 outer:List Env
 stack:List Env
 ex:List Addr
 fn:Str->Bool
 calm:Bool
 pn:List (Addr×Obj)
 xe:Value->Shared->Prop
def frs(l:List Env):List Addr:=l.filterMap (·.frame)
abbrev Cx.fs(X:Cx):List Addr:=frs X.outer
def Vis(sc:Scope)(x:Str):Prop:=sc.names.lookup x=some .local\/sc.names.lookup x=some .cell\/sc.names.lookup x=some .free
def Loc(sc:Scope)(x:Str):Prop:=sc.names.lookup x=some .local\/sc.names.lookup x=some .cell
def Look(env:Env)(h:Heap)(m:Str->Option Value)(x:Str)(u:Value):Prop :=
 (env.kindOf x=some .local/\m x=some u)\/((env.kindOf x=some .cell\/env.kindOf x=some .free)/\∃c,env.cells.lookup x=some c/\h.IsCell c (some u))
structure Cx.Ok(X:Cx):Prop where
 mod:Mod X.K X.mg X.base
 kind:X.env.scope.kind=.function
 glob:X.env.globals=mainGlobals
 blt:X.env.builtins=builtinsNs
 above:X.s₀.heap.objs.size<=X.env.locals
 inj:∀x y c,X.env.cells.lookup x=some c->X.env.cells.lookup y=some c->x=y
 has:∀x,(X.env.kindOf x=some .cell\/X.env.kindOf x=some .free)->∃c,X.env.cells.lookup x=some c
 cab:∀x c,X.fn x=true->X.env.cells.lookup x=some c->X.s₀.heap.objs.size<=c
 hd:X.calm=true->X.A.handled=none
 frames:X.A.frames=some X.stack
 stk:X.stack=X.outer\/(X.stack=X.env::X.outer/\X.env.frame=some X.env.locals)
 exf:∀b∈X.ex,b≠X.env.locals/\∀x c,X.env.cells.lookup x=some c->c≠b
 bs:∀b o,X.base.get? b=some o->X.s₀.heap.get? b=some o/\X.H₀ b=none
 bsz:X.base.objs.size<=X.s₀.heap.objs.size
 noex:∀b o,X.base.get? b=some o->b∉X.ex
 exfs:∀b∈X.ex,b∉X.fs
 vA:X.s₀.heap.FunFrames X.base X.outer
 frf:∀b∈X.fs,X.H₀ b=none
structure Inv(X:Cx)(pins:List (Addr×Obj))(σ:List (Option V))(H:Hp)(s:Shared):Prop where
 ok:X.Ok
 os:s.os=X.s₀.os
 bare:AllBare s.gens
 base:Un X.fs X.ex X.H₀ H X.s₀.heap s.heap
 loc:∃m,s.heap.Ns X.env.locals m/\∀(i:Nat) (x:Str) (v:V),X.N[i]?=some x->σ[i]?=some (some v)->Vis X.env.scope x->∃u,RelV v u/\Look X.env s.heap m x u
 cell:∀x c,X.env.cells.lookup x=some c->∃v,s.heap.IsCell c v
 free:H X.env.locals=none
 freeC:∀x c,X.env.cells.lookup x=some c->H c=none
 pin:∀p∈X.pn++pins,s.heap.get? p.1=some p.2/\H p.1=none/\p.1≠X.env.locals/\p.1∉X.fs/\∀v,p.2.data≠.cell v
 hok:rK X.prog X.w H s.heap
 len:σ.length=X.N.length
section
variable{X:Cx}{pins:List (Addr×Obj)}{σ:List (Option V)}{H H':Hp}{s:Shared}{h':Heap}
theorem Cx.Ok.ad5(ok:X.Ok){b:Addr}{o:Obj}(e:X.base.get? b=some o):b∉X.fs:=fun hb=>by
 have:=(ok.vA.mem hb).1
 rw[e] at this;cases this
theorem Inv.bs(I:Inv X pins σ H s):∀b o,X.base.get? b=some o->s.heap.get? b=some o/\H b=none:=fun b o e=>
 ⟨I.base.keep b o (I.ok.bs b o e).1 (I.ok.bs b o e).2 (I.ok.ad5 e) (I.ok.noex b o e),I.base.free b o (I.ok.bs b o e).1 (I.ok.bs b o e).2 (I.ok.noex b o e)⟩
theorem Inv.bk(I:Inv X pins σ H s):∀b o,X.base.get? b=some o->s.heap.get? b=some o:=fun b o e=>(I.bs b o e).1
theorem Inv.mod(I:Inv X pins σ H s):Mod X.K X.mg X.base:=I.ok.mod
theorem Inv.uq(I:Inv X pins σ H s):X.K.In s.heap:=I.ok.mod.kin.keeps I.bk
theorem Inv.nolimit(I:Inv X pins σ H s):s.heap.NoLimit:=I.ok.mod.nolimit.keeps I.bk
theorem Inv.lt(I:Inv X pins σ H s):X.env.locals<s.heap.objs.size:=let ⟨_,hn,_⟩:=I.loc;hn.lt
theorem Inv.sz(I:Inv X pins σ H s):X.s₀.heap.objs.size<=s.heap.objs.size:=Nat.le_trans I.ok.above (Nat.le_of_lt I.lt)
theorem Inv.acM(I:Inv X pins σ H s){a:Addr}(h:s.heap.objs.size<=a):a∉X.fs:=fun hb=>by
 obtain⟨_,o,ho,_⟩:=I.ok.vA.mem hb
 exact absurd (Nat.lt_of_lt_of_le (Heap.lt_size ho) (Nat.le_trans I.sz h)) (Nat.lt_irrefl _)
theorem Inv.Zr(I:Inv X pins σ H s):∀x c,X.env.cells.lookup x=some c->c≠X.env.locals:=fun x c e z=>by
 obtain⟨v,o,ho,hd⟩:=I.cell x c e
 obtain⟨m,⟨o',es,ep,ho',hd',_⟩,_⟩:=I.loc
 rw[z,ho'] at ho;cases ho;rw[hd'] at hd;cases hd
theorem Inv.vA(I:Inv X pins σ H s):s.heap.FunFrames X.base X.outer:=by
 have all:∀(l:List Env),(∀b∈frs l,b∈X.fs)->X.s₀.heap.FunFrames X.base l->s.heap.FunFrames X.base l:=by
  intro l
  induction l with
  |nil=>intro _ _;trivial
  |cons env r ih=>
   intro hs hl
   obtain⟨hk,⟨L,o,hf,hn,ho,hd⟩,hr⟩:=hl
   have hL:L∈X.fs:=hs L (by unfold frs;rw[List.filterMap_cons,hf];exact List.mem_cons_self)
   obtain⟨sl,e⟩:=I.base.slot L o ho (I.ok.frf L hL) hL fun z=>I.ok.exfs L z hL
   exact⟨hk,⟨L,_,hf,hn,e,hd⟩,ih (fun b hb=>hs b (by unfold frs;rw[List.filterMap_cons,hf];exact List.mem_cons_of_mem _ hb)) hr⟩
 exact all X.outer (fun _ hb=>hb) I.ok.vA
theorem Inv.stack(I:Inv X pins σ H s):s.heap.FunFrames X.base X.stack:=by
 rcases I.ok.stk with e | ⟨e,hf⟩
 ·rw[e];exact I.vA
 ·rw[e]
  obtain⟨m,hn,_⟩:=I.loc
  refine .cons (by rw[I.ok.kind];decide) hf hn ?_ I.vA
  exact Heap.get?_none_of_le (Nat.le_trans I.ok.bsz I.ok.above)
theorem Inv.xX(I:Inv X pins σ H s):∀b∈frs X.stack,b∈X.env.locals::X.fs:=fun b hb=>by
 rcases I.ok.stk with e | ⟨e,hf⟩
 ·rw[e] at hb;exact List.mem_cons_of_mem _ hb
 ·rw[e] at hb
  unfold frs at hb
  rw[List.filterMap_cons,hf] at hb
  exact hb
theorem Inv.JX(I:Inv X pins σ H s):∀b∈frs X.stack,H b=none:=fun b hb=>by
 rcases List.mem_cons.mp (I.xX b hb) with e | hb
 ·rw[e];exact I.free
 ·obtain⟨_,o,ho,_⟩:=I.ok.vA.mem hb
  exact I.base.free b o ho (I.ok.frf b hb) fun z=>I.ok.exfs b z hb
theorem Inv.step{g':Array GenState}{t':Nat}{d':Drawn}{ch:List Addr}(I:Inv X pins σ H s)
  (hch:∀b∈ch,(b∈X.ex\/X.s₀.heap.objs.size<=b)/\b≠X.env.locals/\(∀x c,X.env.cells.lookup x=some c->c≠b)/\∀p∈X.pn++pins,p.1≠b)
  (keep:∀b o,b≠X.env.locals->b∉X.fs->b∉ch->s.heap.get? b=some o->H b=none->h'.get? b=some o)
  (slot:∀b o,b≠X.env.locals->b∈X.fs->b∉ch->s.heap.get? b=some o->H b=none->∃sl,h'.get? b=some { o with slots:=sl }) (free:∀b o,b∉ch->s.heap.get? b=some o->H b=none->H' b=none)
  (there:∀b o,b∉ch->s.heap.get? b=some o->∃o',h'.get? b=some o')
  (tups:∀b xs,H b=some (.tup xs)->H' b=some (.tup xs)) (frzs:∀b o u,H b=some (.frz o u)->H' b=some (.frz o u)) (tbls:∀b ps,H b=some (.tbl ps)->∃more,H' b=some (.tbl (ps++more)))
  (ns:∀m,s.heap.Ns X.env.locals m->h'.Ns X.env.locals m) (hok:rK X.prog X.w H' h') (hg:AllBare g') :
  Inv X pins σ H' { s with heap:=h',gens:=g',drawn:=d',toks:=t' }:=by
 have neL:∀b o,X.s₀.heap.get? b=some o->b≠X.env.locals:=fun b o e=>Nat.ne_of_lt (Nat.lt_of_lt_of_le (Heap.lt_size e) I.ok.above)
 have neC:∀b o,X.s₀.heap.get? b=some o->b∉X.ex->b∉ch:=fun b o e hx hb=>by
  rcases (hch b hb).1 with z | z
  ·exact hx z
  ·exact absurd (Nat.lt_of_lt_of_le (Heap.lt_size e) z) (Nat.lt_irrefl _)
 have cellK:∀x c,X.env.cells.lookup x=some c->∀v,s.heap.IsCell c v->h'.IsCell c v:=fun x c e v ⟨o,ho,hd⟩=>by
  have nch:c∉ch:=fun z=>(hch c z).2.2.1 x c e rfl
  by_cases hc:c∈X.fs
  ·obtain⟨sl,q⟩:=slot c o (I.Zr x c e) hc nch ho (I.freeC x c e)
   exact⟨_,q,hd⟩
  ·exact⟨o,keep c o (I.Zr x c e) hc nch ho (I.freeC x c e),hd⟩
 refine⟨I.ok,I.os,hg,⟨fun b o e n hb hx=>?_,fun b o e n hb hx=>?_,fun b o e n hx=>?_,fun b o e hx=>?_,fun b xs e=>tups b xs (I.base.tups b xs e),fun b o xs e=>frzs b o xs (I.base.frzs b o xs e),fun b ps e=>?_⟩,?_,fun x c e=>?_,?_,fun x c e=>?_,fun p hp=>?_,hok,I.len⟩
 ·exact keep b o (neL b o e) hb (neC b o e hx) (I.base.keep b o e n hb hx) (I.base.free b o e n hx)
 ·obtain⟨sl,e1⟩:=I.base.slot b o e n hb hx
  obtain⟨sl',e2⟩:=slot b _ (neL b o e) hb (neC b o e hx) e1 (I.base.free b o e n hx)
  exact⟨sl',e2⟩
 ·obtain⟨o',e1⟩:=I.base.there b o e hx
  exact free b o' (neC b o e hx) e1 (I.base.free b o e n hx)
 ·obtain⟨o',e1⟩:=I.base.there b o e hx
  exact there b o' (neC b o e hx) e1
 ·obtain⟨m1,e1⟩:=I.base.tbls b ps e
  obtain⟨m2,e2⟩:=tbls b _ e1
  exact⟨m1++m2,by rw[e2,Array.append_assoc]⟩
 ·obtain⟨m,hn,hl⟩:=I.loc
  refine⟨m,ns m hn,fun i x v e1 e2 e3=>?_⟩
  obtain⟨u,r,l⟩:=hl i x v e1 e2 e3
  refine⟨u,r,?_⟩
  rcases l with l | ⟨k,c,e,z⟩
  ·exact .inl l
  ·exact .inr ⟨k,c,e,cellK x c e _ z⟩
 ·obtain⟨v,z⟩:=I.cell x c e
  exact⟨v,cellK x c e v z⟩
 ·obtain⟨m,⟨o,_,_,ho,_⟩,_⟩:=I.loc
  exact free _ o (fun z=>(hch _ z).2.1 rfl) ho I.free
 ·obtain⟨v,o,ho,hd⟩:=I.cell x c e
  exact free c o (fun z=>(hch c z).2.2.1 x c e rfl) ho (I.freeC x c e)
 ·obtain⟨e,n,ne,nf,d⟩:=I.pin p hp
  have nch:p.1∉ch:=fun z=>(hch p.1 z).2.2.2 p hp rfl
  exact⟨keep p.1 p.2 ne nf nch e n,free p.1 p.2 nch e n,ne,nf,d⟩
theorem Inv.un{t':Nat}(I:Inv X pins σ H s)(u:Un X.fs [] H H' s.heap h')(hok:rK X.prog X.w H' h'):Inv X pins σ H' { s with heap:=h',toks:=t' }:=by
 obtain⟨m,⟨o,es,ep,ho,r⟩,_⟩:=id I.loc
 obtain⟨sl,hL⟩:=u.any ho I.free (by simp)
 exact I.step (g':=s.gens) (d':=s.drawn) (ch:=[]) (fun _ z=>nomatch z) (fun b o _ hb _ e n=>u.keep b o e n hb (by simp)) (fun b o _ hb _ e n=>u.slot b o e n hb (by simp)) (fun b o _ e n=>u.free b o e n (by simp)) (fun b o _ e=>u.there b o e (by simp)) u.tups u.frzs u.tbls (fun m' hm=>by
  obtain⟨o',es',ep',ho',r'⟩:=hm
  rw[ho] at ho';cases ho'
  exact⟨_,es',ep',hL,r'⟩) hok I.bare
theorem Inv.call{g':Array GenState}{t':Nat}{d':Drawn}{ch:List Addr}(I:Inv X pins σ H s)(u:Un (frs X.stack) ch H H' s.heap h')(hok:rK X.prog X.w H' h')(hg:AllBare g')
  (hch:∀b∈ch,(b∈X.ex\/X.s₀.heap.objs.size<=b)/\b≠X.env.locals/\(∀x c,X.env.cells.lookup x=some c->c≠b)/\∀p∈X.pn++pins,p.1≠b) :
  Inv X pins σ H' { s with heap:=h',gens:=g',drawn:=d',toks:=t' }:=by
 obtain⟨m,⟨o,es,ep,ho,r⟩,_⟩:=id I.loc
 obtain⟨sl,hL⟩:=u.any ho I.free fun z=>(hch _ z).2.1 rfl
 exact I.step (ch:=ch) hch (fun b o hL hb hc e n=>u.keep b o e n (fun z=>(List.mem_cons.mp (I.xX b z)).elim hL hb) hc) (fun b o _ _ hc e n=>u.any e n hc) (fun b o hc e n=>u.free b o e n hc) (fun b o hc e=>u.there b o e hc) u.tups u.frzs u.tbls (fun m' hm=>by
  obtain⟨o',es',ep',ho',r'⟩:=hm
  rw[ho] at ho';cases ho'
  exact⟨_,es',ep',hL,r'⟩) hok hg
theorem Inv.turned{t':Nat}{it:Addr}(I:Inv X pins σ H s)(k:∀b o,b≠it->s.heap.get? b=some o->h'.get? b=some o)(hn:H it=none)(hL:it≠X.env.locals)
  (h1:it∈X.ex\/X.s₀.heap.objs.size<=it) (h2:∀x c,X.env.cells.lookup x=some c->c≠it) (h3:∀p∈X.pn++pins,p.1≠it):Inv X pins σ H { s with heap:=h',toks:=t' }:=by
 have nit:∀b u,H b=some u->b≠it:=fun b u e z=>by rw[z,hn] at e;cases e
 refine I.step (g':=s.gens) (d':=s.drawn) (ch:=[it]) (fun b hb=>?_) (fun b o _ _ hc e _=>k b o (fun z=>hc (by simp[z])) e) (fun b o _ _ hc e _=>⟨o.slots,k b o (fun z=>hc (by simp[z])) e⟩) (fun _ _ _ _ n=>n)
  (fun b o hc e=>⟨o,k b o (fun z=>hc (by simp[z])) e⟩) (fun _ _ e=>e) (fun _ _ _ e=>e) (fun b ps e=>⟨#[],by rw[e];simp⟩) (fun m hm=>?_) (fun b u e=>?_) I.bare
 ·have e:b=it:=by simpa using hb
  subst e
  exact⟨h1,hL,h2,h3⟩
 ·obtain⟨o,es,ep,ho,r⟩:=hm
  exact⟨o,es,ep,k _ o (Ne.symm hL) ho,r⟩
 ·refine (I.hok b u e).stay (fun c v hc q=>k c v ?_ q) (fun _ q=>q) fun _ _ q=>q
  rcases hc with z | z
  ·rw[z];exact nit b u e
  ·exact nit c _ z
theorem Inv.tok(I:Inv X pins σ H s)(t:Nat):Inv X pins σ H { s with toks:=t }:=I.un (h':=s.heap) (t':=t) Un.refl I.hok
theorem Inv.kept{t':Nat}(I:Inv X pins σ H s)(k:∀b u,s.heap.get? b=some u->h'.get? b=some u):Inv X pins σ H { s with heap:=h',toks:=t' }:=I.un (Un.kept k) (I.hok.kept k)
theorem Inv.laid{a:Addr}{o:HO}{t':Nat}(I:Inv X pins σ H s)(k:∀b u,s.heap.get? b=some u->h'.get? b=some u)(hp:s.heap.objs.size<=a)(new:cP X.prog X.w (upd H a o) h' a o) :
  Inv X pins σ (upd H a o) { s with heap:=h',toks:=t' }:=I.un (Un.laid k hp (I.hok.fresh hp)) (I.hok.laid k hp new)
theorem Inv.write{x e:Addr}{o:HO}{t':Nat}(I:Inv X pins σ H s)(mu:Mut (H x))(he:e=x\/H e=some (.own x))(k:∀b u,b≠e->s.heap.get? b=some u->h'.get? b=some u)(heo:∃u,h'.get? e=some u)
  (new:cP X.prog X.w (upd H x o) h' x o):Inv X pins σ (upd H x o) { s with heap:=h',toks:=t' }:=I.un (Un.write mu he k heo) (I.hok.write mu he k heo new)
theorem Inv.weak{σ':List (Option V)}(I:Inv X pins σ H s)(hl:σ'.length=σ.length)(w:∀(i:Nat) v,σ'[i]?=some (some v)->σ[i]?=some (some v)):Inv X pins σ' H s :=
 ⟨I.ok,I.os,I.bare,I.base,let ⟨m,hn,hl'⟩:=I.loc;⟨m,hn,fun i x v e1 e2 e3=>hl' i x v e1 (w i v e2) e3⟩,I.cell,I.free,I.freeC,I.pin,I.hok,hl.trans I.len⟩
theorem Inv.pP{pins':List (Addr×Obj)}(I:Inv X pins σ H s)(h:∀p∈pins',s.heap.get? p.1=some p.2/\H p.1=none/\p.1≠X.env.locals/\p.1∉X.fs/\∀v,p.2.data≠.cell v):Inv X pins' σ H s :=
 ⟨I.ok,I.os,I.bare,I.base,I.loc,I.cell,I.free,I.freeC,fun p hp=>(List.mem_append.mp hp).elim (fun z=>I.pin p (List.mem_append_left _ z)) (h p),I.hok,I.len⟩
theorem FN{N:List Str}(hN:N.Nodup){i j:Nat}{x:Str}(a:N[i]?=some x)(b:N[j]?=some x):i=j:=by
 obtain⟨h1,e1⟩:=List.getElem?_eq_some_iff.mp a
 obtain⟨h2,e2⟩:=List.getElem?_eq_some_iff.mp b
 exact (List.getElem_inj hN).mp (e1.trans e2.symm)
theorem zQ{M:Model}{A:Around}{E:Value->Shared->Prop}{i:Nat}{x:Str}{v:V}{u:Value}{Q:Unit->Shared->Prop}(I:Inv X pins σ H s)(hN:X.N.Nodup)(hi:X.N[i]?=some x)(hx:Loc X.env.scope x)(r:RelV v u)
  (h:∀s',Inv X pins (σ.set i (some v)) H s'->(∃a,Heap.SameBut a s.heap s'.heap/\(a=X.env.locals\/X.env.cells.lookup x=some a))->Q () s') (hf:X.fn x=true\/X.env.scope.names.lookup x=some .local:=by first | exact .inl rfl | exact .inr rfl | assumption):wpAny M A (storeName X.env x u) Q E s:=by
 obtain⟨m,hn,hl⟩:=id I.loc
 have hcls:(X.env.scope.kind == .class||(X.env.scope.kind == .module&&X.env.locals != X.env.globals))=false:=by rw[I.ok.kind];rfl
 have hiσ:i<σ.length:=by rw[I.len];exact (List.getElem?_eq_some_iff.mp hi).1
 have Zr:=I.Zr
 have tracked:∀ {a:Addr} {h':Heap},(∃o,s.heap.get? a=some o/\H a=none)->Heap.SameBut a s.heap h'->rK X.prog X.w H h':=fun {a h'} ha hs b ob e=>by
  obtain⟨_,_,hfree⟩:=ha
  refine (I.hok b ob e).stay (fun c w' hc q=>(hs.2 c ?_).trans q) (fun _ q=>q) fun _ _ q=>q
  rintro rfl
  rcases hc with rfl | hc
  ·rw[hfree] at e;cases e
  ·rw[hfree] at hc;cases hc
 rcases hx with hk | hk
 ·refine wpAny_storeName_local hk hn (fun h' hn' hs=>?_) hcls
  obtain⟨oL,_,_,hoL,_⟩:=id hn
  refine h _ ⟨I.ok,I.os,I.bare,⟨fun b o e n hb hx=>?_,fun b o e n hb hx=>?_,I.base.free,fun b o e hx=>?_,I.base.tups,I.base.frzs,I.base.tbls⟩,⟨_,hn',fun j y v' e1 e2 e3=>?_⟩,fun y c e=>?_,I.free,I.freeC,fun p hp=>?_,tracked ⟨oL,hoL,I.free⟩ hs,by simpa using I.len⟩ ⟨_,hs,.inl rfl⟩
  ·exact (hs.2 b (Nat.ne_of_lt (Nat.lt_of_lt_of_le (Heap.lt_size e) I.ok.above))).trans (I.base.keep b o e n hb hx)
  ·obtain⟨sl,e1⟩:=I.base.slot b o e n hb hx
   exact⟨sl,(hs.2 b (Nat.ne_of_lt (Nat.lt_of_lt_of_le (Heap.lt_size e) I.ok.above))).trans e1⟩
  ·obtain⟨o',e1⟩:=I.base.there b o e hx
   exact⟨o',(hs.2 b (Nat.ne_of_lt (Nat.lt_of_lt_of_le (Heap.lt_size e) I.ok.above))).trans e1⟩
  ·by_cases hj:j=i
   ·subst hj
    rw[hi] at e1;cases e1
    rw[List.getElem?_set_self hiσ] at e2
    cases e2
    exact⟨u,r,.inl ⟨hk,by simp⟩⟩
   ·rw[List.getElem?_set_ne (Ne.symm hj)] at e2
    obtain⟨u',r',q⟩:=hl j y v' e1 e2 e3
    refine⟨u',r',?_⟩
    rcases q with ⟨k,e⟩ | ⟨k,c,e,z⟩
    ·refine .inl ⟨k,?_⟩
     have:y≠x:=fun e=>hj (FN hN e1 (e▸hi))
     simp[this,e]
    ·exact .inr ⟨k,c,e,z.sameBut hs (Zr y c e)⟩
  ·obtain⟨w',z⟩:=I.cell y c e
   exact⟨w',z.sameBut hs (Zr y c e)⟩
  ·obtain⟨e,n,ne,nf,d⟩:=I.pin p hp
   exact⟨(hs.2 p.1 ne).trans e,n,ne,nf,d⟩
 ·have hfn:X.fn x=true:=by
   rcases hf with z | z
   ·exact z
   ·rw[z] at hk;cases hk
  obtain⟨c,hc⟩:=I.ok.has x (.inl hk)
  obtain⟨w',z⟩:=I.cell x c hc
  refine wpAny_storeName_cell I.ok.kind hk hc z (fun h' hc' hs=>?_)
  obtain⟨oc,hoc,hocd⟩:=id z
  refine h { s with heap:=h' } ⟨I.ok,I.os,I.bare,⟨fun b o e n hb hx=>?_,fun b o e n hb hx=>?_,I.base.free,fun b o e hx=>?_,I.base.tups,I.base.frzs,I.base.tbls⟩,⟨m,hn.sameBut hs (Ne.symm (Zr x c hc)),fun j y v' e1 e2 e3=>?_⟩,fun y c' e=>?_,I.free,I.freeC,fun p hp=>?_,tracked ⟨oc,hoc,I.freeC x c hc⟩ hs,by simpa using I.len⟩ ⟨c,hs,.inr hc⟩
  ·exact (hs.2 b (Nat.ne_of_lt (Nat.lt_of_lt_of_le (Heap.lt_size e) (I.ok.cab x c hfn hc)))).trans (I.base.keep b o e n hb hx)
  ·obtain⟨sl,e1⟩:=I.base.slot b o e n hb hx
   exact⟨sl,(hs.2 b (Nat.ne_of_lt (Nat.lt_of_lt_of_le (Heap.lt_size e) (I.ok.cab x c hfn hc)))).trans e1⟩
  ·obtain⟨o',e1⟩:=I.base.there b o e hx
   exact⟨o',(hs.2 b (Nat.ne_of_lt (Nat.lt_of_lt_of_le (Heap.lt_size e) (I.ok.cab x c hfn hc)))).trans e1⟩
  ·by_cases hj:j=i
   ·subst hj
    rw[hi] at e1;cases e1
    rw[List.getElem?_set_self hiσ] at e2
    cases e2
    exact⟨u,r,.inr ⟨.inl hk,c,hc,hc'⟩⟩
   ·rw[List.getElem?_set_ne (Ne.symm hj)] at e2
    obtain⟨u',r',q⟩:=hl j y v' e1 e2 e3
    refine⟨u',r',?_⟩
    rcases q with q | ⟨k,c',e,z'⟩
    ·exact .inl q
    ·refine .inr ⟨k,c',e,z'.sameBut hs ?_⟩
     rintro rfl
     exact hj (FN hN e1 (I.ok.inj _ _ _ e hc▸hi))
  ·by_cases hcc:c'=c
   ·subst hcc;exact⟨_,hc'⟩
   ·obtain⟨w2,z2⟩:=I.cell y c' e
    exact⟨w2,z2.sameBut hs hcc⟩
  ·obtain⟨e,n,ne,nf,d⟩:=I.pin p hp
   refine⟨(hs.2 p.1 ?_).trans e,n,ne,nf,d⟩
   intro q
   rw[q,hoc] at e
   have q':oc=p.2:=Option.some.inj e
   exact d w' (by rw[←q'];exact hocd)
theorem yI{M:Model}{A:Around}{E:Value->Shared->Prop}{i:Nat}{x:Str}{v:V}{u:Value}{Q:Unit->Shared->Prop}(I:Inv X pins σ H s)(hN:X.N.Nodup)(hi:X.N[i]?=some x)(hx:Loc X.env.scope x)(r:RelV v u)
  (h:∀s',Inv X pins (σ.set i (some v)) H s'->Q () s') (hf:X.fn x=true\/X.env.scope.names.lookup x=some .local:=by first | exact .inl rfl | exact .inr rfl | assumption):wpAny M A (storeName X.env x u) Q E s :=
 zQ I hN hi hx r (fun s' I' _=>h s' I') hf
theorem Inv.call'{s':Shared}{ch:List Addr}(I:Inv X pins σ H s)(ho:s'.os=s.os)(u:Un (frs X.stack) ch H H' s.heap s'.heap)(hok:rK X.prog X.w H' s'.heap)(hg:AllBare s'.gens)
  (hch:∀b∈ch,(b∈X.ex\/X.s₀.heap.objs.size<=b)/\b≠X.env.locals/\(∀x c,X.env.cells.lookup x=some c->c≠b)/\∀p∈X.pn++pins,p.1≠b):Inv X pins σ H' s':=by
 obtain⟨h',g',d',t',o'⟩:=s'
 have e:o'=s.os:=ho
 subst e
 exact I.call (g':=g') (t':=t') (d':=d') u hok hg hch
end
abbrev XK:=Value->Option Addr->Hp->Prop
abbrev St:=List (Option V)
abbrev VK:=V->Hp->Prop
abbrev TE:=St->Hp->VK->Prop
abbrev TT:=St->Hp->(Bool->Hp->Prop)->Prop
abbrev TA:=St->Hp->(List V->Hp->Prop)->Prop
structure Ends where
 nx:St->Hp->Prop
 rt:VK
 bk:St->Hp->Prop:=fun _ _=>False
 ct:St->Hp->Prop:=fun _ _=>False
abbrev TS:=Ends->St->Hp->Prop
def EP(X:Cx)(pins:List (Addr×Obj))(σ:St)(Q:VK)(u:Value)(s':Shared):Prop:=∃v H',Inv X pins σ H' s'/\RelV v u/\Q v H'
def TP(X:Cx)(pins:List (Addr×Obj))(σ:St)(Q:Bool->Hp->Prop)(b:Bool)(s':Shared):Prop:=∃H',Inv X pins σ H' s'/\Q b H'
def AP(X:Cx)(pins:List (Addr×Obj))(σ:St)(Q:List V->Hp->Prop)(us:List Value)(s':Shared):Prop:=∃vs H',Inv X pins σ H' s'/\Vals vs us/\Q vs H'
def SP(X:Cx)(pins:List (Addr×Obj))(D:Ends)(f:Flow)(s':Shared):Prop :=
 match f with
 |.next=>∃σ' H',Inv X pins σ' H' s'/\D.nx σ' H'
 |.brk=>∃σ' H',Inv X pins σ' H' s'/\D.bk σ' H'
 |.cont=>∃σ' H',Inv X pins σ' H' s'/\D.ct σ' H'
 |.ret u=>∃v σ' H',Inv X pins σ' H' s'/\RelV v u/\D.rt v H'
def PE(X:Cx)(e:Expr)(t:TE):Prop :=
 ∀(pins:List (Addr×Obj)) (s:Shared) (σ:St) (H:Hp) (Q:VK),Inv X pins σ H s->t σ H Q->wpAny (model X.prog X.w) X.A (eval e X.env) (EP X pins σ Q) X.xe s
def PT(X:Cx)(e:Expr)(t:TT):Prop :=
 ∀(pins:List (Addr×Obj)) (s:Shared) (σ:St) (H:Hp) (Q:Bool->Hp->Prop),Inv X pins σ H s->t σ H Q->wpAny (model X.prog X.w) X.A (isTrue e X.env (eval e X.env)) (TP X pins σ Q) X.xe s
def PW(X:Cx)(e:Expr)(t:TT):Prop :=
 ∀(whole:Sem Value) (pins:List (Addr×Obj)) (s:Shared) (σ:St) (H:Hp) (Q:Bool->Hp->Prop),Inv X pins σ H s->t σ H Q->wpAny (model X.prog X.w) X.A (isTrue e X.env whole) (TP X pins σ Q) X.xe s
theorem PW.pt{X:Cx}{e:Expr}{t:TT}(h:PW X e t):PT X e t:=h _
def PA(X:Cx)(es:List Expr)(t:TA):Prop :=
 ∀(pos:Pos) (pins:List (Addr×Obj)) (s:Shared) (σ:St) (H:Hp) (Q:List V->Hp->Prop),Inv X pins σ H s->t σ H Q->wpAny (model X.prog X.w) X.A (spliced (backTo pos (starEach es X.env))) (AP X pins σ Q) X.xe s
def PS(X:Cx)(st:Stmt)(t:TS):Prop :=
 ∀(pins:List (Addr×Obj)) (s:Shared) (σ:St) (H:Hp) (D:Ends),Inv X pins σ H s->t D σ H->wpAny (model X.prog X.w) X.A (exec st X.env) (SP X pins D) X.xe s
def Ea(X:Cx)(st:List Stmt)(t:TS):Prop :=
 ∀(pins:List (Addr×Obj)) (s:Shared) (σ:St) (H:Hp) (D:Ends),Inv X pins σ H s->t D σ H->wpAny (model X.prog X.w) X.A (execs st X.env) (SP X pins D) X.xe s
theorem cQ{α:Type}{t:Sem α}{Q Q':α->Shared->Prop}{M:Model}{A:Around}{E:Value->Shared->Prop}{s:Shared}(h:wpAny M A t Q E s)(hQ:∀a s,Q a s->Q' a s):wpAny M A t Q' E s:=wpAny_mono h hQ fun _ _ x=>x
end L2
namespace L2
open PySem PySem.Spec PyProof.Rows
section
variable{X:Cx}
def aar(i:Nat):TE:=fun σ H Q=>∃v,σ[i]?=some (some v)/\Q v H
def tC(v:V):TE:=fun _ H Q=>Q v H
theorem Z1{i:Nat}{x:Str}{pos:Pos}(hN:X.N[i]?=some x)(hv:Vis X.env.scope x)(hd:(x==("__debug__" : Str))=false:=by decide)(hcd:(x==("__classdict__" : Str))=false:=by decide):PE X (.Name x pos) (aar i):=by
 intro pins s σ H Q I h
 obtain⟨v,e,h⟩:=h
 obtain⟨m,hn,hl⟩:=I.loc
 obtain⟨u,r,l⟩:=hl i x v hN e hv
 have fin:EP X pins σ Q u s:=⟨v,H,I,r,h⟩
 rcases l with ⟨hk,hm⟩ | ⟨hk,c,hc,hcell⟩
 ·exact wpAny_Name (wpAny_loadName_local I.ok.kind hk hn hm fin) hd
 ·rcases hk with hk | hk
  ·exact wpAny_Name (wpAny_loadName_cell I.ok.kind hk hc hcell fin) hd
  ·exact wpAny_Name (wpAny_loadName_free I.ok.kind hk hc hcell fin hcd) hd
theorem Zk{i j pos}:PE X (.Constant (.int i) j pos) (tC (.int i)):=fun _ _ _ H _ I h=>wpAny_Constant_int ⟨.int i,H,I.tok _,⟨_,rfl⟩,h⟩
theorem abx{b j pos}:PE X (.Constant (.bool b) j pos) (tC (.bl b)):=fun _ _ _ H _ I h=>Constant_bool ⟨.bl b,H,I,rfl,h⟩
theorem Zv{x j pos}:PE X (.Constant (.str x) j pos) (tC (.str x)):=fun _ _ _ H _ I h=>Calls.Constant_str ⟨.str x,H,I.tok _,⟨_,rfl⟩,h⟩
def Gl(X:Cx)(x:Str):Prop:=X.env.kindOf x=some .globalImplicit
theorem sZ{E:Value->Shared->Prop}{pins:List (Addr×Obj)}{s:Shared}{σ:St}{H:Hp}{x:Str}{u:Value}{pos:Pos}{Q:Value->Shared->Prop}(I:Inv X pins σ H s)(hg:Gl X x)(hm:X.mg x=some u)(h:Q u s)
  (hd:(x==("__debug__" : Str))=false:=by decide):wpAny (model X.prog X.w) X.A (eval (.Name x pos) X.env) Q E s :=
 Calls.Name_function_global I.ok.kind hg (Calls.loadGlobal_global (by rw[I.ok.glob];exact I.mod.glob.keeps I.bk) hm h) hd
theorem jd{E:Value->Shared->Prop}{pins:List (Addr×Obj)}{s:Shared}{σ:St}{H:Hp}{x:Str}{u:Value}{pos:Pos}{Q:Value->Shared->Prop}(I:Inv X pins σ H s)(hg:Gl X x)(hm:X.mg x=none)(hv:bootBuiltins x=some u)(h:Q u s)
  (hn:x ≠ "__name__":=by decide) (hd:(x==("__debug__" : Str))=false:=by decide):wpAny (model X.prog X.w) X.A (eval (.Name x pos) X.env) Q E s:=by
 obtain⟨mb,h1,h2⟩:=I.mod.blt
 exact Calls.Name_function_global I.ok.kind hg (Calls.loadGlobal_builtin (by rw[I.ok.glob];exact I.mod.glob.keeps I.bk) hm (by rw[I.ok.blt];exact h1.keeps I.bk) ((h2 x hn).trans hv) h) hd
theorem Lj{x:Str}{v:V}{u:Value}{pos:Pos}(hg:Gl X x)(hm:X.mg x=some u)(r:RelV v u)(hd:(x==("__debug__" : Str))=false:=by decide):PE X (.Name x pos) (tC v) :=
 fun _ _ _ H _ I h=>sZ I hg hm ⟨v,H,I,r,h⟩ hd
theorem Uj{x:Str}{v:V}{u:Value}{pos:Pos}(hg:Gl X x)(hm:X.mg x=none)(hv:bootBuiltins x=some u)(r:RelV v u)(hn:x ≠ "__name__":=by decide)(hd:(x==("__debug__" : Str))=false:=by decide):PE X (.Name x pos) (tC v) :=
 fun _ _ _ H _ I h=>jd I hg hm hv ⟨v,H,I,r,h⟩ hn hd
variable{a b:Expr}{ta tb:TE}{pos:Pos}
def PC(X:Cx)(op:CmpOp)(a b:Expr)(t:TE):Prop :=
 ∀(pins:List (Addr×Obj)) (s:Shared) (σ:St) (H:Hp) (Q:VK),Inv X pins σ H s->t σ H Q ->
  wpAny (model X.prog X.w) X.A (eval a X.env) (fun v s₁=>wpAny (model X.prog X.w) X.A (eval b X.env) (fun u s₂=>wpAny (model X.prog X.w) X.A (compareOp op v u) (EP X pins σ Q) X.xe s₂) X.xe s₁) X.xe s
theorem Rf(b:Expr){op:CmpOp}(h:op≠.In)(h2:op≠.NotIn):behindInMarks op b=false:=by
 have e1:(op==CmpOp.In)=false:=by cases op <;> first | rfl | exact absurd rfl h
 have e2:(op==CmpOp.NotIn)=false:=by cases op <;> first | rfl | exact absurd rfl h2
 cases b <;> simp[behindInMarks,e1,e2]
def tB(t:TE):TT:=fun σ H Q=>t σ H fun x H1=>∃c,x=.bl c/\Q c H1
theorem Zu{op:CmpOp}{t:TE}(h:PC X op a b t)(h1:behindInMarks op b=false:=by first | exact Rf _ (by decide) (by decide) | rfl):PT X (.Compare a [op] [b] pos) (tB t):=by
 intro pins s σ H Q I hw
 refine wpAny_isTrue_Compare1 (cQ (h pins s σ H _ I hw) fun v s1 h1=>cQ h1 fun u s2 h2=>cQ h2 fun c s3 zz=>?_) h1
 obtain⟨x,H1,I1,r1,q1⟩:=zz
 obtain⟨d,rfl,q⟩:=q1
 cases r1
 exact wpAny_truthy_bool ⟨H1,I1,q⟩
theorem YK{e:Expr}{t:TE}(h:PE X e t)(he:∀whole,isTrue e X.env whole=(do let v ←whole;standAt e.pos;holding [v] (truthy v)):=by intro _;rfl):PT X e (tB t):=by
 intro pins s σ H Q I hw
 refine isTrue_plain (cQ (h pins s σ H _ I hw) fun v s1 zz=>?_) (he _)
 obtain⟨x,H1,I1,r1,q1⟩:=zz
 obtain⟨d,rfl,q⟩:=q1
 cases r1
 exact wpAny_truthy_bool ⟨H1,I1,q⟩
variable{tA tB':TT}{rest:List Expr}
def ada(t u:TT):TT:=fun σ H Q=>t σ H fun c H1=>if c=true then u σ H1 Q else Q false H1
def tOr(t u:TT):TT:=fun σ H Q=>t σ H fun c H1=>if c=true then Q true H1 else u σ H1 Q
def acs(t:TT):TT:=fun σ H Q=>t σ H fun c H1=>Q (!c) H1
theorem Va(ha:PT X a tA):PW X (.BoolOp .And [a] pos) tA:=by
 intro wh pins s σ H Q I h
 refine isTrue_and (cQ (ha pins s σ H Q I h) fun c s1 e=>?_)
 cases c with
 |true=>exact isTrue_and_nil e
 |false=>exact e
theorem X5(ha:PT X a tA):PW X (.BoolOp .Or [a] pos) tA:=by
 intro wh pins s σ H Q I h
 refine isTrue_or (cQ (ha pins s σ H Q I h) fun c s1 e=>?_)
 cases c with
 |false=>exact isTrue_or_nil e
 |true=>exact e
theorem aac(ha:PT X a tA)(hb:PW X (.BoolOp .And (b::rest) pos) tB'):PW X (.BoolOp .And (a::b::rest) pos) (ada tA tB'):=by
 intro wh pins s σ H Q I h
 refine isTrue_and (cQ (ha pins s σ H _ I h) fun c s1 zz=>?_)
 obtain⟨H1,I1,q1⟩:=zz
 cases c with
 |true=>exact hb wh pins s1 σ H1 Q I1 q1
 |false=>exact⟨H1,I1,q1⟩
theorem aay(ha:PT X a tA)(hb:PW X (.BoolOp .Or (b::rest) pos) tB'):PW X (.BoolOp .Or (a::b::rest) pos) (tOr tA tB'):=by
 intro wh pins s σ H Q I h
 refine isTrue_or (cQ (ha pins s σ H _ I h) fun c s1 zz=>?_)
 obtain⟨H1,I1,q1⟩:=zz
 cases c with
 |true=>exact⟨H1,I1,q1⟩
 |false=>exact hb wh pins s1 σ H1 Q I1 q1
theorem Yq(ha:PT X a tA):PT X (.UnaryOp .Not a pos) (acs tA):=by
 intro pins s σ H Q I h
 exact isTrue_not (ha pins s σ H (fun c H1=>Q (!c) H1) I h)
def abr(ta tb:TE):TE:=fun σ H Q=>ta σ H fun x H1=>∃c,x=.bl c/\if c=true then tb σ H1 Q else Q (.bl false) H1
def aa4(ta:TE):TE:=fun σ H Q=>ta σ H fun x H1=>∃c,x=.bl c/\Q (.bl (!c)) H1
theorem Xn{op}{t:TE}(h:PE X a t):PE X (.BoolOp op [a] pos) t:=fun pins s σ H Q I hw=>BoolOp_one (h pins s σ H Q I hw)
theorem Zj(ha:PE X a ta)(hb:PE X (.BoolOp .And (b::rest) pos) tb):PE X (.BoolOp .And (a::b::rest) pos) (abr ta tb):=by
 intro pins s σ H Q I h
 refine BoolOp_and (cQ (ha pins s σ H _ I h) fun v s1 zz=>?_)
 obtain⟨x,H1,I1,r1,q1⟩:=zz
 obtain⟨c,rfl,q1⟩:=q1
 cases r1
 refine wpAny_truthy_bool ?_
 cases c with
 |true=>exact hb pins s1 σ H1 Q I1 q1
 |false=>exact⟨.bl false,H1,I1,rfl,q1⟩
theorem ZK(ha:PE X a ta):PE X (.UnaryOp .Not a pos) (aa4 ta):=by
 intro pins s σ H Q I h
 refine UnaryOp_ (cQ (ha pins s σ H _ I h) fun v s1 zz=>?_)
 obtain⟨x,H1,I1,r1,q1⟩:=zz
 obtain⟨c,rfl,q1⟩:=q1
 cases r1
 exact not_of (wpAny_truthy_bool ⟨.bl (!c),H1,I1,rfl,q1⟩)
end
end L2
namespace L2
open PySem PySem.Spec PyProof.Rows
def jm(K:PySem.W.Frag)(H:Hp)(a:Addr)(xs:List V):Prop :=
 Rd H a (.lst xs) \/
  ∃(o:Obj) (its:Array Value) (n:Nat),K.lookup a=some o/\o.cls=.type "list"/\o.dict=none/\o.data=.seq its n/\its.size<=sizeLine/\Vals xs its.toList
def iT(K:PySem.W.Frag)(H:Hp)(a:Addr)(xs:List V):Prop :=
 Rd H a (.tup xs) \/
  ∃(o:Obj) (its:Array Value) (n:Nat),K.lookup a=some o/\o.cls=.type "tuple"/\o.data=.seq its n/\its.size<=sizeLine/\Vals xs its.toList
def ab9:Value->Option V
 |.none=>some .non
 |.bool b=>some (.bl b)
 |.int i _=>some (.int i)
 |.str x _=>some (.str x)
 |.bytes b _=>some (.byt b)
 |.float b _=>some (.flt b)
 |.ref a=>some (.ref a)
 |.type n=>some (.ty n)
 |_=>none
theorem RelV.abs{x:V}{u:Value}(r:RelV x u):ab9 u=some x:=by
 cases x with
 |non=>cases r;rfl
 |bl _=>cases r;rfl
 |int _=>obtain⟨t,rfl⟩:=r;rfl
 |str _=>obtain⟨t,rfl⟩:=r;rfl
 |byt _=>obtain⟨t,rfl⟩:=r;rfl
 |flt _=>obtain⟨t,rfl⟩:=r;rfl
 |ref _=>cases r;rfl
 |ty _=>cases r;rfl
theorem RelV.inj{x y:V}{u:Value}(r:RelV x u)(q:RelV y u):x=y:=Option.some.inj (r.abs.symm.trans q.abs)
theorem Vals.inj:∀ {xs ys:List V} {us:List Value},Vals xs us->Vals ys us->xs=ys
 |_,_,_,.nil,.nil=>rfl
 |_,_,_,.cons r t,.cons r' t'=>by rw[r.inj r',Vals.inj t t']
section
variable{X:Cx}{pins:List (Addr×Obj)}{σ:St}{H:Hp}{s:Shared}{a:Addr}{xs ys:List V}
theorem jm.of{K:PySem.W.Frag}(h:H a=some (.lst xs)):jm K H a xs:=.inl (.inl h)
theorem iT.of{K:PySem.W.Frag}(h:H a=some (.tup xs)):iT K H a xs:=.inl (.inl h)
theorem Inv.list(I:Inv X pins σ H s)(h:jm X.K H a xs):∃its:List Value,Vals xs its/\PlainL s.heap a its.toArray/\xs.length<=sizeLine:=by
 rcases h with h | ⟨o,its,n,hk,hc,hd,hs,hz,r⟩
 ·obtain⟨z,its,n,r,e⟩:=h.ok I.hok
  exact⟨its,r,⟨_,n,e,rfl,rfl,rfl⟩,z⟩
 ·refine⟨its.toList,r,⟨o,n,I.uq a o hk,hc,hd,by simpa using hs⟩,?_⟩
  have e:=r.length
  simp only[Array.length_toList] at e
  omega
theorem Inv.tuple(I:Inv X pins σ H s)(h:iT X.K H a xs):∃its:List Value,Vals xs its/\IsTup s.heap a its.toArray/\xs.length<=sizeLine:=by
 rcases h with h | ⟨o,its,n,hk,hc,hs,hz,r⟩
 ·obtain⟨z,its,r,p⟩:=h.ok I.hok
  exact⟨its,r,p.tup,z⟩
 ·refine⟨its.toList,r,⟨o,I.uq a o hk,hc,n,by simpa using hs⟩,?_⟩
  have e:=r.length
  simp only[Array.length_toList] at e
  omega
theorem Inv.Eu(I:Inv X pins σ H s)(h:jm X.K H a xs)(h':jm X.K H a ys):xs=ys:=by
 obtain⟨its,r,⟨o,n,e,_,_,d⟩,_⟩:=I.list h
 obtain⟨its',r',⟨o',n',e',_,_,d'⟩,_⟩:=I.list h'
 rw[e] at e';cases e'
 rw[d] at d'
 injection d' with d1 _
 have:its=its':=by simpa using congrArg Array.toList d1
 subst this
 exact r.inj r'
theorem Inv.uU(I:Inv X pins σ H s)(h:iT X.K H a xs)(h':iT X.K H a ys):xs=ys:=by
 obtain⟨its,r,⟨o,e,_,n,d⟩,_⟩:=I.tuple h
 obtain⟨its',r',⟨o',e',_,n',d'⟩,_⟩:=I.tuple h'
 rw[e] at e';cases e'
 rw[d] at d'
 injection d' with d1 _
 have:its=its':=by simpa using congrArg Array.toList d1
 subst this
 exact r.inj r'
end
abbrev Cx.wish(X:Cx)(E:Value->Shared->Prop):Cx:={ X with xe:=E }
abbrev Cx.Pj(X:Cx):Cx:=X.wish fun _ _=>False
theorem Cx.Ok.wish{X:Cx}(ok:X.Ok)(E:Value->Shared->Prop):(X.wish E).Ok :=
 ⟨ok.mod,ok.kind,ok.glob,ok.blt,ok.above,ok.inj,ok.has,ok.cab,ok.hd,ok.frames,ok.stk,ok.exf,ok.bs,ok.bsz,ok.noex,ok.exfs,ok.vA,ok.frf⟩
theorem Cx.Ok.oN{X:Cx}{E:Value->Shared->Prop}(ok:(X.wish E).Ok):X.Ok :=
 ⟨ok.mod,ok.kind,ok.glob,ok.blt,ok.above,ok.inj,ok.has,ok.cab,ok.hd,ok.frames,ok.stk,ok.exf,ok.bs,ok.bsz,ok.noex,ok.exfs,ok.vA,ok.frf⟩
section
variable{X:Cx}{pins:List (Addr×Obj)}{σ:St}{H:Hp}{s:Shared}{E:Value->Shared->Prop}
theorem Inv.wish(I:Inv X pins σ H s)(E:Value->Shared->Prop):Inv (X.wish E) pins σ H s:=⟨I.ok.wish E,I.os,I.bare,I.base,I.loc,I.cell,I.free,I.freeC,I.pin,I.hok,I.len⟩
theorem Inv.oN(I:Inv (X.wish E) pins σ H s):Inv X pins σ H s:=⟨I.ok.oN,I.os,I.bare,I.base,I.loc,I.cell,I.free,I.freeC,I.pin,I.hok,I.len⟩
theorem SP.oN{D:Ends}{f:Flow}{s':Shared}(h:SP (X.wish E) pins D f s'):SP X pins D f s':=by
 cases f with
 |next=>obtain⟨σ',H',I,q⟩:=h;exact⟨σ',H',I.oN,q⟩
 |brk=>obtain⟨σ',H',I,q⟩:=h;exact⟨σ',H',I.oN,q⟩
 |cont=>obtain⟨σ',H',I,q⟩:=h;exact⟨σ',H',I.oN,q⟩
 |ret u=>obtain⟨v,σ',H',I,r,q⟩:=h;exact⟨v,σ',H',I.oN,r,q⟩
theorem Ea.Pj{st:List Stmt}{t:TS}(h:Ea X.Pj st t):Ea X st t:=fun pins s σ H D I hw=>
 wpAny_mono (h pins s σ H D (I.wish _) hw) (fun _ _ q=>q.oN) fun _ _ z=>False.elim z
end
section
variable{X:Cx}{st:Stmt}{rest:List Stmt}{t u:TS}{e:Expr}{te:TE}{pos:Pos}
def abS:TS:=fun D σ H=>D.nx σ H
def adV(t u:TS):TS:=fun D σ H=>t { D with nx:=u D } σ H
theorem Vm:Ea X [] abS:=fun _ _ σ H _ I h=>wpAny_execs_nil ⟨σ,H,I,h⟩
theorem Rn(h1:PS X st t)(h2:Ea X rest u):Ea X (st::rest) (adV t u):=by
 intro pins s σ H D I h
 refine wpAny_execs_cons (cQ (h1 pins s σ H { D with nx:=u D } I h) fun f s1 q=>?_)
 cases f with
 |next=>
  obtain⟨σ',H',I',q⟩:=q
  exact h2 pins s1 σ' H' D I' q
 |ret v=>exact q
 |brk=>exact q
 |cont=>exact q
theorem V8(h1:PS X st t):Ea X [st] t:=by
 intro pins s σ H D I h
 refine wpAny_execs_cons (cQ (h1 pins s σ H D I h) fun f s1 q=>?_)
 cases f with
 |next=>exact wpAny_execs_nil q
 |ret v=>exact q
 |brk=>exact q
 |cont=>exact q
def aae:TS:=fun D σ H=>D.bk σ H
theorem Qv:PS X (.Break pos) aae:=fun _ _ σ H _ I h=>wpAny_Break ⟨σ,H,I,h⟩
theorem Inv.quiet{pins:List (Addr×Obj)}{σ:St}{H:Hp}{s:Shared}(I:Inv X pins σ H s):interactive X.env=false:=by simp[interactive,I.ok.kind]
def aaU(te:TE):TS:=fun D σ H=>te σ H fun _ H1=>D.nx σ H1
theorem Vb(he:PE X e te)(hs:swapsWith e none pos.line X.env=pure false:=by rfl):PS X (.Expr e pos) (aaU te):=by
 intro pins s σ H D I h
 exact wpAny_Expr_any (cQ (he pins s σ H _ I h) fun v s1 ⟨x,H1,I1,r1,q1⟩=>⟨σ,H1,I1,q1⟩) I.quiet hs
def adL(te:TE):TS:=fun D σ H=>te σ H D.rt
theorem Ye(he:PE X e te):PS X (.Return (some e) pos) (adL te):=by
 intro pins s σ H D I h
 exact wpAny_Return_some (cQ (he pins s σ H _ I h) fun v s1 ⟨x,H1,I1,r1,q1⟩=>⟨x,σ,H1,I1,r1,q1⟩)
def adw(c:TT)(t u:TS):TS:=fun D σ H=>c σ H fun b H1=>if b=true then t D σ H1 else u D σ H1
theorem aas{c:Expr}{a b:List Stmt}{tc:TT}(hc:PT X c tc)(ha:Ea X a t)(hb:Ea X b u):PS X (.If c a b pos) (adw tc t u):=by
 intro pins s σ H D I h
 refine wpAny_If (cQ (hc pins s σ H _ I h) fun d s1 zz=>?_)
 obtain⟨H1,I1,q1⟩:=zz
 cases d with
 |true=>exact ha pins s1 σ H1 D I1 q1
 |false=>exact hb pins s1 σ H1 D I1 q1
end
abbrev TG:=V->St->Hp->(St->Hp->Prop)->Prop
abbrev XR:=List V->St->Hp->(St->Hp->Prop)->Prop
def PG(X:Cx)(target:Expr)(t:TG):Prop :=
 ∀(pins:List (Addr×Obj)) (s:Shared) (σ:St) (H:Hp) (v:V) (u:Value) (Q:St->Hp->Prop),Inv X pins σ H s->RelV v u->t v σ H Q ->
  wpAny (model X.prog X.w) X.A (assign target X.env u) (fun _ s'=>∃σ' H',Inv X pins σ' H' s'/\Q σ' H') X.xe s
def PGs(X:Cx)(ts:List Expr)(t:XR):Prop :=
 ∀(pins:List (Addr×Obj)) (s:Shared) (σ:St) (H:Hp) (vs:List V) (us:List Value) (Q:St->Hp->Prop),Inv X pins σ H s->Vals vs us->t vs σ H Q ->
  wpAny (model X.prog X.w) X.A (assignInOrder ((assignEach ts X.env).map (·.2)) us) (fun _ s'=>∃σ' H',Inv X pins σ' H' s'/\Q σ' H') X.xe s
abbrev TIp:=V->V->Hp->VK->Prop
def PIp(X:Cx)(op:Operator)(t:TIp):Prop :=
 ∀(pins:List (Addr×Obj)) (s:Shared) (σ:St) (H:Hp) (x y:V) (v u:Value) (Q:VK),Inv X pins σ H s->RelV x v->RelV y u->t x y H Q ->
  wpAny (model X.prog X.w) X.A (inplaceOp op v u) (EP X pins σ Q) X.xe s
section
variable{X:Cx}{pos:Pos}
def ji(i:Nat):TG:=fun v σ H Q=>Q (σ.set i (some v)) H
theorem mV{i:Nat}{x:Str}(hN:X.N.Nodup)(hi:X.N[i]?=some x)(hx:Loc X.env.scope x)(hf:X.fn x=true\/X.env.scope.names.lookup x=some .local:=by first | exact .inl rfl | exact .inr rfl | assumption):PG X (.Name x pos) (ji i):=by
 intro pins s σ H v u Q I r h
 exact wpAny_assign_Name (yI I hN hi hx r (fun s' I'=>⟨_,H,I',h⟩) hf)
def RG:XR:=fun vs σ H Q=>vs=[]/\Q σ H
def su(t:TG)(u:XR):XR:=fun vs σ H Q=>∃v r,vs=v::r/\t v σ H fun σ' H'=>u r σ' H' Q
theorem Lw:PGs X [] RG:=by
 intro pins s σ H vs us Q I r h
 obtain⟨e,h⟩:=h
 subst e
 cases r
 exact assignInOrder_nil ⟨σ,H,I,h⟩
theorem tE{e:Expr}{es:List Expr}{t:TG}{u:XR}(h1:PG X e t)(h2:PGs X es u)
  (hs:(assignEach (e::es) X.env).map (·.2)=assign e X.env::(assignEach es X.env).map (·.2):=by rfl):PGs X (e::es) (su t u):=by
 intro pins s σ H vs us Q I r h
 obtain⟨v,vr,e1,h⟩:=h
 subst e1
 cases r with
 |cons r rr=>
  rw[hs]
  refine assignInOrder_cons (cQ (h1 pins s σ H _ _ _ I r h) fun _ s1 zz=>?_)
  obtain⟨σ1,H1,I1,q1⟩:=zz
  exact h2 pins s1 σ1 H1 _ _ Q I1 rr q1
def Rm(K:PySem.W.Frag)(n:Nat)(t:XR):TG:=fun v σ H Q=>∃a xs,v=.ref a/\iT K H a xs/\xs.length=n/\t xs σ H Q
theorem Te{es:List Expr}{k:Nat}{t:XR}{n:Nat}(hc:X.calm=true)(h:PGs X es t)
  (hn:(assignEach es X.env).length=n:=by rfl) (hst:(assignEach es X.env).findIdx? (·.1)=none:=by rfl):PG X (.Tuple es k pos) (Rm X.K n t):=by
 intro pins s σ H v u Q I r hw
 obtain⟨a,xs,e1,hq,hl,hw⟩:=hw
 subst e1
 cases r
 obtain⟨its,rv,ht,hz⟩:=I.tuple hq
 refine assign_Tuple_tuple (I.ok.hd hc) ht (by simp[hn,←hl,rv.length]) hst fun h' hx=>?_
 have I1:Inv X pins σ H { s with heap:=h' }:=I.kept (t':=s.toks) fun b o e=>hx b o (Nat.ne_of_lt (Heap.lt_size e)) e
 exact h pins _ σ H xs _ Q I1 (by simpa using rv) hw
def Zq(te:TE)(g:TG):TS:=fun D σ H=>te σ H fun x H1=>g x σ H1 D.nx
theorem Z3{tg e:Expr}{te:TE}{g:TG}(he:PE X e te)(hg:PG X tg g)(hs:swapsWithSole [tg] e pos.line X.env=pure false:=by rfl)(hw:swappedStores [tg] e X.env=pure none:=by rfl)
  (h1:(assignEach [tg] X.env).map (·.2)=[assign tg X.env]:=by rfl):PS X (.Assign [tg] e pos) (Zq te g):=by
 intro pins s σ H D I h
 refine wpAny_Assign_stores (cQ (he pins s σ H _ I h) fun v s1 zz=>?_) hs hw
 obtain⟨x,H1,I1,r1,q1⟩:=zz
 rw[h1]
 exact cQ (hg pins s1 σ H1 x v _ I1 r1 q1) fun _ s2 q=>q
theorem Yn{i:Nat}{x:Str}{e:Expr}{te:TE}{pos':Pos}(hN:X.N.Nodup)(hi:X.N[i]?=some x)(hx:Loc X.env.scope x)(he:PE X e te)(hs:swapsWith e (some (.Name x pos')) pos.line X.env=pure false:=by rfl)(hf:X.fn x=true\/X.env.scope.names.lookup x=some .local:=by first | exact .inl rfl | exact .inr rfl | assumption) :
  PS X (.Assign [.Name x pos'] e pos) (Zq te (ji i)):=by
 intro pins s σ H D I h
 refine wpAny_Assign_Name (cQ (he pins s σ H _ I h) fun v s1 zz=>?_) hs
 obtain⟨y,H1,I1,r1,q1⟩:=zz
 exact yI I1 hN hi hx r1 (fun s2 I2=>⟨_,H1,I2,q1⟩) hf
def adI(i:Nat)(te:TE)(ti:TIp):TS:=fun D σ H=>∃x,σ[i]?=some (some x)/\te σ H fun y H1=>ti x y H1 fun z H2=>D.nx (σ.set i (some z)) H2
theorem XQ{i:Nat}{x:Str}{e:Expr}{te:TE}{op:Operator}{ti:TIp}{pos':Pos}(hN:X.N.Nodup)(hi:X.N[i]?=some x)(hx:Loc X.env.scope x)(he:PE X e te)(ho:PIp X op ti)(hf:X.fn x=true\/X.env.scope.names.lookup x=some .local:=by first | exact .inl rfl | exact .inr rfl | assumption) :
  PS X (.AugAssign (.Name x pos') op e pos) (adI i te ti):=by
 intro pins s σ H D I h
 obtain⟨v,e1,h⟩:=h
 obtain⟨m,hn,hl⟩:=I.loc
 have vis:Vis X.env.scope x:=by rcases hx with k | k;exact .inl k;exact .inr (.inl k)
 obtain⟨u,r,l⟩:=hl i x v hi e1 vis
 refine wpAny_AugAssign_Name ?_
 have go:wpAny (model X.prog X.w) X.A (eval e X.env) (fun w s₂=>wpAny (model X.prog X.w) X.A (inplaceOp op u w) (fun r s₃=>wpAny (model X.prog X.w) X.A (storeName X.env x r) (fun _=>SP X pins D .next) X.xe s₃) X.xe s₂) X.xe s:=by
  refine cQ (he pins s σ H _ I h) fun w s1 zz=>?_
  obtain⟨y,H1,I1,r1,q1⟩:=zz
  refine cQ (ho pins s1 σ H1 v y u w _ I1 r r1 q1) fun z s2 zz=>?_
  obtain⟨zv,H2,I2,r2,q2⟩:=zz
  exact yI I2 hN hi hx r2 (fun s3 I3=>⟨_,H2,I3,q2⟩) hf
 rcases l with ⟨hk,hm⟩ | ⟨hk,c,hc,hcell⟩
 ·exact wpAny_loadName_local I.ok.kind hk hn hm go
 ·rcases hk with hk | hk
  ·exact wpAny_loadName_cell I.ok.kind hk hc hcell go
  ·rcases hx with k | k
   ·have:X.env.scope.names.lookup x=some .free:=hk
    rw[k] at this;cases this
   ·have:X.env.scope.names.lookup x=some .free:=hk
    rw[k] at this;cases this
end
section
variable{X:Cx}{pos:Pos}
def aaf(c:TT)(tb:TS):TS:=fun D σ H=>∃W:Nat->St->Hp->Prop,(∃m,W m σ H)/\∀m σ H,W m σ H ->
 c σ H fun b H1=>if b=true then ∃N:St->Hp->Prop,(∀σ' H',N σ' H'->∃m',m'<m/\W m' σ' H')/\tb { D with nx:=N,ct:=N,bk:=D.nx } σ H1 else D.nx σ H1
theorem P0{c:Expr}{body:List Stmt}{tc:TT}{tb:TS}(hp:PassesOwn (model X.prog X.w) X.A X.env X.xe)(hc:PT X c tc)(hb:Ea X body tb):PS X (.While c body [] pos) (aaf tc tb):=by
 intro pins s σ H D I h
 obtain⟨W,⟨m0,w0⟩,turn⟩:=h
 refine wpAny_While (codeAny_whileLoop (fun n s'=>∃σ' H',Inv X pins σ' H' s'/\W n σ' H') ?_ m0 ⟨σ,H,I,w0⟩)
 rintro n s1 ⟨σ1,H1,I1,w1⟩
 refine wpAny_passesOwn hp (cQ (hc pins s1 σ1 H1 _ I1 (turn n σ1 H1 w1)) fun b s2 zz=>?_)
 obtain⟨H2,I2,q2⟩:=zz
 cases b with
 |true=>
  obtain⟨N,hN,q2⟩:=q2
  rw[if_pos rfl]
  refine wpAny_passesOwn hp (cQ (hb pins s2 σ1 H2 _ I2 q2) fun f s3 q3=>?_)
  cases f with
  |next=>
   obtain⟨σ3,H3,I3,n3⟩:=q3
   obtain⟨m',hm,w3⟩:=hN σ3 H3 n3
   exact⟨m',hm,σ3,H3,I3,w3⟩
  |cont=>
   obtain⟨σ3,H3,I3,n3⟩:=q3
   obtain⟨m',hm,w3⟩:=hN σ3 H3 n3
   exact⟨m',hm,σ3,H3,I3,w3⟩
  |brk=>exact q3
  |ret v=>exact q3
 |false=>
  rw[if_neg Bool.false_ne_true]
  exact wpAny_execs_nil ⟨σ1,H2,I2,q2⟩
end
structure It where
 go:Nat->Hp->Prop
 yld:Nat->Hp->V->Hp->Prop
 stop:Nat->Hp->Prop
def lW(X:Cx)(pins:List (Addr×Obj))(H:Hp)(b:Addr):Prop :=
 H b=none/\b≠X.env.locals/\b∉X.fs/\(b∈X.ex\/X.s₀.heap.objs.size<=b)/\(∀x c,X.env.cells.lookup x=some c->c≠b)/\∀p∈X.pn++pins,p.1≠b
theorem Inv.uX{X:Cx}{pins:List (Addr×Obj)}{σ:St}{H H':Hp}{s:Shared}{b:Addr}(I:Inv X pins σ H s)(hb:s.heap.objs.size<=b)(hn:H' b=none):lW X pins H' b:=by
 refine⟨hn,Nat.ne_of_gt (Nat.lt_of_lt_of_le I.lt hb),I.acM hb,.inr (Nat.le_trans I.sz hb),fun x c e z=>?_,fun p hp z=>?_⟩
 ·obtain⟨v,q⟩:=I.cell x c e
  exact absurd (Nat.lt_of_lt_of_le q.lt (by rw[z];exact hb)) (Nat.lt_irrefl _)
 ·exact absurd (Nat.lt_of_lt_of_le (Heap.lt_size (I.pin p hp).1) (by rw[z];exact hb)) (Nat.lt_irrefl _)
structure Turn(P:Program)(w:World)(K:PySem.W.Frag)(tg:Expr)(J:It)(fp:List Addr)(it:Addr)(tn:Nat->Heap->Prop):Prop where
 mem:it∈fp
 obj:∀i h,tn i h->∀b∈fp,∃o,h.get? b=some o/\∀v,o.data≠.cell v
 keep:∀i h h',tn i h->(∀b∈fp,∀o,h.get? b=some o->h'.get? b=some o)->tn i h'
 item:∀(X:Cx),X.prog=P->X.w=w->X.K=K->X.calm=true->∀(i:Nat) (pins:List (Addr×Obj)) (s:Shared) (σ:St) (H:Hp) (E:Value->Shared->Prop),Inv X pins σ H s->(∀b∈fp,lW X pins H b)->tn i s.heap->J.go i H ->
  wpAny (model P w) X.A (pyNext (.ref it)) (fun r s1=>∃u,r=some u /\
   wpAny (model P w) X.A (letOwnedTupleGo tg (.ref it) u) (fun _ s2=>∃x H',Inv X pins σ H' s2/\RelV x u/\J.yld i H x H'/\tn (i+1) s2.heap/\∀b∈fp,H' b=none) E s1) E s
 done:∀(X:Cx),X.prog=P->X.w=w->X.K=K->X.calm=true->∀(i:Nat) (pins:List (Addr×Obj)) (s:Shared) (σ:St) (H:Hp) (E:Value->Shared->Prop),Inv X pins σ H s->(∀b∈fp,lW X pins H b)->tn i s.heap->J.stop i H ->
  wpAny (model P w) X.A (pyNext (.ref it)) (fun r s1=>r=none/\Inv X pins σ H s1) E s
 self:∀(A:Around) (i:Nat) (s:Shared) (Q:Value->Shared->Prop) (E:Value->Shared->Prop),tn i s.heap->Q (.ref it) s->wpAny (model P w) A (pyIter (.ref it)) Q E s
abbrev TI:=St->Hp->(It->Hp->Prop)->Prop
def PIE(X:Cx)(pins:List (Addr×Obj))(σ:St)(tg:Expr)(R:It->Hp->Prop)(itv:Value)(s2:Shared):Prop :=
 ∃(it:Addr) (fp:List Addr) (tn:Nat->Heap->Prop) (J:It) (H':Hp),itv=.ref it/\Inv X pins σ H' s2/\Turn X.prog X.w X.K tg J fp it tn/\tn 0 s2.heap/\(∀b∈fp,lW X pins H' b)/\R J H'
def PI(X:Cx)(tg iter:Expr)(wi:TI):Prop :=
 ∀(pins:List (Addr×Obj)) (s:Shared) (σ:St) (H:Hp) (R:It->Hp->Prop),Inv X pins σ H s->wi σ H R ->
  wpAny (model X.prog X.w) X.A (eval iter X.env) (fun v s1=>wpAny (model X.prog X.w) X.A (pyIter v) (PIE X pins σ tg R) X.xe s1) X.xe s
theorem tM{M:Model}{A:Around}{E:Value->Shared->Prop}{s:Shared}{tg:Expr}{it:Addr}{u:Value}{o:Obj}{n:String}{vs:Array Value}{Q:Unit->Shared->Prop}(ho:s.heap.get? it=some o)(hc:o.cls=.type n)(hd:o.data=.fields vs)
  (hn:["enumerate", "zip", "dict_itemiterator", "dict_reverseitemiterator", "odict_iterator", "itertools.zip_longest", "itertools.pairwise"].contains n=false) (hQ:Q () s):wpAny M A (letOwnedTupleGo tg (.ref it) u) Q E s:=by
 unfold letOwnedTupleGo
 cases tg <;> first
  |exact wpAny_pure hQ
  | (cases u <;> first
    |exact wpAny_pure hQ
    | (refine wpAny_bind (wpAny_load ho ?_)
       rw[hc,hd]
       show wpAny M A (if (["enumerate", "zip", "dict_itemiterator", "dict_reverseitemiterator", "odict_iterator", "itertools.zip_longest", "itertools.pairwise"].contains n&&vs[0]? == some (rawInt _))=true then _ else _) Q E s
       rw[if_neg (by intro h;rw[hn,Bool.false_and] at h;cases h)]
       exact wpAny_pure hQ))
def Itl(K:PySem.W.Frag)(a:Addr):It :=
 ⟨fun i H=>∃xs x,jm K H a xs/\xs[i]?=some x,fun i H x H'=>H'=H/\∀xs,jm K H a xs->xs[i]?=some x,fun i H=>∃xs,jm K H a xs/\xs.length<=i⟩
def Itt(K:PySem.W.Frag)(a:Addr):It :=
 ⟨fun i H=>∃xs x,iT K H a xs/\xs[i]?=some x,fun i H x H'=>H'=H/\∀xs,iT K H a xs->xs[i]?=some x,fun i H=>∃xs,iT K H a xs/\xs.length<=i⟩
def Itr(lo:Int)(n:Nat):It:=⟨fun i _=>i<n,fun i H x H'=>H'=H/\x=.int (lo+i),fun i _=>n<=i⟩
theorem Mv{P:Program}{w:World}{K:PySem.W.Frag}{tg:Expr}(a it:Addr):Turn P w K tg (Itl K a) [it] it (fun i h=>h.IsListIter it a i) where
 mem:=by simp
 obj:=fun i h st b hb=>by
  have e:b=it:=by simpa using hb
  subst e
  obtain⟨o,e,c,d⟩:=st
  exact⟨o,e,fun v z=>by rw[d] at z;cases z⟩
 keep:=fun i h h' st k=>st.at fun o e=>k it (by simp) o e
 item:=by
  intro X hP hw hK hc i pins s σ H E I hf st hg
  subst hP hw hK
  obtain⟨xs,x,hq,hx⟩:=hg
  obtain⟨its,rv,p,hz⟩:=I.list hq
  obtain⟨u,hu,ru⟩:=rv.get hx
  obtain⟨f0,f1,f2,f3,f4,f5⟩:=hf it (by simp)
  refine wpAny_pyNext_list_item st p.isList (x:=u) (by simpa using hu) fun h' st' sb=>?_
  have I1:Inv X pins σ H { s with heap:=h' }:=I.turned (t':=s.toks) (fun b o hb e=>(sb.2 b hb).trans e) f0 f1 f3 f4 f5
  obtain⟨o,e,c,d⟩:=id st'
  exact⟨u,rfl,tM (s:={ s with heap:=h' }) e c d (by decide) ⟨x,H,I1,ru,⟨rfl,fun ys hy=>by rw[I.Eu hy hq];exact hx⟩,st',fun b hb=>(hf b hb).1⟩⟩
 done:=by
  intro X hP hw hK hc i pins s σ H E I hf st hg
  subst hP hw hK
  obtain⟨xs,hq,hx⟩:=hg
  obtain⟨its,rv,p,hz⟩:=I.list hq
  obtain⟨f0,f1,f2,f3,f4,f5⟩:=hf it (by simp)
  have hl:=rv.length
  exact wpAny_pyNext_list_end (I.ok.hd hc) st p.isList (by simp;omega) fun h' eb=>⟨rfl,I.turned (t':=s.toks) (fun b o hb e=>eb b o hb e) f0 f1 f3 f4 f5⟩
 self:=fun _ _ _ _ _ st h=>wpAny_pyIter_listiter st h
theorem Iu{P:Program}{w:World}{K:PySem.W.Frag}{tg:Expr}(a it:Addr):Turn P w K tg (Itt K a) [it] it (fun i h=>h.IsTupleIter it a i) where
 mem:=by simp
 obj:=fun i h st b hb=>by
  have e:b=it:=by simpa using hb
  subst e
  obtain⟨o,e,c,d⟩:=st
  exact⟨o,e,fun v z=>by rw[d] at z;cases z⟩
 keep:=fun i h h' st k=>st.at fun o e=>k it (by simp) o e
 item:=by
  intro X hP hw hK hc i pins s σ H E I hf st hg
  subst hP hw hK
  obtain⟨xs,x,hq,hx⟩:=hg
  obtain⟨its,rv,p,hz⟩:=I.tuple hq
  obtain⟨u,hu,ru⟩:=rv.get hx
  obtain⟨f0,f1,f2,f3,f4,f5⟩:=hf it (by simp)
  refine wpAny_pyNext_tuple_item st (show s.heap.IsTuple a its.toArray from p) (x:=u) (by simpa using hu) fun h' st' sb=>?_
  have I1:Inv X pins σ H { s with heap:=h' }:=I.turned (t':=s.toks) (fun b o hb e=>(sb.2 b hb).trans e) f0 f1 f3 f4 f5
  obtain⟨o,e,c,d⟩:=id st'
  exact⟨u,rfl,tM (s:={ s with heap:=h' }) e c d (by decide) ⟨x,H,I1,ru,⟨rfl,fun ys hy=>by rw[I.uU hy hq];exact hx⟩,st',fun b hb=>(hf b hb).1⟩⟩
 done:=by
  intro X hP hw hK hc i pins s σ H E I hf st hg
  subst hP hw hK
  obtain⟨xs,hq,hx⟩:=hg
  obtain⟨its,rv,p,hz⟩:=I.tuple hq
  obtain⟨f0,f1,f2,f3,f4,f5⟩:=hf it (by simp)
  have hl:=rv.length
  exact wpAny_pyNext_tuple_end (I.ok.hd hc) st (show s.heap.IsTuple a its.toArray from p) (by simp;omega) fun h' eb=>⟨rfl,I.turned (t':=s.toks) (fun b o hb e=>eb b o hb e) f0 f1 f3 f4 f5⟩
 self:=fun _ _ _ _ _ st h=>wpAny_pyIter_tupleiter st h
theorem Ii{P:Program}{w:World}{K:PySem.W.Frag}{tg:Expr}(it:Addr)(lo:Int)(n:Nat):Turn P w K tg (Itr lo n) [it] it (fun i h=>IsRangeIter h it (lo+(i:Nat)*1) ((n:Int)-(i:Nat)) 1) where
 mem:=by simp
 obj:=fun i h st b hb=>by
  have e:b=it:=by simpa using hb
  subst e
  exact⟨_,st,fun v z=>by
   have z':Data.fields _=Data.cell v:=z
   cases z'⟩
 keep:=fun i h h' st k=>k it (by simp) _ st
 item:=by
  intro X hP hw hK hc i pins s σ H E I hf st hg
  subst hP hw hK
  obtain⟨f0,f1,f2,f3,f4,f5⟩:=hf it (by simp)
  have W:=Walks.range (prog:=X.prog) (w:=X.w) (I.ok.hd hc) it lo 1 n
  refine W.item i s _ _ hg st fun v h' tk hv st' kk=>?_
  obtain⟨t,rfl⟩:=hv
  have I1:Inv X pins σ H { s with heap:=h',toks:=tk }:=I.turned (fun b o hb e=>kk b o (by simpa using hb) e) f0 f1 f3 f4 f5
  refine⟨_,rfl,tM (s:={ s with heap:=h',toks:=tk }) (n := "range_iterator") st' rfl rfl (by decide) ⟨.int (lo+i),H,I1,⟨t,?_⟩,⟨rfl,rfl⟩,st',fun b hb=>(hf b hb).1⟩⟩
  rw[Int.mul_one]
 done:=by
  intro X hP hw hK hc i pins s σ H E I hf st hg
  subst hP hw hK
  obtain⟨f0,f1,f2,f3,f4,f5⟩:=hf it (by simp)
  exact wpAny_pyNext_range_end (I.ok.hd hc) st (by have:n<=i:=hg;omega) fun h' eb=>⟨rfl,I.turned (t':=s.toks) (fun b o hb e=>eb b o hb e) f0 f1 f3 f4 f5⟩
 self:=fun _ _ _ _ _ st h=>wpAny_pyIter_rangeiter st h
end L2
namespace L2
open PySem PySem.Spec PyProof.Rows
section
variable{X:Cx}{tg:Expr}
def abj(K:PySem.W.Frag)(tl:TE):TI:=fun σ H R=>tl σ H fun x H1=>∃a,x=.ref a/\(∃xs,jm K H1 a xs)/\R (Itl K a) H1
def adi(K:PySem.W.Frag)(tl:TE):TI:=fun σ H R=>tl σ H fun x H1=>∃a,x=.ref a/\(∃xs,iT K H1 a xs)/\R (Itt K a) H1
theorem Ug{l:Expr}{tl:TE}(hl:PE X l tl):PI X tg l (abj X.K tl):=by
 intro pins s σ H R I h
 refine cQ (hl pins s σ H _ I h) fun v s1 zz=>?_
 obtain⟨x,H1,I1,r1,q1⟩:=zz
 obtain⟨a,e,⟨xs,hq⟩,q⟩:=q1
 subst e
 cases r1
 obtain⟨its,rv,p,hz⟩:=I1.list hq
 refine wpAny_pyIter_list p.isList ?_
 refine⟨s1.heap.objs.size,[s1.heap.objs.size],_,_,H1,rfl,I1.kept (t':=s1.toks) fun b o e=>Heap.get?_push_of_some _ e,Mv a _,⟨_,Heap.get?_push_size _ rfl,rfl,rfl⟩,fun b hb=>?_,q⟩
 have e:b=s1.heap.objs.size:=by simpa using hb
 subst e
 exact I1.uX (Nat.le_refl _) (I1.hok.fresh (Nat.le_refl _))
theorem Zd{l:Expr}{tl:TE}(hl:PE X l tl):PI X tg l (adi X.K tl):=by
 intro pins s σ H R I h
 refine cQ (hl pins s σ H _ I h) fun v s1 zz=>?_
 obtain⟨x,H1,I1,r1,q1⟩:=zz
 obtain⟨a,e,⟨xs,hq⟩,q⟩:=q1
 subst e
 cases r1
 obtain⟨its,rv,p,hz⟩:=I1.tuple hq
 refine wpAny_pyIter_tuple (show s1.heap.IsTuple a its.toArray from p) ?_
 refine⟨s1.heap.objs.size,[s1.heap.objs.size],_,_,H1,rfl,I1.kept (t':=s1.toks) fun b o e=>Heap.get?_push_of_some _ e,Iu a _,⟨_,Heap.get?_push_size _ rfl,rfl,rfl⟩,fun b hb=>?_,q⟩
 have e:b=s1.heap.objs.size:=by simpa using hb
 subst e
 exact I1.uX (Nat.le_refl _) (I1.hok.fresh (Nat.le_refl _))
def ac7(wi:TI)(g:TG)(tb:TS):TS:=fun D σ H=>wi σ H fun J H1=>∃W:Nat->Nat->St->Hp->Prop,(∃m,W 0 m σ H1)/\∀i m σ H,W i m σ H ->
 (J.stop i H/\D.nx σ H)\/(J.go i H/\∃N:St->Hp->Prop,(∀σ' H',N σ' H'->∃m',m'<m/\W (i+1) m' σ' H')/\∀x H',J.yld i H x H'->g x σ H' fun σ2 H2=>tb { D with nx:=N,ct:=N,bk:=D.nx } σ2 H2)
def xG(fp:List Addr)(h:Heap):List (Addr×Obj):=fp.filterMap fun b=>(h.get? b).map fun o=>(b,o)
theorem mQ{fp:List Addr}{h:Heap}{b:Addr}{o:Obj}(hb:b∈fp)(e:h.get? b=some o):(b,o)∈xG fp h:=List.mem_filterMap.mpr ⟨b,hb,by rw[e];rfl⟩
theorem Nb{fp:List Addr}{h:Heap}{p:Addr×Obj}(hp:p∈xG fp h):p.1∈fp/\h.get? p.1=some p.2:=by
 obtain⟨b,hb,e⟩:=List.mem_filterMap.mp hp
 cases q:h.get? b with
 |none=>rw[q] at e;cases e
 |some o=>
  rw[q] at e
  have e':(b,o)=p:=Option.some.inj e
  subst e'
  exact⟨hb,q⟩
theorem Inv.pinned{pins:List (Addr×Obj)}{σ:St}{H:Hp}{s:Shared}{fp:List Addr}(I:Inv X pins σ H s)(hf:∀b∈fp,lW X pins H b)(ho:∀b∈fp,∃o,s.heap.get? b=some o/\∀v,o.data≠.cell v):Inv X (pins++xG fp s.heap) σ H s :=
 I.pP fun p hp=>(List.mem_append.mp hp).elim (fun z=>I.pin p (List.mem_append_right _ z)) fun z=>by
  obtain⟨hb,e⟩:=Nb z
  obtain⟨f0,f1,f2,_⟩:=hf p.1 hb
  obtain⟨o,e',d⟩:=ho p.1 hb
  rw[e] at e';cases e'
  exact⟨e,f0,f1,f2,d⟩
theorem Inv.t6{pins pl:List (Addr×Obj)}{σ:St}{H:Hp}{s:Shared}(I:Inv X (pins++pl) σ H s):Inv X pins σ H s:=I.pP fun p hp=>I.pin p (List.mem_append_right _ (List.mem_append_left _ hp))
theorem Zf{iter:Expr}{body:List Stmt}{wi:TI}{g:TG}{tb:TS}{pos:Pos}(hp:PassesOwn (model X.prog X.w) X.A X.env X.xe)(hc:X.calm=true)(hi:PI X tg iter wi)(hg:PG X tg g)(hb:Ea X body tb)
  (hs:∀x,foldedSetIterable iter X.env x=pure x:=by intro _;rfl):PS X (.For tg iter body [] pos) (ac7 wi g tb):=by
 intro pins s σ H D I h
 refine wpAny_For (cQ (hi pins s σ H _ I h) fun v s1 h1=>cQ h1 fun itv s2 h2=>?_) hs
 obtain⟨it,fp,tn,J,H2,e,I2,T,st2,f2,W,⟨m0,w0⟩,turn⟩:=h2
 subst e
 have stat:∀ {H':Hp},(∀b∈fp,H' b=none)->∀b∈fp,lW X pins H' b:=fun hn b hb=>⟨hn b hb,(f2 b hb).2⟩
 refine codeAny_forLoop_any (fun n s'=>∃i σ' H',Inv X pins σ' H' s'/\tn i s'.heap/\(∀b∈fp,H' b=none)/\W i n σ' H') ?_ m0 ⟨0,σ,H2,I2,st2,fun b hb=>(f2 b hb).1,w0⟩
 rintro n s3 ⟨i,σ3,H3,I3,st3,fr3,w3⟩
 rcases turn i n σ3 H3 w3 with ⟨stop,qn⟩ | ⟨go,N,hN,step⟩
 ·refine wpAny_passesOwn hp (cQ (T.done X rfl rfl rfl hc i pins s3 σ3 H3 X.xe I3 (stat fr3) st3 stop) fun r s4 zz=>?_)
  obtain⟨hr,I4⟩:=zz
  subst hr
  exact wpAny_execs_nil ⟨σ3,H3,I4,qn⟩
 ·refine wpAny_passesOwn hp (cQ (T.item X rfl rfl rfl hc i pins s3 σ3 H3 X.xe I3 (stat fr3) st3 go) fun r s4 zz=>?_)
  obtain⟨u,hr,h4⟩:=zz
  subst hr
  refine wpAny_passesOwn hp (cQ h4 fun _ s5 zz=>?_)
  obtain⟨x,H5,I5,r5,y5,st5,fr5⟩:=zz
  have I5':=I5.pinned (stat fr5) (T.obj _ _ st5)
  refine wpAny_passesOwn hp (cQ (hg _ s5 σ3 H5 x u _ I5' r5 (step x H5 y5)) fun _ s6 zz=>?_)
  obtain⟨σ6,H6,I6,q6⟩:=zz
  refine wpAny_passesOwn hp (cQ (hb _ s6 σ6 H6 _ I6 q6) fun f s7 q7=>?_)
  have again:∀ {σ7:St} {H7:Hp},Inv X (pins++xG fp s5.heap) σ7 H7 s7->N σ7 H7->∃m,m<n/\∃i σ' H',Inv X pins σ' H' s7/\tn i s7.heap/\(∀b∈fp,H' b=none)/\W i m σ' H':=fun {σ7 H7} I7 n7=>by
   obtain⟨m',hm,w7⟩:=hN σ7 H7 n7
   refine⟨m',hm,i+1,σ7,H7,I7.t6,T.keep _ _ _ st5 fun b hb o e=>(I7.pin (b,o) (List.mem_append_right _ (List.mem_append_right _ (mQ hb e)))).1,fun b hb=>?_,w7⟩
   obtain⟨o,e,d⟩:=T.obj _ _ st5 b hb
   exact (I7.pin (b,o) (List.mem_append_right _ (List.mem_append_right _ (mQ hb e)))).2.1
  cases f with
  |next=>obtain⟨σ7,H7,I7,n7⟩:=q7;exact again I7 n7
  |cont=>obtain⟨σ7,H7,I7,n7⟩:=q7;exact again I7 n7
  |brk=>obtain⟨σ7,H7,I7,q7⟩:=q7;exact⟨σ7,H7,I7.t6,q7⟩
  |ret v=>obtain⟨x7,σ7,H7,I7,r7,q7⟩:=q7;exact⟨x7,σ7,H7,I7.t6,r7,q7⟩
end
end L2
namespace L2
open PySem PySem.Spec PyProof.Rows
abbrev R2:=V->V->Hp->VK->Prop
def jj(X:Cx)(f:Value->Value->Sem Value)(r:R2):Prop :=
 ∀(pins:List (Addr×Obj)) (s:Shared) (σ:St) (H:Hp) (x y:V) (v u:Value) (Q:VK),Inv X pins σ H s->RelV x v->RelV y u->r x y H Q ->
  wpAny (model X.prog X.w) X.A (f v u) (EP X pins σ Q) X.xe s
def UnR(X:Cx)(f:Value->Sem Value)(r:V->Hp->VK->Prop):Prop :=
 ∀(pins:List (Addr×Obj)) (s:Shared) (σ:St) (H:Hp) (x:V) (v:Value) (Q:VK),Inv X pins σ H s->RelV x v->r x H Q ->
  wpAny (model X.prog X.w) X.A (f v) (EP X pins σ Q) X.xe s
def dZ(X:Cx)(f:Value)(r:List V->Hp->VK->Prop):Prop :=
 ∀(pins:List (Addr×Obj)) (s:Shared) (σ:St) (H:Hp) (xs:List V) (us:List Value) (Q:VK),Inv X pins σ H s->Vals xs us->r xs H Q ->
  wpAny (model X.prog X.w) X.A (call f us) (EP X pins σ Q) X.xe s
def tOp(r:R2)(ta tb:TE):TE:=fun σ H Q=>ta σ H fun x H1=>tb σ H1 fun y H2=>r x y H2 Q
def tUn(r:V->Hp->VK->Prop)(ta:TE):TE:=fun σ H Q=>ta σ H fun x H1=>r x H1 Q
def rI(C:Int->Int->Prop)(g:Int->Int->V):R2:=fun x y H Q=>∃i j,x=.int i/\y=.int j/\C i j/\Q (g i j) H
def T8(g:Int->Int->V):R2:=fun x y H Q=>∃i j,x=.int i/\y=.int j/\Q (g i j) H
def rU(g:Int->V):V->Hp->VK->Prop:=fun x H Q=>∃i,x=.int i/\Q (g i) H
section
variable{X:Cx}{a b c:Expr}{ta tb tc:TE}{pos:Pos}
theorem Xw(ha:PE X a ta)(hb:PE X b tb){pins:List (Addr×Obj)}{s:Shared}{σ:St}{H:Hp}{R:V->V->Hp->Prop}(I:Inv X pins σ H s)
  (h:ta σ H fun x H1=>tb σ H1 fun y H2=>R x y H2) {Q:Value->Shared->Prop} {f:Value->Value->Sem Value}
  (hf:∀v u s2 x y H2,Inv X pins σ H2 s2->RelV x v->RelV y u->R x y H2->wpAny (model X.prog X.w) X.A (f v u) Q X.xe s2) :
  wpAny (model X.prog X.w) X.A (eval a X.env) (fun v s₁=>wpAny (model X.prog X.w) X.A (eval b X.env) (fun u s₂=>wpAny (model X.prog X.w) X.A (f v u) Q X.xe s₂) X.xe s₁) X.xe s:=by
 refine cQ (ha pins s σ H _ I h) fun v s1 zz=>?_
 obtain⟨x,H1,I1,r1,q1⟩:=zz
 refine cQ (hb pins s1 σ H1 _ I1 q1) fun u s2 zz=>?_
 obtain⟨y,H2,I2,r2,q2⟩:=zz
 exact hf v u s2 x y H2 I2 r1 r2 q2
theorem ab2{op:Operator}{r:R2}(ho:jj X (binaryOp op) r)(ha:PE X a ta)(hb:PE X b tb):PE X (.BinOp a op b pos) (tOp r ta tb):=by
 intro pins s σ H Q I h
 exact wpAny_BinOp (Xw ha hb I h fun v u s2 x y H2 I2 rx ry q=>ho pins s2 σ H2 x y v u Q I2 rx ry q)
theorem abg{op:UnaryOp}{r:V->Hp->VK->Prop}(ho:UnR X (unaryOp op) r)(ha:PE X a ta):PE X (.UnaryOp op a pos) (tUn r ta):=by
 intro pins s σ H Q I h
 exact UnaryOp_ (cQ (ha pins s σ H _ I h) fun v s1 ⟨x,H1,I1,r1,q1⟩=>ho pins s1 σ H1 x v Q I1 r1 q1)
theorem opI{f:Value->Value->Sem Value}{C:Int->Int->Prop}{g:Int->Int->Int}
  (rule:∀(i j:Int) (t u:Tok) (s:Shared) (Q:Value->Shared->Prop) (E:Value->Shared->Prop),C i j->Q (.int (g i j) s.toks) { s with toks:=s.toks+1 }->wpAny (model X.prog X.w) X.A (f (.int i t) (.int j u)) Q E s) :
  jj X f (rI C fun i j=>.int (g i j)):=by
 intro pins s σ H x y v u Q I rx ry h
 obtain⟨i,j,rfl,rfl,hc,q⟩:=h
 obtain⟨t,rfl⟩:=rx
 obtain⟨t',rfl⟩:=ry
 exact rule i j t t' s _ _ hc ⟨.int (g i j),H,I.tok _,⟨_,rfl⟩,q⟩
theorem Wj{f:Value->Value->Sem Value}{g:Int->Int->Int}
  (rule:∀(i j:Int) (t u:Tok) (s:Shared) (Q:Value->Shared->Prop) (E:Value->Shared->Prop),Q (.int (g i j) s.toks) { s with toks:=s.toks+1 }->wpAny (model X.prog X.w) X.A (f (.int i t) (.int j u)) Q E s) :
  jj X f (T8 fun i j=>.int (g i j)):=by
 intro pins s σ H x y v u Q I rx ry h
 obtain⟨i,j,rfl,rfl,q⟩:=h
 obtain⟨t,rfl⟩:=rx
 obtain⟨t',rfl⟩:=ry
 exact rule i j t t' s _ _ ⟨.int (g i j),H,I.tok _,⟨_,rfl⟩,q⟩
theorem U4{f:Value->Value->Sem Value}{g:Int->Int->Bool}
  (rule:∀(i j:Int) (t u:Tok) (s:Shared) (Q:Value->Shared->Prop) (E:Value->Shared->Prop),Q (.bool (g i j)) s->wpAny (model X.prog X.w) X.A (f (.int i t) (.int j u)) Q E s) :
  jj X f (T8 fun i j=>.bl (g i j)):=by
 intro pins s σ H x y v u Q I rx ry h
 obtain⟨i,j,rfl,rfl,q⟩:=h
 obtain⟨t,rfl⟩:=rx
 obtain⟨t',rfl⟩:=ry
 exact rule i j t t' s _ _ ⟨.bl (g i j),H,I,rfl,q⟩
def abl(i j:Int):Prop:=0<j/\j<1073741824
def V0(i j:Int):Prop:=0<=j/\j<=1000000/\i.natAbs<2 ^ 64
def TJ(i j:Int):Prop:=(-(2 ^ 64)<i/\i<2 ^ 64)\/(-(2 ^ 64)<j/\j<2 ^ 64)
theorem TJ.ok{i j:Int}(h:TJ i j):IntMulOk i j:=by
 rcases h with ⟨h1,h2⟩ | ⟨h1,h2⟩
 ·exact .of_left (intBits_le_64 h1 h2)
 ·exact .of_right (intBits_le_64 h1 h2)
theorem ZC:jj X (binaryOp .Add) (T8 fun i j=>.int (i+j)):=Wj fun _ _ _ _ _ _ _ q=>add_int q
theorem Xm:jj X (binaryOp .Sub) (T8 fun i j=>.int (i-j)):=Wj fun _ _ _ _ _ _ _ q=>sub_int q
theorem Yz:jj X (binaryOp .Mod) (rI (fun _ j=>0<j) fun i j=>.int (i%j)):=opI fun i j _ _ _ _ _ hc q=>by
 have h1:(0:Int)<j:=hc
 exact mod_int' (by omega) (by rw[Int.fmod_eq_emod_of_nonneg i (by omega)];exact q)
theorem ZM:jj X (binaryOp .Pow) (rI V0 fun i j=>.int (i ^ j.toNat)):=opI fun _ _ _ _ _ _ _ hc q=>pow_int_small hc.1 hc.2.1 hc.2.2 q
theorem Wg:jj X (inplaceOp .Add) (T8 fun i j=>.int (i+j)):=Wj fun _ _ _ _ _ _ _ q=>iadd_int q
theorem Wh:jj X (inplaceOp .Sub) (T8 fun i j=>.int (i-j)):=Wj fun _ _ _ _ _ _ _ q=>isub_int q
theorem unI{f:Value->Sem Value}{g:Int->Int}
  (rule:∀(i:Int) (t:Tok) (s:Shared) (Q:Value->Shared->Prop) (E:Value->Shared->Prop),Q (.int (g i) s.toks) { s with toks:=s.toks+1 }->wpAny (model X.prog X.w) X.A (f (.int i t)) Q E s) :
  UnR X f (rU fun i=>.int (g i)):=by
 intro pins s σ H x v Q I rx h
 obtain⟨i,rfl,q⟩:=h
 obtain⟨t,rfl⟩:=rx
 exact rule i t s _ _ ⟨.int (g i),H,I.tok _,⟨_,rfl⟩,q⟩
theorem XN:UnR X (unaryOp .USub) (rU fun i=>.int (-i)):=unI fun _ _ _ _ _ q=>neg_int q
end
section
variable{X:Cx}{a b c:Expr}{ta tb tc:TE}{pos:Pos}
theorem abu:jj X (compareOp .Lt) (T8 fun i j=>.bl (decide (i<j))):=U4 fun _ _ _ _ _ _ _ q=>lt_int q
theorem abY:jj X (compareOp .LtE) (T8 fun i j=>.bl (decide (i<=j))):=U4 fun _ _ _ _ _ _ _ q=>le_int q
theorem abv:jj X (compareOp .Gt) (T8 fun i j=>.bl (decide (j<i))):=U4 fun _ _ _ _ _ _ _ q=>gt_int q
theorem aaJ:jj X (compareOp .GtE) (T8 fun i j=>.bl (decide (j<=i))):=U4 fun _ _ _ _ _ _ _ q=>ge_int q
theorem T7(b:Expr){op:CmpOp}(h:op≠.In:=by decide)(h2:op≠.NotIn:=by decide):behindInMarks op b=false:=by
 have e1:(op==CmpOp.In)=false:=by cases op <;> first | rfl | exact absurd rfl h
 have e2:(op==CmpOp.NotIn)=false:=by cases op <;> first | rfl | exact absurd rfl h2
 cases b <;> simp[behindInMarks,e1,e2]
theorem Vt{op:CmpOp}{r:R2}(ho:jj X (compareOp op) r)(ha:PE X a ta)(hb:PE X b tb)(hm:behindInMarks op b=false):PE X (.Compare a [op] [b] pos) (tOp r ta tb):=by
 intro pins s σ H Q I h
 exact wpAny_Compare1 (Xw ha hb I h fun v u s2 x y H2 I2 rx ry q=>ho pins s2 σ H2 x y v u Q I2 rx ry q) hm
def Wz(t:TE):TT:=fun σ H Q=>t σ H fun x H'=>∃k,x=.bl k/\Q k H'
theorem Ur{op:CmpOp}{r:R2}(ho:jj X (compareOp op) r)(ha:PE X a ta)(hb:PE X b tb)(hm:behindInMarks op b=false):PT X (.Compare a [op] [b] pos) (Wz (tOp r ta tb)):=by
 intro pins s σ H Q I h
 refine wpAny_isTrue_Compare1 (cQ (ha pins s σ H _ I h) fun v s1 ⟨x,H1,I1,r1,q1⟩=>cQ (hb pins s1 σ H1 _ I1 q1) fun u s2 ⟨y,H2,I2,r2,q2⟩=>
  cQ (ho pins s2 σ H2 x y v u _ I2 r1 r2 q2) fun c s3 ⟨z,H3,I3,r3,k,e,q3⟩=>?_) hm
 subst e
 cases r3
 exact wpAny_truthy_bool ⟨H3,I3,q3⟩
def RZ(r r':R2)(ta tb tc:TE):TE:=fun σ H Q=>ta σ H fun x H1=>tb σ H1 fun y H2=>r x y H2 fun z H3=>∃k,z=.bl k /\
 (if k=true then tc σ H3 fun w' H4=>r' y w' H4 Q else Q (.bl false) H3)
theorem Tr{op op':CmpOp}{r r':R2}(ho:jj X (compareOp op) r)(ho':jj X (compareOp op') r')(ha:PE X a ta)(hb:PE X b tb)(hc:PE X c tc)
  (hm:lastMarks [op,op'] [b,c]=false:=by with_unfolding_all rfl):PT X (.Compare a [op,op'] [b,c] pos) (Wz (RZ r r' ta tb tc)):=by
 intro pins s σ H Q I h
 refine isTrue_chain (cQ (ha pins s σ H _ I h) fun v s1 ⟨x,H1,I1,r1,q1⟩=>test_link (cQ (hb pins s1 σ H1 _ I1 q1) fun u s2 ⟨y,H2,I2,r2,q2⟩=>
  cQ (ho pins s2 σ H2 x y v u _ I2 r1 r2 q2) fun d s3 ⟨z,H3,I3,r3,k,e,q3⟩=>?_)) hm
 subst e
 cases r3
 refine wpAny_truthy_bool ?_
 cases k with
 |false=>
  obtain⟨k',e',q'⟩:=q3
  cases e'
  exact ite_ff ⟨H3,I3,q'⟩
 |true=>
  refine ite_tt (test_last (cQ (hc pins s3 σ H3 _ I3 q3) fun w' s4 ⟨z',H4,I4,r4,q4⟩=>cQ (ho' pins s4 σ H4 y z' u w' _ I4 r2 r4 q4) fun d' s5 zz=>?_))
  obtain⟨z2,H5,I5,r5,k2,e2,q5⟩:=zz
  subst e2
  cases r5
  exact wpAny_truthy_bool ⟨H5,I5,q5⟩
theorem xW:(sizeLine:Nat)<2 ^ 63:=by rw[sizeLine_eq];decide
theorem HX:jj X (binaryOp .Add) (fun x y H Q=>∃i j,x=.str i/\y=.str j/\i.length+j.length<=sizeLine/\Q (.str (i++j)) H):=by
 intro pins s σ H x y v u Q I rx ry h
 obtain⟨i,j,rfl,rfl,hz,q⟩:=h
 obtain⟨t,rfl⟩:=rx
 obtain⟨t',rfl⟩:=ry
 exact add_str (fun t' tk=>⟨.str (i++j),H,I.tok _,⟨_,rfl⟩,q⟩) hz
theorem Ff:jj X (inplaceOp .Add) (fun x y H Q=>∃i j,x=.str i/\y=.str j/\i.length+j.length<=sizeLine/\Q (.str (i++j)) H):=by
 intro pins s σ H x y v u Q I rx ry h
 obtain⟨i,j,rfl,rfl,hz,q⟩:=h
 obtain⟨t,rfl⟩:=rx
 obtain⟨t',rfl⟩:=ry
 exact iadd_str (fun t' tk=>⟨.str (i++j),H,I.tok _,⟨_,rfl⟩,q⟩) hz
theorem vals1{x:V}{us:List Value}(r:Vals [x] us):∃u,us=[u]/\RelV x u:=by
 cases r with
 |cons r1 r2=>cases r2;exact⟨_,rfl,r1⟩
theorem vals2{x y:V}{us:List Value}(r:Vals [x,y] us):∃u w',us=[u,w']/\RelV x u/\RelV y w':=by
 cases r with
 |cons r1 r2=>
  cases r2 with
  |cons r3 r4=>cases r4;exact⟨_,_,rfl,r1,r3⟩
end
end L2
namespace L2
open PySem PySem.Spec PyProof.Rows
structure ZZ(h:Heap)(x dx C:Addr)(mA:Str->Option Value):Prop where
 obj:h.get? x=some (PySem.W.instObj C dx)
 ns:h.Ns1 dx mA
 ne:dx≠x
theorem O1{h:Heap}{dx:Addr}{mA:Str->Option Value}(n:h.Ns1 dx mA):∃od,h.get? dx=some od/\∀name,PySem.W.lookIn name od=some (mA name):=by
 obtain⟨o,es,ep,ho,hd,hk,_,hm⟩:=n
 refine⟨o,ho,fun name=>?_⟩
 have e:=hm name
 unfold nsFind findBy at e
 rw[←Array.find?_toList] at e
 unfold PySem.W.lookIn
 rw[hd]
 dsimp only
 split
 ·rename_i y q
  rw[q] at e
  exact congrArg some e
 ·rename_i q
  rw[q] at e
  have a:es.toList.any (·.refKey)=false:=by
   rw[List.any_eq_false]
   intro y hy
   obtain⟨z,t,hkey⟩:=hk y (Array.mem_toList_iff.mp hy)
   simp[DictEntry.refKey,hkey]
  have a':¬es.toList.any (·.refKey)=true:=by rw[a];exact Bool.false_ne_true
  rw[if_neg a']
  exact congrArg some e
theorem ZZ.look{h:Heap}{x dx C:Addr}{mA:Str->Option Value}(I:ZZ h x dx C mA):∃od,PySem.W.InstAt h x (PySem.W.instObj C dx) C (some od)/\∀name,PySem.W.lookIn name od=some (mA name) :=
 let ⟨od,ho,hl⟩:=O1 I.ns
 ⟨od,⟨I.obj,rfl,rfl,ho⟩,hl⟩
section
variable{prog:Program}{w:World}{A:Around}{E:Value->Shared->Prop}{s:Shared}{K:PySem.W.Frag}{x dx C f:Addr}{mA:Str->Option Value}{name:Str}{v:Value}
end
theorem qm.some_of{v:V}{o:Option Value}(r:qm (some v) o):∃u,o=some u/\RelV v u:=by
 cases o with
 |none=>exact (show False from r).elim
 |some u=>exact⟨u,rfl,r⟩
theorem qm.none_of{o:Option Value}(r:qm none o):o=none:=by
 cases o with
 |none=>rfl
 |some u=>exact (show False from r).elim
section
variable{P:Program}{w:World}{H H':Hp}{h h':Heap}{a C dx:Addr}{fs fs':List (Str×V)}
theorem Wf(hok:rK P w H h)(e:H a=some (.ins C dx fs)):∃mA,ZZ h a dx C mA/\(∀f,qm (fs.lookup f) (mA f))/\PySem.Within mA (fs.map (·.1))/\fs.length<=1000/\H dx=some (.own a):=by
 obtain⟨d,z,ne,ob,mA,n,r,q⟩:=(show cP P w H h a (.ins C dx fs) from hok a _ e)
 exact⟨mA,⟨ob,n,ne⟩,r,q,z,d⟩
end
structure Cls(K:PySem.W.Frag)(C:Addr):Prop where
 pg:PySem.W.plainGet K C Str.empty=true
 hd:PySem.W.hasDictIn K C=true
 po:PySem.W.plainOver K C=true
 sa:PySem.W.findIn K (.ref C) "__setattr__" = some (some (.builtin "object.__setattr__"))
theorem Cls.get{K:PySem.W.Frag}{C:Addr}(c:Cls K C)(f:Str):PySem.W.plainGet K C f=true:=c.pg
structure Con(K:PySem.W.Frag)(C:Addr)(f:Str)(v:V)(u:Value):Prop where
 at_:PySem.W.findIn K (.ref C) f=some (some u)
 rel:RelV v u
 get:PySem.W.specialIn K u "__get__" = some none
 cp:PySem.W.copiedNames.contains f=false
structure Meth(K:PySem.W.Frag)(C:Addr)(m:Str)(f:Addr):Prop where
 at_:PySem.W.findIn K (.ref C) m=some (some (.ref f))
 fn:PySem.W.isFn K (.ref f)=true
 kp:PySem.W.keepIn K (.ref f)=true
section
variable{X:Cx}{pins:List (Addr×Obj)}{σ:St}{H:Hp}{s:Shared}{a C dx:Addr}{fs:List (Str×V)}{f:Str}{v:V}{A:Around}{E:Value->Shared->Prop}
end
section
variable{X:Cx}{o e value:Expr}{f:Str}{pos pos' tpos:Pos}{ta tv:TE}
end
section
variable{X:Cx}{pins:List (Addr×Obj)}{σ:St}{H:Hp}{s:Shared}{A:Around}{E:Value->Shared->Prop}{Q:Value->Shared->Prop}{c:Value}{b:Bool}
inductive vO(K:PySem.W.Frag)(H:Hp):V->Value->Prop where
 |non:vO K H .non (.type "NoneType")
 |bl (x:Bool):vO K H (.bl x) (.type "bool")
 |int (i:Int):vO K H (.int i) (.type "int")
 |str (x:Str):vO K H (.str x) (.type "str")
 |flt (x:UInt64):vO K H (.flt x) (.type "float")
 |lst {a:Addr} {xs:List V} (e:H a=some (.lst xs)):vO K H (.ref a) (.type "list")
 |frz {a:Addr} {o:Obj} {xs:List V} (e:H a=some (.frz o (.lst xs))):vO K H (.ref a) (.type "list")
 |tup {a:Addr} {xs:List V} (e:H a=some (.tup xs)):vO K H (.ref a) (.type "tuple")
 |dK {a:Addr} {kvs:List (Key×V)} (e:H a=some (.dK kvs)):vO K H (.ref a) (.type "dict")
 |dT {a:Addr} {kvs:List (List Key×V)} (e:H a=some (.dT kvs)):vO K H (.ref a) (.type "dict")
 |ins {a C dx:Addr} {fs:List (Str×V)} (e:H a=some (.ins C dx fs)) (cl:Cls K C) (ha:PySem.W.findIn K (.ref C) "__class__" = some (some (.builtin "object.__class__")))
   (hn:PySem.W.specialIn K (.builtin "object.__class__") "__get__" = some (some (.builtin "getset_descriptor.__get__"))) (htk:PySem.W.takesIn K (.builtin "object.__class__")=some true)
   (hm:PySem.W.mroIn K C (.type "object")=some true):vO K H (.ref a) (.ref C)
theorem jB{x:V}{u t:Value}(I:Inv X pins σ H s)(rx:RelV x u)(ty:vO X.K H x t)(e:PySem.W.kitOne X.K t c=some b)(h:∀tk,Q (.bool b) { s with toks:=tk }) :
  wpAny (model X.prog X.w) A (call (.builtin "isinstance") [u,c]) Q E s:=by
 cases ty with
 |non=>cases (show u=Value.none from rx);exact PySem.W.kia_one PySem.W.kitx_none I.uq True.intro e (fun z=>nomatch z) h
 |bl y=>cases (show u=Value.bool y from rx);exact PySem.W.kia_one PySem.W.kitx_bool I.uq True.intro e (fun z=>nomatch z) h
 |int i=>obtain⟨t,q⟩:=(show ∃t,u=Value.int i t from rx);cases q;exact PySem.W.kia_one PySem.W.kitx_int I.uq True.intro e (fun z=>nomatch z) h
 |str y=>obtain⟨t,q⟩:=(show ∃t,u=Value.str y t from rx);cases q;exact PySem.W.kia_one PySem.W.kitx_str I.uq True.intro e (fun z=>nomatch z) h
 |flt y=>obtain⟨t,q⟩:=(show ∃t,u=Value.float y t from rx);cases q;exact PySem.W.kia_one PySem.W.kitx_float I.uq True.intro e (fun z=>nomatch z) h
 |@lst a xs ea=>
  cases (show u=Value.ref a from rx)
  obtain⟨_,_,n,_,h1⟩:=(show cP X.prog X.w H s.heap a (.lst xs) from I.hok a _ ea)
  exact PySem.W.kia_one PySem.W.kitx_list I.uq ⟨_,h1,rfl⟩ e (fun z=>nomatch z) h
 |@frz a ob xs ea=>
  cases (show u=Value.ref a from rx)
  obtain⟨_,_,_,n,_,h1⟩:=(show cP X.prog X.w H s.heap a (.frz ob (.lst xs)) from I.hok a _ ea)
  exact PySem.W.kia_one PySem.W.kitx_list I.uq ⟨_,h1,rfl⟩ e (fun z=>nomatch z) h
 |@tup a xs ea=>
  cases (show u=Value.ref a from rx)
  obtain⟨_,_,_,p⟩:=(show cP X.prog X.w H s.heap a (.tup xs) from I.hok a _ ea)
  obtain⟨o,h1,h2,_⟩:=p
  exact PySem.W.kia_one PySem.W.kitx_tuple I.uq ⟨o,h1,h2⟩ e (fun z=>nomatch z) h
 |@dK a kvs ea=>
  cases (show u=Value.ref a from rx)
  obtain⟨_,_,vs,_,p⟩:=(show cP X.prog X.w H s.heap a (.dK kvs) from I.hok a _ ea)
  obtain⟨o,es,ep,h1,h2,_⟩:=p
  exact PySem.W.kia_one PySem.W.kitx_dict I.uq ⟨o,h1,h2.1⟩ e (fun z=>nomatch z) h
 |@dT a kvs ea=>
  cases (show u=Value.ref a from rx)
  obtain⟨_,_,xs,_,o,es,ep,h1,h2,_⟩:=(show cP X.prog X.w H s.heap a (.dT kvs) from I.hok a _ ea)
  exact PySem.W.kia_one PySem.W.kitx_dict I.uq ⟨o,h1,h2.1⟩ e (fun z=>nomatch z) h
 |@ins a C dx fs ea cl ha hn htk hm=>
  cases (show u=Value.ref a from rx)
  obtain⟨mA,O,_⟩:=Wf I.hok ea
  obtain⟨od,J,_⟩:=O.look
  exact PySem.W.kia_one (PySem.W.kitx_own (cl.get _) cl.hd ha hn htk hm) I.uq J e (fun z=>nomatch z) h
end
end L2
namespace L2
open PySem PySem.Spec PyProof.Rows
structure fH(k:Nat)(A:Around):Prop where
 hd:A.handled=none
 dp:A.depth+3*k+5<recursionLimit
 un:A.units+16*k+200<cLine
theorem fH.mono{j k:Nat}{A:Around}(r:fH k A)(h:j<=k):fH j A:=⟨r.hd,by have:=r.dp;omega,by have:=r.un;omega⟩
theorem fH.deeper{k:Nat}{A:Around}(r:fH (k+1) A)(env:Env):fH k (A.deeper env) :=
 ⟨r.hd,by have:=r.dp;show A.depth+1+3*k+5<_;omega,by have:=r.un;show A.units+3+16*k+200<_;omega⟩
theorem fH.in1{k:Nat}{A:Around}(r:fH (k+1) A):fH k A.in1 :=
 ⟨r.hd,by have:=r.dp;show A.depth+3*k+5<_;omega,by have:=r.un;show A.units+1+16*k+200<_;omega⟩
theorem fH.depth{k:Nat}{A:Around}(r:fH k A):A.depth<recursionLimit:=by have:=r.dp;omega
theorem fH.units{k:Nat}{A:Around}(r:fH k A):A.units+64<cLine:=by have:=r.un;omega
theorem fH.yJ{k:Nat}{A:Around}(r:fH k A):A.units<cLine:=by have:=r.un;omega
def Nq:TA:=fun _ H Q=>Q [] H
def Ax(ta:TE)(tr:TA):TA:=fun σ H Q=>ta σ H fun x H1=>tr σ H1 fun xs H2=>Q (x::xs) H2
section
variable{X:Cx}{e:Expr}{es:List Expr}{te:TE}{t:TA}{pos:Pos}
theorem Ir:PA X [] Nq:=fun _ _ _ _ H Q I h=>Calls.spliced_nil ⟨[],H,I,.nil,h⟩
theorem CP(ha:PE X e te)(hr:PA X es t)(hs:starEach (e::es) X.env=(false,eval e X.env)::starEach es X.env:=by rfl):PA X (e::es) (Ax te t):=by
 intro pos pins s σ H Q I h
 rw[hs]
 show wpAny _ _ (spliced ((false,eval e X.env)::backTo pos (starEach es X.env))) _ _ s
 refine Calls.spliced_cons (cQ (ha pins s σ H _ I h) fun u s1 zz=>?_)
 obtain⟨x,H1,I1,r1,q1⟩:=zz
 exact cQ (hr pos pins s1 σ H1 _ I1 q1) fun us s2 ⟨xs,H2,I2,r2,q2⟩=>⟨x::xs,H2,I2,.cons r1 r2,q2⟩
def ad3(t:TA):TE:=fun σ H Q=>t σ H fun xs H1=>xs.length<=sizeLine/\∀p,H1 p=none->Q (.ref p) (upd H1 p (.tup xs))
def acr(t:TA):TE:=fun σ H Q=>t σ H fun xs H1=>xs.length<=sizeLine/\∀p,H1 p=none->Q (.ref p) (upd H1 p (.lst xs))
theorem YM{x1}(h:PA X es t):PE X (.Tuple es x1 pos) (ad3 t):=by
 intro pins s σ H Q I hq
 refine wpAny_Tuple_spliced (cQ (h pos pins s σ H _ I hq) fun us s1 ⟨xs,H1,I1,r,z,q⟩=>⟨by rw[←r.length];exact z,?_⟩)
 have hf:H1 s1.heap.objs.size=none:=I1.hok.fresh (Nat.le_refl _)
 refine⟨.ref s1.heap.objs.size,upd H1 s1.heap.objs.size (.tup xs),I1.laid (t':=s1.toks) (fun b u e=>Heap.get?_push_of_some _ e) (Nat.le_refl _) ?_,rfl,q _ hf⟩
 exact⟨z,us,r,⟨_,Heap.get?_push_size _ rfl,rfl,_,rfl,rfl⟩⟩
theorem Z4(h:PA X es t):PE X (.List es pos) (acr t):=by
 intro pins s σ H Q I hq
 refine wpAny_List_spliced (cQ (h pos pins s σ H _ I hq) fun us s1 ⟨xs,H1,I1,r,z,q⟩=>⟨by rw[←r.length];exact z,?_⟩)
 have hf:H1 s1.heap.objs.size=none:=I1.hok.fresh (Nat.le_refl _)
 refine⟨.ref s1.heap.objs.size,upd H1 s1.heap.objs.size (.lst xs),I1.laid (t':=s1.toks) (fun b u e=>Heap.get?_push_of_some _ e) (Nat.le_refl _) ?_,rfl,q _ hf⟩
 exact⟨z,us,0,r,Heap.get?_push_size _ rfl⟩
end
abbrev Sp:=List V->Hp->VK->XK->Prop
abbrev Ue:=List Env->Hp->Shared->XK->Value->Shared->Prop
structure UL(P:Program)(w:World)(K:PySem.W.Frag)(mg:Str->Option Value)(base:Heap)(A:Around)(outer:List Env)(s:Shared)(H:Hp):Prop where
 frames:A.frames=some outer
 mod:Mod K mg base
 bs:∀b o,base.get? b=some o->s.heap.get? b=some o/\H b=none
 bsz:base.objs.size<=s.heap.objs.size
 vA:s.heap.FunFrames base outer
 frf:∀b∈frs outer,H b=none
 hok:rK P w H s.heap
 bare:AllBare s.gens
def CE(outer:List Env)(P:Program)(w:World)(H:Hp)(s:Shared)(Q:VK)(u:Value)(s':Shared):Prop :=
 ∃v H',s'.os=s.os/\AllBare s'.gens/\Un (frs outer) [] H H' s.heap s'.heap/\rK P w H' s'.heap/\RelV v u/\Q v H'
def CR(CX:Ue)(outer:List Env)(P:Program)(w:World)(H:Hp)(s:Shared)(Q:VK)(E:XK)(r:Result)(s':Shared):Prop :=
 match r with
 |.ok (.ret u)=>CE outer P w H s Q u s'
 |.ok _=>False
 |.error e=>CX outer H s E e s'
structure nO(P:Program)(w:World)(K:PySem.W.Frag)(mg:Str->Option Value)(base:Heap)(CX:Ue)(k:Nat)(f:Addr)(fd:FuncData)(ps:List Str)(sp:Sp):Prop where
 len:∀vs H Q E,sp vs H Q E->vs.length=ps.length
 run:∀(A:Around) (outer:List Env) (s:Shared) (H:Hp) (args:Args) (us:List Value) (vs:List V) (Q:VK) (E:XK),fH k A->UL P w K mg base A outer s H->BindsTo s fd args (ps.zip us)->Vals vs us->sp vs H Q E ->
  codeAny (model P w) A (.call (.ref f) args) (CR CX outer P w H s Q E) s
section
variable{X:Cx}{pins:List (Addr×Obj)}{σ:St}{H:Hp}{s s':Shared}
theorem Inv.env0(I:Inv X pins σ H s):UL X.prog X.w X.K X.mg X.base X.A X.stack s H :=
 ⟨I.ok.frames,I.ok.mod,I.bs,Nat.le_trans I.ok.bsz I.sz,I.stack,I.JX,I.hok,I.bare⟩
theorem Inv.after{Q:VK}{u:Value}(I:Inv X pins σ H s)(h:CE X.stack X.prog X.w H s Q u s'):EP X pins σ Q u s':=by
 obtain⟨v,H',os,bare,un,hok,r,q⟩:=h
 obtain⟨hh,g,d,t,os'⟩:=s'
 obtain rfl:os'=s.os:=os
 exact⟨v,H',I.call (h':=hh) (g':=g) (d':=d) (t':=t) (ch:=[]) un hok bare (fun b z=>absurd z (by simp)),r,q⟩
end
def abB(sp:Sp)(dvs:List V)(E:XK)(t:TA):TE:=fun σ H Q=>t σ H fun vs H1=>sp (vs++dvs) H1 Q E
def Binds(K:PySem.W.Frag)(fd:FuncData)(ps:List Str)(ds:List Value):Prop :=
 ∀(s:Shared) (us:List Value),K.In s.heap->(us++ds).length=ps.length->BindsTo s fd ⟨us,[]⟩ (ps.zip (us++ds))
theorem Binds.all{K:PySem.W.Frag}{fd:FuncData}{ps:List Str}(h:∀us:List Value,us.length=ps.length->bindArgs fd ⟨us,[]⟩=pure (ps.zip us)):Binds K fd ps []:=fun s us _ hl=>by
 rw[List.append_nil] at hl ⊢
 exact .of_eq (h us hl)
def Passes(CX:Ue)(X:Cx)(E:XK):Prop:=∀(pins:List (Addr×Obj)) (σ:St) (H:Hp) (s:Shared) (e:Value) (s':Shared),Inv X pins σ H s->CX X.stack H s E e s'->X.xe e s'
section
variable{X:Cx}{CX:Ue}{k:Nat}{f C:Addr}{fd:FuncData}{ps:List Str}{sp:Sp}{dvs:List V}{ds:List Value}{E:XK}{x m:Str}{p pos apos:Pos}{e o:Expr}{es:List Expr}{ta:TE}{t:TA}
theorem Pr{pins:List (Addr×Obj)}{σ:St}{H:Hp}{s:Shared}{Q:VK}{us:List Value}{vs:List V}(F:nO X.prog X.w X.K X.mg X.base CX k f fd ps sp)(hr:fH k X.A)(hb:Binds X.K fd ps ds)(hd:Vals dvs ds)(hx:Passes CX X E)
  (I:Inv X pins σ H s) (r:Vals vs us) (h:sp (vs++dvs) H Q E):wpAny (model X.prog X.w) X.A (call (.ref f) us) (EP X pins σ Q) X.xe s:=by
 have r2:Vals (vs++dvs) (us++ds):=r.append hd
 have hl:(us++ds).length=ps.length:=by rw[←r2.length];exact F.len _ _ _ _ h
 refine wpAny_call (codeAny_mono (F.run X.A X.stack s H ⟨us,[]⟩ (us++ds) (vs++dvs) Q E hr I.env0 (hb s us I.uq hl) r2 h) fun r s' hq=>?_)
 cases r with
 |error e=>exact hx pins σ H s e s' I hq
 |ok fl=>
  cases fl with
  |ret u=>exact I.after hq
  |next=>exact False.elim hq
  |brk=>exact False.elim hq
  |cont=>exact False.elim hq
theorem Vo(F:nO X.prog X.w X.K X.mg X.base CX k f fd ps sp)(hr:fH k X.A)(hg:Gl X x)(hm:X.mg x=some (.ref f))(hk:PySem.W.keepIn X.K (.ref f)=true)(hb:Binds X.K fd ps ds)(hd:Vals dvs ds)(hx:Passes CX X E)
  (ha:PA X (e::es) t) (hdb:(x==("__debug__" : Str))=false:=by decide) (he:starEach (e::es) X.env=(false,eval e X.env)::starEach es X.env:=by rfl) (hpl:(backTo pos (starEach es X.env)).any (·.1)=false:=by rfl) :
  PE X (.Call (.Name x p) (e::es) [] pos) (abB sp dvs E t):=by
 intro pins s σ H Q I h
 refine wpAny_Call_Name_kw (sZ I hg hm ?_ hdb)
 refine PySem.W.callWith_K (h₀:=X.base) I.ok.mod.kin hk (cQ (ha pos pins s σ H _ I h) fun us s1 ⟨vs,H1,I1,r,q⟩=>⟨I1.uq,?_⟩) he hpl
 exact Pr F hr hb hd hx I1 r q
structure Mk(K:PySem.W.Frag)(C f:Addr):Prop where
 makes:PySem.W.makesIn K C=true
 init:PySem.W.findIn K (.ref C) "__init__" = some (some (.ref f))
 fn:PySem.W.isFn K (.ref f)=true
 kp:PySem.W.keepIn K (.ref C)=true
end
def PK(X:Cx)(kws:List Keyword)(t:TA):Prop :=
 ∀(pos:Pos) (pins:List (Addr×Obj)) (s:Shared) (σ:St) (H:Hp) (Q:List V->Hp->Prop),Inv X pins σ H s->t σ H Q->wpAny (model X.prog X.w) X.A (evalAll ((backToKw pos (keywordEach kws X.env)).map (·.2))) (AP X pins σ Q) X.xe s
section
variable{X:Cx}{CX:Ue}{k:Nat}{f C:Addr}{fd:FuncData}{ps ks:List Str}{sp:Sp}{E:XK}{x m:Str}{p pos apos kpos:Pos}{e o:Expr}{es:List Expr}{kws:List Keyword}{te ta:TE}{t tk:TA}{nm:Option Str}
theorem Sg:PK X [] Nq:=fun _ _ _ _ H Q I h=>wpAny_evalAll_nil ⟨[],H,I,.nil,h⟩
theorem K3(ha:PE X e te)(hr:PK X kws t):PK X (⟨nm,e,kpos⟩::kws) (Ax te t):=by
 intro pos pins s σ H Q I h
 show wpAny _ _ (evalAll ((do let v ←eval e X.env;standAt pos;pure v)::(backToKw pos (keywordEach kws X.env)).map (·.2))) _ _ s
 refine wpAny_evalAll_cons (wpAny_bind (cQ (ha pins s σ H _ I h) fun u s1 ⟨x,H1,I1,r1,q1⟩=>wpAny_bind (wpAny_standAt (wpAny_pure ?_))))
 exact cQ (hr pos pins s1 σ H1 _ I1 q1) fun us s2 ⟨xs,H2,I2,r2,q2⟩=>⟨x::xs,H2,I2,.cons r1 r2,q2⟩
structure acO(K:PySem.W.Frag)(fd:FuncData)(ps ks:List Str)(g:List Value->List Value->List Value)(gV:List V->List V->List V):Prop where
 to:∀(s:Shared) (us ws:List Value),K.In s.heap->(g us ws).length=ps.length->BindsTo s fd ⟨us,ks.zip ws⟩ (ps.zip (g us ws))
 rel:∀ {vs:List V} {us:List Value} {zs:List V} {ws:List Value},Vals vs us->Vals zs ws->Vals (gV vs zs) (g us ws)
variable{g:List Value->List Value->List Value}{gV:List V->List V->List V}
end
structure aU(N P:List Str)(sc:Scope):Prop where
 kind:sc.kind=.function
 co:sc.isCoroutine=false
 gen:sc.isGenerator=false
 nd:N.Nodup
 pre:N.take P.length=P
 par:∀x∈P,sc.names.lookup x=some .local\/sc.names.lookup x=some .cell
 nofree:∀y∈sc.names,y.2≠.free
theorem Ac{kindOf:Str->Option NameKind}{x:Str}:∀ {binds:List (Str×Value)} {m:Str->Option Value},(∀v,(x,v)∉binds)->bindL kindOf binds m x=m x
 |[],_,_=>rfl
 |(n,v)::r,m,h=>by
  unfold bindL
  rw[Ac fun w hw=>h w (List.mem_cons_of_mem _ hw)]
  split
  ·have:x≠n:=by rintro rfl;exact h v List.mem_cons_self
   simp[this]
  ·rfl
theorem Ay{kindOf:Str->Option NameKind}{x:Str}:∀ {binds:List (Str×Value)} {m:Str->Option Value},(∀v,(x,v)∉binds)->bindC kindOf binds m x=m x
 |[],_,_=>rfl
 |(n,v)::r,m,h=>by
  unfold bindC
  rw[Ay fun w hw=>h w (List.mem_cons_of_mem _ hw)]
  split
  ·rfl
  ·have:x≠n:=by rintro rfl;exact h v List.mem_cons_self
   simp[this]
theorem Be{kindOf:Str->Option NameKind}{x:Str}{v:Value}:∀ {P:List Str} {vs:List Value} {i:Nat} {m:Str->Option Value},P.Nodup->P[i]?=some x->vs[i]?=some v->kindOf x=some .local ->
  bindL kindOf (P.zip vs) m x=some v
 |[],_,_,_,_,h,_,_=>by simp at h
 |_::_,[],_,_,_,_,h,_=>by simp at h
 |p::P,w::vs,0,m,nd,h1,h2,hk=>by
  simp at h1 h2;subst h1;subst h2
  show bindL kindOf ((p,w)::P.zip vs) m p=_
  unfold bindL
  rw[Ac fun v hv=>(List.nodup_cons.mp nd).1 (List.of_mem_zip hv).1,if_pos hk]
  simp
 |p::P,w::vs,i+1,m,nd,h1,h2,hk=>by
  show bindL kindOf ((p,w)::P.zip vs) m x=_
  unfold bindL
  exact Be (i:=i) (List.nodup_cons.mp nd).2 (by simpa using h1) (by simpa using h2) hk
theorem zO{kindOf:Str->Option NameKind}{x:Str}{v:Value}:∀ {P:List Str} {vs:List Value} {i:Nat} {m:Str->Option Value},P.Nodup->P[i]?=some x->vs[i]?=some v->kindOf x≠some .local ->
  bindC kindOf (P.zip vs) m x=some v
 |[],_,_,_,_,h,_,_=>by simp at h
 |_::_,[],_,_,_,_,h,_=>by simp at h
 |p::P,w::vs,0,m,nd,h1,h2,hk=>by
  simp at h1 h2;subst h1;subst h2
  show bindC kindOf ((p,w)::P.zip vs) m p=_
  unfold bindC
  rw[Ay fun v hv=>(List.nodup_cons.mp nd).1 (List.of_mem_zip hv).1,if_neg hk]
  simp
 |p::P,w::vs,i+1,m,nd,h1,h2,hk=>by
  show bindC kindOf ((p,w)::P.zip vs) m x=_
  unfold bindC
  exact zO (i:=i) (List.nodup_cons.mp nd).2 (by simpa using h1) (by simpa using h2) hk
def start(N:List Str)(vs:List V):St:=vs.map some++List.replicate (N.length-vs.length) none
def uY(CX:Ue)(P:Program)(w:World)(K:PySem.W.Frag)(mg:Str->Option Value)(base:Heap)(N:List Str)(qual:Str)(scope:Scope)(f:Addr)(cd:Value)(A:Around)(outer:List Env)(s:Shared)(H:Hp)(E:XK):Cx where
 prog:=P
 w:=w
 K:=K
 mg:=mg
 base:=base
 A:=A.deeper (envOfC qual scope s.heap.objs.size f cd)
 N:=N
 s₀:=s
 H₀:=H
 env:=envOfC qual scope s.heap.objs.size f cd
 outer:=outer
 stack:=envOfC qual scope s.heap.objs.size f cd::outer
 ex:=[]
 calm:=true
 fn:=fun _=>true
 pn:=[]
 xe:=fun e s'=>wpAny (model P w) (A.deeper (envOfC qual scope s.heap.objs.size f cd)) (leaving (envOfC qual scope s.heap.objs.size f cd) e) (fun _ s''=>CX outer H s E e s'') (fun e' s''=>CX outer H s E e' s'') s'
theorem EY{sc:Scope}{n:Nat}{x:Str}(h:sc.names.lookup x=some .cell):∃c,(cellsFrom n sc.names []).lookup x=some c:=by
 have q:=PySem.W.cellsFrom_some sc.names n [] (.inl h)
 exact Option.isSome_iff_exists.mp q
theorem zU{CX:Ue}{P:Program}{w:World}{K:PySem.W.Frag}{mg:Str->Option Value}{base:Heap}{N ps:List Str}{qual:Str}{scope:Scope}{f:Addr}{cd:Value}{A:Around}{outer:List Env}{s s1:Shared}{H:Hp}{E:XK}{us:List Value}{vs:List V}
  (S:aU N ps scope) (hd:A.handled=none) (e0:UL P w K mg base A outer s H) (hl:vs.length=ps.length) (r:Vals vs us)
  (x:InCallC s s.heap.objs.size (bindL (envOfC qual scope s.heap.objs.size f cd).kindOf (ps.zip us) fun _=>none) (cellsFrom (s.heap.objs.size+1) scope.names []) (bindC (envOfC qual scope s.heap.objs.size f cd).kindOf (ps.zip us) fun _=>none) s1) :
  Inv (uY CX P w K mg base N qual scope f cd A outer s H E) [] (start N vs) H s1:=by
 have hpl:ps.length<=N.length:=by have:=congrArg List.length S.pre;rw[List.length_take] at this;omega
 obtain⟨h1,tk,rfl,hk⟩:=x.done
 have noA:∀b:Addr,b∉(uY CX P w K mg base N qual scope f cd A outer s H E).ex:=fun b z=>absurd (show b∈([]:List Addr) from z) (by simp)
 refine⟨⟨e0.mod,S.kind,rfl,rfl,Nat.le_refl _,fun y z c h1 h2=>?_,fun y hy=>?_,fun y c _ h=>?_,fun _=>hd,Around.frames_deeper e0.frames,.inr ⟨rfl,rfl⟩,fun b z=>absurd z (noA b),e0.bs,e0.bsz,fun b _ _=>noA b,fun b z=>absurd z (noA b),e0.vA,e0.frf⟩,
  rfl,e0.bare,Un.kept hk,⟨_,x.toInCall.ns,fun i y v h1 h2 h3=>?_⟩,fun y c h=>⟨_,x.cell y c h⟩,e0.hok.fresh (Nat.le_refl _),fun y c h=>?_,fun p hp=>absurd (show p∈([]:List (Addr×Obj)) from hp) (by simp),e0.hok.kept hk,?_⟩
 ·exact name_of_addr x.apart (PySem.mem_of_lookup h1) (PySem.mem_of_lookup h2)
 ·have hy:scope.names.lookup y=some .cell\/scope.names.lookup y=some .free:=hy
  rcases hy with hy | hy
  ·exact EY hy
  ·exact absurd rfl (S.nofree _ (PySem.mem_of_lookup hy))
 ·exact Nat.le_of_lt (x.above y c (PySem.mem_of_lookup h))
 ·have hi:i<vs.length:=by
   unfold start at h2
   by_cases hi:i<vs.length
   ·exact hi
   ·rw[List.getElem?_append_right (by simpa using hi)] at h2
    rw[List.getElem?_replicate] at h2
    split at h2 <;> cases h2
  have ha:vs[i]?=some v:=by
   unfold start at h2
   rw[List.getElem?_append_left (by simpa using hi),List.getElem?_map] at h2
   cases e:vs[i]? with
   |none=>rw[e] at h2;cases h2
   |some a=>rw[e] at h2;cases h2;rfl
  obtain⟨u,hu,rv⟩:=r.get ha
  have hp:ps[i]?=some y:=by
   rw[←S.pre,List.getElem?_take_of_lt (by omega)];exact h1
  have ndP:ps.Nodup:=by rw[←S.pre];exact S.nd.sublist (List.take_sublist _ _)
  refine⟨u,rv,?_⟩
  rcases S.par y (List.mem_of_getElem? hp) with k | k
  ·exact .inl ⟨k,Be ndP hp hu k⟩
  ·obtain⟨c,e⟩:=EY (n:=s.heap.objs.size+1) k
   refine .inr ⟨.inl k,c,e,?_⟩
   have q:=x.cell y c e
   rw[zO ndP hp hu (by show scope.names.lookup y≠_;rw[k];decide)] at q
   exact q
 ·exact e0.hok.fresh (Nat.le_of_lt (x.above y c (PySem.mem_of_lookup h)))
 ·unfold start
  show _=N.length
  rw[List.length_append,List.length_map,List.length_replicate]
  omega
theorem W8{CX:Ue}{P:Program}{w:World}{K:PySem.W.Frag}{mg:Str->Option Value}{base:Heap}{k:Nat}{f:Addr}{name qual:Str}{params:Arguments}{body:List Stmt}{scope:Scope}{dV kV doc pm cdv ct oc:Value}{an od:Option Addr}
  {osl:Array (Option Value)} {N ps:List Str} {sp:Sp} (lk:K.lookup f=some ⟨oc,od,.func (PySem.W.fnOf name qual params body scope dV kV doc pm an cdv ct),osl⟩) (hcd:PySem.W.codeIn K cdv qual=true) (S:aU N ps scope)
  (len:∀vs H Q E,sp vs H Q E->vs.length=ps.length)
  (hbody:∀ (A:Around) (outer:List Env) (s:Shared) (H:Hp) (vs:List V) (Q:VK) (E:XK),fH k (A.deeper (envOfC qual scope s.heap.objs.size f cdv))→sp vs H Q E →
   ∃t,Ea (uY CX P w K mg base N qual scope f cdv A outer s H E) body t/\t { nx:=fun _ H'=>Q .non H',rt:=Q } (start N vs) H) :
  nO P w K mg base CX (k+1) f (PySem.W.fnOf name qual params body scope dV kV doc pm an cdv ct) ps sp:=by
 refine⟨len,fun A outer s H args us vs Q E hr e0 hb r hsp=>?_⟩
 have hl:=len _ _ _ _ hsp
 have KX:K.In s.heap:=e0.mod.kin.keeps fun b o e=>(e0.bs b o e).1
 have lim:s.heap.NoLimit:=e0.mod.nolimit.keeps fun b o e=>(e0.bs b o e).1
 have hkind:∀y∈ps.zip us,scope.names.lookup y.1=some .local\/(scope.names.lookup y.1=some .cell/\((cellsFrom (s.heap.objs.size+1) scope.names []).lookup y.1).isSome=true):=fun ⟨n,v⟩ hy=>by
  rcases S.par n (List.of_mem_zip hy).1 with q | q
  ·exact .inl q
  ·exact .inr ⟨q,PySem.W.cellsFrom_some _ _ _ (.inl q)⟩
 refine codeAny_call_function hr.depth (KX _ _ lk) rfl S.co S.gen rfl (PySem.W.codeRec_of KX hcd) (hb _ _ _ _ ?_)
 refine wpAny_newFunctionEnv_cells S.kind hkind fun env he s1 x=>?_
 subst he
 refine⟨lim.keeps x.toInCall.keep,codeAny_func ?_⟩
 obtain⟨t,ht,hq⟩:=hbody A outer s H vs Q E (hr.deeper _) hsp
 have I:Inv (uY CX P w K mg base N qual scope f cdv A outer s H E) [] (start N vs) H s1:=zU S hr.hd e0 hl r x
 refine wpAny_mono (ht [] s1 (start N vs) H _ I hq) (fun fl s' hs=>?_) fun e s' hs=>hs
 have fin:∀ {σ':St} {H':Hp} {v:V} {u:Value},Inv (uY CX P w K mg base N qual scope f cdv A outer s H E) [] σ' H' s'->RelV v u->Q v H'->CE outer P w H s Q u s' :=
  fun {σ' H' v u} J rv q=>⟨v,H',J.os,J.bare,J.base,J.hok,rv,q⟩
 cases fl with
 |ret u=>
  obtain⟨v,σ',H',J,rv,q⟩:=hs
  exact fin J rv q
 |next=>
  obtain⟨σ',H',J,q⟩:=hs
  exact fin (v:=V.non) (u:=Value.none) J rfl q
 |brk=>
  obtain⟨_,_,_,q⟩:=hs
  exact False.elim q
 |cont=>
  obtain⟨_,_,_,q⟩:=hs
  exact False.elim q
end L2
namespace L2
open PySem PySem.Spec PyProof.Rows
section
variable{X:Cx}{x:Str}{p pos:Pos}{e:Expr}{es:List Expr}{t:TA}{id T:String}{r:List V->Hp->VK->Prop}
def tCB(r:List V->Hp->VK->Prop)(t:TA):TE:=fun σ H Q=>t σ H fun vs H1=>r vs H1 Q
theorem Qn(hc:dZ X (.builtin id) r)(hg:Gl X x)(hm:X.mg x=none)(hv:bootBuiltins x=some (.builtin id))(ha:PA X (e::es) t)(hn:x ≠ "__name__":=by decide)(hdb:(x==("__debug__" : Str))=false:=by decide)
  (he:starEach (e::es) X.env=(false,eval e X.env)::starEach es X.env:=by rfl) (hpl:(backTo pos (starEach es X.env)).any (·.1)=false:=by rfl):PE X (.Call (.Name x p) (e::es) [] pos) (tCB r t):=by
 intro pins s σ H Q I h
 refine wpAny_Call_Name_kw (jd I hg hm hv ?_ hn hdb)
 exact PyProof.Rows.callWith_builtin1 (cQ (ha pos pins s σ H _ I h) fun us s1 ⟨vs,H1,I1,r1,q1⟩=>hc pins s1 σ H1 vs us Q I1 r1 q1) he hpl
theorem My(hc:dZ X (.type T) r)(hg:Gl X x)(hm:X.mg x=none)(hv:bootBuiltins x=some (.type T))(ha:PA X (e::es) t)(hn:x ≠ "__name__":=by decide)(hdb:(x==("__debug__" : Str))=false:=by decide)
  (he:starEach (e::es) X.env=(false,eval e X.env)::starEach es X.env:=by rfl) (hpl:(backTo pos (starEach es X.env)).any (·.1)=false:=by rfl):PE X (.Call (.Name x p) (e::es) [] pos) (tCB r t):=by
 intro pins s σ H Q I h
 refine wpAny_Call_Name_kw (jd I hg hm hv ?_ hn hdb)
 exact PyProof.Rows.callWith_type1 (cQ (ha pos pins s σ H _ I h) fun us s1 ⟨vs,H1,I1,r1,q1⟩=>hc pins s1 σ H1 vs us Q I1 r1 q1) he hpl
end
end L2
namespace HT
open PySem PyProof.Rows
def lexLt:List Int->List Int->Bool
 |[],[]=>false
 |[],_::_=>true
 |_::_,[]=>false
 |x::xs,y::ys=>if x=y then lexLt xs ys else decide (x<y)
theorem G5(x y:Int)(xs ys:List Int):lexLt (x::xs) (y::ys)=if x=y then lexLt xs ys else decide (x<y):=rfl
theorem zG:lexLt [] []=false:=rfl
theorem w6(y:Int)(ys:List Int):lexLt [] (y::ys)=true:=rfl
theorem xY(x:Int)(xs:List Int):lexLt (x::xs) []=false:=rfl
theorem QS(A:Around)(s:Shared)(a:Int)(t:Tok)(c:Int)(u:Tok):∃e,SeqAt.EqAt A s (.int a t) (.int c u) e/\(e=true↔a=c) :=
 ⟨(a==c),SeqAt.EqAt.int_int a t c u,by simp⟩
theorem Qj(A:Around)(s:Shared)(a:Int)(t:Tok)(c:Int)(u:Tok)(prog:Program)(w:World)(E:Value->Shared->Prop)(Q:Value->Shared->Prop)(h:Q (.bool (decide (a<c))) s) :
  wpAny (model prog w) A (richCompare .Lt (.int a t) (.int c u)) Q E s :=
 (PyProof.Rows.lt_int h:wpAny (model prog w) A (compareOp .Lt (.int a t) (.int c u)) Q E s)
section
open PySem.SeqAt
open PySem.AutoSeq1 (wpAny_loadPart')
open PySem.MeetsSeq PySem.MeetsSeq2 PySem.MeetsSeq3
theorem zB(l b:Addr)(items items2:Array Value)(n n2:Nat)(dd dd2:Option Addr)(sl sl2:Array (Option Value))(ns ms:List Int)(hi:IntsAre items.toList ns)(hj:IntsAre items2.toList ms) :
  Meets (Builtin.«tuple.__lt__» ⟨[.ref l,.ref b],[]⟩)
   (fun _ R s => s.heap.get? l = some { cls:=.type "tuple",dict:=dd,data:=.seq items n,slots:=sl }∧s.heap.get? b = some { cls:=.type "tuple",dict:=dd2,data:=.seq items2 n2,slots:=sl2 } ∧
    R (.ok (.ret (.bool (lexLt ns ms)))) s) :=
 .of_wp fun prog w A R s h=>by
  obtain⟨hp,g,d,tk,os⟩:=s;obtain⟨hl,hb,h⟩:=h
  have f2:=AutoSeq1.sub_tuple_tuple
  have z1:items.size=ns.length:=by rw[←hi.length];simp
  have z2:items2.size=ms.length:=by rw[←hj.length];simp
  wp_walk using wpAny_loadPart' hl,wpAny_loadPart' hb,wpAny_forIn_list _ (fun rest b s'=>b.1=none/\s'=⟨hp,g,d,tk,os⟩/\∃(vs ws:List Value) (ns' ms':List Int),rest=vs.zip ws /\
   IntsAre vs ns'/\IntsAre ws ms'/\ns'.length+items2.size=ms'.length+items.size/\R (.ok (.ret (.bool (lexLt ns' ms')))) ⟨hp,g,d,tk,os⟩) _
  case turn=>
   rintro⟨y,x⟩ rest b s' ⟨hb',rfl,vs,ws,ns',ms',hz,hvi,hwi,hlen,hR⟩
   cases hvi with
   |nil=>rw[List.zip_nil_left] at hz;cases hz
   |cons a t hvi'=>
    cases hwi with
    |nil=>rw[List.zip_nil_right] at hz;cases hz
    |cons c u hwi'=>
     rw[List.zip_cons_cons] at hz
     injection hz with hyx hrest
     injection hyx with hy hx
     subst hy hx
     rw[G5] at hR
     simp only[List.length_cons] at hlen
     obtain⟨e,he,hiff⟩:=QS A.in1 ⟨hp,g,d,tk,os⟩ a t c u
     refine wpAny_bind (he prog w _ _ ?_)
     cases e with
     |true=>
      rw[if_pos (hiff.mp rfl)] at hR
      wp_walk
      exact⟨rfl,rfl,_,_,_,_,hrest,hvi',hwi',by omega,hR⟩
     |false=>
      rw[if_neg (fun q=>absurd (hiff.mpr q) Bool.false_ne_true)] at hR
      have hri:=Qj A.in1 ⟨hp,g,d,tk,os⟩ a t c u prog w
      wp_walk using hri
      exact⟨_,rfl,by simpa using hR⟩
  case fin=>
   rintro⟨b1,b2⟩ s' ⟨hb',rfl,vs,ws,ns',ms',hz,hvi,hwi,hlen,hR⟩
   simp only at hb'
   subst hb'
   have hv:lexLt ns' ms'=decide (items.size<items2.size):=by
    cases hvi with
    |nil=>
     cases hwi with
     |nil=>
      simp only[List.length_nil] at hlen
      rw[zG]
      exact (decide_eq_false (by omega)).symm
     |cons c u hw=>
      simp only[List.length_nil,List.length_cons] at hlen
      rw[w6]
      exact (decide_eq_true (by omega)).symm
    |cons a t hv=>
     cases hwi with
     |nil=>
      simp only[List.length_nil,List.length_cons] at hlen
      rw[xY]
      exact (decide_eq_false (by omega)).symm
     |cons c u hw=>
      rw[List.zip_cons_cons] at hz
      cases hz
   rw[hv] at hR
   wp_walk
   exact⟨_,rfl,by simpa [Builtin.Tuple.tupleCompareSizes] using hR⟩
  case h=>
   exact⟨rfl,rfl,items.toList,items2.toList,ns,ms,rfl,hi,hj,by omega,h⟩
end
section
variable{prog:Program}{w:World}{A:Around}{E:Value->Shared->Prop}{s:Shared}
theorem Jx{l b:Addr}{items items2:Array Value}{ns ms:List Int}{Q:Value->Shared->Prop}(hl:IsTup s.heap l items)(hb:IsTup s.heap b items2)(hi:IntsAre items.toList ns)(hj:IntsAre items2.toList ms)
  (hu:A.units<cLine) (h:Q (.bool (lexLt ns ms)) s):wpAny (model prog w) A (compareOp .Lt (.ref l) (.ref b)) Q E s:=by
 obtain⟨⟨cls,dd,data,sl⟩,ho,hc,n,hd⟩:=id hl
 obtain⟨⟨cls2,dd2,data2,sl2⟩,ho2,hc2,n2,hd2⟩:=id hb
 simp only at hc hd hc2 hd2
 subst hc hd hc2 hd2
 exact richCompare_meets_room (op:=.Lt) ⟨_,ho,rfl⟩ ⟨_,ho2,rfl⟩ PySem.F.slot_tuple_lt PySem.F.entry_tuple_lt (PySem.F.args_tuple_lt_2 _ _) (zB l b items items2 n n2 dd dd2 sl sl2 ns ms hi hj)
  ⟨ho,ho2,show Value.bool (lexLt ns ms)≠Value.notImplemented/\Q (.bool (lexLt ns ms)) s from ⟨(fun x=>nomatch x),h⟩⟩ hu
def uH(n d:Nat):Option Int->Nat
 |none=>d
 |some v=>if v<0 then (v+(n:Int)).toNat else min v.toNat n
end
end HT
namespace L2
open PySem PySem.Spec PyProof.Rows
abbrev TO:=St->Hp->(Option Int->Hp->Prop)->Prop
def PO(X:Cx)(e:Option Expr)(t:TO):Prop :=
 ∀(pins:List (Addr×Obj)) (s:Shared) (σ:St) (H:Hp) (Q:Option Int->Hp->Prop),Inv X pins σ H s->t σ H Q ->
  wpAny (model X.prog X.w) X.A (evalPart e X.env) (fun u s'=>∃o H',Inv X pins σ H' s'/\IsPart u o/\Q o H') X.xe s
def We:TO:=fun _ H Q=>Q none H
def aaP(t:TE):TO:=fun σ H Q=>t σ H fun x H1=>∃i,x=.int i/\Q (some i) H1
theorem intsAre_of{ns:List Int}:∀ {us:List Value},Vals (ns.map V.int) us->IntsAre us ns:=by
 induction ns with
 |nil=>intro us r;rw[List.map_nil] at r;cases r;exact .nil
 |cons n ns ih=>
  intro us r
  rw[List.map_cons] at r
  cases r with
  |cons r1 r2=>
   obtain⟨t,e⟩:=r1
   subst e
   exact .cons n t (ih r2)
section
variable{X:Cx}{e:Expr}{te:TE}{lo hi:Option Expr}{tl th:TO}{pos p2:Pos}
theorem U6:PO X none We:=by
 intro pins s σ H Q I h
 rw[evalPart_none]
 exact wpAny_pure ⟨none,H,I,.none,h⟩
theorem VJ(h:PE X e te):PO X (some e) (aaP te):=by
 intro pins s σ H Q I hw
 rw[evalPart_some]
 refine cQ (h pins s σ H _ I hw) fun u s1 zz=>?_
 obtain⟨x,H1,I1,r1,q1⟩:=zz
 obtain⟨i,rfl,q⟩:=q1
 obtain⟨t,rfl⟩:=r1
 exact⟨some i,H1,I1,.int i t,q⟩
def SlR(X:Cx)(r:V->Option Int->Option Int->Hp->VK->Prop):Prop :=
 ∀(pins:List (Addr×Obj)) (s:Shared) (σ:St) (H:Hp) (x:V) (v vl vu:Value) (lo hi:Option Int) (sl:Addr) (Q:VK),Inv X pins σ H s->RelV x v->s.heap.IsSliceOf sl vl vu .none->IsPart vl lo->IsPart vu hi->r x lo hi H Q ->
  ∃T id,typeLookup (.type T) "__getitem__" = pure (some (.builtin id))/\s.TypeIs v T/\wpAny (model X.prog X.w) X.A (getItem v (.ref sl)) (EP X pins σ Q) X.xe s
def tSl(r:V->Option Int->Option Int->Hp->VK->Prop)(te:TE)(tl th:TO):TE:=fun σ H Q=>te σ H fun x H1=>tl σ H1 fun l H2=>th σ H2 fun u H3=>r x l u H3 Q
theorem SM{r:V->Option Int->Option Int->Hp->VK->Prop}(hr:SlR X r)(he:PE X e te)(hl:PO X lo tl)(hu:PO X hi th):PE X (.Subscript e (.Slice lo hi none p2) pos) (tSl r te tl th):=by
 intro pins s σ H Q I h
 refine Subscript_ (cQ (he pins s σ H _ I h) fun v s1 zz=>?_)
 obtain⟨x,H1,I1,r1,q1⟩:=zz
 refine wpAny_Slice (cQ (hl pins s1 σ H1 _ I1 q1) fun vl s2 ⟨l,H2,I2,pl,q2⟩=>cQ (hu pins s2 σ H2 _ I2 q2) fun vu s3 zz=>?_)
 obtain⟨u,H3,I3,pu,q3⟩:=zz
 rw[evalPart_none]
 refine wpAny_pure ?_
 have I4:Inv X pins σ H3 { s3 with heap:=s3.heap.push { cls:=.type "slice",data:=.fields #[vl,vu,.none] } }:=I3.kept (t':=s3.toks) fun b ob q=>Heap.get?_push_of_some _ q
 obtain⟨T,id,hT,ht,hg⟩:=hr pins { s3 with heap:=s3.heap.push { cls:=.type "slice",data:=.fields #[vl,vu,.none] } } σ H3 x v vl vu l u s3.heap.objs.size Q I4 r1 (Heap.IsSliceOf.new ..) pl pu q3
 show wpAny (model X.prog X.w) X.A (subscriptTail e (.Slice lo hi none p2) v (.ref s3.heap.objs.size)) (EP X pins σ Q) X.xe { s3 with heap:=s3.heap.push { cls:=.type "slice",data:=.fields #[vl,vu,.none] } }
 exact tail_any (ops:=[.ref s3.heap.objs.size,v]) ht hT hg (by with_unfolding_all rfl)
def Oz(xs:List V)(lo hi:Option Int):List V:=(xs.drop (HT.uH xs.length 0 lo)).take (HT.uH xs.length xs.length hi-HT.uH xs.length 0 lo)
theorem FW(xs:List V)(lo hi:Option Int):(Oz xs lo hi).length<=xs.length:=by
 unfold Oz
 rw[List.length_take,List.length_drop]
 exact Nat.le_trans (Nat.min_le_right _ _) (Nat.sub_le _ _)
def adQ(K:PySem.W.Frag):R2:=fun x y H Q=>∃a b ns ms,x=.ref a/\y=.ref b/\iT K H a (ns.map V.int)/\iT K H b (ms.map V.int)/\Q (.bl (HT.lexLt ns ms)) H
theorem Yt(hu:X.A.units<cLine):jj X (compareOp .Lt) (adQ X.K):=by
 intro pins s σ H x y v u Q I rx ry h
 obtain⟨a,b,ns,ms,rfl,rfl,ha,hb,q⟩:=h
 cases rx
 cases ry
 obtain⟨its,r1,p1,_⟩:=I.tuple ha
 obtain⟨its2,r2,p2,_⟩:=I.tuple hb
 have i1:IntsAre its.toArray.toList ns:=intsAre_of r1
 have i2:IntsAre its2.toArray.toList ms:=intsAre_of r2
 exact HT.Jx p1 p2 i1 i2 hu ⟨.bl (HT.lexLt ns ms),H,I,rfl,q⟩
end
end L2
namespace L2
open PySem PySem.Spec PyProof.Rows
def Pq(n:Nat)(i:Int):Option Nat:=if 0<=i then (if i<n then some i.toNat else none) else if -(n:Int)<=i then some (i+n).toNat else none
def pU{α:Type}(xs:List α)(i:Int):Option α:=(Pq xs.length i).bind fun j=>xs[j]?
theorem Us{n:Nat}{i:Int}{j:Nat}(h:Pq n i=some j):seqIndex? i n=some j/\j<n/\-(n:Int)<=i/\i<n:=by
 unfold Pq at h
 by_cases h0:0<=i
 ·rw[if_pos h0] at h
  by_cases h1:i<n
  ·rw[if_pos h1] at h
   have e:i.toNat=j:=Option.some.inj h
   exact⟨by rw[seqIndex_of h0 h1,e],by omega,by omega,h1⟩
  ·rw[if_neg h1] at h;cases h
 ·rw[if_neg h0] at h
  by_cases h1 : -(n:Int)<=i
  ·rw[if_pos h1] at h
   have e:(i+n).toNat=j:=Option.some.inj h
   exact⟨by rw[seqIndex_neg (by omega) h1,e],by omega,h1,by omega⟩
  ·rw[if_neg h1] at h;cases h
theorem Br{α:Type}{xs:List α}{i:Int}{v:α}(h:pU xs i=some v):∃j,seqIndex? i xs.length=some j/\xs[j]?=some v/\j<xs.length/\-(xs.length:Int)<=i/\i<xs.length:=by
 unfold pU at h
 cases e:Pq xs.length i with
 |none=>rw[e] at h;cases h
 |some j=>
  rw[e] at h
  obtain⟨h1,h2,h3,h4⟩:=Us e
  exact⟨j,h1,h,h2,h3,h4⟩
def Kp(b:Expr):Prop:=∀o i,subscripted b false o i=operate [o,i] (getItem o i)
def IxR(X:Cx)(r:R2):Prop :=
 ∀(value slice:Expr) (pins:List (Addr×Obj)) (s:Shared) (σ:St) (H:Hp) (x y:V) (v u:Value) (Q:VK),Inv X pins σ H s->RelV x v->RelV y u->r x y H Q ->
  subscripted slice false v u=operate [v,u] (getItem v u)->wpAny (model X.prog X.w) X.A (subscriptTail value slice v u) (EP X pins σ Q) X.xe s
def Kq(X:Cx)(id:String)(r:V->List V->Hp->VK->Prop):Prop :=
 ∀(pins:List (Addr×Obj)) (s:Shared) (σ:St) (H:Hp) (x:V) (xs:List V) (v:Value) (us:List Value) (Q:VK),Inv X pins σ H s->RelV x v->Vals xs us->r x xs H Q ->
  wpAny (model X.prog X.w) X.A (call (.builtin id) (v::us)) (EP X pins σ Q) X.xe s
section
variable{X:Cx}{a b:Expr}{ta tb:TE}{pos:Pos}
theorem aa9{r:R2}(hr:IxR X r)(ha:PE X a ta)(hb:PE X b tb)(hs:Kp b):PE X (.Subscript a b pos) (tOp r ta tb):=by
 intro pins s σ H Q I h
 exact Subscript_ (Xw ha hb I h fun v u s2 x y H2 I2 rx ry q=>hr a b pins s2 σ H2 x y v u Q I2 rx ry q (hs _ _))
def acY(K:PySem.W.Frag):R2:=fun x y H Q=>∃p xs i v,x=.ref p/\y=.int i/\jm K H p xs/\pU xs i=some v/\Q v H
def ac1(K:PySem.W.Frag):R2:=fun x y H Q=>∃p xs i v,x=.ref p/\y=.int i/\iT K H p xs/\pU xs i=some v/\Q v H
def ace:R2:=fun x y H Q=>∃z i c,x=.str z/\y=.int i/\z.length<=sizeLine/\pU z.cps.toList i=some c/\Q (.str ⟨#[c]⟩) H
theorem K6:IxR X (acY X.K):=by
 intro value slice pins s σ H x y v u Q I rx ry h hs
 obtain⟨p,xs,i,z,rfl,rfl,hq,he,q⟩:=h
 cases rx
 obtain⟨t,rfl⟩:=ry
 obtain⟨its,r,pl,hz⟩:=I.list hq
 obtain⟨j,h1,h2,h3,h4,h5⟩:=Br he
 obtain⟨w,ew,rw'⟩:=r.get h2
 have hl:=r.length
 have hn:=xW
 have fin:EP X pins σ Q w s:=⟨z,H,I,rw',q⟩
 by_cases h0:0<=i
 ·have hj:i.toNat=j:=by
   rw[seqIndex_of h0 h5] at h1
   exact Option.some.inj h1
  exact item_listR pl.isList h0 (by omega) (by rw[hj];simpa using ew) fin hs
 ·have hj:(i+(its.toArray.size:Int)).toNat=j:=by
   rw[seqIndex_neg (by omega) h4] at h1
   rw[List.size_toArray,←hl]
   exact Option.some.inj h1
  exact subscriptTail_builtinR (x:=w) pl.isList.typeIs slot_list_getitem.lookup
   (wpAny_getItem_list_neg (Q:=fun r s'=>r=w/\EP X pins σ Q r s') pl.isList (by omega) (by rw[List.size_toArray] <;> omega) (by omega) (by rw[hj];simpa using ew) ⟨rfl,fin⟩) hs
theorem Qx:IxR X (ac1 X.K):=by
 intro value slice pins s σ H x y v u Q I rx ry h hs
 obtain⟨p,xs,i,z,rfl,rfl,hq,he,q⟩:=h
 cases rx
 obtain⟨t,rfl⟩:=ry
 obtain⟨its,r,pl,hz⟩:=I.tuple hq
 obtain⟨j,h1,h2,h3,h4,h5⟩:=Br he
 obtain⟨w,ew,rw'⟩:=r.get h2
 have hl:=r.length
 have hn:=xW
 have fin:EP X pins σ Q w s:=⟨z,H,I,rw',q⟩
 exact subscriptTail_builtinR (x:=w) pl.typeIs slot_tuple_getitem.lookup
  (getItem_tuple (j:=j) (Q:=fun r s'=>r=w/\EP X pins σ Q r s') pl (by omega) (by omega) (by rw[List.size_toArray,←hl];exact h1) (by simpa using ew) ⟨rfl,fin⟩) hs
theorem XM:IxR X ace:=by
 intro value slice pins s σ H x y v u Q I rx ry h hs
 obtain⟨z,i,c,rfl,rfl,hz,he,q⟩:=h
 obtain⟨t,rfl⟩:=rx
 obtain⟨t',rfl⟩:=ry
 obtain⟨j,h1,h2,h3,h4,h5⟩:=Br he
 have hl:z.cps.toList.length=z.length:=by simp[Str.length]
 rw[hl] at h1 h4 h5
 have hn:=xW
 exact tail_any (typeIs_str s z t) slot_str_getitem.lookup (getItem_str (c:=c) (by
  have e1:decide (i < -(2 ^ 63:Int))=false:=decide_eq_false (by omega)
  have e2:decide (i≥2 ^ 63)=false:=decide_eq_false (by omega)
  rw[e1,e2,Bool.or_false]) (by rw[h1];simpa using h2) ⟨.str ⟨#[c]⟩,H,I.tok _,⟨_,rfl⟩,q⟩) hs
theorem Bs(lo hi:Option Int)(n:Nat):(sliceBounds lo hi none n).1=((HT.uH n 0 lo:Nat):Int)/\(sliceBounds lo hi none n).2.1=((HT.uH n n hi:Nat):Int)/\(sliceBounds lo hi none n).2.2=1:=by
 have one:∀i:Int,max 0 (min (if i<0 then i+(n:Int) else i) (n:Int))=(((if i<0 then (i+(n:Int)).toNat else min i.toNat n):Nat):Int):=fun i=>by
  by_cases h:i<0
  ·rw[if_pos h,if_pos h,Int.toNat_eq_max,Int.min_eq_left (by have z:=Int.add_le_add_right (Int.le_of_lt h) (n:Int);rwa [Int.zero_add] at z),Int.max_comm]
  ·rw[if_neg h,if_neg h]
   obtain⟨m,rfl⟩:=Int.eq_ofNat_of_zero_le (Int.not_lt.mp h)
   rw[Int.toNat_natCast]
   rcases Nat.le_total m n with z | z
   ·rw[Int.min_eq_left (Int.ofNat_le.mpr z),Nat.min_eq_left z];exact Int.max_eq_right (Int.natCast_nonneg _)
   ·rw[Int.min_eq_right (Int.ofNat_le.mpr z),Nat.min_eq_right z];exact Int.max_eq_right (Int.natCast_nonneg _)
 refine⟨?_,?_,rfl⟩
 ·cases lo with
  |none=>rfl
  |some i=>exact one i
 ·cases hi with
  |none=>rfl
  |some i=>exact one i
theorem yW(its:List Value)(lo hi:Option Int):slicePick its.toArray lo hi none=((its.drop (HT.uH its.length 0 lo)).take (HT.uH its.length its.length hi-HT.uH its.length 0 lo)).toArray:=by
 obtain⟨h1,h2,h3⟩:=Bs lo hi its.toArray.size
 unfold slicePick
 rw[h1,h2,h3]
 simp only[sliceRange_one,pick_run,List.size_toArray] <;> rfl
def acK(K:PySem.W.Frag):V->Option Int->Option Int->Hp->VK->Prop:=fun x lo hi H Q=>∃a xs,x=.ref a/\jm K H a xs/\∀p,H p=none->Q (.ref p) (upd H p (.lst (Oz xs lo hi)))
theorem VF:SlR X (acK X.K):=by
 intro pins s σ H x v vl vu lo hi sl Q I rx hs pl pu h
 obtain⟨a,xs,rfl,hx,q⟩:=h
 cases rx
 obtain⟨its,r,ht,hz⟩:=I.list hx
 have hlen:=r.length
 refine⟨"list",_,slot_list_getitem.lookup,ht.isList.typeIs,?_⟩
 refine wpAny_getItem_list_slice ht.isList hs pl pu .none (by simp) ?_ (by rw[List.size_toArray] <;> omega)
 rw[yW,←hlen]
 refine⟨.ref s.heap.objs.size,_,I.laid (t':=s.toks) (o:=.lst (Oz xs lo hi)) (fun b ob q=>Heap.get?_push_of_some _ q) (Nat.le_refl _) ?_,rfl,q _ (I.hok.fresh (Nat.le_refl _))⟩
 exact⟨Nat.le_trans (FW xs lo hi) hz,_,0,(r.drop (HT.uH xs.length 0 lo)).take (HT.uH xs.length xs.length hi-HT.uH xs.length 0 lo),Heap.get?_push_size _ rfl⟩
theorem mU:dZ X (.builtin "len") (fun xs H Q=>∃p ys,xs=[.ref p]/\(jm X.K H p ys\/iT X.K H p ys)/\Q (.int ys.length) H):=by
 intro pins s σ H xs us Q I r h
 obtain⟨p,ys,rfl,hq,q⟩:=h
 obtain⟨u,rfl,rx⟩:=vals1 r
 cases rx
 have hn:=xW
 rcases hq with hq | hq
 ·obtain⟨its,r',pl,hz⟩:=I.list hq
  have hlen:=r'.length
  exact Calls.call_len_list pl.isList (by simp only[List.size_toArray] <;> omega) ⟨.int ys.length,H,I.tok _,⟨s.toks+1,by rw[List.size_toArray,hlen]⟩,q⟩
 ·obtain⟨its,r',pl,hz⟩:=I.tuple hq
  have hlen:=r'.length
  exact len_tuple pl (by simp only[List.size_toArray] <;> omega) ⟨.int ys.length,H,I.tok _,⟨s.toks+1,by rw[List.size_toArray,hlen]⟩,q⟩
theorem Cz:dZ X (.builtin "len") (fun xs H Q=>∃z,xs=[.str z]/\z.length<=sizeLine/\Q (.int z.length) H):=by
 intro pins s σ H xs us Q I r h
 obtain⟨z,rfl,hz,q⟩:=h
 obtain⟨u,rfl,t,rfl⟩:=vals1 r
 have hn:=xW
 exact len_str (by omega) ⟨.int z.length,H,I.tok _,⟨_,rfl⟩,q⟩
theorem lM:dZ X (.type "tuple") (fun xs H Q=>∃p ys,xs=[.ref p]/\((jm X.K H p ys/\∀l,H l=none->Q (.ref l) (upd H l (.tup ys)))\/(iT X.K H p ys/\Q (.ref p) H))):=by
 intro pins s σ H xs us Q I r h
 obtain⟨p,ys,rfl,h⟩:=h
 obtain⟨u,rfl,rx⟩:=vals1 r
 cases rx
 rcases h with ⟨hq,q⟩ | ⟨hq,q⟩
 ·obtain⟨its,r',pl,hz⟩:=I.list hq
  have hlen:=r'.length
  refine call_tuple_list pl.isList (fun h' kp=>?_) (by simp only[List.size_toArray] <;> omega)
  have I1:Inv X pins σ H { s with heap:=h' }:=I.kept (t':=s.toks) kp
  have I2:Inv X pins σ (upd H h'.objs.size (.tup ys)) { s with heap:=h'.push { cls:=.type "tuple",data:=.seq its.toArray } } :=
   I1.laid (t':=s.toks) (fun b o e=>Heap.get?_push_of_some _ e) (Nat.le_refl _) (show cP X.prog X.w _ _ _ (.tup ys) from ⟨hz,its,r',Er.new _ _⟩)
  exact⟨.ref h'.objs.size,_,I2,rfl,q _ (I1.hok.fresh (Nat.le_refl _))⟩
 ·obtain⟨its,r',pl,hz⟩:=I.tuple hq
  exact call_tuple_same pl ⟨.ref p,H,I,rfl,q⟩
def tyV(K:PySem.W.Frag)(T:String)(x:V)(H:Hp):Prop:=match x with
 |.str _=>T = "str"
 |.int _=>T = "int"
 |.ref p=>(T = "list"/\∃xs,jm K H p xs)\/(T = "tuple"/\∃o,K.lookup p=some o/\o.cls=.type "tuple"/\o.dict=none) \/
   (T = "dict"/\((∃kvs,H p=some (.dK kvs))\/∃kvs,H p=some (.dT kvs)))\/(T = "set"/\∃S n,H p=some (.set S n))
 |_=>False
theorem Qq{pins:List (Addr×Obj)}{σ:St}{H:Hp}{s:Shared}{T:String}{x:V}{v:Value}(I:Inv X pins σ H s)(r:RelV x v)(ty:tyV X.K T x H) :
  s.TypeIs v T/\∀a,v=.ref a->∃ob,s.heap.get? a=some ob/\ob.dict=none:=by
 cases x with
 |str z=>
  obtain⟨t,rfl⟩:=r
  cases (show T = "str" from ty)
  exact⟨typeIs_str s z t,fun _ e=>nomatch e⟩
 |int i=>
  obtain⟨t,rfl⟩:=r
  cases (show T = "int" from ty)
  exact⟨typeIs_int s i t,fun _ e=>nomatch e⟩
 |ref p=>
  cases r
  rcases ty with ⟨rfl,xs,hq⟩ | ⟨rfl,o,hk,hc,hd⟩ | ⟨rfl,hk⟩ | ⟨rfl,S,n,hk⟩
  ·obtain⟨its,_,pl,_⟩:=I.list hq
   refine⟨pl.isList.typeIs,fun a e=>?_⟩
   cases e
   obtain⟨o,n,e,c,hd,_⟩:=pl
   exact⟨o,e,hd⟩
  ·refine⟨⟨o,I.uq p o hk,hc⟩,fun a e=>?_⟩
   cases e
   exact⟨o,I.uq _ o hk,hd⟩
  ·have z:∃o,s.heap.get? p=some o/\o.ExactDict:=by
    rcases hk with ⟨kvs,hk⟩ | ⟨kvs,hk⟩
    ·obtain⟨_,_,_,_,o,_,_,e,ex,_⟩:=I.hok p _ hk
     exact⟨o,e,ex⟩
    ·obtain⟨_,_,_,_,o,_,_,e,ex,_⟩:=I.hok p _ hk
     exact⟨o,e,ex⟩
   obtain⟨o,e,ex⟩:=z
   refine⟨⟨o,e,ex.1⟩,fun a e2=>?_⟩
   cases e2
   exact⟨o,e,ex.2.1⟩
  ·obtain⟨o,_,_,_,e,ex,_⟩:=I.hok p _ hk
   refine⟨⟨o,e,ex.1⟩,fun a e2=>?_⟩
   cases e2
   exact⟨o,e,ex.2.1⟩
 |_=>exact False.elim ty
def acH(K:PySem.W.Frag)(T:String)(r:V->List V->Hp->VK->Prop)(to:TE):TE:=fun σ H Q=>to σ H fun x H1=>tyV K T x H1/\r x [] H1 Q
def tBM(K:PySem.W.Frag)(T:String)(r:V->List V->Hp->VK->Prop)(to:TE)(t:TA):TE:=fun σ H Q=>to σ H fun x H1=>tyV K T x H1/\t σ H1 fun xs H2=>r x xs H2 Q
variable{o e:Expr}{es:List Expr}{to:TE}{t:TA}{name:Str}{apos cpos:Pos}{T id:String}{r:V->List V->Hp->VK->Prop}
theorem X4(pa:PlainAttrs T)(slot:Slot T name id)(hty:typeOf (.builtin id)=pure (.type "method_descriptor"))(hm:Kq X id r)(ho:PE X o to)
  (hbase:attributeBase o name X.env (eval o X.env)=eval o X.env:=by rfl) (hline:(apos.endLine==cpos.line)=true:=by rfl):PE X (.Call (.Attribute o name apos) [] [] cpos) (acH X.K T r to):=by
 intro pins s σ H Q I h
 refine wpAny_Call_method0_late hbase hline (cQ (ho pins s σ H _ I h) fun v s1 zz=>?_)
 obtain⟨x,H1,I1,r1,ty,q1⟩:=zz
 obtain⟨h1,h2⟩:=Qq I1 r1 ty
 exact⟨T,id,pa,slot,hty,h1,h2,Calls.callWith_builtin rfl (PySem.evalArgs_none (hm pins s1 σ H1 x [] v [] Q I1 r1 .nil q1))⟩
theorem W2(pa:PlainAttrs T)(slot:Slot T name id)(hty:typeOf (.builtin id)=pure (.type "method_descriptor"))(hm:Kq X id r)(ho:PE X o to)(ha:PA X (e::es) t)
  (hbase:attributeBase o name X.env (eval o X.env)=eval o X.env:=by rfl)
  (hfew:((backTo cpos (starEach (e::es) X.env)).all (fun x => !x.1) && (backToKw cpos (keywordEach [] X.env)).all (fun x => x.1.isSome)
   && decide ((e::es).length+([]:List Keyword).length+(if ([]:List Keyword).isEmpty then 0 else 1)<30))=true:=by rfl)
  (hline:(apos.endLine==cpos.line)=true:=by rfl) (hs:starEach (e::es) X.env=(false,eval e X.env)::starEach es X.env:=by rfl) (hplain:(backTo cpos (starEach es X.env)).any (·.1)=false:=by rfl) :
  PE X (.Call (.Attribute o name apos) (e::es) [] cpos) (tBM X.K T r to t):=by
 intro pins s σ H Q I h
 refine wpAny_Call_method_late hbase hfew hline rfl (cQ (ho pins s σ H _ I h) fun v s1 zz=>?_)
 obtain⟨x,H1,I1,r1,ty,q1⟩:=zz
 obtain⟨h1,h2⟩:=Qq I1 r1 ty
 refine⟨T,id,pa,slot,hty,h1,h2,?_⟩
 have hA:=ha cpos pins s1 σ H1 _ I1 q1
 rw[hs] at hA ⊢
 refine Calls.callWith_builtin (by show (false||(backTo cpos (starEach es X.env)).any (·.1))=false;rw[hplain] <;> rfl) (Calls.evalArgs_plain ?_)
 exact cQ hA fun us s2 ⟨vs,H2,I2,r2,q2⟩=>hm pins s2 σ H2 x vs v us Q I2 r1 r2 q2
/- xs.append(e),list.index on a module's tuple .. are Kq facts of 06m -/
end
end L2
namespace L2
open PySem PySem.Spec PyProof.Rows
def MtM(X:Cx)(id:String)(r:V->List V->Hp->VK->Prop):Prop :=
 ∀(pins:List (Addr×Obj)) (s:Shared) (σ:St) (H:Hp) (x:V) (xs:List V) (v:Value) (us:List Value) (Q:VK),Inv X pins σ H s->RelV x v->Vals xs us->r x xs H Q ->
  wpAny (model X.prog X.w) X.A (call (.builtin id) (v::us)) (EP X pins σ Q) X.xe s
theorem Vals.one{x:V}{us:List Value}(h:Vals [x] us):∃u,us=[u]/\RelV x u:=by
 cases h with
 |cons r t=>cases t;exact⟨_,rfl,r⟩
theorem Vals.zero:∀ {us:List Value},Vals [] us->us=[]
 |_,.nil=>rfl
theorem Vals.dropLast{xs:List V}{us:List Value}(h:Vals xs us):Vals xs.dropLast us.dropLast:=by
 induction h with
 |nil=>exact .nil
 |cons r t ih=>
  cases t with
  |nil=>exact .nil
  |cons q t'=>exact .cons r ih
theorem Hx{α:Type}(l:List α):l.eraseIdx (l.length-1)=l.dropLast:=by
 induction l with
 |nil=>rfl
 |cons a r ih=>
  cases r with
  |nil=>rfl
  |cons b r=>
   have e:(a::b::r).length-1=((b::r).length-1)+1:=by
    have h1:(a::b::r).length=r.length+2:=rfl
    have h2:(b::r).length=r.length+1:=rfl
    omega
   rw[e,List.eraseIdx_cons_succ,ih]
   all_goals rfl
section
variable{X:Cx}{pins:List (Addr×Obj)}{σ:St}{H:Hp}{s:Shared}{l b:Addr}{xs ys zs:List V}
theorem Inv.ZW{its its':List Value}{n:Nat}{f:Array Value->Array Value}{t':Nat}(I:Inv X pins σ H s)(hH:H l=some (.lst xs))
  (e:s.heap.get? l=some { cls:=.type "list",data:=.seq its.toArray n }) (hf:f its.toArray=its'.toArray) (hv:Vals ys its') (hz:ys.length<=sizeLine) :
  Inv X pins σ (upd H l (.lst ys)) { s with heap:=s.heap.update l (Obj.mapSeq f),toks:=t' }:=by
 have q:=PySem.IsL.update e f
 rw[hf] at q
 refine I.write (x:=l) (e:=l) (by rw[hH];exact trivial) (.inl rfl) (fun b' u hb hu=>(Heap.get?_update_other s.heap (Obj.mapSeq f) (Ne.symm hb)).trans hu) ⟨_,q⟩ ?_
 exact⟨hz,its',_,hv,q⟩
theorem Inv.aaH{its:List Value}{t':Nat}(I:Inv X pins σ H s)(hv:Vals ys its)(hz:ys.length<=sizeLine) :
  Inv X pins σ (upd H s.heap.objs.size (.lst ys)) { s with heap:=s.heap.push { cls:=.type "list",data:=.seq its.toArray },toks:=t' } :=
 I.laid (fun _ _ q=>Heap.get?_push_of_some _ q) (Nat.le_refl _) ⟨hz,its,0,hv,Heap.get?_push_size _ rfl⟩
theorem Inv.fresh(I:Inv X pins σ H s):H s.heap.objs.size=none:=I.hok.fresh (Nat.le_refl _)
theorem Inv.Mx(I:Inv X pins σ H s)(hH:H l=some (.lst xs)):xs.length<=sizeLine/\∃(its:List Value) (n:Nat),Vals xs its/\xs.length=its.length/\s.heap.get? l=some { cls:=.type "list",data:=.seq its.toArray n }:=by
 obtain⟨z,its,n,r,e⟩:=I.hok l _ hH
 exact⟨z,its,n,r,r.length,e⟩
theorem Pn{n:Nat}(h:n<=sizeLine):Builtin.List.listTooLong n=false:=by
 unfold Builtin.List.listTooLong
 exact decide_eq_false (by omega)
end
section
variable{X:Cx}
def Vf:V->List V->Hp->VK->Prop:=fun x vs H Q=>∃l xs y,x=.ref l/\vs=[y]/\H l=some (.lst xs)/\xs.length<sizeLine/\Q .non (upd H l (.lst (xs++[y])))
theorem zM:MtM X "list.append" Vf:=by
 intro pins s σ H x vs v us Q I rx rv h
 obtain⟨l,xs,y,rfl,rfl,hH,hz,q⟩:=h
 cases rx
 obtain⟨u,rfl,ru⟩:=rv.one
 obtain⟨z,its,n,r,hl,e⟩:=I.Mx hH
 refine call_meets F.slot_list_append ⟨_,e,rfl⟩ F.entry_list_append (F.args_list_append_2 _ _) (PySem.list_append l its.toArray n u (by rw[List.size_toArray];omega)) ⟨e,?_⟩
 refine⟨.non,_,I.ZW (its':=its++[u]) hH e (by simp) (r.append (.cons ru .nil)) ?_,rfl,q⟩
 rw[List.length_append,List.length_singleton]
 omega
def Vr:V->List V->Hp->VK->Prop:=fun x vs H Q=>∃l b xs zs,x=.ref l/\vs=[.ref b]/\H l=some (.lst xs)/\H b=some (.lst zs)/\xs.length+zs.length<=sizeLine/\Q .non (upd H l (.lst (xs++zs)))
theorem Om:MtM X "list.extend" Vr:=by
 intro pins s σ H x vs v us Q I rx rv h
 obtain⟨l,b,xs,zs,rfl,rfl,hH,hB,hz,q⟩:=h
 cases rx
 obtain⟨u,rfl,ru⟩:=rv.one
 cases ru
 obtain⟨z,its,n,r,hl,e⟩:=I.Mx hH
 obtain⟨z2,its2,n2,r2,hl2,e2⟩:=I.Mx hB
 have hsz:its.toArray.size+its2.toArray.size<=sizeLine:=by rw[List.size_toArray,List.size_toArray];omega
 have hlong:¬(!its.toArray.isEmpty&&Builtin.List.listTooLong (its.toArray.size+its2.toArray.size))=true:=by
  rw[Pn hsz,Bool.and_false]
  exact Bool.false_ne_true
 refine call_meets F.slot_list_extend ⟨_,e,rfl⟩ F.entry_list_extend (F.args_list_extend_2 _ _)
  (AutoSeq1.list_extend_list_list_0 l its.toArray n b its2.toArray n2 hlong (by rw[List.size_toArray];omega) (by omega)) ⟨e,e2,?_⟩
 refine⟨.non,_,I.ZW (its':=its++its2) hH e (by simp) (r.append r2) ?_,rfl,q⟩
 rw[List.length_append]
 omega
def acJ:V->List V->Hp->VK->Prop:=fun x vs H Q=>∃l xs y,x=.ref l/\vs=[]/\H l=some (.lst xs)/\xs[xs.length-1]?=some y/\Q y (upd H l (.lst xs.dropLast))
theorem Zc:MtM X "list.pop" acJ:=by
 intro pins s σ H x vs v us Q I rx rv h
 obtain⟨l,xs,y,rfl,rfl,hH,hy,q⟩:=h
 cases rx
 have hus:=rv.zero
 subst hus
 obtain⟨z,its,n,r,hl,e⟩:=I.Mx hH
 obtain⟨u,hu,ru⟩:=r.get hy
 have hy':its.toArray[its.toArray.size-1]?=some u:=by
  show its.toArray[its.length-1]?=some u
  rw[←Array.getElem?_toList,←hl]
  exact hu
 refine call_meets F.slot_list_pop ⟨_,e,rfl⟩ F.entry_list_pop (F.args_list_pop_1 _) (MeetsSeq.list_pop_last l its.toArray n u hy' (by rw[List.size_toArray];omega)) ⟨e,?_⟩
 refine⟨y,_,I.ZW (its':=its.dropLast) hH e ?_ r.dropLast ?_,ru,q⟩
 ·show its.toArray.eraseIdxIfInBounds (its.toArray.size-1)=its.dropLast.toArray
  rw[List.size_toArray,List.eraseIdxIfInBounds_toArray,Hx]
 ·rw[List.length_dropLast]
  omega
def acR:R2:=fun x y H Q=>∃l b xs zs,x=.ref l/\y=.ref b/\H l=some (.lst xs)/\H b=some (.lst zs)/\xs.length+zs.length<=sizeLine/\∀p,H p=none->Q (.ref p) (upd H p (.lst (xs++zs)))
theorem YD:jj X (binaryOp .Add) acR:=by
 intro pins s σ H x y v u Q I rx ry h
 obtain⟨l,b,xs,zs,rfl,rfl,hH,hB,hz,q⟩:=h
 cases rx
 cases ry
 obtain⟨z,its,n,r,hl,e⟩:=I.Mx hH
 obtain⟨z2,its2,n2,r2,hl2,e2⟩:=I.Mx hB
 refine PySem.P.add_list e e2 ?_ (by rw[List.size_toArray,List.size_toArray];omega)
 have ea:its.toArray++its2.toArray=(its++its2).toArray:=by simp
 rw[ea]
 exact⟨.ref _,_,I.aaH (t':=s.toks) (r.append r2) (by rw[List.length_append];omega),rfl,q _ I.fresh⟩
end
section
variable{prog:Program}{w:World}{A:Around}{E:Value->Shared->Prop}{s:Shared}
end
section
variable{X:Cx}
end
end L2
namespace Att
open PySem PySem.W PySem.Calls PyProof.Rows
theorem vR{P:Params}{h:Heap}:∀(ns:List Int) (vs:List Value),WellAll P h vs (ns.map WData.int)->IntsAre vs ns:=by
 intro ns
 induction ns with
 |nil=>
  intro vs w
  rw[List.map_nil] at w
  cases w
  exact .nil
 |cons n ns ih=>
  intro vs w
  rw[List.map_cons] at w
  cases w with
  |cons a b=>
   cases a
   exact .cons _ _ (ih _ b)
theorem Mu{l:OpenLaw}{n:Nat}(hn:l.most=some n){P:Params}{h:Heap}{args:List WData}{vals:List Value}
  (hpre:l.row.toRowW.claim.pre args=true) (hwl:WellAll P h vals args) :
  ∃a vs ns,vals=[Value.ref a]/\args=[WData.list (ns.map WData.int)]/\h.get? a=some { cls:=.type "list",data:=.seq vs.toArray }/\IntsAre vs ns/\ns.length<=n:=by
 have hsh:WShape.hasAll [] args [.list .int]=true:=(pre_splitW hpre).1
 have hc:l.pre.holds [] { args:=args }=true:=(pre_splitW hpre).2
 obtain⟨d,r,rfl,h1,h2⟩:=hasAllW_cons hsh
 obtain rfl:=hasAllW_nil h2
 obtain⟨xs,rfl,h3⟩:=hasW_list h1
 obtain⟨ns,rfl⟩:=items_int h3
 have hlen:ns.length<=n:=by
  unfold OpenLaw.pre at hc
  have h4:(WTm.not (.lt (.lit (.int (n:Int))) (.len (.arg 0)))).holds [] { args:=[.list (ns.map .int)] }=true:=by
   have h4:=(holds_andW hc).1
   rw[hn] at h4
   exact h4
  have h5:=condW_of h4 (w_not (w_lt w_lit (w_len_list (w_arg rfl))))
  rw[List.length_map] at h5
  refine Nat.le_of_not_lt fun q=>?_
  have q':(n:Int)<((ns.length:Nat):Int):=by omega
  first
   |(rw[decide_eq_true q'] at h5;exact absurd h5 (by decide))
   |(simp at h5;omega)
 cases hwl with
 |cons w1 w2=>
  cases w2
  cases w1 with
  |list ho hall=>exact⟨_,_,ns,rfl,rfl,ho,vR ns _ hall,hlen⟩
theorem Oq(l:OpenLaw)(args:List WData):l.row.toRowW.claim.post args (.bool true) args=true :=
 postW_of (r:=l.row.toRowW) (X:=(true==true))
  (show WShape.has [] (.bool true) .bool=true by first | rfl | decide | simp[WShape.has,WShape.arms,WShape.armsAll])
  (show (WTm.eq .res (.lit (.bool true))).value [] { args:=args,res:=some (.bool true),after:=args }=some (.bool (true==true)) from w_eq_bool (w_res rfl) w_lit) rfl
theorem Gv{l:OpenLaw}{n:Nat}{q:Program}{loose:List Str}{XP:(Str->Option Value)->Heap->Prop}{YP:World->Heap->Prop}{d:DefRec}
  (hn:l.most=some n) (hdf:d.params.defaults=[])
  (call:∀ (w:World) (s₀ s₁:Shared) (mg mb:Str→Option Value) (fa:Addr) (o:Obj) (pm cd doc:Value) (a:Addr) (vs:List Value) (ns:List Int),
   Ground q loose [] XP w s₀ mg mb s₁.heap->YP w s₁.heap ->
   s₁.heap.get? fa=some o->o.data=.func (docDef d.name d.params d.body d.scope pm cd doc)->s₁.heap.CodeRec cd d.name->mg d.name=some (.ref fa) ->
   s₁.heap.get? a=some { cls:=.type "list",data:=.seq vs.toArray }->IntsAre vs ns->ns.length<=n->s₁.gens=#[] ->
   codeAny (model l.prog w) callerA (.call (.ref fa) ⟨[.ref a],[]⟩) (fun r s'=>r=.ok (.ret (.bool true))/\OldK s₁.heap s'.heap/\s'.os=s₁.os/\AllBare s'.gens) s₁) :
  WalkO q loose XP YP l.row.toRowW d [] (fun f vs=>PySem.call f vs):=by
 intro w s₀ s₁ mg mb G Y fa o pm cd doc dV kV ho hd hcd hD hmg hg args vals as hpre hlay hrd hwl hlo
 obtain rfl:dV=.none:=Dflts.none hD hdf
 obtain rfl:kV=.none:=Dflts.noKw hD
 obtain⟨a,vs,ns,rfl,rfl,hobj,hints,hlen⟩:=Mu hn hpre hwl
 refine enter_call (codeAny_mono (call w s₀ s₁ mg mb fa o pm cd doc a vs ns G Y ho (fd_plain hd) hcd hmg hobj hints hlen hg) fun r s' hq=>?_)
 obtain⟨rfl,h2,h3,h4⟩:=hq
 exact⟨.inl ⟨.bool true,.bool true,[],rfl,fun _=>rfl,.bool true,Oq l _,fun _=>⟨List.Pairwise.nil,fun _ hm=>(nomatch hm)⟩⟩,h2,h3,h4⟩
section
variable{prog:Program}{w:World}{A:Around}{E:Value->Shared->Prop}{s:Shared}{K:Frag}
def ledger(h:Heap)(L d:Addr):List (Addr×Obj):=(List.range h.objs.size).filterMap fun a=>if a=L\/a=d then none else (h.get? a).map fun o=>(a,o)
end
end Att
namespace L2
open PySem PySem.Spec PyProof.Rows
theorem mG:∀ {vs:List Value} {ns:List Int},IntsAre vs ns->Vals (ns.map V.int) vs
 |_,_,.nil=>.nil
 |_,_,.cons n t h=>.cons ⟨t,rfl⟩ (mG h)
end L2
namespace L2
open PySem PySem.Spec PyProof.Rows
end L2
namespace L2
open PySem PySem.Spec PyProof.Rows
abbrev yR:Ue:=fun _ _ _ _ _ _=>False
abbrev E0:XK:=fun _ _ _=>False
theorem WL{X:Cx}:Passes yR X E0:=fun _ _ _ _ _ _ _ h=>h.elim
structure KY(K:PySem.W.Frag)(x qual:Str)(st:Stmt)(f:Addr)(fd:FuncData):Prop where
 ex:∃(oc:Value) (od:Option Addr) (kV doc pm:Value) (an:Option Addr) (cdv ct:Value) (osl:Array (Option Value)),
  fd=PySem.W.fnOf x qual (aQ st) (aN st) (az st) .none kV doc pm an cdv ct/\K.lookup f=some ⟨oc,od,.func fd,osl⟩/\PySem.W.codeIn K cdv qual=true
 kp:PySem.W.keepIn K (.ref f)=true
section
variable{P:Program}{w:World}{K:PySem.W.Frag}{mg:Str->Option Value}{base:Heap}
theorem KY.ok{x qual:Str}{st:Stmt}{f:Addr}{fd:FuncData}{N ps:List Str}{k:Nat}{sp:Sp}(F:KY K x qual st f fd)(S:aU N ps (az st))(len:∀vs H Q E,sp vs H Q E->vs.length=ps.length)
  (hbody:∀ (cdv:Value) (A:Around) (outer:List Env) (s:Shared) (H:Hp) (vs:List V) (Q:VK) (E:XK),fH k (A.deeper (envOfC qual (az st) s.heap.objs.size f cdv))→sp vs H Q E →
   ∃t,Ea (uY yR P w K mg base N qual (az st) f cdv A outer s H E).Pj (aN st) t/\t { nx:=fun _ H'=>Q .non H',rt:=Q } (start N vs) H):nO P w K mg base yR (k+1) f fd ps sp:=by
 obtain⟨oc,od,kV,doc,pm,an,cdv,ct,osl,rfl,lk,hcd⟩:=F.ex
 refine W8 lk hcd S len fun A outer s H vs Q E hr hsp=>?_
 obtain⟨t,h,q⟩:=hbody cdv A outer s H vs Q E hr hsp
 exact⟨t,h.Pj,q⟩
theorem KY.binds{x qual:Str}{st:Stmt}{f:Addr}{fd:FuncData}{ps:List Str}(F:KY K x qual st f fd)
  (h:∀(kV doc pm:Value) (an:Option Addr) (cdv ct:Value) (us:List Value),us.length=ps.length->bindArgs (PySem.W.fnOf x qual (aQ st) (aN st) (az st) .none kV doc pm an cdv ct) ⟨us,[]⟩=pure (ps.zip us)):Binds K fd ps []:=by
 obtain⟨oc,od,kV,doc,pm,an,cdv,ct,osl,rfl,lk,hcd⟩:=F.ex
 exact .all (h kV doc pm an cdv ct)
theorem Jp{x qual:Str}{st:Stmt}{f:Addr}{oc:Value}{od an:Option Addr}{osl:Array (Option Value)}{kV doc pm cdv ct:Value}(l:K.lookup f=some ⟨oc,od,.func (PySem.W.fnOf x qual (aQ st) (aN st) (az st) .none kV doc pm an cdv ct),osl⟩)
  (c:PySem.W.codeIn K cdv qual=true) (k:PySem.W.keepIn K (.ref f)=true):KY K x qual st f (PySem.W.fnOf x qual (aQ st) (aN st) (az st) .none kV doc pm an cdv ct):=⟨⟨oc,od,kV,doc,pm,an,cdv,ct,osl,rfl,l,c⟩,k⟩
end
theorem uP{n:Nat}(h:n<=1000):n<sizeLine:=Nat.lt_of_le_of_lt h (by decide)
section
variable{X:Cx}
theorem pv(i:Nat){x:Str}{pos:Pos}(hN:X.N[i]?=some x:=by rfl)(hv:Vis X.env.scope x:=by first | exact Or.inl rfl | exact Or.inr (Or.inl rfl) | exact Or.inr (Or.inr rfl))(hd:(x==("__debug__" : Str))=false:=by decide)
  (hcd:(x==("__classdict__" : Str))=false:=by decide):PE X (.Name x pos) (aar i):=Z1 hN hv hd hcd
end
end L2
namespace L2
open PySem PySem.Spec PyProof.Rows
section
variable{κ:Type}[DecidableEq κ]
def j7(kvs:List (κ×V))(k:κ):Option V:=(kvs.find? fun kv=>decide (kv.1=k)).map (·.2)
def putK(kvs:List (κ×V))(k:κ)(v:V):List (κ×V) :=
 if (kvs.any fun kv=>decide (kv.1=k))=true then kvs.map (fun kv=>if kv.1=k then (kv.1,v) else kv) else kvs++[(k,v)]
theorem oJ{p:κ×V}{r:List (κ×V)}{k:κ}(e:p.1=k):j7 (p::r) k=some p.2:=by simp[j7,List.find?_cons,e]
theorem nZ{p:κ×V}{r:List (κ×V)}{k:κ}(e:¬p.1=k):j7 (p::r) k=j7 r k:=by simp[j7,List.find?_cons,e]
theorem Eb(k:κ):∀kvs:List (κ×V),(kvs.any fun kv=>decide (kv.1=k))=(j7 kvs k).isSome
 |[]=>rfl
 |p::r=>by
  rw[List.any_cons]
  by_cases e:p.1=k
  ·simp only[oJ e,decide_eq_true e,Bool.true_or,Option.isSome_some]
  ·rw[nZ e,decide_eq_false e,Bool.false_or];exact Eb k r
theorem lF(kvs:List (κ×V))(k:κ)(v:V):(putK kvs k v).length<=kvs.length+1:=by
 unfold putK
 split
 ·rw[List.length_map];omega
 ·rw[List.length_append,List.length_cons,List.length_nil];omega
theorem qm.mq{o:Option V}{u:Option Value}(r:qm o u):o.isSome=u.isSome:=by
 cases o with
 |none=>cases u with
  |none=>rfl
  |some _=>exact (show False from r).elim
 |some _=>cases u with
  |none=>exact (show False from r).elim
  |some _=>rfl
theorem KV.val{kvs:List (κ×V)}{vs:List (κ×Value)}(r:KV kvs vs)(k:κ):qm (j7 kvs k) (valueAt vs k):=by
 unfold KV at r
 induction r with
 |nil=>exact True.intro
 |@cons p q ps qs h t ih=>
  obtain⟨h1,h2⟩:=h
  by_cases e:p.1=k
  ·have e':q.1=k:=h1.symm.trans e
   have b:valueAt (q::qs) k=some q.2:=by simp[valueAt,List.find?_cons,e']
   rw[oJ e,b];exact h2
  ·have e':¬q.1=k:=fun z=>e (h1.trans z)
   have b:valueAt (q::qs) k=valueAt qs k:=by simp[valueAt,List.find?_cons,e']
   rw[nZ e,b];exact ih
theorem KV.any{kvs:List (κ×V)}{vs:List (κ×Value)}(r:KV kvs vs)(k:κ):(kvs.any fun kv=>decide (kv.1=k))=vs.any fun kv=>decide (kv.1=k):=by
 unfold KV at r
 induction r with
 |nil=>rfl
 |cons h t ih=>rw[List.any_cons,List.any_cons,ih,h.1]
theorem KV.repl{kvs:List (κ×V)}{vs:List (κ×Value)}(r:KV kvs vs)(k:κ){y:V}{u:Value}(ry:RelV y u) :
  KV (kvs.map fun kv=>if kv.1=k then (kv.1,y) else kv) (vs.map fun kv=>if kv.1=k then (kv.1,u) else kv):=by
 unfold KV at r ⊢
 induction r with
 |nil=>exact .nil
 |@cons p q ps qs h t ih=>
  rw[List.map_cons,List.map_cons]
  refine .cons ?_ ih
  obtain⟨h1,h2⟩:=h
  by_cases e:p.1=k
  ·rw[if_pos e,if_pos (h1.symm.trans e)];exact⟨h1,ry⟩
  ·rw[if_neg e,if_neg (fun z=>e (h1.trans z))];exact⟨h1,h2⟩
theorem KV.put{kvs:List (κ×V)}{vs:List (κ×Value)}(r:KV kvs vs)(k:κ){y:V}{u:Value}(ry:RelV y u):KV (putK kvs k y) (stored vs k u):=by
 unfold putK stored
 rw[r.any k]
 by_cases e:(vs.any fun kv=>decide (kv.1=k))=true
 ·rw[if_pos e,if_pos e];exact r.repl k ry
 ·rw[if_neg e,if_neg e];exact Paired.snoc r ⟨rfl,ry⟩
theorem KV.length{kvs:List (κ×V)}{vs:List (κ×Value)}(r:KV kvs vs):kvs.length=vs.length:=Paired.length r
end
theorem vC{P:Program}{w:World}{k:Key}{u:Value}(r:RelV (kV k) u):(bH P w).is k u=true:=by
 cases k with
 |inl i=>obtain⟨t,e⟩:=(show ∃t,u=Value.int i t from r);subst e;exact Gi P w i t
 |inr x=>obtain⟨t,e⟩:=(show ∃t,u=Value.str x t from r);subst e;exact oE P w x t
theorem Aq{P:Program}{w:World}:∀ {ks:List Key} {us:List Value},Vals (ks.map kV) us->ItemsAre (bH P w) ks us
 |[],_,r=>by rw[List.map_nil] at r;cases r;exact .nil
 |k::ks,_,r=>by
  rw[List.map_cons] at r
  cases r with
  |cons h t=>exact .cons (vC h) (Aq t)
abbrev KT(H:Hp):List (List Key×V)->List (List Key×Addr×Value)->Prop:=Paired fun p q=>p.1=q.1/\H q.2.1=some (.tup (p.1.map kV))/\RelV p.2 q.2.2
theorem KT.val{H:Hp}{kvs:List (List Key×V)}{xs:List (List Key×Addr×Value)}(r:KT H kvs xs)(k:List Key):qm (j7 kvs k) ((atKey xs k).map (·.2)):=by
 induction r with
 |nil=>exact True.intro
 |@cons p q ps qs h t ih=>
  obtain⟨h1,_,h2⟩:=h
  by_cases e:p.1=k
  ·have e':q.1=k:=h1.symm.trans e
   have b:atKey (q::qs) k=some q.2:=by simp[atKey,List.find?_cons,e']
   rw[oJ e,b];exact h2
  ·have e':¬q.1=k:=fun z=>e (h1.trans z)
   have b:atKey (q::qs) k=atKey qs k:=by simp[atKey,List.find?_cons,e']
   rw[nZ e,b];exact ih
theorem KT.repl{H:Hp}{kvs:List (List Key×V)}{xs:List (List Key×Addr×Value)}(r:KT H kvs xs)(k:List Key){y:V}{u:Value}(ry:RelV y u) :
  KT H (kvs.map fun kv=>if kv.1=k then (kv.1,y) else kv) (xs.map (putAt k u)):=by
 induction r with
 |nil=>exact .nil
 |@cons p q ps qs h t ih=>
  rw[List.map_cons,List.map_cons]
  refine .cons ?_ ih
  obtain⟨h1,h2,h3⟩:=h
  unfold putAt
  by_cases e:p.1=k
  ·rw[if_pos e,if_pos (h1.symm.trans e)];exact⟨h1,h2,ry⟩
  ·rw[if_neg e,if_neg (fun z=>e (h1.trans z))];exact⟨h1,h2,h3⟩
theorem KT.put{H:Hp}{kvs:List (List Key×V)}{xs:List (List Key×Addr×Value)}(r:KT H kvs xs)(k:List Key){b:Addr}{y:V}{u:Value}(hb:H b=some (.tup (k.map kV)))(ry:RelV y u) :
  KT H (putK kvs k y) (storedH xs k b u):=by
 have e:(kvs.any fun kv=>decide (kv.1=k))=(atKey xs k).isSome:=by
  rw[Eb,(r.val k).mq,Option.isSome_map]
 unfold putK storedH
 rw[e]
 by_cases q:(atKey xs k).isSome=true
 ·rw[if_pos q,if_pos q];exact r.repl k ry
 ·rw[if_neg q,if_neg q];exact Paired.snoc r ⟨rfl,hb,ry⟩
theorem KT.keeps{H H':Hp}{kvs:List (List Key×V)}{xs:List (List Key×Addr×Value)}(r:KT H kvs xs)(ht:∀b ys,H b=some (.tup ys)->H' b=some (.tup ys)):KT H' kvs xs :=
 Paired.yh r fun _ _ z=>⟨z.1,ht _ _ z.2.1,z.2.2⟩
section
variable{P:Program}{w:World}{H:Hp}{h:Heap}{a:Addr}
theorem W9{u:HO}(ok:rK P w H h)(e:Rd H a u):cP P w H h a u:=e.ok ok
theorem zV{kvs:List (Key×V)}(ok:rK P w H h)(e:Rd H a (.dK kvs)):kvs.length<=sizeLine/\(a==sysModules)=false/\∃vs,KV kvs vs/\h.DictOf (bH P w) a vs :=
 show cP P w H h a (.dK kvs) from W9 ok e
theorem PL{kvs:List (Key×V)}(ok:rK P w H h)(e:H a=some (.dK kvs)):kvs.length<=sizeLine/\(a==sysModules)=false/\∃vs,KV kvs vs/\h.DictOf (bH P w) a vs:=zV ok (.inl e)
theorem uI{ks:List Key}(ok:rK P w H h)(e:H a=some (.tup (ks.map kV))):(tupleKind (bH P w)).is h ks a:=by
 obtain⟨_,its,r,o,h1,h2,n,h3,_⟩:=(show cP P w H h a (.tup (ks.map kV)) from ok a _ e)
 exact⟨o,its.toArray,n,h1,h2,h3,by simpa using Aq r⟩
theorem zN{kvs:List (List Key×V)}(ok:rK P w H h)(e:Rd H a (.dT kvs)):kvs.length<=sizeLine/\(a==sysModules)=false /\
  ∃xs,KT H kvs xs/\h.DictOfH (tupleKind (bH P w)) a xs:=by
 obtain⟨z,y,xs,r,o,es,ep,h1,h2,h3,h4,h5⟩:=(show cP P w H h a (.dT kvs) from W9 ok e)
 refine⟨z,y,xs,r,o,es,ep,h1,h2,h3,h4,fun x hx=>?_,h5⟩
 have all:∀ {l:List (List Key×V)} {m:List (List Key×Addr×Value)},KT H l m->∀x∈m,(tupleKind (bH P w)).is h x.1 x.2.1:=by
  intro l m q
  induction q with
  |nil=>intro x hx;exact nomatch hx
  |@cons p q ps qs hq t ih=>
   intro x hx
   rcases List.mem_cons.mp hx with e | hx
   ·subst e
    exact uI ok (by rw[←hq.1];exact hq.2.1)
   ·exact ih x hx
 exact all r x hx
theorem QH{kvs:List (List Key×V)}(ok:rK P w H h)(e:H a=some (.dT kvs)):kvs.length<=sizeLine/\(a==sysModules)=false /\
  ∃xs,KT H kvs xs/\h.DictOfH (tupleKind (bH P w)) a xs:=zN ok (.inl e)
end
def uF(H:Hp)(a:Addr)(y:V)(r:Option V):Prop :=
 (∃kvs k,Rd H a (.dK kvs)/\y=kV k/\r=j7 kvs k)\/∃kvs k b,Rd H a (.dT kvs)/\y=.ref b/\H b=some (.tup (k.map kV))/\r=j7 kvs k
def TY(H:Hp)(a:Addr)(y v:V)(H':Hp):Prop :=
 (∃kvs k,H a=some (.dK kvs)/\y=kV k/\kvs.length<sizeLine/\H'=upd H a (.dK (putK kvs k v))) \/
 ∃kvs k b,H a=some (.dT kvs)/\y=.ref b/\H b=some (.tup (k.map kV))/\kvs.length<sizeLine/\H'=upd H a (.dT (putK kvs k v))
theorem uF.k{H:Hp}{a:Addr}{kvs:List (Key×V)}{k:Key}(e:H a=some (.dK kvs)):uF H a (kV k) (j7 kvs k):=.inl ⟨kvs,k,.inl e,rfl,rfl⟩
theorem uF.t{H:Hp}{a b:Addr}{kvs:List (List Key×V)}{k:List Key}(e:H a=some (.dT kvs))(eb:H b=some (.tup (k.map kV))):uF H a (.ref b) (j7 kvs k):=.inr ⟨kvs,k,b,.inl e,rfl,eb,rfl⟩
theorem TY.t{H:Hp}{a b:Addr}{kvs:List (List Key×V)}{k:List Key}{v:V}(e:H a=some (.dT kvs))(eb:H b=some (.tup (k.map kV)))(hl:kvs.length<sizeLine) :
  TY H a (.ref b) v (upd H a (.dT (putK kvs k v))):=.inr ⟨kvs,k,b,e,rfl,eb,hl,rfl⟩
section
variable{X:Cx}{pins:List (Addr×Obj)}{σ:St}{H:Hp}{s:Shared}{a:Addr}{y v:V}{u r:Value}{o:Option V}{A:Around}{E:Value->Shared->Prop}
theorem Inv.big(I:Inv X pins σ H s):sysModules<s.heap.objs.size:=by
 have h:mainGlobals<s.heap.objs.size:=(I.mod.glob.keeps I.bk).lt
 exact Nat.lt_trans (by decide) h
theorem LQ{Q:Value->Shared->Prop}(hu:A.units+1<cLine)(I:Inv X pins σ H s)(g:uF H a y (some v))(ry:RelV y u)(h:∀w' s',Inv X pins σ H s'->RelV v w'->Q w' s') :
  wpAny (model X.prog X.w) A (getItem (.ref a) u) Q E s:=by
 rcases g with ⟨kvs,k,e,ey,l⟩ | ⟨kvs,k,b,e,ey,eb,l⟩
 ·subst ey
  obtain⟨z,hd,vs,rel,dd⟩:=zV I.hok e
  obtain⟨w',hw,rw'⟩:=qm.some_of (v:=v) (o:=valueAt vs k) (by rw[l];exact rel.val k)
  exact wpAny_getItem_of (vC ry) dd.mapOf hw (h w' _ (I.tok _) rw')
 ·subst ey
  cases (show u=Value.ref b from ry)
  obtain⟨z,hd,xs,rel,dd⟩:=zN I.hok e
  obtain⟨w',hw,rw'⟩:=qm.some_of (v:=v) (o:=(atKey xs k).map (·.2)) (by rw[l];exact rel.val k)
  obtain⟨p,hp,hp2⟩:=Option.map_eq_some_iff.mp hw
  refine wpAny_getItem_heap (tupleKind_room_in1 hu) (uI I.hok eb) dd hp ?_
  rw[hp2]
  exact h w' _ (I.tok _) rw'
theorem adG{Q:Value->Shared->Prop}(hu:A.units+1<cLine)(I:Inv X pins σ H s)(g:uF H a y o)(ry:RelV y u)(h:∀s',Inv X pins σ H s'->Q (.bool o.isSome) s') :
  wpAny (model X.prog X.w) A (compareOp .In u (.ref a)) Q E s:=by
 rcases g with ⟨kvs,k,e,ey,l⟩ | ⟨kvs,k,b,e,ey,eb,l⟩
 ·subst ey
  obtain⟨z,hd,vs,rel,dd⟩:=zV I.hok e
  refine wpAny_in_of (vC ry) hd dd.mapOf ?_
  rw[←(rel.val k).mq,←l]
  exact h _ (I.tok _)
 ·subst ey
  cases (show u=Value.ref b from ry)
  obtain⟨z,hd,xs,rel,dd⟩:=zN I.hok e
  refine wpAny_in_heap (tupleKind_room_in1 hu) (uI I.hok eb) hd dd ?_
  have q:=(rel.val k).mq
  rw[Option.isSome_map] at q
  rw[←q,←l]
  exact h _ (I.tok _)
theorem Vy{Q:Value->Shared->Prop}(hu:A.units+1<cLine)(I:Inv X pins σ H s)(g:uF H a y o)(ry:RelV y u)(h:∀s',Inv X pins σ H s'->Q (.bool (!o.isSome)) s') :
  wpAny (model X.prog X.w) A (compareOp .NotIn u (.ref a)) Q E s:=by
 rcases g with ⟨kvs,k,e,ey,l⟩ | ⟨kvs,k,b,e,ey,eb,l⟩
 ·subst ey
  obtain⟨z,hd,vs,rel,dd⟩:=zV I.hok e
  refine wpAny_notIn_of (vC ry) hd dd.mapOf ?_
  rw[←(rel.val k).mq,←l]
  exact h _ (I.tok _)
 ·subst ey
  cases (show u=Value.ref b from ry)
  obtain⟨z,hd,xs,rel,dd⟩:=zN I.hok e
  refine wpAny_notIn_heap (tupleKind_room_in1 hu) (uI I.hok eb) hd dd ?_
  have q:=(rel.val k).mq
  rw[Option.isSome_map] at q
  rw[←q,←l]
  exact h _ (I.tok _)
theorem wG{h':Heap}{t':Nat}{ob:HO}(I:Inv X pins σ H s)(mu:Mut (H a))(hs:Heap.SameBut a s.heap h')(he:∃q,h'.get? a=some q)(new:cP X.prog X.w (upd H a ob) h' a ob) :
  Inv X pins σ (upd H a ob) { s with heap:=h',toks:=t' } :=
 I.write (x:=a) (e:=a) mu (.inl rfl) (fun b q hb z=>(hs.2 b hb).trans z) he new
theorem QQ{P:Program}{w:World}{H':Hp}{h':Heap}{kvs:List (Key×V)}{vs:List (Key×Value)}(z:kvs.length<=sizeLine)(hd:(a==sysModules)=false)(rel:KV kvs vs)(dd:h'.DictOf (bH P w) a vs) :
  cP P w H' h' a (.dK kvs):=⟨z,hd,vs,rel,dd⟩
theorem N8{H':Hp}{Q:Unit->Shared->Prop}(hu:A.units+1<cLine)(I:Inv X pins σ H s)(g:TY H a y v H')(ry:RelV y u)(rv:RelV v r)(h:∀s',Inv X pins σ H' s'->Q () s') :
  wpAny (model X.prog X.w) A (setItem (.ref a) u r) Q E s:=by
 rcases g with ⟨kvs,k,e,ey,l,eH⟩ | ⟨kvs,k,b,e,ey,eb,l,eH⟩
 ·subst ey eH
  obtain⟨z,hd,vs,rel,dd⟩:=PL I.hok e
  have hz:vs.length<=sizeLine:=by rw[←rel.length];exact z
  have hl:(putK kvs k v).length<=sizeLine:=by have:=lF kvs k v;omega
  refine wpAny_setItem_pairs (hsz:=hz) (vC ry) dd fun h' dd' hs=>h _ ?_
  have he:∃q,h'.get? a=some q:=let ⟨q,_,_,hq,_⟩:=dd';⟨q,hq⟩
  exact wG I (by rw[e];exact True.intro) hs he (QQ hl hd (rel.put k rv) dd')
 ·subst ey eH
  cases (show u=Value.ref b from ry)
  obtain⟨z,hd,xs,rel,dd⟩:=QH I.hok e
  have hz:xs.length<=sizeLine:=by rw[←Paired.length rel];exact z
  have hl:(putK kvs k v).length<=sizeLine:=by have:=lF kvs k v;omega
  refine wpAny_setItem_heap (hsz:=hz) (tupleKind_room_in1 hu) (uI I.hok eb) dd fun h' dd' hs=>h _ ?_
  obtain⟨q,es,ep,hq,h2,h3,h4,_,h5⟩:=dd'
  refine wG I (by rw[e];exact True.intro) hs ⟨q,hq⟩ ⟨hl,hd,_,(rel.put k eb rv).keeps fun c ys ec=>?_,q,es,ep,hq,h2,h3,h4,h5⟩
  rw[aF (qF ec e (fun z=>nomatch z))]
  exact ec
end
section
variable{X:Cx}{pins:List (Addr×Obj)}{σ:St}{H:Hp}{s:Shared}{a:Addr}{kvs:List (Key×V)}{k:Key}{u:Value}{A:Around}{E:Value->Shared->Prop}
end
def Ot(i:Expr):Prop:=∀ov iv,subscripted i false ov iv=operate [ov,iv] (getItem ov iv)
theorem Ln{prog:Program}{w:World}{A:Around}{E:Value->Shared->Prop}{s:Shared}{env:Env}{value slice:Expr}{pos:Pos}{T id:String}{Q:Value->Shared->Prop}
  (hl:typeLookup (.type T) "__getitem__" = pure (some (.builtin id))) (hs:Ot slice)
  (h:wpAny (model prog w) A (eval value env) (fun o s₁=>wpAny (model prog w) A (eval slice env) (fun i s₂=>s₂.TypeIs o T/\wpAny (model prog w) A (getItem o i) Q E s₂) E s₁) E s) :
  wpAny (model prog w) A (eval (.Subscript value slice pos) env) Q E s:=by
 refine Subscript_ (wpAny_mono h (fun o s₁ h₁=>wpAny_mono h₁ (fun i s₂ h₂=>?_) fun _ _ x=>x) fun _ _ x=>x)
 obtain⟨hT,h₂⟩:=h₂
 unfold subscriptTail
 refine wpAny_bind ?_
 rw[getitemInPython_of_ne hT.not_modules]
 refine wpAny_bind (wpAny_specialOf hT hl ?_)
 have fin:wpAny (model prog w) A (subscripted slice false o i) (fun r s₃=>wpAny (model prog w) A (letTemporaryGo value o r >>= fun _=>pure r) Q E s₃) E s₂:=by
  rw[hs o i]
  exact wpAny_operating (wpAny_mono h₂ (fun r s₃ h₃=>wpAny_bind (wpAny_letTemporaryGo (wpAny_pure h₃))) fun _ _ x=>x)
 first
  |exact wpAny_pure (wpAny_bind fin)
  |exact wpAny_bind (wpAny_pure (wpAny_bind fin))
  |exact wpAny_bind fin
theorem Gs{X:Cx}{pins:List (Addr×Obj)}{σ:St}{H:Hp}{s:Shared}{a:Addr}{y:V}{o:Option V}(I:Inv X pins σ H s)(g:uF H a y o):s.TypeIs (.ref a) "dict":=by
 rcases g with ⟨kvs,k,e,_,_⟩ | ⟨kvs,k,b,e,_,_,_⟩
 ·obtain⟨_,_,vs,_,dd⟩:=zV I.hok e
  exact dd.typeIs
 ·obtain⟨_,_,xs,_,dd⟩:=zN I.hok e
  exact dd.typeIs
def abq(td ty:TE):TE:=fun σ H Q=>td σ H fun x H1=>ty σ H1 fun y H2=>∃a v,x=.ref a/\uF H2 a y (some v)/\Q v H2
def aaS(td ty tv:TE):TS:=fun D σ H=>tv σ H fun v H1=>td σ H1 fun x H2=>ty σ H2 fun y H3=>∃a H4,x=.ref a/\TY H3 a y v H4/\D.nx σ H4
section
variable{X:Cx}{o i e value:Expr}{pos pos' tpos:Pos}{td ty tv:TE}
theorem Kz(hu:X.A.units+1<cLine)(ho:PE X o td)(hi:PE X i ty)(hs:Ot i):PE X (.Subscript o i pos) (abq td ty):=by
 intro pins s σ H Q I h
 refine Ln PySem.F.slot_dict_getitem.lookup hs (cQ (ho pins s σ H _ I h) fun u s1 ⟨x,H1,I1,rx,q1⟩=>cQ (hi pins s1 σ H1 _ I1 q1) fun iv s2 zz=>?_)
 obtain⟨y,H2,I2,ry,a,v,ex,g,q2⟩:=zz
 subst ex
 obtain rfl:u=Value.ref a:=rx
 exact⟨Gs I2 g,LQ hu I2 g ry fun w' s3 I3 rw'=>⟨v,H2,I3,rw',q2⟩⟩
theorem Um(hu:X.A.units+1<cLine)(ho:PE X o td)(hi:PE X i ty)(hv:PE X value tv)(hs:swapsWith value (some (.Subscript o i pos')) pos.line X.env=pure false) :
  PS X (.Assign [.Subscript o i pos'] value pos) (aaS td ty tv):=by
 intro pins s σ H D I h
 refine wpAny_Assign_Subscript (cQ (hv pins s σ H _ I h) fun r s1 ⟨v,H1,I1,rv,q1⟩=>cQ (ho pins s1 σ H1 _ I1 q1) fun u s2 ⟨x,H2,I2,rx,q2⟩=>cQ (hi pins s2 σ H2 _ I2 q2) fun iv s3 zz=>?_) hs
 obtain⟨y,H3,I3,ry,a,H4,ex,g,q3⟩:=zz
 subst ex
 obtain rfl:u=Value.ref a:=rx
 exact N8 hu I3 g ry rv fun s4 I4=>⟨σ,H4,I4,q3⟩
end
theorem Qa{P:Program}{w:World}{H:Hp}(h:Heap)(hb:sysModules<h.objs.size):cP P w H (h.push { cls:=.type "dict",data:=.dict #[] }) h.objs.size (.dK []) :=
 ⟨Nat.zero_le _,beq_eq_false_iff_ne.mpr (Ne.symm (Nat.ne_of_lt hb)),[],.nil,Heap.DictOf.new h⟩
theorem Eh{P:Program}{w:World}{H:Hp}(h:Heap)(hb:sysModules<h.objs.size):cP P w H (h.push { cls:=.type "dict",data:=.dict #[] }) h.objs.size (.dT []) :=
 ⟨Nat.zero_le _,beq_eq_false_iff_ne.mpr (Ne.symm (Nat.ne_of_lt hb)),[],.nil,_,#[],0,Heap.get?_push_size _ rfl,⟨rfl,rfl,rfl⟩,rfl,rfl,List.nodup_nil⟩
def aag:TE:=fun _ H Q=>∀p,H p=none->Q (.ref p) (upd H p (.dK []))
def YB:TE:=fun _ H Q=>∀p,H p=none->Q (.ref p) (upd H p (.dT []))
section
variable{X:Cx}{pos:Pos}
theorem QM:PE X (.Dict [] [] pos) aag:=fun pins s σ H Q I h=>
 wpAny_Dict_empty ⟨.ref s.heap.objs.size,_,I.laid (a:=s.heap.objs.size) (o:=.dK []) (t':=s.toks) (fun _ _ q=>Heap.get?_push_of_some _ q) (Nat.le_refl _) (Qa s.heap I.big),rfl,h _ (I.hok.fresh (Nat.le_refl _))⟩
theorem Rq:PE X (.Dict [] [] pos) YB:=fun pins s σ H Q I h=>
 wpAny_Dict_empty ⟨.ref s.heap.objs.size,_,I.laid (a:=s.heap.objs.size) (o:=.dT []) (t':=s.toks) (fun _ _ q=>Heap.get?_push_of_some _ q) (Nat.le_refl _) (Eh s.heap I.big),rfl,h _ (I.hok.fresh (Nat.le_refl _))⟩
end
def R8:List (TE×TE)->St->Hp->(List (V×V)->Hp->Prop)->Prop
 |[],_,H,Q=>Q [] H
 |(tk,tv)::r,σ,H,Q=>tk σ H fun x H1=>tv σ H1 fun y H2=>R8 r σ H2 fun ps H3=>Q ((x,y)::ps) H3
abbrev VV:List (V×V)->List (Value×Value)->Prop:=Paired fun p q=>RelV p.1 q.1/\RelV p.2 q.2
def PPs(X:Cx)(pos:Pos)(keys:List (Option Expr))(values:List Expr)(trs:List (TE×TE)):Prop :=
 ∀(pins:List (Addr×Obj)) (s:Shared) (σ:St) (H:Hp) (Q:List (V×V)->Hp->Prop),Inv X pins σ H s->R8 trs σ H Q ->
  wpAny (model X.prog X.w) X.A (evalPairs (pairTrees keys values X.env pos)) (fun vs s'=>∃ps H',Inv X pins σ H' s'/\VV ps vs/\Q ps H') X.xe s
theorem Vp{X:Cx}{pos:Pos}:PPs X pos [] [] []:=fun pins s σ H Q I h=>pairTrees_nil_walk ⟨[],H,I,.nil,h⟩
theorem Qp{X:Cx}{pos:Pos}{k v:Expr}{ks:List (Option Expr)}{vs:List Expr}{tk tv:TE}{trs:List (TE×TE)}(hk:PE X k tk)(hv:PE X v tv)(hr:PPs X pos ks vs trs) :
  PPs X pos (some k::ks) (v::vs) ((tk,tv)::trs):=fun pins s σ H Q I h=>
 pairTrees_cons_walk (cQ (hk pins s σ H _ I h) fun u s1 ⟨x,H1,I1,rx,q1⟩=>cQ (hv pins s1 σ H1 _ I1 q1) fun w2 s2 ⟨y,H2,I2,ry,q2⟩=>
  cQ (hr pins s2 σ H2 _ I2 q2) fun ws s3 ⟨ps,H3,I3,rel,q3⟩=>⟨(x,y)::ps,H3,I3,.cons ⟨rx,ry⟩ rel,q3⟩)
structure M1(X:Cx)(o:Expr)(m:Str)(apos:Pos)(e:Expr)(cpos:Pos):Prop where
 base:attributeBase o m X.env (eval o X.env)=eval o X.env
 few:((backTo cpos (starEach [e] X.env)).all (fun x=>!x.1)&&(backToKw cpos (keywordEach [] X.env)).all (fun x=>x.1.isSome)
  && decide (([e]:List Expr).length+([]:List Keyword).length+(if ([]:List Keyword).isEmpty then 0 else 1)<30))=true
 line:(apos.endLine==cpos.line)=true
 trees:backTo cpos (starEach [e] X.env)=[(false,eval e X.env)]
structure M2(X:Cx)(o:Expr)(m:Str)(apos:Pos)(e f:Expr)(cpos:Pos):Prop where
 base:attributeBase o m X.env (eval o X.env)=eval o X.env
 few:((backTo cpos (starEach [e,f] X.env)).all (fun x=>!x.1)&&(backToKw cpos (keywordEach [] X.env)).all (fun x=>x.1.isSome)
  && decide (([e,f]:List Expr).length+([]:List Keyword).length+(if ([]:List Keyword).isEmpty then 0 else 1)<30))=true
 line:(apos.endLine==cpos.line)=true
 trees:backTo cpos (starEach [e,f] X.env)=[(false,eval e X.env),(false,eval f X.env)]
def IsD(H:Hp)(a:Addr):Prop:=(∃kvs,Rd H a (.dK kvs))\/∃kvs,Rd H a (.dT kvs)
theorem Z2{X:Cx}{pins:List (Addr×Obj)}{σ:St}{H:Hp}{s:Shared}{a:Addr}(I:Inv X pins σ H s)(d:IsD H a) :
  s.TypeIs (.ref a) "dict"/\(∀b,Value.ref a=.ref b->∃ob,s.heap.get? b=some ob/\ob.dict=none)/\(a==sysModules)=false:=by
 rcases d with ⟨kvs,e⟩ | ⟨kvs,e⟩
 ·obtain⟨_,hd,vs,_,dd⟩:=zV I.hok e
  refine⟨dd.typeIs,fun b q=>?_,hd⟩
  cases q
  obtain⟨ob,_,_,h1,h2,_⟩:=dd
  exact⟨ob,h1,h2.2.1⟩
 ·obtain⟨_,hd,xs,_,dd⟩:=zN I.hok e
  refine⟨dd.typeIs,fun b q=>?_,hd⟩
  cases q
  obtain⟨ob,_,_,h1,h2,_⟩:=dd
  exact⟨ob,h1,h2.2.1⟩
section
variable{X:Cx}{pins:List (Addr×Obj)}{σ:St}{H:Hp}{s:Shared}{a:Addr}{y d:V}{u r:Value}{o:Option V}{A:Around}{E:Value->Shared->Prop}
end
section
variable{X:Cx}{o e f:Expr}{apos cpos:Pos}{td ty tx:TE}
end
section
variable{X:Cx}{pins:List (Addr×Obj)}{σ:St}{H:Hp}{s:Shared}{a:Addr}{kvs:List (Key×V)}{A:Around}{E:Value->Shared->Prop}
end
section
variable{X:Cx}{pins:List (Addr×Obj)}{σ:St}{H:Hp}{s:Shared}{a:Addr}{y:V}{u:Value}{A:Around}{E:Value->Shared->Prop}
end
end L2
namespace L3
open PySem PySem.Spec PyProof.Rows L2
abbrev St:=L2.St
inductive D where
 |non | bl (b:Bool) | int (i:Int) | str (x:Str) | tup (ds:List D) | fl (ds:List D) | ref (a:Addr) | ty (n:String) | ktup (ds:List D)
def Z9(K:PySem.W.Frag)(H:Hp)(a:Addr)(xs:List V):Prop :=
 (∃o,H a=some (.frz o (.lst xs))) \/
  ∃(o:Obj) (its:Array Value) (n:Nat),K.lookup a=some o/\o.cls=.type "list"/\o.dict=none/\o.data=.seq its n/\its.size<=sizeLine/\Vals xs its.toList
theorem Z9.sq{K:PySem.W.Frag}{H:Hp}{a:Addr}{xs:List V}(h:Z9 K H a xs):jm K H a xs:=by
 rcases h with ⟨o,h⟩ | h
 ·exact .inl (.inr ⟨o,h⟩)
 ·exact .inr h
def KTp(K:PySem.W.Frag)(a:Addr)(xs:List V):Prop:=∃(o:Obj) (its:Array Value) (n:Nat),K.lookup a=some o/\o.cls=.type "tuple"/\o.data=.seq its n/\its.size<=sizeLine/\Vals xs its.toList
theorem KTp.sq{K:PySem.W.Frag}{H:Hp}{a:Addr}{xs:List V}(h:KTp K a xs):iT K H a xs:=.inr h
mutual
inductive Rep(K:PySem.W.Frag)(H:Hp):D->V->Prop
 |non:Rep K H .non .non
 |bl (b:Bool):Rep K H (.bl b) (.bl b)
 |int (i:Int):Rep K H (.int i) (.int i)
 |str (x:Str):Rep K H (.str x) (.str x)
 |ty (n:String):Rep K H (.ty n) (.ty n)
 |ref (a:Addr):Rep K H (.ref a) (.ref a)
 |tup {a:Addr} {xs:List V} {ds:List D}:H a=some (.tup xs)->bj K H ds xs->Rep K H (.tup ds) (.ref a)
 |fl {a:Addr} {xs:List V} {ds:List D}:Z9 K H a xs->bj K H ds xs->Rep K H (.fl ds) (.ref a)
 |ktup {a:Addr} {xs:List V} {ds:List D}:KTp K a xs->bj K H ds xs->Rep K H (.ktup ds) (.ref a)
inductive bj(K:PySem.W.Frag)(H:Hp):List D->List V->Prop
 |nil:bj K H [] []
 |cons {d:D} {v:V} {ds:List D} {vs:List V}:Rep K H d v->bj K H ds vs->bj K H (d::ds) (v::vs)
end
structure TK(H H':Hp):Prop where
 tup:∀a xs,H a=some (.tup xs)->H' a=some (.tup xs)
 frz:∀a o u,H a=some (.frz o u)->H' a=some (.frz o u)
theorem TK.refl{H:Hp}:TK H H:=⟨fun _ _ h=>h,fun _ _ _ h=>h⟩
theorem TK.trans{H H1 H2:Hp}(a:TK H H1)(b:TK H1 H2):TK H H2:=⟨fun c xs h=>b.tup c xs (a.tup c xs h),fun c o u h=>b.frz c o u (a.frz c o u h)⟩
theorem TK.fresh{H:Hp}{p:Addr}{o:HO}(n:H p=none):TK H (upd H p o) :=
 ⟨fun a xs h=>by rw[aF (bJ h n)];exact h,fun a o' u h=>by rw[aF (bJ h n)];exact h⟩
theorem TK.lst{H:Hp}{p:Addr}{o:HO}{xs:List V}(n:H p=some (.lst xs)):TK H (upd H p o) :=
 ⟨fun a ys h=>by rw[aF (qF h n (by intro z;cases z))];exact h,fun a o' u h=>by rw[aF (qF h n (by intro z;cases z))];exact h⟩
theorem TK.dT{H:Hp}{p:Addr}{o:HO}{xs:List (List Key×V)}(n:H p=some (.dT xs)):TK H (upd H p o) :=
 ⟨fun a ys h=>by rw[aF (qF h n (by intro z;cases z))];exact h,fun a o' u h=>by rw[aF (qF h n (by intro z;cases z))];exact h⟩
theorem TK.sqT{K:PySem.W.Frag}{H H':Hp}(t:TK H H'){a:Addr}{xs:List V}(h:iT K H a xs):iT K H' a xs:=by
 rcases h with (h | ⟨o,h⟩) | h
 ·exact .inl (.inl (t.tup _ _ h))
 ·exact .inl (.inr ⟨o,t.frz _ _ _ h⟩)
 ·exact .inr h
theorem TK.fzL{K:PySem.W.Frag}{H H':Hp}(t:TK H H'){a:Addr}{xs:List V}(h:Z9 K H a xs):Z9 K H' a xs:=by
 rcases h with ⟨o,h⟩ | h
 ·exact .inl ⟨o,t.frz _ _ _ h⟩
 ·exact .inr h
theorem Rep.mono{K:PySem.W.Frag}{H H':Hp}(t:TK H H'){d:D}{v:V}(h:Rep K H d v):Rep K H' d v :=
 Rep.rec (motive_1:=fun d v _=>Rep K H' d v) (motive_2:=fun ds vs _=>bj K H' ds vs) .non .bl .int .str .ty .ref (fun h _ r=>.tup (t.tup _ _ h) r) (fun h _ r=>.fl (t.fzL h) r) (fun h _ r=>.ktup h r) .nil (fun _ _ r s=>.cons r s) h
theorem bj.mono{K:PySem.W.Frag}{H H':Hp}(t:TK H H'){ds:List D}{vs:List V}(h:bj K H ds vs):bj K H' ds vs :=
 bj.rec (motive_1:=fun d v _=>Rep K H' d v) (motive_2:=fun ds vs _=>bj K H' ds vs) .non .bl .int .str .ty .ref (fun h _ r=>.tup (t.tup _ _ h) r) (fun h _ r=>.fl (t.fzL h) r) (fun h _ r=>.ktup h r) .nil (fun _ _ r s=>.cons r s) h
section
variable{K:PySem.W.Frag}{H:Hp}
theorem bj.length{ds:List D}{vs:List V}(h:bj K H ds vs):ds.length=vs.length :=
 bj.rec (motive_1:=fun _ _ _=>True) (motive_2:=fun ds vs _=>ds.length=vs.length) trivial (fun _=>trivial) (fun _=>trivial) (fun _=>trivial) (fun _=>trivial) (fun _=>trivial) (fun _ _ _=>trivial) (fun _ _ _=>trivial) (fun _ _ _=>trivial) rfl (fun _ _ _ i=>congrArg (· + 1) i) h
theorem bj.get:∀ {ds:List D} {vs:List V} {i:Nat} {d:D},bj K H ds vs->ds[i]?=some d->∃v,vs[i]?=some v/\Rep K H d v
 |_,_,_,_,.nil,e=>by simp at e
 |_,_,0,_,.cons r _,e=>by simp at e;subst e;exact⟨_,rfl,r⟩
 |_,_,i+1,d,.cons _ t,e=>by
  obtain⟨u,h1,h2⟩:=bj.get (i:=i) (d:=d) t (by simpa using e)
  exact⟨u,by simpa using h1,h2⟩
theorem bj.Jv:∀ {ds:List D} {vs:List V} {i:Nat} {v:V},bj K H ds vs->vs[i]?=some v->∃d,ds[i]?=some d/\Rep K H d v
 |_,_,_,_,.nil,e=>by simp at e
 |_,_,0,_,.cons r _,e=>by simp at e;subst e;exact⟨_,rfl,r⟩
 |_,_,i+1,v,.cons _ t,e=>by
  obtain⟨u,h1,h2⟩:=bj.Jv (i:=i) (v:=v) t (by simpa using e)
  exact⟨u,by simpa using h1,h2⟩
theorem bj.append{ds es:List D}{vs us:List V}(h:bj K H ds vs)(s:bj K H es us):bj K H (ds++es) (vs++us) :=
 bj.rec (motive_1:=fun _ _ _=>True) (motive_2:=fun ds vs _=>bj K H (ds++es) (vs++us)) trivial (fun _=>trivial) (fun _=>trivial) (fun _=>trivial) (fun _=>trivial) (fun _=>trivial) (fun _ _ _=>trivial) (fun _ _ _=>trivial) (fun _ _ _=>trivial) s (fun r _ _ i=>.cons r i) h
theorem bj.take:∀ {ds:List D} {vs:List V} (n:Nat),bj K H ds vs->bj K H (ds.take n) (vs.take n)
 |_,_,0,_=>.nil
 |_,_,_+1,.nil=>.nil
 |_,_,n+1,.cons r t=>.cons r (bj.take n t)
theorem bj.drop:∀ {ds:List D} {vs:List V} (n:Nat),bj K H ds vs->bj K H (ds.drop n) (vs.drop n)
 |_,_,0,r=>r
 |_,_,_+1,.nil=>.nil
 |_,_,n+1,.cons _ t=>bj.drop n t
theorem bj.snoc{ds:List D}{vs:List V}{d:D}{v:V}(r:bj K H ds vs)(s:Rep K H d v):bj K H (ds++[d]) (vs++[v]):=r.append (.cons s .nil)
theorem bj.dropLast{ds:List D}{vs:List V}(r:bj K H ds vs):bj K H ds.dropLast vs.dropLast:=by
 rw[List.dropLast_eq_take,List.dropLast_eq_take,←r.length];exact r.take _
theorem bj.ints:∀(ns:List Int),bj K H (ns.map D.int) (ns.map V.int)
 |[]=>.nil
 |n::ns=>.cons (.int n) (bj.ints ns)
theorem bj.nW{ns:List Int}:∀ {vs:List V},bj K H (ns.map D.int) vs->vs=ns.map V.int:=by
 induction ns with
 |nil=>intro vs h;cases h;rfl
 |cons n ns ih=>
  intro vs h
  cases h with
  |cons r t=>cases r;rw[List.map_cons,ih t]
end
inductive O3 where
 |lst (ds:List D)
 |dic (kvs:List (List Key×D))
 |dik (kvs:List (Key×D))
 |ins (c:Str) (fs:List (Str×D))
 |exc (c:Str)
 |tab (x:Str)
 |tabd (x:Str) (l k:Nat)
abbrev aC:=Addr->Option O3
def aK(H:aC)(a:Addr)(o:O3):aC:=fun b=>if b=a then some o else H b
theorem aB{H:aC}{a:Addr}{o:O3}:aK H a o a=some o:=by unfold aK;rw[if_pos rfl]
theorem bc{H:aC}{a b:Addr}{o:O3}(h:b≠a):aK H a o b=H b:=by unfold aK;rw[if_neg h]
theorem pM{H:aC}{a:Addr}{o u:O3}:aK (aK H a o) a u=aK H a u:=by
 funext b;unfold aK;split <;> rfl
theorem ne3{H:aC}{a b:Addr}{o:O3}(h:H a=some o)(h':H b=none):a≠b:=by
 intro e;subst e;rw[h] at h';cases h'
def acG(a C:Addr):HO:=.ext fun h=>∃o vs,h.get? a=some o/\o.cls=.ref C/\o.data=.fields vs
structure CW(K:PySem.W.Frag)(H:Hp)(x:Str)(c a:Addr):Prop where
 tab:PySem.W.tabIn K x=some (c,a)
 hd:∀h:Heap,K.In h->PySem.W.CodeHd h c a
 bm:∃bm ob,PySem.W.nsIn K mainGlobals "__builtins__" = some (some (.ref bm))/\bm≠builtinsNs/\H bm=some (.frz ob (.own bm))/\ob.cls=.type "module"/\ob.dict=some builtinsNs/\ob.data=.plain
theorem CW.mono{K:PySem.W.Frag}{H H':Hp}{x:Str}{c a:Addr}(h:CW K H x c a)(t:TK H H'):CW K H' x c a :=
 ⟨h.tab,h.hd,let ⟨bm,ob,h1,h2,h3,h4⟩:=h.bm;⟨bm,ob,h1,h2,t.frz _ _ _ h3,h4⟩⟩
def El(x:Str):Str:=x ++ ".<locals>." ++ "<lambda>"
def OR(K:PySem.W.Frag)(H:Hp)(a:Addr):O3->Prop
 |.lst ds=>∃xs,H a=some (.lst xs)/\bj K H ds xs
 |.dic kvs=>∃ks,H a=some (.dT ks)/\Paired (fun (p:List Key×D) (q:List Key×V)=>p.1=q.1/\Rep K H p.2 q.2) kvs ks
 |.dik kvs=>∃ks,H a=some (.dK ks)/\Paired (fun (p:Key×D) (q:Key×V)=>p.1=q.1/\Rep K H p.2 q.2) kvs ks
 |.ins c fs=>∃C dx xs,PySem.W.nsIn K mainGlobals c=some (some (.ref C))/\H a=some (.ins C dx xs)/\Paired (fun (p:Str×D) (q:Str×V)=>p.1=q.1/\Rep K H p.2 q.2) fs xs
 |.exc c=>∃C,PySem.W.nsIn K mainGlobals c=some (some (.ref C))/\H a=some (acG a C)
 |.tab x=>H a=some (.tbl #[])/\∃c,CW K H x c a
 |.tabd x l k=>∃c' oc vs t,H a=some (.tbl #[rawInt l,rawInt k,.ref c'])/\H c'=some (.frz oc (.own c'))/\oc.data=.fields vs/\vs[1]?=some (.str (El x) t)/\∃c,CW K H x c a
def HR(K:PySem.W.Frag)(H3:aC)(H:Hp):Prop:=∀a o,H3 a=some o->OR K H a o
def aL(H H':aC):Prop:=∀a o,H a=some o->H' a=some o
theorem aL.refl{H:aC}:aL H H:=fun _ _ h=>h
theorem aL.trans{H H1 H2:aC}(a:aL H H1)(b:aL H1 H2):aL H H2:=fun c o h=>b c o (a c o h)
theorem aL.fresh{H:aC}{p:Addr}{o:O3}(n:H p=none):aL H (aK H p o):=fun a u h=>by rw[bc (ne3 h n)];exact h
section
variable{K:PySem.W.Frag}{H H':Hp}{H3 H3':aC}
theorem HR.sub(h:HR K H3' H)(s:aL H3 H3'):HR K H3 H:=fun a o e=>h a o (s a o e)
theorem HR.fresh(h:HR K H3 H){p:Addr}(n:H p=none):H3 p=none:=by
 cases e:H3 p with
 |none=>rfl
 |some o=>
  cases o with
  |lst ds=>obtain⟨xs,q,_⟩:=h p _ e;rw[n] at q;cases q
  |dic ks=>obtain⟨xs,q,_⟩:=h p _ e;rw[n] at q;cases q
  |dik ks=>obtain⟨xs,q,_⟩:=h p _ e;rw[n] at q;cases q
  |ins c fs=>obtain⟨C,dx,xs,_,q,_⟩:=h p _ e;rw[n] at q;cases q
  |exc c=>obtain⟨C,_,q⟩:=h p _ e;rw[n] at q;cases q
  |tab x=>obtain⟨q,_⟩:=h p _ e;rw[n] at q;cases q
  |tabd x l k=>obtain⟨_,_,_,_,q,_⟩:=h p _ e;rw[n] at q;cases q
theorem OR.keep{a:Addr}{o:O3}(x:OR K H a o)(t:TK H H')(e:H' a=H a):OR K H' a o:=by
 cases o with
 |lst ds=>obtain⟨xs,q,r⟩:=x;exact⟨xs,e.trans q,r.mono t⟩
 |dic ks=>obtain⟨xs,q,r⟩:=x;exact⟨xs,e.trans q,Paired.yh r fun _ _ z=>⟨z.1,z.2.mono t⟩⟩
 |dik ks=>obtain⟨xs,q,r⟩:=x;exact⟨xs,e.trans q,Paired.yh r fun _ _ z=>⟨z.1,z.2.mono t⟩⟩
 |ins c fs=>obtain⟨C,dx,xs,g,q,r⟩:=x;exact⟨C,dx,xs,g,e.trans q,Paired.yh r fun _ _ z=>⟨z.1,z.2.mono t⟩⟩
 |exc c=>obtain⟨C,g,q⟩:=x;exact⟨C,g,e.trans q⟩
 |tab x=>obtain⟨q,c,g⟩:=x;exact⟨e.trans q,c,g.mono t⟩
 |tabd x l k=>obtain⟨c',oc,vs,u,q,q',d,v,c,g⟩:=x;exact⟨c',oc,vs,u,e.trans q,t.frz _ _ _ q',d,v,c,g.mono t⟩
theorem HR.set(h:HR K H3 H){p:Addr}{o:HO}{o3:O3}(t:TK H (upd H p o))(new:OR K (upd H p o) p o3):HR K (aK H3 p o3) (upd H p o):=fun b u e=>by
 by_cases hb:b=p
 ·subst hb;rw[aB] at e;cases e;exact new
 ·rw[bc hb] at e;exact (h b u e).keep t (aF hb)
theorem HR.ye(h:HR K H3 H){p:Addr}{xs:List V}{ds:List D}(t:TK H (upd H p (.lst xs)))(r:bj K (upd H p (.lst xs)) ds xs):HR K (aK H3 p (.lst ds)) (upd H p (.lst xs)):=h.set (o3:=.lst ds) t ⟨xs,aR,r⟩
theorem HR.tup(h:HR K H3 H){p:Addr}{xs:List V}(n:H p=none):HR K H3 (upd H p (.tup xs)):=fun b u e=>by
 have hb:b≠p:=ne3 e (h.fresh n)
 exact (h b u e).keep (TK.fresh n) (aF hb)
end
abbrev bQ:=List (Option D)
abbrev aM:=D->aC->Prop
abbrev aZ:=bQ->aC->aM->Prop
abbrev qt:=bQ->aC->(Bool->aC->Prop)->Prop
abbrev lN:=bQ->aC->(List D->aC->Prop)->Prop
structure dj where
 nx:bQ->aC->Prop
 rt:aM
 bk:bQ->aC->Prop:=fun _ _=>False
 ct:bQ->aC->Prop:=fun _ _=>False
abbrev cO:=dj->bQ->aC->Prop
structure SR(K:PySem.W.Frag)(H:Hp)(σ3:bQ)(σ:St):Prop where
 len:σ3.length=σ.length
 get:∀(i:Nat) (d:D),σ3[i]?=some (some d)->∃v,σ[i]?=some (some v)/\Rep K H d v
theorem SR.mono{K:PySem.W.Frag}{H H':Hp}{σ3:bQ}{σ:St}(s:SR K H σ3 σ)(t:TK H H'):SR K H' σ3 σ :=
 ⟨s.len,fun i d e=>let ⟨v,h1,h2⟩:=s.get i d e;⟨v,h1,h2.mono t⟩⟩
theorem SR.set{K:PySem.W.Frag}{H:Hp}{σ3:bQ}{σ:St}(s:SR K H σ3 σ)(i:Nat){d:D}{v:V}(r:Rep K H d v):SR K H (σ3.set i (some d)) (σ.set i (some v)):=by
 refine⟨by simp[s.len],fun j e h=>?_⟩
 by_cases hj:j=i
 ·subst hj
  by_cases hl:j<σ3.length
  ·rw[List.getElem?_set_self hl] at h
   cases h
   exact⟨v,by rw[List.getElem?_set_self (by rw[←s.len];exact hl)],r⟩
  ·rw[List.getElem?_eq_none (by simpa using hl)] at h;cases h
 ·rw[List.getElem?_set_ne (Ne.symm hj)] at h
  obtain⟨u,h1,h2⟩:=s.get j e h
  exact⟨u,by rw[List.getElem?_set_ne (Ne.symm hj)];exact h1,h2⟩
def KE(K:PySem.W.Frag)(H:Hp)(Q3:aM)(Q:VK):Prop:=∀d v H3' H',TK H H'->HR K H3' H'->Rep K H' d v->Q3 d H3'->Q v H'
def KT(K:PySem.W.Frag)(H:Hp)(Q3:Bool->aC->Prop)(Q:Bool->Hp->Prop):Prop:=∀b H3' H',TK H H'->HR K H3' H'->Q3 b H3'->Q b H'
def KA(K:PySem.W.Frag)(H:Hp)(Q3:List D->aC->Prop)(Q:List V->Hp->Prop):Prop:=∀ds vs H3' H',TK H H'->HR K H3' H'->bj K H' ds vs->Q3 ds H3'->Q vs H'
def KN(K:PySem.W.Frag)(H:Hp)(Q3:bQ->aC->Prop)(Q:St->Hp->Prop):Prop:=∀σ3 σ H3' H',TK H H'->SR K H' σ3 σ->HR K H3' H'->Q3 σ3 H3'->Q σ H'
structure KS(K:PySem.W.Frag)(H:Hp)(D3:dj)(D:Ends):Prop where
 nx:KN K H D3.nx D.nx
 rt:KE K H D3.rt D.rt
 bk:KN K H D3.bk D.bk
 ct:KN K H D3.ct D.ct
theorem KE.mono{K:PySem.W.Frag}{H H1:Hp}{Q3:aM}{Q:VK}(k:KE K H Q3 Q)(t:TK H H1):KE K H1 Q3 Q:=fun d v H3 H' t'=>k d v H3 H' (t.trans t')
theorem KN.mono{K:PySem.W.Frag}{H H1:Hp}{Q3:bQ->aC->Prop}{Q:St->Hp->Prop}(k:KN K H Q3 Q)(t:TK H H1):KN K H1 Q3 Q:=fun d v H3 H' t'=>k d v H3 H' (t.trans t')
theorem KS.mono{K:PySem.W.Frag}{H H1:Hp}{D3:dj}{D:Ends}(k:KS K H D3 D)(t:TK H H1):KS K H1 D3 D:=⟨k.nx.mono t,k.rt.mono t,k.bk.mono t,k.ct.mono t⟩
inductive fB(K:PySem.W.Frag)(t:aZ)(σ:St)(H:Hp)(Q:VK):Prop
 |mk (σ3:bQ) (H3:aC) (Q3:aM) (_:SR K H σ3 σ) (_:HR K H3 H) (_:t σ3 H3 Q3) (_:KE K H Q3 Q)
theorem fB.ex{K:PySem.W.Frag}{t:aZ}{σ:St}{H:Hp}{Q:VK}{G:Prop}(z:fB K t σ H Q)(k:∀(σ3:bQ) (H3:aC) (Q3:aM),SR K H σ3 σ->HR K H3 H->t σ3 H3 Q3->KE K H Q3 Q->G):G:=by
 cases z with
 |mk σ3 H3 Q3 h0 h1 h2 h3=>exact k σ3 H3 Q3 h0 h1 h2 h3
inductive liftT(K:PySem.W.Frag)(t:qt)(σ:St)(H:Hp)(Q:Bool->Hp->Prop):Prop
 |mk (σ3:bQ) (H3:aC) (Q3:Bool->aC->Prop) (_:SR K H σ3 σ) (_:HR K H3 H) (_:t σ3 H3 Q3) (_:KT K H Q3 Q)
theorem liftT.ex{K:PySem.W.Frag}{t:qt}{σ:St}{H:Hp}{Q:Bool->Hp->Prop}{G:Prop}(z:liftT K t σ H Q)(k:∀(σ3:bQ) (H3:aC) (Q3:Bool->aC->Prop),SR K H σ3 σ->HR K H3 H->t σ3 H3 Q3->KT K H Q3 Q->G):G:=by
 cases z with
 |mk σ3 H3 Q3 h0 h1 h2 h3=>exact k σ3 H3 Q3 h0 h1 h2 h3
inductive J4(K:PySem.W.Frag)(t:lN)(σ:St)(H:Hp)(Q:List V->Hp->Prop):Prop
 |mk (σ3:bQ) (H3:aC) (Q3:List D->aC->Prop) (_:SR K H σ3 σ) (_:HR K H3 H) (_:t σ3 H3 Q3) (_:KA K H Q3 Q)
theorem J4.ex{K:PySem.W.Frag}{t:lN}{σ:St}{H:Hp}{Q:List V->Hp->Prop}{G:Prop}(z:J4 K t σ H Q)(k:∀(σ3:bQ) (H3:aC) (Q3:List D->aC->Prop),SR K H σ3 σ->HR K H3 H->t σ3 H3 Q3->KA K H Q3 Q->G):G:=by
 cases z with
 |mk σ3 H3 Q3 h0 h1 h2 h3=>exact k σ3 H3 Q3 h0 h1 h2 h3
inductive La(K:PySem.W.Frag)(t:cO)(D:Ends)(σ:St)(H:Hp):Prop
 |mk (σ3:bQ) (H3:aC) (D3:dj) (_:SR K H σ3 σ) (_:HR K H3 H) (_:t D3 σ3 H3) (_:KS K H D3 D)
theorem La.ex{K:PySem.W.Frag}{t:cO}{D:Ends}{σ:St}{H:Hp}{G:Prop}(z:La K t D σ H)(k:∀(σ3:bQ) (H3:aC) (D3:dj),SR K H σ3 σ->HR K H3 H->t D3 σ3 H3->KS K H D3 D->G):G:=by
 cases z with
 |mk σ3 H3 D3 h0 h1 h2 h3=>exact k σ3 H3 D3 h0 h1 h2 h3
def cF(X:Cx)(e:Expr)(t:aZ):Prop:=PE X e (fB X.K t)
def JT(X:Cx)(e:Expr)(t:qt):Prop:=PT X e (liftT X.K t)
def YH(X:Cx)(e:Expr)(t:qt):Prop:=PW X e (liftT X.K t)
def Ud(X:Cx)(es:List Expr)(t:lN):Prop:=PA X es (J4 X.K t)
def Ko(X:Cx)(st:Stmt)(t:cO):Prop:=PS X st (La X.K t)
def v8(X:Cx)(st:List Stmt)(t:cO):Prop:=Ea X st (La X.K t)
section
variable{X:Cx}{e:Expr}{es:List Expr}{st:Stmt}{sts:List Stmt}
theorem bM{t t':TE}(h:PE X e t)(i:∀σ H Q,t' σ H Q->t σ H Q):PE X e t':=fun pins s σ H Q I hw=>h pins s σ H Q I (i σ H Q hw)
theorem yH{t t':TT}(h:PT X e t)(i:∀σ H Q,t' σ H Q->t σ H Q):PT X e t':=fun pins s σ H Q I hw=>h pins s σ H Q I (i σ H Q hw)
theorem QD{t t':TT}(h:PW X e t)(i:∀σ H Q,t' σ H Q->t σ H Q):PW X e t':=fun wh pins s σ H Q I hw=>h wh pins s σ H Q I (i σ H Q hw)
theorem Sd{t t':TA}(h:PA X es t)(i:∀σ H Q,t' σ H Q->t σ H Q):PA X es t':=fun pos pins s σ H Q I hw=>h pos pins s σ H Q I (i σ H Q hw)
theorem jR{t t':TS}(h:PS X st t)(i:∀D σ H,t' D σ H->t D σ H):PS X st t':=fun pins s σ H D I hw=>h pins s σ H D I (i D σ H hw)
theorem K8{t t':TS}(h:Ea X sts t)(i:∀D σ H,t' D σ H->t D σ H):Ea X sts t':=fun pins s σ H D I hw=>h pins s σ H D I (i D σ H hw)
end
end L3
namespace L3
open PySem PySem.Spec PyProof.Rows L2
abbrev R3:=D->D->aC->aM->Prop
inductive cz(K:PySem.W.Frag)(r:R3)(x y:V)(H:Hp)(Q:VK):Prop
 |mk (dx dy:D) (H3:aC) (Q3:aM) (_:HR K H3 H) (_:Rep K H dx x) (_:Rep K H dy y) (_:r dx dy H3 Q3) (_:KE K H Q3 Q)
inductive Xc(K:PySem.W.Frag)(r:D->aC->aM->Prop)(x:V)(H:Hp)(Q:VK):Prop
 |mk (dx:D) (H3:aC) (Q3:aM) (_:HR K H3 H) (_:Rep K H dx x) (_:r dx H3 Q3) (_:KE K H Q3 Q)
inductive jY(K:PySem.W.Frag)(r:List D->aC->aM->Prop)(xs:List V)(H:Hp)(Q:VK):Prop
 |mk (ds:List D) (H3:aC) (Q3:aM) (_:HR K H3 H) (_:bj K H ds xs) (_:r ds H3 Q3) (_:KE K H Q3 Q)
inductive liftM(K:PySem.W.Frag)(r:D->List D->aC->aM->Prop)(x:V)(xs:List V)(H:Hp)(Q:VK):Prop
 |mk (d:D) (ds:List D) (H3:aC) (Q3:aM) (_:HR K H3 H) (_:Rep K H d x) (_:bj K H ds xs) (_:r d ds H3 Q3) (_:KE K H Q3 Q)
section
variable{X:Cx}{a b c e:Expr}{es:List Expr}{pos:Pos}{ta tb tc te:aZ}{tr:lN}{tA tB:qt}
def v3(i:Nat):aZ:=fun σ H Q=>match σ[i]? with
 |some (some d)=>Q d H
 |_=>False
def c3(d:D):aZ:=fun _ H Q=>Q d H
theorem ao(i:Nat){x:Str}(hN:X.N[i]?=some x:=by rfl)(hv:Vis X.env.scope x:=by first | exact Or.inl rfl | exact Or.inr (Or.inl rfl) | exact Or.inr (Or.inr rfl))(hd:(x==("__debug__" : Str))=false:=by decide)
  (hcd:(x==("__classdict__" : Str))=false:=by decide):cF X (.Name x pos) (v3 i) :=
 bM (pv i hN hv hd hcd) fun σ H Q zz=>zz.ex fun σ3 H3 Q3 sr hr t k=>by
  unfold v3 at t
  split at t
  ·rename_i d h
   obtain⟨v,h1,r⟩:=sr.get i d h
   exact⟨v,h1,k d v H3 H TK.refl hr r t⟩
  ·exact t.elim
theorem au{i:Int}{j:Nat}:cF X (.Constant (.int i) j pos) (c3 (.int i)):=bM Zk fun _ _ _ ⟨_,_,_,_,hr,t,k⟩=>k _ _ _ _ TK.refl hr (.int i) t
theorem qI{i:Bool}{j:Nat}:cF X (.Constant (.bool i) j pos) (c3 (.bl i)):=bM abx fun _ _ _ ⟨_,_,_,_,hr,t,k⟩=>k _ _ _ _ TK.refl hr (.bl i) t
theorem fX{i:Str}{j:Nat}:cF X (.Constant (.str i) j pos) (c3 (.str i)):=bM Zv fun _ _ _ ⟨_,_,_,_,hr,t,k⟩=>k _ _ _ _ TK.refl hr (.str i) t
theorem J1{x:Str}{T:String}(hg:Gl X x)(hm:X.mg x=none)(hv:bootBuiltins x=some (.type T))(hn:x ≠ "__name__":=by decide)(hd:(x==("__debug__" : Str))=false:=by decide):cF X (.Name x pos) (c3 (.ty T)) :=
 bM (Uj (v:=.ty T) hg hm hv rfl hn hd) fun _ _ _ ⟨_,_,_,_,hr,t,k⟩=>k _ _ _ _ TK.refl hr (.ty T) t
theorem Pz{x:Str}{i:Int}{tk:Tok}(hg:Gl X x)(hm:X.mg x=some (.int i tk))(hd:(x==("__debug__" : Str))=false:=by decide):cF X (.Name x pos) (c3 (.int i)) :=
 bM (Lj (v:=.int i) hg hm ⟨_,rfl⟩ hd) fun _ _ _ ⟨_,_,_,_,hr,t,k⟩=>k _ _ _ _ TK.refl hr (.int i) t
def o3(r:R3)(ta tb:aZ):aZ:=fun σ H Q=>ta σ H fun x H1=>tb σ H1 fun y H2=>r x y H2 Q
theorem sH{K:PySem.W.Frag}{r:R3}{σ:St}{H:Hp}{Q:VK}(h:fB K (o3 r ta tb) σ H Q):tOp (cz K r) (fB K ta) (fB K tb) σ H Q:=by
 obtain⟨σ3,H3,Q3,sr,hr,t,k⟩:=h
 exact⟨σ3,H3,_,sr,hr,t,fun x v H3a Ha tka hra rx qa=>⟨σ3,H3a,_,sr.mono tka,hra,qa,fun y u H3b Hb tkb hrb ry qb=>
  ⟨x,y,H3b,Q3,hrb,rx.mono tkb,ry,qb,k.mono (tka.trans tkb)⟩⟩⟩
theorem aP{op:Operator}{r:R3}(ho:jj X (binaryOp op) (cz X.K r))(ha:cF X a ta)(hb:cF X b tb):cF X (.BinOp a op b pos) (o3 r ta tb) :=
 bM (ab2 ho ha hb) fun _ _ _ h=>sH h
theorem Ig{op:CmpOp}{r:R3}(ho:jj X (compareOp op) (cz X.K r))(ha:cF X a ta)(hb:cF X b tb)(hm:behindInMarks op b=false:=by first | exact T7 _ | with_unfolding_all rfl):cF X (.Compare a [op] [b] pos) (o3 r ta tb) :=
 bM (Vt ho ha hb hm) fun _ _ _ h=>sH h
theorem bh{r:R3}(hr:IxR X (cz X.K r))(ha:cF X a ta)(hb:cF X b tb)(hs:Kp b:=by exact fun _ _=>rfl):cF X (.Subscript a b pos) (o3 r ta tb) :=
 bM (aa9 hr ha hb hs) fun _ _ _ h=>sH h
def u3(r:D->aC->aM->Prop)(ta:aZ):aZ:=fun σ H Q=>ta σ H fun x H1=>r x H1 Q
theorem nH{op:UnaryOp}{r:D->aC->aM->Prop}(ho:UnR X (unaryOp op) (Xc X.K r))(ha:cF X a ta):cF X (.UnaryOp op a pos) (u3 r ta) :=
 bM (abg ho ha) fun _ _ _ zz=>zz.ex fun σ3 H3 Q3 sr hr t k=>⟨σ3,H3,_,sr,hr,t,fun x v H3a Ha tka hra rx qa=>⟨x,H3a,Q3,hra,rx,qa,k.mono tka⟩⟩
def bt(d:D)(H:aC)(Q:Bool->aC->Prop):Prop:=match d with
 |.bl k=>Q k H
 |_=>False
theorem wj{K:PySem.W.Frag}{H:Hp}{Q3:Bool->aC->Prop}{Q:Bool->Hp->Prop}(k:KT K H Q3 Q):KE K H (fun d H1=>bt d H1 Q3) (fun x H'=>∃c,x=.bl c/\Q c H'):=fun d v H3' H' tk hr rep q=>by
 cases rep with
 |bl b=>exact⟨b,rfl,k _ _ _ tk hr q⟩
 |_=>exact q.elim
def lJ(t:aZ):qt:=fun σ H Q=>t σ H fun d H1=>bt d H1 Q
theorem bF{op:CmpOp}{r:R3}(ho:jj X (compareOp op) (cz X.K r))(ha:cF X a ta)(hb:cF X b tb)(hm:behindInMarks op b=false:=by first | exact T7 _ | with_unfolding_all rfl):JT X (.Compare a [op] [b] pos) (lJ (o3 r ta tb)) :=
 yH (Ur ho ha hb hm) fun _ _ _ zz=>zz.ex fun σ3 H3 Q3 sr hr t k=>sH ⟨σ3,H3,_,sr,hr,t,wj k⟩
theorem sX(h:cF X e te)(he:∀whole,isTrue e X.env whole=(do let v ←whole;standAt e.pos;holding [v] (truthy v)):=by intro _;rfl):JT X e (lJ te) :=
 yH (YK h he) fun _ _ _ zz=>zz.ex fun σ3 H3 Q3 sr hr t k=>⟨σ3,H3,_,sr,hr,t,wj k⟩
def an3(t u:qt):qt:=fun σ H Q=>t σ H fun c H1=>if c=true then u σ H1 Q else Q false H1
def or3(t u:qt):qt:=fun σ H Q=>t σ H fun c H1=>if c=true then Q true H1 else u σ H1 Q
def Yu(t:qt):qt:=fun σ H Q=>t σ H fun c H1=>Q (!c) H1
variable{rest:List Expr}
theorem KT.mono{K:PySem.W.Frag}{H H1:Hp}{Q3:Bool->aC->Prop}{Q:Bool->Hp->Prop}(k:KT K H Q3 Q)(t:TK H H1):KT K H1 Q3 Q:=fun d H3 H' t'=>k d H3 H' (t.trans t')
theorem Sx(ha:JT X a tA):YH X (.BoolOp .And [a] pos) tA:=Va ha
theorem Cr(ha:JT X a tA):YH X (.BoolOp .Or [a] pos) tA:=X5 ha
theorem JL(ha:JT X a tA)(hb:YH X (.BoolOp .And (b::rest) pos) tB):YH X (.BoolOp .And (a::b::rest) pos) (an3 tA tB) :=
 QD (aac ha hb) fun _ _ _ zz=>zz.ex fun σ3 H3 Q3 sr hr t k=>⟨σ3,H3,_,sr,hr,t,fun c H3a Ha tka hra qa=>by
  cases c with
  |true=>exact⟨σ3,H3a,Q3,sr.mono tka,hra,qa,k.mono tka⟩
  |false=>exact k _ _ _ tka hra qa⟩
theorem Jj(ha:JT X a tA)(hb:YH X (.BoolOp .Or (b::rest) pos) tB):YH X (.BoolOp .Or (a::b::rest) pos) (or3 tA tB) :=
 QD (aay ha hb) fun _ _ _ zz=>zz.ex fun σ3 H3 Q3 sr hr t k=>⟨σ3,H3,_,sr,hr,t,fun c H3a Ha tka hra qa=>by
  cases c with
  |false=>exact⟨σ3,H3a,Q3,sr.mono tka,hra,qa,k.mono tka⟩
  |true=>exact k _ _ _ tka hra qa⟩
theorem K7(h:YH X e tA):JT X e tA:=h.pt
theorem wJ(ha:JT X a tA):JT X (.UnaryOp .Not a pos) (Yu tA) :=
 yH (Yq ha) fun _ _ _ zz=>zz.ex fun σ3 H3 Q3 sr hr t k=>⟨σ3,H3,_,sr,hr,t,fun c H3a Ha tka hra qa=>k _ _ _ tka hra qa⟩
def av3(ta tb:aZ):aZ:=fun σ H Q=>ta σ H fun x H1=>match x with
 |.bl c=>if c=true then tb σ H1 Q else Q (.bl false) H1
 |_=>False
def ov3(ta tb:aZ):aZ:=fun σ H Q=>ta σ H fun x H1=>match x with
 |.bl c=>if c=true then Q (.bl true) H1 else tb σ H1 Q
 |_=>False
def nv3(ta:aZ):aZ:=fun σ H Q=>ta σ H fun x H1=>match x with
 |.bl c=>Q (.bl (!c)) H1
 |_=>False
theorem QX{op:BoolOp}(h:cF X a ta):cF X (.BoolOp op [a] pos) ta:=Xn h
theorem Io(ha:cF X a ta)(hb:cF X (.BoolOp .And (b::rest) pos) tb):cF X (.BoolOp .And (a::b::rest) pos) (av3 ta tb) :=
 bM (Zj ha hb) fun _ _ _ zz=>zz.ex fun σ3 H3 Q3 sr hr t k=>⟨σ3,H3,_,sr,hr,t,fun x v H3a Ha tka hra rx qa=>by
  cases rx with
  |bl c=>
   refine⟨c,rfl,?_⟩
   cases c with
   |true=>exact⟨σ3,H3a,Q3,sr.mono tka,hra,qa,k.mono tka⟩
   |false=>exact k _ _ _ _ tka hra (.bl false) qa
  |_=>exact qa.elim⟩
theorem Zt(ha:cF X a ta):cF X (.UnaryOp .Not a pos) (nv3 ta) :=
 bM (ZK ha) fun _ _ _ zz=>zz.ex fun σ3 H3 Q3 sr hr t k=>⟨σ3,H3,_,sr,hr,t,fun x v H3a Ha tka hra rx qa=>by
  cases rx with
  |bl c=>exact⟨c,rfl,k _ _ _ _ tka hra (.bl _) qa⟩
  |_=>exact qa.elim⟩
def if3(t:qt)(ta tb:aZ):aZ:=fun σ H Q=>t σ H fun c H1=>if c=true then ta σ H1 Q else tb σ H1 Q
def aG:lN:=fun _ H Q=>Q [] H
def aq(ta:aZ)(tr:lN):lN:=fun σ H Q=>ta σ H fun x H1=>tr σ H1 fun xs H2=>Q (x::xs) H2
theorem aA:Ud X [] aG:=Sd Ir fun _ _ _ ⟨_,_,_,_,hr,t,k⟩=>k _ _ _ _ TK.refl hr .nil t
theorem aa(ha:cF X e te)(hr:Ud X es tr)(hs:starEach (e::es) X.env=(false,eval e X.env)::starEach es X.env:=by rfl):Ud X (e::es) (aq te tr) :=
 Sd (CP ha hr hs) fun _ _ _ zz=>zz.ex fun σ3 H3 Q3 sr hr t k=>⟨σ3,H3,_,sr,hr,t,fun x v H3a Ha tka hra rx qa=>⟨σ3,H3a,_,sr.mono tka,hra,qa,fun ds vs H3b Hb tkb hrb rs qb=>
  k _ _ _ _ (tka.trans tkb) hrb (.cons (rx.mono tkb) rs) qb⟩⟩
def iY(t:lN):aZ:=fun σ H Q=>t σ H fun ds H1=>ds.length<=1000/\Q (.tup ds) H1
def Og(t:lN):aZ:=fun σ H Q=>t σ H fun ds H1=>ds.length<=1000/\∀p,H1 p=none->Q (.ref p) (aK H1 p (.lst ds))
theorem sY{n:Nat}(h:n<=1000):n<=sizeLine:=Nat.le_of_lt (uP h)
theorem aV{x1:Nat}(h:Ud X es tr):cF X (.Tuple es x1 pos) (iY tr) :=
 bM (YM h) fun _ _ _ zz=>zz.ex fun σ3 H3 Q3 sr hr t k=>⟨σ3,H3,_,sr,hr,t,fun ds vs H3a Ha tka hra rs qa=>
  ⟨by rw[←rs.length];exact sY qa.1,fun p n=>k _ _ _ _ (tka.trans (TK.fresh n)) (hra.tup n) (.tup aR (rs.mono (TK.fresh n))) qa.2⟩⟩
theorem jT(h:Ud X es tr):cF X (.List es pos) (Og tr) :=
 bM (Z4 h) fun _ _ _ zz=>zz.ex fun σ3 H3 Q3 sr hr t k=>⟨σ3,H3,_,sr,hr,t,fun ds vs H3a Ha tka hra rs qa=>
  ⟨by rw[←rs.length];exact sY qa.1,fun p n=>k _ _ _ _ (tka.trans (TK.fresh n)) (hra.ye (TK.fresh n) (rs.mono (TK.fresh n))) (.ref p) (qa.2 p (hra.fresh n))⟩⟩
end
section
variable{X:Cx}
def cu:R3:=fun x y H Q=>match x,y with
 |.int i,.int j=>Q (.int (i+j)) H
 |.str i,.str j=>i.length+j.length<=sizeLine/\Q (.str (i++j)) H
 | .ref a,.ref b => (match H a,H b with
  |some (.lst xs),some (.lst ys)=>xs.length+ys.length<=sizeLine/\∀p,H p=none->Q (.ref p) (aK H p (.lst (xs++ys)))
  |_,_=>False)
 |_,_=>False
theorem bD:jj X (binaryOp .Add) (cz X.K cu):=by
 intro pins s σ H x y v u Q I rx ry h
 obtain⟨dx,dy,H3,Q3,hr,rdx,rdy,t,k⟩:=h
 cases rdx with
 |int i=>
  cases rdy with
  |int j=>exact ZC pins s σ H _ _ v u Q I rx ry ⟨i,j,rfl,rfl,k _ _ _ _ TK.refl hr (.int _) t⟩
  |_=>exact t.elim
 |str i=>
  cases rdy with
  |str j=>exact HX pins s σ H _ _ v u Q I rx ry ⟨i,j,rfl,rfl,t.1,k _ _ _ _ TK.refl hr (.str _) t.2⟩
  |_=>exact t.elim
 |ref a=>
  cases rdy with
  |ref b=>
   (delta cu at t;dsimp only at t)
   split at t
   ·rename_i xs ys ha hb
    obtain⟨vs,ga,ra⟩:=hr a _ ha
    obtain⟨us,gb,rb⟩:=hr b _ hb
    exact YD pins s σ H _ _ v u Q I rx ry ⟨a,b,vs,us,rfl,rfl,ga,gb,by rw[←ra.length,←rb.length];exact t.1,fun p n=>
     k _ _ _ _ (TK.fresh n) (hr.ye (TK.fresh n) ((ra.append rb).mono (TK.fresh n))) (.ref p) (t.2 p (hr.fresh n))⟩
   ·exact t.elim
  |_=>exact t.elim
 |_=>exact t.elim
def V1(C:Int->Int->Prop)(g:Int->Int->D):R3:=fun x y H Q=>match x,y with
 |.int i,.int j=>C i j/\Q (g i j) H
 |_,_=>False
def zf(g:Int->Int->D):R3:=fun x y H Q=>match x,y with
 |.int i,.int j=>Q (g i j) H
 |_,_=>False
theorem sV{f:Value->Value->Sem Value}{g:Int->Int->V}{g3:Int->Int->D}(h:jj X f (T8 g))(e:∀H i j,Rep X.K H (g3 i j) (g i j)):jj X f (cz X.K (zf g3)):=by
 intro pins s σ H x y v u Q I rx ry q
 obtain⟨dx,dy,H3,Q3,hr,rdx,rdy,t,k⟩:=q
 cases rdx with
 |int i=>
  cases rdy with
  |int j=>exact h pins s σ H _ _ v u Q I rx ry ⟨i,j,rfl,rfl,k _ _ _ _ TK.refl hr (e _ i j) t⟩
  |_=>exact t.elim
 |_=>exact t.elim
theorem CQ{f:Value->Value->Sem Value}{C:Int->Int->Prop}{g:Int->Int->V}{g3:Int->Int->D}(h:jj X f (rI C g))(e:∀H i j,Rep X.K H (g3 i j) (g i j)):jj X f (cz X.K (V1 C g3)):=by
 intro pins s σ H x y v u Q I rx ry q
 obtain⟨dx,dy,H3,Q3,hr,rdx,rdy,t,k⟩:=q
 cases rdx with
 |int i=>
  cases rdy with
  |int j=>exact h pins s σ H _ _ v u Q I rx ry ⟨i,j,rfl,rfl,t.1,k _ _ _ _ TK.refl hr (e _ i j) t.2⟩
  |_=>exact t.elim
 |_=>exact t.elim
theorem b7:jj X (binaryOp .Sub) (cz X.K (zf fun i j=>.int (i-j))):=sV Xm fun _ _ _=>.int _
theorem eY:jj X (binaryOp .Mod) (cz X.K (V1 (fun _ j=>0<j) fun i j=>.int (i%j))):=CQ Yz fun _ _ _=>.int _
theorem wO:jj X (binaryOp .Pow) (cz X.K (V1 V0 fun i j=>.int (i ^ j.toNat))):=CQ ZM fun _ _ _=>.int _
theorem xU:jj X (compareOp .LtE) (cz X.K (zf fun i j=>.bl (decide (i<=j)))):=sV abY fun _ _ _=>.bl _
theorem Hs:jj X (compareOp .Gt) (cz X.K (zf fun i j=>.bl (decide (j<i)))):=sV abv fun _ _ _=>.bl _
theorem Z5:jj X (compareOp .GtE) (cz X.K (zf fun i j=>.bl (decide (j<=i)))):=sV aaJ fun _ _ _=>.bl _
def intsOf:List D->Option (List Int)
 |[]=>some []
 |.int i::ds=>(intsOf ds).map (i::·)
 |_::_=>none
theorem fW:∀ {ds:List D} {ns:List Int},intsOf ds=some ns->ds=ns.map D.int
 |[],_,h=>by simp only[intsOf,Option.some.injEq] at h;subst h;rfl
 |.int i::ds,ns,h=>by
  simp only[intsOf,Option.map_eq_some_iff] at h
  obtain⟨ms,h1,h2⟩:=h
  subst h2
  rw[fW h1];rfl
 |.non::_,_,h=>by simp[intsOf] at h
 |.bl _::_,_,h=>by simp[intsOf] at h
 |.str _::_,_,h=>by simp[intsOf] at h
 |.tup _::_,_,h=>by simp[intsOf] at h
 |.fl _::_,_,h=>by simp[intsOf] at h
 |.ktup _::_,_,h=>by simp[intsOf] at h
 |.ref _::_,_,h=>by simp[intsOf] at h
 |.ty _::_,_,h=>by simp[intsOf] at h
def Jf:R3:=fun x y H Q=>match x,y with
 |.int i,.int j=>Q (.bl (decide (i<j))) H
 | .tup xs,.tup ys => (match intsOf xs,intsOf ys with
  |some ns,some ms=>Q (.bl (HT.lexLt ns ms)) H
  |_,_=>False)
 |_,_=>False
theorem HF(hu:X.A.units<cLine):jj X (compareOp .Lt) (cz X.K Jf):=by
 intro pins s σ H x y v u Q I rx ry h
 obtain⟨dx,dy,H3,Q3,hr,rdx,rdy,t,k⟩:=h
 cases rdx with
 |int i=>
  cases rdy with
  |int j=>exact abu pins s σ H _ _ v u Q I rx ry ⟨i,j,rfl,rfl,k _ _ _ _ TK.refl hr (.bl _) t⟩
  |_=>exact t.elim
 |tup ha ra=>
  cases rdy with
  |tup hb rb=>
   (delta Jf at t;dsimp only at t)
   split at t
   ·rename_i ns ms e1 e2
    have z1:=fW e1
    have z2:=fW e2
    subst z1;subst z2
    have w1:=ra.nW
    have w2:=rb.nW
    subst w1;subst w2
    exact Yt hu pins s σ H _ _ v u Q I rx ry ⟨_,_,ns,ms,rfl,rfl,iT.of ha,iT.of hb,k _ _ _ _ TK.refl hr (.bl _) t⟩
   ·exact t.elim
  |_=>exact t.elim
 |_=>exact t.elim
def jU:D->aC->aM->Prop:=fun x H Q=>match x with
 |.int i=>Q (.int (-i)) H
 |_=>False
theorem fQ:UnR X (unaryOp .USub) (Xc X.K jU):=by
 intro pins s σ H x v Q I rx h
 obtain⟨dx,H3,Q3,hr,rdx,t,k⟩:=h
 cases rdx with
 |int i=>exact XN pins s σ H _ v Q I rx ⟨i,rfl,k _ _ _ _ TK.refl hr (.int _) t⟩
 |_=>exact t.elim
def isN:D->Bool
 |.non=>true
 |_=>false
def aaK:R3:=fun x y H Q=>match y with
 |.non=>Q (.bl (isN x)) H
 |_=>False
def Y4:R3:=fun x y H Q=>match y with
 |.non=>Q (.bl (!isN x)) H
 |_=>False
theorem wk{K:PySem.W.Frag}{H:Hp}{ds:List D}{vs:List V}{i:Int}{d:D}(r:bj K H ds vs)(h:pU ds i=some d):∃v,pU vs i=some v/\Rep K H d v:=by
 unfold pU at h ⊢
 rw[r.length] at h
 cases e:Pq vs.length i with
 |none=>rw[e] at h;cases h
 |some j=>
  rw[e] at h
  exact r.get h
def bB:R3:=fun x y H Q=>match x,y with
 |.tup ds,.int i=>(match pU ds i with | some d=>Q d H | none=>False)
 |.fl ds,.int i=>(match pU ds i with | some d=>Q d H | none=>False)
 |.ktup ds,.int i=>(match pU ds i with | some d=>Q d H | none=>False)
 |.str z,.int i=>z.length<=sizeLine/\(match pU z.cps.toList i with | some c=>Q (.str ⟨#[c]⟩) H | none=>False)
 | .ref a,.int i => (match H a with
  |some (.lst ds)=>(match pU ds i with | some d=>Q d H | none=>False)
  |_=>False)
 |_,_=>False
theorem gZ:IxR X (cz X.K bB):=by
 intro value slice pins s σ H x y v u Q I rx ry h hs
 obtain⟨dx,dy,H3,Q3,hr,rdx,rdy,t,k⟩:=h
 cases rdx with
 |tup ha ra=>
  cases rdy with
  |int i=>
   (delta bB at t;dsimp only at t)
   split at t
   ·rename_i d e
    obtain⟨w,ew,rw'⟩:=wk ra e
    exact Qx value slice pins s σ H _ _ v u Q I rx ry ⟨_,_,i,w,rfl,rfl,iT.of ha,ew,k _ _ _ _ TK.refl hr rw' t⟩ hs
   ·exact t.elim
  |_=>exact t.elim
 |ktup ha ra=>
  cases rdy with
  |int i=>
   (delta bB at t;dsimp only at t)
   split at t
   ·rename_i d e
    obtain⟨w,ew,rw'⟩:=wk ra e
    exact Qx value slice pins s σ H _ _ v u Q I rx ry ⟨_,_,i,w,rfl,rfl,ha.sq,ew,k _ _ _ _ TK.refl hr rw' t⟩ hs
   ·exact t.elim
  |_=>exact t.elim
 |fl ha ra=>
  cases rdy with
  |int i=>
   (delta bB at t;dsimp only at t)
   split at t
   ·rename_i d e
    obtain⟨w,ew,rw'⟩:=wk ra e
    exact K6 value slice pins s σ H _ _ v u Q I rx ry ⟨_,_,i,w,rfl,rfl,ha.sq,ew,k _ _ _ _ TK.refl hr rw' t⟩ hs
   ·exact t.elim
  |_=>exact t.elim
 |str z=>
  cases rdy with
  |int i=>
   (delta bB at t;dsimp only at t)
   obtain⟨hz,t⟩:=t
   split at t
   ·rename_i c e
    exact XM value slice pins s σ H _ _ v u Q I rx ry ⟨z,i,c,rfl,rfl,hz,e,k _ _ _ _ TK.refl hr (.str _) t⟩ hs
   ·exact t.elim
  |_=>exact t.elim
 |ref a=>
  cases rdy with
  |int i=>
   (delta bB at t;dsimp only at t)
   split at t
   ·rename_i ds ha
    obtain⟨vs,ga,ra⟩:=hr a _ ha
    split at t
    ·rename_i d e
     obtain⟨w,ew,rw'⟩:=wk ra e
     exact K6 value slice pins s σ H _ _ v u Q I rx ry ⟨_,_,i,w,rfl,rfl,jm.of ga,ew,k _ _ _ _ TK.refl hr rw' t⟩ hs
    ·exact t.elim
   ·exact t.elim
  |_=>exact t.elim
 |_=>exact t.elim
def p8{α:Type}(xs:List α)(lo hi:Option Int):List α:=(xs.drop (HT.uH xs.length 0 lo)).take (HT.uH xs.length xs.length hi-HT.uH xs.length 0 lo)
theorem Q6{K:PySem.W.Frag}{H:Hp}{ds:List D}{vs:List V}(r:bj K H ds vs)(lo hi:Option Int):bj K H (p8 ds lo hi) (Oz vs lo hi):=by
 unfold p8 Oz
 rw[r.length]
 exact (r.drop _).take _
abbrev W7:=bQ->aC->(Option Int->aC->Prop)->Prop
inductive Uc(K:PySem.W.Frag)(t:W7)(σ:St)(H:Hp)(Q:Option Int->Hp->Prop):Prop
 |mk (σ3:bQ) (H3:aC) (Q3:Option Int->aC->Prop) (_:SR K H σ3 σ) (_:HR K H3 H) (_:t σ3 H3 Q3) (_:∀o H3' H',TK H H'->HR K H3' H'->Q3 o H3'->Q o H')
theorem Uc.ex{K:PySem.W.Frag}{t:W7}{σ:St}{H:Hp}{Q:Option Int->Hp->Prop}{G:Prop}(z:Uc K t σ H Q)(k:∀(σ3:bQ) (H3:aC) (Q3:Option Int->aC->Prop),SR K H σ3 σ->HR K H3 H->t σ3 H3 Q3->(∀o H3' H',TK H H'->HR K H3' H'->Q3 o H3'->Q o H')->G):G:=by
 cases z with
 |mk σ3 H3 Q3 h0 h1 h2 h3=>exact k σ3 H3 Q3 h0 h1 h2 h3
def PO3(X:Cx)(e:Option Expr)(t:W7):Prop:=PO X e (Uc X.K t)
theorem Ua{e:Option Expr}{t t':TO}(h:PO X e t)(i:∀σ H Q,t' σ H Q->t σ H Q):PO X e t':=fun pins s σ H Q I hw=>h pins s σ H Q I (i σ H Q hw)
def U3:W7:=fun _ H Q=>Q none H
def pt3(t:aZ):W7:=fun σ H Q=>t σ H fun x H1=>match x with
 |.int i=>Q (some i) H1
 |_=>False
theorem wU:PO3 X none U3:=Ua U6 fun _ _ _ ⟨_,_,_,_,hr,t,k⟩=>k _ _ _ TK.refl hr t
theorem xK{e:Expr}{te:aZ}(h:cF X e te):PO3 X (some e) (pt3 te):=Ua (VJ h) fun _ _ _ zz=>zz.ex fun σ3 H3 Q3 sr hr t k=>
 ⟨σ3,H3,_,sr,hr,t,fun x v H3a Ha tka hra rx qa=>by
  cases rx with
  |int i=>exact⟨i,rfl,k _ _ _ tka hra qa⟩
  |_=>exact qa.elim⟩
abbrev RSl:=D->Option Int->Option Int->aC->aM->Prop
inductive Jz(K:PySem.W.Frag)(r:RSl)(x:V)(lo hi:Option Int)(H:Hp)(Q:VK):Prop
 |mk (d:D) (H3:aC) (Q3:aM) (_:HR K H3 H) (_:Rep K H d x) (_:r d lo hi H3 Q3) (_:KE K H Q3 Q)
def sl3(r:RSl)(te:aZ)(tl th:W7):aZ:=fun σ H Q=>te σ H fun x H1=>tl σ H1 fun l H2=>th σ H2 fun u H3=>r x l u H3 Q
theorem yE{e:Expr}{te:aZ}{lo hi:Option Expr}{tl th:W7}{pos p2:Pos}{r:RSl}(hr:SlR X (Jz X.K r))(he:cF X e te)(hl:PO3 X lo tl)(hu:PO3 X hi th):cF X (.Subscript e (.Slice lo hi none p2) pos) (sl3 r te tl th) :=
 bM (SM hr he hl hu) fun _ _ _ zz=>zz.ex fun σ3 H3 Q3 sr hr t k=>⟨σ3,H3,_,sr,hr,t,fun x v H3a Ha tka hra rx qa=>⟨σ3,H3a,_,sr.mono tka,hra,qa,fun l H3b Hb tkb hrb qb=>
  ⟨σ3,H3b,_,(sr.mono tka).mono tkb,hrb,qb,fun u H3c Hc tkc hrc qc=>⟨x,H3c,Q3,hrc,(rx.mono tkb).mono tkc,qc,k.mono ((tka.trans tkb).trans tkc)⟩⟩⟩⟩
def Et:RSl:=fun x lo hi H Q=>match x with
 |.fl ds=>∀p,H p=none->Q (.ref p) (aK H p (.lst (p8 ds lo hi)))
 | .ref a => (match H a with
  |some (.lst ds)=>∀p,H p=none->Q (.ref p) (aK H p (.lst (p8 ds lo hi)))
  |_=>False)
 |_=>False
theorem Yg:SlR X (Jz X.K Et):=by
 intro pins s σ H x v vl vu lo hi sl Q I rx hs pl pu h
 obtain⟨d,H3,Q3,hr,rd,t,k⟩:=h
 have go:∀(a:Addr) (xs:List V) (ds:List D),x=.ref a->jm X.K H a xs->bj X.K H ds xs->(∀p,H3 p=none->Q3 (.ref p) (aK H3 p (.lst (p8 ds lo hi)))) ->
   ∃T id,typeLookup (.type T) "__getitem__" = pure (some (.builtin id))/\s.TypeIs v T/\wpAny (model X.prog X.w) X.A (getItem v (.ref sl)) (EP X pins σ Q) X.xe s:=fun a xs ds ex hq ra q=>
  VF pins s σ H x v vl vu lo hi sl Q I rx hs pl pu ⟨a,xs,ex,hq,fun p n=>
   k _ _ _ _ (TK.fresh n) (hr.ye (TK.fresh n) ((Q6 ra lo hi).mono (TK.fresh n))) (.ref p) (q p (hr.fresh n))⟩
 cases rd with
 |fl ha ra=>exact go _ _ _ rfl ha.sq ra t
 |ref a=>
  (delta Et at t;dsimp only at t)
  split at t
  ·rename_i ds ha
   obtain⟨vs,ga,ra⟩:=hr a _ ha
   exact go _ _ _ rfl (jm.of ga) ra t
  ·exact t.elim
 |_=>exact t.elim
def dC(r:List D->aC->aM->Prop)(t:lN):aZ:=fun σ H Q=>t σ H fun ds H1=>r ds H1 Q
theorem Km{K:PySem.W.Frag}{r:List D->aC->aM->Prop}{t:lN}{σ:St}{H:Hp}{Q:VK}(h:fB K (dC r t) σ H Q):tCB (jY K r) (J4 K t) σ H Q:=by
 obtain⟨σ3,H3,Q3,sr,hr,t,k⟩:=h
 exact⟨σ3,H3,_,sr,hr,t,fun ds vs H3a Ha tka hra rs qa=>⟨ds,H3a,Q3,hra,rs,qa,k.mono tka⟩⟩
theorem bC{x:Str}{p pos:Pos}{e:Expr}{es:List Expr}{t:lN}{id:String}{r:List D->aC->aM->Prop}(hc:dZ X (.builtin id) (jY X.K r))(hg:Gl X x)(hm:X.mg x=none)(hv:bootBuiltins x=some (.builtin id))(ha:Ud X (e::es) t)
  (hn:x ≠ "__name__":=by decide) (hdb:(x==("__debug__" : Str))=false:=by decide)
  (he:starEach (e::es) X.env=(false,eval e X.env)::starEach es X.env:=by rfl) (hpl:(backTo pos (starEach es X.env)).any (·.1)=false:=by rfl):cF X (.Call (.Name x p) (e::es) [] pos) (dC r t) :=
 bM (Qn hc hg hm hv ha hn hdb he hpl) fun _ _ _ h=>Km h
theorem vo{x:Str}{p pos:Pos}{e:Expr}{es:List Expr}{t:lN}{T:String}{r:List D->aC->aM->Prop}(hc:dZ X (.type T) (jY X.K r))(hg:Gl X x)(hm:X.mg x=none)(hv:bootBuiltins x=some (.type T))(ha:Ud X (e::es) t)
  (hn:x ≠ "__name__":=by decide) (hdb:(x==("__debug__" : Str))=false:=by decide)
  (he:starEach (e::es) X.env=(false,eval e X.env)::starEach es X.env:=by rfl) (hpl:(backTo pos (starEach es X.env)).any (·.1)=false:=by rfl):cF X (.Call (.Name x p) (e::es) [] pos) (dC r t) :=
 bM (My hc hg hm hv ha hn hdb he hpl) fun _ _ _ h=>Km h
def g8:List D->aC->aM->Prop:=fun ds H Q=>match ds with
 |[.tup xs]=>Q (.int xs.length) H
 |[.fl xs]=>Q (.int xs.length) H
 |[.str z]=>z.length<=sizeLine/\Q (.int z.length) H
 | [.ref a] => (match H a with
  |some (.lst xs)=>Q (.int xs.length) H
  |_=>False)
 |_=>False
theorem iI:dZ X (.builtin "len") (jY X.K g8):=by
 intro pins s σ H xs us Q I rs h
 obtain⟨ds,H3,Q3,hr,rd,t,k⟩:=h
 cases rd with
 |nil=>exact t.elim
 |cons r1 r2=>
  cases r2 with
  |cons _ _=>cases r1 <;> exact t.elim
  |nil=>
   cases r1 with
   |tup ha ra=>exact mU pins s σ H _ us Q I rs ⟨_,_,rfl,.inr (iT.of ha),by rw[←ra.length];exact k _ _ _ _ TK.refl hr (.int _) t⟩
   |fl ha ra=>exact mU pins s σ H _ us Q I rs ⟨_,_,rfl,.inl ha.sq,by rw[←ra.length];exact k _ _ _ _ TK.refl hr (.int _) t⟩
   |str z=>exact Cz pins s σ H _ us Q I rs ⟨_,rfl,t.1,k _ _ _ _ TK.refl hr (.int _) t.2⟩
   |ref a=>
    (delta g8 at t;dsimp only at t)
    split at t
    ·rename_i ds ha
     obtain⟨vs,ga,ra⟩:=hr a _ ha
     exact mU pins s σ H _ us Q I rs ⟨_,_,rfl,.inl (jm.of ga),by rw[←ra.length];exact k _ _ _ _ TK.refl hr (.int _) t⟩
    ·exact t.elim
   |_=>exact t.elim
def jq:List D->aC->aM->Prop:=fun ds H Q=>match ds with
 |[.tup xs]=>Q (.tup xs) H
 |[.fl xs]=>Q (.tup xs) H
 | [.ref a] => (match H a with
  |some (.lst xs)=>Q (.tup xs) H
  |_=>False)
 |_=>False
theorem uN:dZ X (.type "tuple") (jY X.K jq):=by
 intro pins s σ H xs us Q I rs h
 obtain⟨ds,H3,Q3,hr,rd,t,k⟩:=h
 cases rd with
 |nil=>exact t.elim
 |cons r1 r2=>
  cases r2 with
  |cons _ _=>cases r1 <;> exact t.elim
  |nil=>
   cases r1 with
   |tup ha ra=>exact lM pins s σ H _ us Q I rs ⟨_,_,rfl,.inr ⟨iT.of ha,k _ _ _ _ TK.refl hr (.tup ha ra) t⟩⟩
   |fl ha ra=>exact lM pins s σ H _ us Q I rs ⟨_,_,rfl,.inl ⟨ha.sq,fun l n=>k _ _ _ _ (TK.fresh n) (hr.tup n) (.tup aR (ra.mono (TK.fresh n))) t⟩⟩
   |ref a=>
    (delta jq at t;dsimp only at t)
    split at t
    ·rename_i ds ha
     obtain⟨vs,ga,ra⟩:=hr a _ ha
     exact lM pins s σ H _ us Q I rs ⟨_,_,rfl,.inl ⟨jm.of ga,fun l n=>k _ _ _ _ (TK.fresh n) (hr.tup n) (.tup aR (ra.mono (TK.fresh n))) t⟩⟩
    ·exact t.elim
   |_=>exact t.elim
def Ib:List D->aC->aM->Prop:=fun ds H Q=>match ds with
 |[.tup xs]=>∀p,H p=none->Q (.ref p) (aK H p (.lst xs))
 |[.fl xs]=>∀p,H p=none->Q (.ref p) (aK H p (.lst xs))
 | [.ref a] => (match H a with
  |some (.lst xs)=>∀p,H p=none->Q (.ref p) (aK H p (.lst xs))
  |_=>False)
 |_=>False
end
end L3
namespace L3
open PySem PySem.Spec PyProof.Rows L2
theorem Mt{P:Program}{w:World}{K:PySem.W.Frag}{tg:Expr}(it:Addr)(lo:Int)(n:Nat):Turn P w K tg (Itr lo n) [it] it (fun i h=>IsLongIter h it (lo+(i:Nat)*1) ((n:Int)-(i:Nat)) 1) where
 mem:=List.mem_singleton.mpr rfl
 obj:=fun i h st b hb=>by
  rw[List.mem_singleton.mp hb]
  exact⟨_,st,fun v z=>by have z':Data.fields _=Data.cell v:=z;cases z'⟩
 keep:=fun i h h' st k=>k it (List.mem_singleton.mpr rfl) _ st
 item:=by
  intro X hP hw hK hc i pins s σ H E I hf st hg
  subst hP hw hK
  obtain⟨f0,f1,f2,f3,f4,f5⟩:=hf it (List.mem_singleton.mpr rfl)
  have hlt:i<n:=hg
  refine wpAny_pyNext_long_item st (by grind) fun h' st' sb=>?_
  have I1:Inv X pins σ H { s with heap:=h',toks:=s.toks+1 }:=I.turned (fun b o hb e=>(sb.2 b hb).trans e) f0 f1 f3 f4 f5
  have st2:IsLongIter h' it (lo+((i+1:Nat):Int)*1) ((n:Int)-((i+1:Nat):Int)) 1:=by
   have e1:lo+(i:Int)*1+1=lo+((i+1:Nat):Int)*1:=by grind
   have e2:(n:Int)-(i:Int)-1=(n:Int)-((i+1:Nat):Int):=by grind
   rw[←e1,←e2];exact st'
  exact⟨_,rfl,tM (s:={ s with heap:=h',toks:=s.toks+1 }) (n := "longrange_iterator") st2 rfl rfl (by decide) ⟨.int (lo+i),H,I1,⟨s.toks,by rw[Int.mul_one]⟩,⟨rfl,rfl⟩,st2,fun b hb=>(hf b hb).1⟩⟩
 done:=by
  intro X hP hw hK hc i pins s σ H E I hf st hg
  subst hP hw hK
  obtain⟨f0,f1,f2,f3,f4,f5⟩:=hf it (List.mem_singleton.mpr rfl)
  have hle:n<=i:=hg
  exact wpAny_pyNext_long_end (I.ok.hd hc) st (by grind) fun h' eb=>⟨rfl,I.turned (t':=s.toks) (fun b o hb e=>eb b o hb e) f0 f1 f3 f4 f5⟩
 self:=fun _ _ _ _ _ st h=>wpAny_pyIter_longiter st h
section
variable{X:Cx}{tg:Expr}
theorem range_any{pins:List (Addr×Obj)}{σ:St}{H:Hp}{s:Shared}{R:It->Hp->Prop}{E:Value->Shared->Prop}{lo hi:Int}{t u v:Tok}{tk:Nat}(I:Inv X pins σ H s)(q:R (Itr lo (hi-lo).toNat) H) :
  wpAny (model X.prog X.w) X.A (pyIter (.ref s.heap.objs.size)) (PIE X pins σ tg R) E { s with heap:=s.heap.push { cls:=.type "range",data:=.fields #[.int lo t,.int hi u,.int 1 v] },toks:=tk }:=by
 have I1:Inv X pins σ H { s with heap:=s.heap.push { cls:=.type "range",data:=.fields #[.int lo t,.int hi u,.int 1 v] },toks:=tk }:=I.kept fun b o e=>Heap.get?_push_of_some _ e
 have e2:(((hi-lo).toNat:Nat):Int)-((0:Nat):Int)=Builtin.Range.rangeSize lo hi 1:=by rw[rangeSize_one];split <;> grind
 have e1:lo+((0:Nat):Int)*1=lo:=by grind
 have hf:∀b∈[(s.heap.push { cls:=.type "range",data:=.fields #[.int lo t,.int hi u,.int 1 v] }).objs.size],lW X pins H b:=fun b hb=>by
  rw[List.mem_singleton.mp hb]
  exact I1.uX (Nat.le_refl _) (I1.hok.fresh (Nat.le_refl _))
 cases hs:Builtin.Range.small lo hi 1 with
 |true=>
  refine wpAny_pyIter_range (IsRange.new ..) hs ⟨_,_,_,_,H,rfl,I1.kept (t':=tk) fun b o e=>Heap.get?_push_of_some _ e,Ii _ lo (hi-lo).toNat,?_,hf,q⟩
  show IsRangeIter _ _ (lo+((0:Nat):Int)*1) ((((hi-lo).toNat:Nat):Int)-((0:Nat):Int)) 1
  rw[e1,e2]
  exact Heap.get?_push_size _ rfl
 |false=>
  refine wpAny_pyIter_longrange (IsRange.new ..) hs ⟨_,_,_,_,H,rfl,I1.kept (t':=tk) fun b o e=>Heap.get?_push_of_some _ e,Mt _ lo (hi-lo).toNat,?_,hf,q⟩
  show IsLongIter _ _ (lo+((0:Nat):Int)*1) ((((hi-lo).toNat:Nat):Int)-((0:Nat):Int)) 1
  rw[e1,e2]
  exact Heap.get?_push_size _ rfl
def aa0(ta:TA):TI:=fun σ H R=>ta σ H fun vs H1=>∃j:Int,vs=[.int j]/\R (Itr 0 j.toNat) H1
def aao(ta:TA):TI:=fun σ H R=>ta σ H fun vs H1=>∃i j:Int,vs=[.int i,.int j]/\R (Itr i (j-i).toNat) H1
theorem Ox{a:Expr}{ta:TA}{p pos:Pos}(hg:Gl X "range")(hm:X.mg "range" = none)(ha:PA X [a] ta)(hs:starEach [a] X.env=[(false,eval a X.env)]:=by rfl):PI X tg (.Call (.Name "range" p) [a] [] pos) (aa0 ta):=by
 intro pins s σ H R I h
 refine Call_ (jd I hg hm boot_range (PyProof.Rows.callWith_type1 (cQ (ha pos pins s σ H _ I h) fun us s1 zz=>?_) hs rfl))
 obtain⟨vs,H1,I1,r1,j,e,q⟩:=zz
 subst e
 obtain⟨u,rfl,t,rfl⟩:=vals1 r1
 exact call_range_1 (range_any I1 (by simpa using q))
theorem Pb{a b:Expr}{ta:TA}{p pos:Pos}(hg:Gl X "range")(hm:X.mg "range" = none)(ha:PA X [a,b] ta)(hs:starEach [a,b] X.env=[(false,eval a X.env),(false,eval b X.env)]:=by rfl)(hs2:starEach [b] X.env=[(false,eval b X.env)]:=by rfl) :
  PI X tg (.Call (.Name "range" p) [a,b] [] pos) (aao ta):=by
 intro pins s σ H R I h
 refine Call_ (jd I hg hm boot_range (PyProof.Rows.callWith_type1 (cQ (ha pos pins s σ H _ I h) fun us s1 zz=>?_) (by rw[hs,hs2]) (by rw[hs2];rfl)))
 obtain⟨vs,H1,I1,r1,i,j,e,q⟩:=zz
 subst e
 obtain⟨u,u',rfl,⟨t,rfl⟩,⟨t',rfl⟩⟩:=vals2 r1
 exact call_range_2 (range_any I1 q)
end
end L3
namespace L3
open PySem PySem.Spec PyProof.Rows L2
section
variable{X:Cx}{st:Stmt}{rest:List Stmt}{t u:cO}{e:Expr}{te:aZ}{pos:Pos}
def rM:cO:=fun D σ H=>D.nx σ H
def cR(t u:cO):cO:=fun D σ H=>t { D with nx:=u D } σ H
theorem bR:v8 X [] rM:=K8 Vm fun _ _ _ ⟨_,_,_,sr,hr,t,k⟩=>k.nx _ _ _ _ TK.refl sr hr t
theorem aD(h1:Ko X st t)(h2:v8 X rest u):v8 X (st::rest) (cR t u) :=
 K8 (Rn h1 h2) fun _ _ _ zz=>zz.ex fun σ3 H3 D3 sr hr q k=>⟨σ3,H3,{ D3 with nx:=u D3 },sr,hr,q,
  ⟨fun σ3' σ' H3' H' tk sr' hr' q'=>⟨σ3',H3',D3,sr',hr',q',k.mono tk⟩,k.rt,k.bk,k.ct⟩⟩
theorem aJ(h1:Ko X st t):v8 X [st] t:=V8 h1
def br3:cO:=fun D σ H=>D.bk σ H
def co3:cO:=fun D σ H=>D.ct σ H
theorem PB:Ko X (.Break pos) br3:=jR Qv fun _ _ _ ⟨_,_,_,sr,hr,t,k⟩=>k.bk _ _ _ _ TK.refl sr hr t
def T4(te:aZ):cO:=fun D σ H=>te σ H fun _ H1=>D.nx σ H1
theorem ju(he:cF X e te)(hs:swapsWith e none pos.line X.env=pure false:=by rfl):Ko X (.Expr e pos) (T4 te) :=
 jR (Vb he hs) fun _ _ _ zz=>zz.ex fun σ3 H3 D3 sr hr t k=>⟨σ3,H3,_,sr,hr,t,fun x v H3a Ha tka hra rx qa=>k.nx _ _ _ _ tka (sr.mono tka) hra qa⟩
def kO(te:aZ):cO:=fun D σ H=>te σ H D.rt
theorem bu(he:cF X e te):Ko X (.Return (some e) pos) (kO te) :=
 jR (Ye he) fun _ _ _ zz=>zz.ex fun σ3 H3 D3 sr hr t k=>⟨σ3,H3,_,sr,hr,t,k.rt⟩
def rn3:cO:=fun D _ H=>D.rt .non H
def qR(c:qt)(t u:cO):cO:=fun D σ H=>c σ H fun b H1=>if b=true then t D σ H1 else u D σ H1
theorem dB{c:Expr}{a b:List Stmt}{tc:qt}(hc:JT X c tc)(ha:v8 X a t)(hb:v8 X b u):Ko X (.If c a b pos) (qR tc t u) :=
 jR (aas hc ha hb) fun _ _ _ zz=>zz.ex fun σ3 H3 D3 sr hr q k=>⟨σ3,H3,_,sr,hr,q,fun b H3a Ha tka hra qa=>by
  cases b with
  |true=>exact⟨σ3,H3a,D3,sr.mono tka,hra,qa,k.mono tka⟩
  |false=>exact⟨σ3,H3a,D3,sr.mono tka,hra,qa,k.mono tka⟩⟩
def st3(i:Nat)(te:aZ):cO:=fun D σ H=>te σ H fun x H1=>D.nx (σ.set i (some x)) H1
theorem aW(i:Nat){x:Str}{pos':Pos}(hN:X.N.Nodup)(he:cF X e te)(hi:X.N[i]?=some x:=by rfl)(hx:Loc X.env.scope x:=by first | exact Or.inl rfl | exact Or.inr rfl)(hs:swapsWith e (some (.Name x pos')) pos.line X.env=pure false:=by rfl)
  (hf:X.fn x=true\/X.env.scope.names.lookup x=some .local:=by first | exact .inl rfl | exact .inr rfl | assumption):Ko X (.Assign [.Name x pos'] e pos) (st3 i te) :=
 jR (Yn hN hi hx he hs hf) fun _ _ _ zz=>zz.ex fun σ3 H3 D3 sr hr t k=>⟨σ3,H3,_,sr,hr,t,fun x v H3a Ha tka hra rx qa=>k.nx _ _ _ _ tka ((sr.mono tka).set i rx) hra qa⟩
abbrev vG:=D->bQ->aC->(bQ->aC->Prop)->Prop
inductive JH(K:PySem.W.Frag)(t:vG)(v:V)(σ:St)(H:Hp)(Q:St->Hp->Prop):Prop
 |mk (d:D) (σ3:bQ) (H3:aC) (Q3:bQ->aC->Prop) (_:Rep K H d v) (_:SR K H σ3 σ) (_:HR K H3 H) (_:t d σ3 H3 Q3) (_:KN K H Q3 Q)
def PG3(X:Cx)(tg:Expr)(t:vG):Prop:=PG X tg (JH X.K t)
theorem Q7{tg:Expr}{t t':TG}(h:PG X tg t)(i:∀v σ H Q,t' v σ H Q->t v σ H Q):PG X tg t':=fun pins s σ H v u Q I r hw=>h pins s σ H v u Q I r (i v σ H Q hw)
def rR(i:Nat):vG:=fun d σ H Q=>Q (σ.set i (some d)) H
theorem iK(i:Nat){x:Str}(hN:X.N.Nodup)(hi:X.N[i]?=some x:=by rfl)(hx:Loc X.env.scope x:=by first | exact Or.inl rfl | exact Or.inr rfl)(hf:X.fn x=true\/X.env.scope.names.lookup x=some .local:=by first | exact .inl rfl | exact .inr rfl | assumption) :
  PG3 X (.Name x pos) (rR i):=Q7 (mV hN hi hx hf) fun _ _ _ _ ⟨d,σ3,H3,Q3,rd,sr,hr,t,k⟩=>k _ _ _ _ TK.refl (sr.set i rd) hr t
def sI(i j:Nat):vG:=fun d σ H Q=>match d with
 |.tup [x,y]=>Q ((σ.set i (some x)).set j (some y)) H
 |_=>False
def ac0(i j l:Nat):vG:=fun d σ H Q=>match d with
 |.tup [x,y,z]=>Q (((σ.set i (some x)).set j (some y)).set l (some z)) H
 |_=>False
theorem lg(i j:Nat){x y:Str}{p1 p2:Pos}{kk:Nat}(hc:X.calm=true)(hN:X.N.Nodup)(hi:X.N[i]?=some x:=by rfl)(hx:Loc X.env.scope x:=by first | exact Or.inl rfl | exact Or.inr rfl)(hj:X.N[j]?=some y:=by rfl)(hy:Loc X.env.scope y:=by first | exact Or.inl rfl | exact Or.inr rfl)
  (hf:X.fn x=true\/X.env.scope.names.lookup x=some .local:=by first | exact .inl rfl | exact .inr rfl | assumption) (hf':X.fn y=true\/X.env.scope.names.lookup y=some .local:=by first | exact .inl rfl | exact .inr rfl | assumption) :
  PG3 X (.Tuple [.Name x p1,.Name y p2] kk pos) (sI i j) :=
 Q7 (Te (n:=2) hc (tE (mV hN hi hx hf) (tE (mV hN hj hy hf') Lw))) fun v σ H Q ⟨d,σ3,H3,Q3,rd,sr,hr,t,k⟩=>by
  cases rd with
  |tup ha ra=>
   cases ra with
   |nil=>exact t.elim
   |cons r1 ra=>
    cases ra with
    |nil=>exact t.elim
    |cons r2 ra=>
     cases ra with
     |cons _ _=>exact t.elim
     |nil=>exact⟨_,_,rfl,iT.of ha,rfl,_,_,rfl,_,_,rfl,rfl,k _ _ _ _ TK.refl ((sr.set i r1).set j r2) hr t⟩
  |_=>exact t.elim
def Ww(te:aZ)(g:vG):cO:=fun D σ H=>te σ H fun x H1=>g x σ H1 D.nx
theorem yF{tg:Expr}{g:vG}(he:cF X e te)(hg:PG3 X tg g)(hs:swapsWithSole [tg] e pos.line X.env=pure false:=by rfl)(hw:swappedStores [tg] e X.env=pure none:=by rfl)
  (h1:(assignEach [tg] X.env).map (·.2)=[assign tg X.env]:=by rfl):Ko X (.Assign [tg] e pos) (Ww te g) :=
 jR (Z3 he hg hs hw h1) fun _ _ _ zz=>zz.ex fun σ3 H3 D3 sr hr t k=>⟨σ3,H3,_,sr,hr,t,fun x v H3a Ha tka hra rx qa=>⟨x,σ3,H3a,_,rx,sr.mono tka,hra,qa,k.nx.mono tka⟩⟩
def wh3(c:qt)(tb:cO):cO:=fun D σ H=>∃(P:bQ->aC->Prop) (μ:bQ->aC->Nat),P σ H/\∀σ H,P σ H ->
 c σ H fun b H1=>if b=true then tb { D with nx:=fun σ' H'=>P σ' H'/\μ σ' H'<μ σ H,ct:=fun σ' H'=>P σ' H'/\μ σ' H'<μ σ H,bk:=D.nx } σ H1 else D.nx σ H1
theorem xj{c:Expr}{body:List Stmt}{tc:qt}{tb:cO}(hp:PassesOwn (model X.prog X.w) X.A X.env X.xe)(hc:JT X c tc)(hb:v8 X body tb):Ko X (.While c body [] pos) (wh3 tc tb) :=
 jR (P0 hp hc hb) fun D σ H zz=>zz.ex fun σ3 H3 D3 sr hr t k=>by
  obtain⟨P,μ,p0,turn⟩:=t
  refine⟨fun m σ' H'=>∃σ3' H3',TK H H'/\SR X.K H' σ3' σ'/\HR X.K H3' H'/\P σ3' H3'/\m=μ σ3' H3',⟨_,σ3,H3,TK.refl,sr,hr,p0,rfl⟩,?_⟩
  rintro m σ1 H1 ⟨σ31,H31,tk1,sr1,hr1,p1,rfl⟩
  refine⟨σ31,H31,_,sr1,hr1,turn σ31 H31 p1,fun b H3a Ha tka hra qa=>?_⟩
  cases b with
  |false=>exact k.nx _ _ _ _ (tk1.trans tka) (sr1.mono tka) hra qa
  |true=>
   refine⟨fun σ' H'=>∃σ3' H3',TK H H'/\SR X.K H' σ3' σ'/\HR X.K H3' H'/\P σ3' H3'/\μ σ3' H3'<μ σ31 H31,?_,?_⟩
   ·rintro σ' H' ⟨σ3',H3',z1,z2,z3,z4,z5⟩
    exact⟨_,z5,σ3',H3',z1,z2,z3,z4,rfl⟩
   ·have kk:=k.mono (tk1.trans tka)
    exact⟨σ31,H3a,_,sr1.mono tka,hra,qa,⟨fun σ3' σ' H3' H' tk' sr' hr' q'=>⟨σ3',H3',(tk1.trans tka).trans tk',sr',hr',q'.1,q'.2⟩,kk.rt,kk.nx,
     fun σ3' σ' H3' H' tk' sr' hr' q'=>⟨σ3',H3',(tk1.trans tka).trans tk',sr',hr',q'.1,q'.2⟩⟩⟩
abbrev rA:=bQ->aC->(List D->(aC->Prop)->aC->Prop)->Prop
def vY(K:PySem.W.Frag)(H0:Hp)(ds:List D)(keep:aC->Prop)(J:It):Prop :=
 ∀H3 H,TK H0 H->HR K H3 H->keep H3->(∀i,i<ds.length->J.go i H/\∀x H',J.yld i H x H'->TK H H'/\HR K H3 H'/\∃d,ds[i]?=some d/\Rep K H' d x)/\J.stop ds.length H
inductive Wt(K:PySem.W.Frag)(t:rA)(σ:St)(H:Hp)(R:It->Hp->Prop):Prop
 |mk (σ3:bQ) (H3:aC) (R3:List D->(aC->Prop)->aC->Prop) (_:SR K H σ3 σ) (_:HR K H3 H) (_:t σ3 H3 R3) (_:∀ds keep J H3' H',TK H H'->HR K H3' H'->vY K H' ds keep J->R3 ds keep H3'->R J H')
def Il(X:Cx)(tg iter:Expr)(t:rA):Prop:=PI X tg iter (Wt X.K t)
theorem j0{tg iter:Expr}{t t':TI}(h:PI X tg iter t)(i:∀σ H R,t' σ H R->t σ H R):PI X tg iter t':=fun pins s σ H R I hw=>h pins s σ H R I (i σ H R hw)
def LC(te:aZ):rA:=fun σ H R=>te σ H fun x H1=>match x with
 | .ref a => (match H1 a with
  |some (.lst ds)=>R ds (fun H'=>H' a=some (.lst ds)) H1
  |_=>False)
 |.fl ds=>R ds (fun _=>True) H1
 |_=>False
def it3(te:aZ):rA:=fun σ H R=>te σ H fun x H1=>match x with
 |.tup ds=>R ds (fun _=>True) H1
 |_=>False
theorem NQ{K:PySem.W.Frag}{H:Hp}{a:Addr}{ds:List D}:vY K H ds (fun H'=>H' a=some (.lst ds)) (Itl K a):=fun H3 H' _ hr hk=>by
 obtain⟨vs,ga,ra⟩:=hr a _ hk
 refine⟨fun i hi=>⟨⟨vs,vs[i]'(by rw[←ra.length];exact hi),jm.of ga,by simp⟩,fun x H'' y=>?_⟩,⟨vs,jm.of ga,by rw[ra.length];exact Nat.le_refl _⟩⟩
 obtain⟨e,y⟩:=y
 subst e
 exact⟨TK.refl,hr,ra.Jv (y vs (jm.of ga))⟩
theorem V3{K:PySem.W.Frag}{H:Hp}{a:Addr}{xs:List V}{ds:List D}(ha:Z9 K H a xs)(ra:bj K H ds xs):vY K H ds (fun _=>True) (Itl K a):=fun H3 H' tk hr _=>by
 have hq:=(tk.fzL ha).sq
 have ra':=ra.mono tk
 refine⟨fun i hi=>⟨⟨xs,xs[i]'(by rw[←ra.length];exact hi),hq,by simp⟩,fun x H'' y=>?_⟩,⟨xs,hq,by rw[ra.length];exact Nat.le_refl _⟩⟩
 obtain⟨e,y⟩:=y
 subst e
 exact⟨TK.refl,hr,ra'.Jv (y xs hq)⟩
theorem Qc{K:PySem.W.Frag}{H:Hp}{a:Addr}{xs:List V}{ds:List D}(ha:iT K H a xs)(ra:bj K H ds xs):vY K H ds (fun _=>True) (Itt K a):=fun H3 H' tk hr _=>by
 have hq:=tk.sqT ha
 have ra':=ra.mono tk
 refine⟨fun i hi=>⟨⟨xs,xs[i]'(by rw[←ra.length];exact hi),hq,by simp⟩,fun x H'' y=>?_⟩,⟨xs,hq,by rw[ra.length];exact Nat.le_refl _⟩⟩
 obtain⟨e,y⟩:=y
 subst e
 exact⟨TK.refl,hr,ra'.Jv (y xs hq)⟩
theorem fP{tg:Expr}(h:cF X e te):Il X tg e (LC te) :=
 j0 (Ug h) fun _ _ _ ⟨σ3,H3,R3,sr,hr,t,k⟩=>⟨σ3,H3,_,sr,hr,t,fun x v H3a Ha tka hra rx qa=>by
  cases rx with
  |ref a=>
   simp only[] at qa
   split at qa
   ·rename_i ds ha
    obtain⟨vs,ga,ra⟩:=hra a _ ha
    exact⟨a,rfl,⟨vs,jm.of ga⟩,k _ _ _ _ _ tka hra NQ qa⟩
   ·exact qa.elim
  |fl ha ra=>exact⟨_,rfl,⟨_,ha.sq⟩,k _ _ _ _ _ tka hra (V3 ha ra) qa⟩
  |_=>exact qa.elim⟩
theorem Ij{tg:Expr}(h:cF X e te):Il X tg e (it3 te) :=
 j0 (Zd h) fun _ _ _ ⟨σ3,H3,R3,sr,hr,t,k⟩=>⟨σ3,H3,_,sr,hr,t,fun x v H3a Ha tka hra rx qa=>by
  cases rx with
  |tup ha ra=>exact⟨_,rfl,⟨_,iT.of ha⟩,k _ _ _ _ _ tka hra (Qc (iT.of ha) ra) qa⟩
  |_=>exact qa.elim⟩
def rO(lo:Int)(n:Nat):List D:=(List.range n).map fun (i:Nat)=>D.int (lo+(i:Int))
theorem sO(lo:Int)(n:Nat):(rO lo n).length=n:=by simp[rO]
theorem Bw{lo:Int}{n i:Nat}(h:i<n):(rO lo n)[i]?=some (.int (lo+i)):=by simp[rO,h]
theorem Du{K:PySem.W.Frag}{H:Hp}{lo:Int}{n:Nat}:vY K H (rO lo n) (fun _=>True) (Itr lo n):=fun H3 H' tk hr _=>by
 refine⟨fun i hi=>?_,?_⟩
 ·rw[sO] at hi
  refine⟨hi,fun x H'' y=>?_⟩
  obtain⟨e,y⟩:=y
  subst y
  subst e
  exact⟨TK.refl,hr,_,Bw hi,.int _⟩
 ·rw[sO];exact Nat.le_refl _
def rg1(x:D)(H:aC)(R:List D->(aC->Prop)->aC->Prop):Prop:=match x with
 |.int j=>R (rO 0 j.toNat) (fun _=>True) H
 |_=>False
def rg2(x y:D)(H:aC)(R:List D->(aC->Prop)->aC->Prop):Prop:=match x,y with
 |.int i,.int j=>R (rO i (j-i).toNat) (fun _=>True) H
 |_,_=>False
def ir1(ta:aZ):rA:=fun σ H R=>ta σ H fun x H1=>rg1 x H1 R
def ir2(ta tb:aZ):rA:=fun σ H R=>ta σ H fun x H1=>tb σ H1 fun y H2=>rg2 x y H2 R
theorem Bv{tg a:Expr}{ta:aZ}{p pos:Pos}(hm:X.mg "range" = none)(ha:cF X a ta)(hg:Gl X "range":=by rfl)(hs:starEach [a] X.env=[(false,eval a X.env)]:=by rfl)(hs':starEach [a] X.env=(false,eval a X.env)::starEach [] X.env:=by rfl):Il X tg (.Call (.Name "range" p) [a] [] pos) (ir1 ta) :=
 j0 (Ox hg hm (aa ha aA hs') hs) fun _ _ _ ⟨σ3,H3,R3,sr,hr,t,k⟩=>by
  refine⟨σ3,H3,fun ds H1=>(match ds with | [x]=>rg1 x H1 R3 | _=>False),sr,hr,t,fun ds vs H3a Ha tka hra rs qa=>?_⟩
  cases rs with
  |nil=>exact qa.elim
  |cons r1 r2=>
   cases r2 with
   |cons _ _=>exact qa.elim
   |nil=>
    cases r1 with
    |int j=>exact⟨j,rfl,k _ _ _ _ _ tka hra Du qa⟩
    |_=>exact qa.elim
theorem Uh{tg a b:Expr}{ta tb:aZ}{p pos:Pos}(hm:X.mg "range" = none)(ha:cF X a ta)(hb:cF X b tb)(hg:Gl X "range":=by rfl)(hs:starEach [a,b] X.env=[(false,eval a X.env),(false,eval b X.env)]:=by rfl)
  (hs1:starEach [a,b] X.env=(false,eval a X.env)::starEach [b] X.env:=by rfl) (hs2:starEach [b] X.env=(false,eval b X.env)::starEach [] X.env:=by rfl) (hs3:starEach [b] X.env=[(false,eval b X.env)]:=by rfl):Il X tg (.Call (.Name "range" p) [a,b] [] pos) (ir2 ta tb) :=
 j0 (Pb hg hm (aa ha (aa hb aA hs2) hs1) hs hs3) fun _ _ _ ⟨σ3,H3,R3,sr,hr,t,k⟩=>by
  refine⟨σ3,H3,fun ds H1=>(match ds with | [x,y]=>rg2 x y H1 R3 | _=>False),sr,hr,t,fun ds vs H3a Ha tka hra rs qa=>?_⟩
  cases rs with
  |nil=>exact qa.elim
  |cons r1 r2=>
   cases r2 with
   |nil=>exact qa.elim
   |cons r2 r3=>
    cases r3 with
    |cons _ _=>exact qa.elim
    |nil=>
     cases r1 with
     |int i=>
      cases r2 with
      |int j=>exact⟨i,j,rfl,k _ _ _ _ _ tka hra Du qa⟩
      |_=>exact qa.elim
     |_=>exact qa.elim
def G4(wi:rA)(g:vG)(tb:cO):cO:=fun D σ H=>wi σ H fun ds keep H1=>∃P:Nat->bQ->aC->Prop,P 0 σ H1/\(∀i σ H,i<=ds.length->P i σ H->keep H) /\
 (∀i d σ H,ds[i]?=some d->P i σ H->g d σ H fun σ2 H2=>tb { D with nx:=P (i+1),ct:=P (i+1),bk:=D.nx } σ2 H2)/\∀σ H,P ds.length σ H->D.nx σ H
theorem ik{tg iter:Expr}{body:List Stmt}{wi:rA}{g:vG}{tb:cO}(hp:PassesOwn (model X.prog X.w) X.A X.env X.xe)(hc:X.calm=true)(hi:Il X tg iter wi)(hg:PG3 X tg g)(hb:v8 X body tb)
  (hs:∀x,foldedSetIterable iter X.env x=pure x:=by intro _;rfl):Ko X (.For tg iter body [] pos) (G4 wi g tb) :=
 jR (Zf hp hc hi hg hb hs) fun D σ H zz=>zz.ex fun σ3 H3 D3 sr hr t k=>⟨σ3,H3,_,sr,hr,t,fun ds keep J H3' H' tk' hr' ok q=>by
  obtain⟨P,p0,pk,pstep,pd⟩:=q
  refine⟨fun i m σ1 H1=>m=ds.length-i/\i<=ds.length/\∃σ31 H31,TK H' H1/\SR X.K H1 σ31 σ1/\HR X.K H31 H1/\P i σ31 H31,⟨ds.length,by simp,Nat.zero_le _,σ3,H3',TK.refl,sr.mono tk',hr',p0⟩,?_⟩
  rintro i m σ1 H1 ⟨rfl,hi,σ31,H31,tk1,sr1,hr1,p1⟩
  obtain⟨go,stop⟩:=ok H31 H1 tk1 hr1 (pk i σ31 H31 hi p1)
  by_cases hlt:i<ds.length
  ·obtain⟨g1,g2⟩:=go i hlt
   refine .inr ⟨g1,fun σ' H''=>i+1<=ds.length/\∃σ3' H3'',TK H' H''/\SR X.K H'' σ3' σ'/\HR X.K H3'' H''/\P (i+1) σ3' H3'',fun σ' H'' z=>⟨ds.length-(i+1),by omega,rfl,z.1,z.2⟩,fun x H'' y=>?_⟩
   obtain⟨tky,hry,d,ed,rd⟩:=g2 x H'' y
   refine⟨d,σ31,H31,_,rd,sr1.mono tky,hry,pstep i d σ31 H31 ed p1,fun σ3b σb H3b Hb tkb srb hrb qb=>⟨σ3b,H3b,_,srb,hrb,qb,?_⟩⟩
   have kk:=k.mono (tk'.trans ((tk1.trans tky).trans tkb))
   exact⟨fun σ3c σc H3c Hc tkc src hrc qc=>⟨hlt,σ3c,H3c,((tk1.trans tky).trans tkb).trans tkc,src,hrc,qc⟩,kk.rt,kk.nx,fun σ3c σc H3c Hc tkc src hrc qc=>⟨hlt,σ3c,H3c,((tk1.trans tky).trans tkb).trans tkc,src,hrc,qc⟩⟩
  ·have e:i=ds.length:=by omega
   subst e
   exact .inl ⟨stop,k.nx _ _ _ _ (tk'.trans tk1) sr1 hr1 (pd σ31 H31 p1)⟩⟩
end
abbrev gA:=List D->aC->aM->Prop
def o9(K:PySem.W.Frag)(sp:gA):Sp:=fun vs H Q _=>jY K sp vs H Q
structure Fn(P:Program)(w:World)(K:PySem.W.Frag)(mg:Str->Option Value)(base:Heap)(k:Nat)(x:Str)(ps:List Str)(sp:gA):Prop where
 ex:∃f fd,nO P w K mg base yR k f fd ps (o9 K sp)/\mg x=some (.ref f)/\PySem.W.keepIn K (.ref f)=true/\Binds K fd ps []
theorem aO{X:Cx}{k:Nat}{x:Str}{ps:List Str}{sp:gA}{p pos:Pos}{e:Expr}{es:List Expr}{t:lN}(F:Fn X.prog X.w X.K X.mg X.base k x ps sp)(hr:fH k X.A)(ha:Ud X (e::es) t)
  (hg:Gl X x:=by rfl) (hdb:(x==("__debug__" : Str))=false:=by decide) (he:starEach (e::es) X.env=(false,eval e X.env)::starEach es X.env:=by rfl) (hpl:(backTo pos (starEach es X.env)).any (·.1)=false:=by rfl) :
  cF X (.Call (.Name x p) (e::es) [] pos) (dC sp t):=by
 obtain⟨f,fd,F,hm,hk,hb⟩:=F.ex
 refine bM (Vo (E:=E0) F hr hg hm hk hb .nil WL ha hdb he hpl) fun _ _ _ h=>?_
 obtain⟨σ3,H3,Q3,sr,hr,t,k⟩:=h
 exact⟨σ3,H3,_,sr,hr,t,fun ds vs H3a Ha tka hra rs qa=>⟨ds,H3a,Q3,hra,by rw[List.append_nil];exact rs,qa,k.mono tka⟩⟩
def aH(N:List Str)(ds:List D):bQ:=ds.map some++List.replicate (N.length-ds.length) none
theorem yr{K:PySem.W.Frag}{H:Hp}{N:List Str}{ds:List D}{vs:List V}(r:bj K H ds vs):SR K H (aH N ds) (L2.start N vs):=by
 have hl:=r.length
 refine⟨by simp[aH,L2.start,hl],fun i d h=>?_⟩
 unfold aH at h
 by_cases hi:i<ds.length
 ·rw[List.getElem?_append_left (by simpa using hi),List.getElem?_map] at h
  cases e:ds[i]? with
  |none=>rw[e] at h;cases h
  |some d'=>
   rw[e] at h
   cases h
   obtain⟨v,hv,rv⟩:=r.get e
   refine⟨v,?_,rv⟩
   unfold L2.start
   rw[List.getElem?_append_left (by rw[List.length_map,←hl];exact hi),List.getElem?_map,hv]
   rfl
 ·rw[List.getElem?_append_right (by simpa using hi),List.getElem?_replicate] at h
  split at h <;> cases h
def dJ(Q:aM):dj:={ nx:=fun _ H'=>∃H'',aL H'' H'/\Q .non H'',rt:=fun d H'=>∃H'',aL H'' H'/\Q d H'' }
theorem W0{P:Program}{w:World}{K:PySem.W.Frag}{mg:Str->Option Value}{base:Heap}{x qual:Str}{st:Stmt}{f:Addr}{fd:FuncData}{N ps:List Str}{k:Nat}{sp:gA}(F:KY K x qual st f fd)(S:aU N ps (az st))
  (len:∀ds H Q,sp ds H Q->ds.length=ps.length)
  (hbody:∀ (cdv:Value) (A:Around) (outer:List Env) (s:Shared) (H:Hp) (E:XK),fH k (A.deeper (envOfC qual (az st) s.heap.objs.size f cdv)) →
   ∃t,v8 (uY yR P w K mg base N qual (az st) f cdv A outer s H E).Pj (aN st) t/\∀ds H3 Q3,sp ds H3 Q3->t (dJ Q3) (aH N ds) H3):nO P w K mg base yR (k+1) f fd ps (o9 K sp):=by
 refine F.ok S (fun vs H Q E h=>?_) (fun cdv A outer s H vs Q E hr h=>?_)
 ·obtain⟨ds,H3,Q3,_,rs,q,_⟩:=h
  rw[←rs.length]
  exact len ds H3 Q3 q
 ·obtain⟨ds,H3,Q3,hr3,rs,q,k⟩:=h
  obtain⟨t,ht,hq⟩:=hbody cdv A outer s H E hr
  refine⟨_,ht,aH N ds,H3,_,yr rs,hr3,hq ds H3 Q3 q,⟨fun σ3 σ H3' H' tk sr hr' z=>?_,fun d v H3' H' tk hr' rd z=>?_,fun _ _ _ _ _ _ _ z=>z.elim,fun _ _ _ _ _ _ _ z=>z.elim⟩⟩
  ·obtain⟨H'',sub,q'⟩:=z
   exact k _ _ _ _ tk (hr'.sub sub) .non q'
  ·obtain⟨H'',sub,q'⟩:=z
   exact k _ _ _ _ tk (hr'.sub sub) rd q'
theorem fn3{P:Program}{w:World}{K:PySem.W.Frag}{mg:Str->Option Value}{base:Heap}{x qual:Str}{st:Stmt}{f:Addr}{fd:FuncData}{N ps:List Str}{k:Nat}{sp:gA}(F:KY K x qual st f fd)(S:aU N ps (az st))
  (hm:mg x=some (.ref f)) (hb:Binds K fd ps []) (len:∀ds H Q,sp ds H Q->ds.length=ps.length)
  (hbody:∀ (cdv:Value) (A:Around) (outer:List Env) (s:Shared) (H:Hp) (E:XK),fH k (A.deeper (envOfC qual (az st) s.heap.objs.size f cdv)) →
   ∃t,v8 (uY yR P w K mg base N qual (az st) f cdv A outer s H E).Pj (aN st) t/\∀ds H3 Q3,sp ds H3 Q3->t (dJ Q3) (aH N ds) H3):Fn P w K mg base (k+1) x ps sp :=
 ⟨f,fd,W0 F S len hbody,hm,F.kp,hb⟩
end L3
namespace L3
open PySem PySem.Spec PyProof.Rows L2
def jf{α β:Type}(f:α->Option β):List α->Option (List β)
 |[]=>some []
 |d::ds=>match f d with
  |none=>none
  |some p=>match jf f ds with
   |none=>none
   |some ps=>some (p::ps)
def rF:Nat->D->Option PyData
 |0,d=>match d with
  |.non=>some .none
  |.bl b=>some (.bool b)
  |.int i=>some (.int i)
  |.str x=>if PyData.strOk x=true then some (.str x) else none
  |_=>none
 |n+1,d=>match d with
  |.non=>some .none
  |.bl b=>some (.bool b)
  |.int i=>some (.int i)
  |.str x=>if PyData.strOk x=true then some (.str x) else none
  |.tup ds=>(jf (rF n) ds).map .tuple
  |.ktup ds=>(jf (rF n) ds).map .tuple
  |_=>none
def Iz(H:aC)(d:D):Option PyData:=match d with
 | .ref a => (match H a with
  |some (.lst ds)=>(jf (rF 4) ds).map .list
  |_=>none)
 |.fl ds=>(jf (rF 4) ds).map .list
 |d=>rF 5 d
section
variable{X:Cx}{pins:List (Addr×Obj)}{σ:St}{H:Hp}{s:Shared}
theorem uB{f:D->Option PyData}{d:D}{ds:List D}{ps:List PyData}(h:jf f (d::ds)=some ps):∃p ps',f d=some p/\jf f ds=some ps'/\ps=p::ps':=by
 unfold jf at h
 cases e1:f d with
 |none=>rw[e1] at h;cases h
 |some p=>
  rw[e1] at h
  cases e2:jf f ds with
  |none=>rw[e2] at h;cases h
  |some ps'=>rw[e2] at h;cases h;exact⟨p,ps',rfl,rfl,rfl⟩
theorem rm{f:D->Option PyData}{n:Nat}(hf:∀ {d:D} {v:V} {u:Value} {p:PyData},Rep X.K H d v->RelV v u->f d=some p->(∃as,Reads s.heap u p as)/\p.canLay0=true/\p.depth<=n) :
  ∀ {ds:List D} {vs:List V} {us:List Value} {ps:List PyData},bj X.K H ds vs->Vals vs us->jf f ds=some ps->(∃as,ReadsAll s.heap us ps as)/\PyData.canLayAll0 ps=true/\PyData.depthAll ps<=n:=by
 intro ds vs us ps hr hv h
 induction hv generalizing ds ps with
 |nil=>
  cases hr
  cases h
  exact⟨⟨[],.nil⟩,rfl,Nat.zero_le _⟩
 |cons q qs ih=>
  cases hr with
  |cons r rs=>
   obtain⟨p,ps',e1,e2,rfl⟩:=uB h
   obtain⟨⟨as,h1⟩,h2,h3⟩:=hf r q e1
   obtain⟨⟨bs,g1⟩,g2,g3⟩:=ih rs e2
   exact⟨⟨_,.cons h1 g1⟩,by rw[PyData.canLayAll0,h2,g2];rfl,Nat.max_le.mpr ⟨h3,g3⟩⟩
theorem dF(I:Inv X pins σ H s):∀(n:Nat) {d:D} {v:V} {u:Value} {p:PyData},Rep X.K H d v->RelV v u->rF n d=some p->(∃as,Reads s.heap u p as)/\p.canLay0=true/\p.depth<=n:=by
 intro n
 induction n with
 |zero=>
  intro d v u p r q h
  cases r with
  |non=>cases h;cases q;exact⟨⟨_,.none⟩,rfl,Nat.zero_le _⟩
  |bl b=>cases h;cases q;exact⟨⟨_,.bool b⟩,rfl,Nat.zero_le _⟩
  |int i=>cases h;obtain⟨t,rfl⟩:=q;exact⟨⟨_,.int i t⟩,rfl,Nat.zero_le _⟩
  |str x=>
   replace h:(if PyData.strOk _=true then some (PyData.str _) else none)=some p:=h
   split at h
   ·rename_i hx
    cases h;obtain⟨t,rfl⟩:=q;exact⟨⟨_,.str x t⟩,hx,Nat.zero_le _⟩
   ·cases h
  |_=>cases h
 |succ n ih=>
  intro d v u p r q h
  cases r with
  |non=>cases h;cases q;exact⟨⟨_,.none⟩,rfl,Nat.zero_le _⟩
  |bl b=>cases h;cases q;exact⟨⟨_,.bool b⟩,rfl,Nat.zero_le _⟩
  |int i=>cases h;obtain⟨t,rfl⟩:=q;exact⟨⟨_,.int i t⟩,rfl,Nat.zero_le _⟩
  |str x=>
   replace h:(if PyData.strOk _=true then some (PyData.str _) else none)=some p:=h
   split at h
   ·rename_i hx
    cases h;obtain⟨t,rfl⟩:=q;exact⟨⟨_,.str x t⟩,hx,Nat.zero_le _⟩
   ·cases h
  |tup ha ra=>
   replace h:(jf (rF n) _).map PyData.tuple=some p:=h
   rw[Option.map_eq_some_iff] at h
   obtain⟨ps,h1,rfl⟩:=h
   cases q
   obtain⟨its,rv,⟨o,ho,hc,m,hd⟩,_⟩:=I.tuple (iT.of ha)
   obtain⟨⟨as,g1⟩,g2,g3⟩:=rm (f:=rF n) (n:=n) ih ra rv h1
   exact⟨⟨_,.tuple ho hc hd (by simpa using g1)⟩,g2,by simp only[PyData.depth];omega⟩
  |ktup ha ra=>
   replace h:(jf (rF n) _).map PyData.tuple=some p:=h
   rw[Option.map_eq_some_iff] at h
   obtain⟨ps,h1,rfl⟩:=h
   cases q
   obtain⟨its,rv,⟨o,ho,hc,m,hd⟩,_⟩:=I.tuple ha.sq
   obtain⟨⟨as,g1⟩,g2,g3⟩:=rm (f:=rF n) (n:=n) ih ra rv h1
   exact⟨⟨_,.tuple ho hc hd (by simpa using g1)⟩,g2,by simp only[PyData.depth];omega⟩
  |_=>cases h
theorem pN(I:Inv X pins σ H s){H3:aC}(hr:HR X.K H3 H){d:D}{v:V}{u:Value}{p:PyData}(r:Rep X.K H d v)(q:RelV v u)(h:Iz H3 d=some p):(∃as,Reads s.heap u p as)/\p.canLay0=true/\p.depth<=5:=by
 have lst:∀ {a:Addr} {xs:List V} {ds:List D},jm X.K H a xs->bj X.K H ds xs->(jf (rF 4) ds).map PyData.list=some p->(∃as,Reads s.heap (.ref a) p as)/\p.canLay0=true/\p.depth<=5:=fun hq ra h=>by
  simp only[Option.map_eq_some_iff] at h
  obtain⟨ps,h1,rfl⟩:=h
  obtain⟨its,rv,pl,_⟩:=I.list hq
  obtain⟨o,ho,hc,m,hd⟩:=pl.isList
  obtain⟨⟨as,g1⟩,g2,g3⟩:=rm (f:=rF 4) (n:=4) (dF I 4) ra rv h1
  exact⟨⟨_,.list ho hc hd (by simpa using g1)⟩,g2,by simp only[PyData.depth];omega⟩
 cases r with
 |ref a=>
  (delta Iz at h;dsimp only at h)
  split at h
  ·rename_i ds ha
   obtain⟨vs,ga,ra⟩:=hr a _ ha
   cases q
   exact lst (jm.of ga) ra h
  ·cases h
 |fl ha ra=>cases q;exact lst ha.sq ra h
 |non=>exact dF I 5 .non q h
 |bl b=>exact dF I 5 (.bl b) q h
 |int b=>exact dF I 5 (.int b) q h
 |str b=>exact dF I 5 (.str b) q h
 |ty b=>exact dF I 5 (.ty b) q h
 |tup a b=>exact dF I 5 (.tup a b) q h
 |ktup a b=>exact dF I 5 (.ktup a b) q h
end
def fL:R3:=fun x y H Q=>match Iz H x,Iz H y with
 |some p,some q=>Q (.bl (PyData.eqv p q)) H
 |_,_=>False
def vd:R3:=fun x y H Q=>match Iz H x,Iz H y with
 |some p,some q=>Q (.bl (!PyData.eqv p q)) H
 |_,_=>False
section
variable{X:Cx}
theorem gJ(hu:X.A.units+64<cLine):jj X (compareOp .Eq) (cz X.K fL):=by
 intro pins s σ H x y v u Q I rx ry h
 obtain⟨dx,dy,H3,Q3,hr,rdx,rdy,t,k⟩:=h
 simp only[fL] at t
 split at t
 ·rename_i p q e1 e2
  obtain⟨⟨as,h1⟩,h2,h3⟩:=pN I hr rdx rx e1
  obtain⟨⟨bs,g1⟩,g2,g3⟩:=pN I hr rdy ry e2
  exact SeqAt.compareEq_reads h1 g1 h2 g2 (by have:=Nat.min_le_left p.depth q.depth;omega) ⟨.bl _,H,I,rfl,k _ _ _ _ TK.refl hr (.bl _) t⟩
 ·exact t.elim
theorem Cu(hu:X.A.units+64<cLine):jj X (compareOp .NotEq) (cz X.K vd):=by
 intro pins s σ H x y v u Q I rx ry h
 obtain⟨dx,dy,H3,Q3,hr,rdx,rdy,t,k⟩:=h
 simp only[vd] at t
 split at t
 ·rename_i p q e1 e2
  obtain⟨⟨as,h1⟩,h2,h3⟩:=pN I hr rdx rx e1
  obtain⟨⟨bs,g1⟩,g2,g3⟩:=pN I hr rdy ry e2
  exact SeqAt.compareNe_reads h1 g1 h2 g2 (by have:=Nat.min_le_left p.depth q.depth;omega) ⟨.bl _,H,I,rfl,k _ _ _ _ TK.refl hr (.bl _) t⟩
 ·exact t.elim
def Ji(H:aC)(d:D):Option (List D):=match d with
 | .ref a => (match H a with
  |some (.lst ds)=>some ds
  |_=>none)
 |.fl ds=>some ds
 |.tup ds=>some ds
 |_=>none
def Hh(neg:Bool):R3:=fun x y H Q=>match rF 4 x,(Ji H y).bind (jf (rF 4)) with
 |some p,some ps=>Q (.bl (if neg then !ps.any (fun q=>PyData.eqv q p) else ps.any fun q=>PyData.eqv q p)) H
 |_,_=>False
open Classical in
def v9(h:Heap)(p:PyData)(u:Value):Bool:=decide (∃q as,Reads h u q as/\q.canLay0=true/\PyData.eqv q p=true)
open Classical in
theorem Hv{h:Heap}{p q:PyData}{u:Value}{as:List Addr}(r:Reads h u q as)(c:q.canLay0=true):v9 h p u=PyData.eqv q p:=by
 unfold v9
 cases e:PyData.eqv q p with
 |true=>exact decide_eq_true ⟨q,as,r,c,e⟩
 |false=>
  refine decide_eq_false fun z=>?_
  obtain⟨q',as',r',c',e'⟩:=z
  have z:=SeqAt.Reads.unique q q' u as as' c r r'
  subst z
  rw[e] at e'
  cases e'
theorem jH{pins:List (Addr×Obj)}{σ:St}{H:Hp}{s:Shared}(I:Inv X pins σ H s)(p:PyData) :
  ∀ {ds:List D} {vs:List V} {us:List Value} {ps:List PyData},bj X.K H ds vs->Vals vs us->jf (rF 4) ds=some ps ->
   us.any (v9 s.heap p)=ps.any (fun q=>PyData.eqv q p)/\∀u∈us,∃q as,Reads s.heap u q as/\q.canLay0=true/\q.depth<=4:=by
 intro ds vs us ps hr hv h
 induction hv generalizing ds ps with
 |nil=>
  cases hr
  cases h
  exact⟨rfl,fun _ z=>nomatch z⟩
 |cons q qs ih=>
  cases hr with
  |cons r rs=>
   obtain⟨p',ps',e1,e2,rfl⟩:=uB h
   obtain⟨⟨as,h1⟩,h2,h3⟩:=dF I 4 r q e1
   obtain⟨g1,g2⟩:=ih rs e2
   refine⟨by rw[List.any_cons,List.any_cons,Hv h1 h2,g1],fun u hu=>?_⟩
   rcases List.mem_cons.mp hu with e | hu
   ·rw[e];exact⟨_,_,h1,h2,h3⟩
   ·exact g2 u hu
theorem yt{A:Around}{pins:List (Addr×Obj)}{σ:St}{H:Hp}{s:Shared}(I:Inv X pins σ H s)(hu:A.units+8<cLine){x:D}{vx:V}{ux:Value}{p:PyData}(rx:Rep X.K H x vx)(qx:RelV vx ux)(ex:rF 4 x=some p)
  {us:List Value} (h:∀u∈us,∃q as,Reads s.heap u q as/\q.canLay0=true/\q.depth<=4):∀u,u∈us.toArray->SeqAt.EqAt A s u ux (v9 s.heap p u):=fun u hm=>by
 obtain⟨q,as,h1,h2,h3⟩:=h u (by simpa using hm)
 obtain⟨⟨bs,g1⟩,g2,g3⟩:=dF I 4 rx qx ex
 rw[Hv h1 h2]
 exact SeqAt.eqAt_reads _ _ A s _ _ _ _ h1 g1 h2 g2 (by have:=Nat.min_le_left q.depth p.depth;omega)
theorem in1_units{A:Around}(h:A.units+64<cLine):A.in1.units+8<cLine:=by
 have e:A.in1.units=A.units+1:=rfl
 omega
theorem Y0(hu:X.A.units+64<cLine):jj X (compareOp .In) (cz X.K (Hh false)):=by
 intro pins s σ H x y v u Q I rx ry h
 obtain⟨dx,dy,H3,Q3,hr,rdx,rdy,t,k⟩:=h
 simp only[Hh] at t
 split at t
 ·rename_i p ps e1 e2
  simp only[Option.bind_eq_some_iff] at e2
  obtain⟨ds,e2,e3⟩:=e2
  have fin:=k _ _ _ _ TK.refl hr (.bl _) t
  cases rdy with
  |ref a=>
   (delta Ji at e2;dsimp only at e2)
   split at e2
   ·rename_i ds' ha
    cases e2
    obtain⟨vs,ga,ra⟩:=hr a _ ha
    cases ry
    obtain⟨its,rv,pl,_⟩:=I.list (jm.of ga)
    obtain⟨g1,g2⟩:=jH I p ra rv e3
    refine SeqAt.in_listAt (v9 s.heap p) pl.isList (yt I (in1_units hu) rdx rx e1 g2) ⟨.bl _,H,I,rfl,?_⟩
    rw[show its.toArray.any (v9 s.heap p)=its.any (v9 s.heap p) by simp,g1]
    exact fin
   ·cases e2
  |fl ha ra=>
   cases e2
   cases ry
   obtain⟨its,rv,pl,_⟩:=I.list ha.sq
   obtain⟨g1,g2⟩:=jH I p ra rv e3
   refine SeqAt.in_listAt (v9 s.heap p) pl.isList (yt I (in1_units hu) rdx rx e1 g2) ⟨.bl _,H,I,rfl,?_⟩
   rw[show its.toArray.any (v9 s.heap p)=its.any (v9 s.heap p) by simp,g1]
   exact fin
  |tup ha ra=>
   cases e2
   cases ry
   obtain⟨its,rv,pl,_⟩:=I.tuple (iT.of ha)
   obtain⟨g1,g2⟩:=jH I p ra rv e3
   refine SeqAt.in_tupleAt (v9 s.heap p) pl (yt I (in1_units hu) rdx rx e1 g2) ⟨.bl _,H,I,rfl,?_⟩
   rw[show its.toArray.any (v9 s.heap p)=its.any (v9 s.heap p) by simp,g1]
   exact fin
  |_=>cases e2
 ·exact t.elim
theorem Nr(hu:X.A.units+64<cLine):jj X (compareOp .NotIn) (cz X.K (Hh true)):=by
 intro pins s σ H x y v u Q I rx ry h
 obtain⟨dx,dy,H3,Q3,hr,rdx,rdy,t,k⟩:=h
 simp only[Hh] at t
 split at t
 ·rename_i p ps e1 e2
  simp only[Option.bind_eq_some_iff] at e2
  obtain⟨ds,e2,e3⟩:=e2
  have fin:=k _ _ _ _ TK.refl hr (.bl _) t
  cases rdy with
  |ref a=>
   (delta Ji at e2;dsimp only at e2)
   split at e2
   ·rename_i ds' ha
    cases e2
    obtain⟨vs,ga,ra⟩:=hr a _ ha
    cases ry
    obtain⟨its,rv,pl,_⟩:=I.list (jm.of ga)
    obtain⟨g1,g2⟩:=jH I p ra rv e3
    refine SeqAt.notIn_listAt (v9 s.heap p) pl.isList (yt I (in1_units hu) rdx rx e1 g2) ⟨.bl _,H,I,rfl,?_⟩
    rw[show its.toArray.any (v9 s.heap p)=its.any (v9 s.heap p) by simp,g1]
    exact fin
   ·cases e2
  |fl ha ra=>
   cases e2
   cases ry
   obtain⟨its,rv,pl,_⟩:=I.list ha.sq
   obtain⟨g1,g2⟩:=jH I p ra rv e3
   refine SeqAt.notIn_listAt (v9 s.heap p) pl.isList (yt I (in1_units hu) rdx rx e1 g2) ⟨.bl _,H,I,rfl,?_⟩
   rw[show its.toArray.any (v9 s.heap p)=its.any (v9 s.heap p) by simp,g1]
   exact fin
  |tup ha ra=>
   cases e2
   cases ry
   obtain⟨its,rv,pl,_⟩:=I.tuple (iT.of ha)
   obtain⟨g1,g2⟩:=jH I p ra rv e3
   refine SeqAt.notIn_tupleAt (v9 s.heap p) pl (yt I (in1_units hu) rdx rx e1 g2) ⟨.bl _,H,I,rfl,?_⟩
   rw[show its.toArray.any (v9 s.heap p)=its.any (v9 s.heap p) by simp,g1]
   exact fin
  |_=>cases e2
 ·exact t.elim
def tyH(H:aC)(d:D):Option String:=match d with
 |.non=>some "NoneType"
 |.bl _=>some "bool"
 |.int _=>some "int"
 |.str _=>some "str"
 |.tup _=>some "tuple"
 |.fl _=>some "list"
 | .ref a => (match H a with
  |some (.lst _)=>some "list"
  |some (.dic _)=>some "dict"
  |_=>none)
 |.ty _=>none
 |.ktup _=>some "tuple"
def Xg(U T:String):Bool:=U==T||(U == "bool" && T == "int")
def kinds:List String:=["int", "bool", "str", "tuple", "list", "dict"]
def qC:List D->aC->aM->Prop:=fun ds H Q=>match ds with
 | [x,.ty T] => (match tyH H x with
  |some U=>T∈kinds/\Q (.bl (Xg U T)) H
  |none=>False)
 |_=>False
theorem ZL(K:PySem.W.Frag)(U T:String)(hU:U ∈ "NoneType"::kinds)(hT:T∈kinds):PySem.W.kitOne K (.type U) (.type T)=some (Xg U T):=by
 simp only[kinds,List.mem_cons,List.not_mem_nil,or_false] at hU hT
 rcases hU with rfl | rfl | rfl | rfl | rfl | rfl | rfl <;> rcases hT with rfl | rfl | rfl | rfl | rfl | rfl <;> kernel_rfl
theorem Ny{ds:List D}{H:aC}{Q:aM}(t:qC ds H Q):∃x T U,ds=[x,.ty T]/\tyH H x=some U/\T∈kinds/\Q (.bl (Xg U T)) H:=by
 unfold qC at t
 split at t
 ·split at t
  ·exact⟨_,_,_,rfl,by assumption,t⟩
  ·exact t.elim
 ·exact t.elim
theorem wD:dZ X (.builtin "isinstance") (jY X.K qC):=by
 intro pins s σ H xs us Q I rs h
 obtain⟨ds,H3,Q3,hr,rd,t,k⟩:=h
 obtain⟨x,T,U,rfl,eU,hT,t⟩:=Ny t
 cases rd with | cons r1 r2=>cases r2 with | cons r2 r3=>cases r3 with | nil=>cases r2 with | ty _=>
 obtain⟨u,w,rfl,ru,rw'⟩:=vals2 rs
 obtain rfl:w=Value.type T:=rw'
 have fin:∀tk,EP X pins σ Q (.bool (Xg U T)) { s with toks:=tk }:=fun tk=>⟨.bl _,H,I.tok tk,rfl,k _ _ _ _ TK.refl hr (.bl _) t⟩
 have e:∀(hU:U ∈ "NoneType"::kinds),PySem.W.kitOne X.K (.type U) (.type T)=some (Xg U T):=fun hU=>ZL X.K U T hU hT
 cases r1 with
 |non=>cases eU;exact jB I ru (.non) (e (.head _)) fin
 |bl b=>cases eU;exact jB I ru (.bl b) (e (.tail _ (.tail _ (.head _)))) fin
 |int b=>cases eU;exact jB I ru (.int b) (e (.tail _ (.head _))) fin
 |str b=>cases eU;exact jB I ru (.str b) (e (.tail _ (.tail _ (.tail _ (.head _))))) fin
 |ty b=>cases eU
 |tup ha ra=>
  cases eU
  cases ru
  obtain⟨its,_,⟨o,h1,h2,_⟩,_⟩:=I.tuple (iT.of ha)
  exact PySem.W.kia_one PySem.W.kitx_tuple I.uq ⟨o,h1,h2⟩ (e (.tail _ (.tail _ (.tail _ (.tail _ (.head _)))))) (fun z=>nomatch z) fin
 |ktup ha ra=>
  cases eU
  cases ru
  obtain⟨its,_,⟨o,h1,h2,_⟩,_⟩:=I.tuple ha.sq
  exact PySem.W.kia_one PySem.W.kitx_tuple I.uq ⟨o,h1,h2⟩ (e (.tail _ (.tail _ (.tail _ (.tail _ (.head _)))))) (fun z=>nomatch z) fin
 |fl ha ra=>
  cases eU
  cases ru
  obtain⟨its,_,pl,_⟩:=I.list ha.sq
  obtain⟨o,h1,h2,_⟩:=pl.isList
  exact PySem.W.kia_one PySem.W.kitx_list I.uq ⟨o,h1,h2⟩ (e (.tail _ (.tail _ (.tail _ (.tail _ (.tail _ (.head _))))))) (fun z=>nomatch z) fin
 |ref a=>
  (delta tyH at eU;dsimp only at eU)
  split at eU
  ·rename_i ds ha
   cases eU
   obtain⟨vs,ga,ra⟩:=hr a _ ha
   exact jB I ru (.lst ga) (e (.tail _ (.tail _ (.tail _ (.tail _ (.tail _ (.head _))))))) fin
  ·rename_i ds ha
   cases eU
   obtain⟨vs,ga,ra⟩:=hr a _ ha
   exact jB I ru (.dT ga) (e (.tail _ (.tail _ (.tail _ (.tail _ (.tail _ (.tail _ (.head _)))))))) fin
  all_goals cases eU
def m3(r:D->List D->aC->aM->Prop)(to:aZ)(t:lN):aZ:=fun σ H Q=>to σ H fun x H1=>(match x with
 | .ref a => (match H1 a with
  |some (.lst _)=>t σ H1 fun xs H2=>r x xs H2 Q
  |_=>False)
 |_=>False)
theorem yx{o e:Expr}{es:List Expr}{to:aZ}{t:lN}{name:Str}{apos cpos:Pos}{id:String}{r:D->List D->aC->aM->Prop}(slot:Slot "list" name id)(hty:typeOf (.builtin id)=pure (.type "method_descriptor"))(hm:Kq X id (liftM X.K r))(ho:cF X o to)(ha:Ud X (e::es) t)
  (hbase:attributeBase o name X.env (eval o X.env)=eval o X.env:=by rfl)
  (hfew:((backTo cpos (starEach (e::es) X.env)).all (fun x => !x.1) && (backToKw cpos (keywordEach [] X.env)).all (fun x => x.1.isSome)
   && decide ((e::es).length+([]:List Keyword).length+(if ([]:List Keyword).isEmpty then 0 else 1)<30))=true:=by rfl)
  (hline:(apos.endLine==cpos.line)=true:=by rfl) (hs:starEach (e::es) X.env=(false,eval e X.env)::starEach es X.env:=by rfl) (hplain:(backTo cpos (starEach es X.env)).any (·.1)=false:=by rfl) :
  cF X (.Call (.Attribute o name apos) (e::es) [] cpos) (m3 r to t) :=
 bM (W2 PySem.F.plainAttrs_list slot hty hm ho ha hbase hfew hline hs hplain) fun _ _ _ zz=>zz.ex fun σ3 H3 Q3 sr hr t k=>⟨σ3,H3,_,sr,hr,t,fun x v H3a Ha tka hra rx qa=>by
  cases rx with
  |ref a=>
   simp only[] at qa
   split at qa
   ·rename_i ds ha
    obtain⟨vs,ga,ra⟩:=hra a _ ha
    exact⟨.inl ⟨rfl,vs,jm.of ga⟩,σ3,H3a,_,sr.mono tka,hra,qa,fun ds us H3b Hb tkb hrb rs qb=>⟨.ref a,ds,H3b,Q3,hrb,.ref a,rs,qb,k.mono (tka.trans tkb)⟩⟩
   ·exact qa.elim
  |_=>exact qa.elim⟩
theorem Za{o:Expr}{to:aZ}{name:Str}{apos cpos:Pos}{id:String}{r:D->List D->aC->aM->Prop}(slot:Slot "list" name id)(hty:typeOf (.builtin id)=pure (.type "method_descriptor"))(hm:Kq X id (liftM X.K r))(ho:cF X o to)
  (hbase:attributeBase o name X.env (eval o X.env)=eval o X.env:=by rfl) (hline:(apos.endLine==cpos.line)=true:=by rfl) :
  cF X (.Call (.Attribute o name apos) [] [] cpos) (m3 r to aG) :=
 bM (X4 PySem.F.plainAttrs_list slot hty hm ho hbase hline) fun _ _ _ zz=>zz.ex fun σ3 H3 Q3 sr hr t k=>⟨σ3,H3,_,sr,hr,t,fun x v H3a Ha tka hra rx qa=>by
  cases rx with
  |ref a=>
   simp only[] at qa
   split at qa
   ·rename_i ds ha
    obtain⟨vs,ga,ra⟩:=hra a _ ha
    exact⟨.inl ⟨rfl,vs,jm.of ga⟩,.ref a,[],H3a,Q3,hra,.ref a,.nil,qa,k.mono tka⟩
   ·exact qa.elim
  |_=>exact qa.elim⟩
def qH:D->List D->aC->aM->Prop:=fun x xs H Q=>match x,xs with
 | .ref a,[y] => (match H a with
  |some (.lst ds)=>ds.length<sizeLine/\Q .non (aK H a (.lst (ds++[y])))
  |_=>False)
 |_,_=>False
theorem tK:Kq X "list.append" (liftM X.K qH):=by
 intro pins s σ H x xs v us Q I rx rs h
 obtain⟨d,ds,H3,Q3,hr,rd,rds,t,k⟩:=h
 cases rd with
 |ref a=>
  cases rds with
  |nil=>exact t.elim
  |cons r1 r2=>
   cases r2 with
   |cons _ _=>exact t.elim
   |nil=>
    (delta qH at t;dsimp only at t)
    split at t
    ·rename_i ds ha
     obtain⟨vs,ga,ra⟩:=hr a _ ha
     exact zM pins s σ H _ _ v us Q I rx rs ⟨a,vs,_,rfl,rfl,ga,by rw[←ra.length];exact t.1,k _ _ _ _ (TK.lst ga) (hr.ye (TK.lst ga) ((ra.snoc r1).mono (TK.lst ga))) .non t.2⟩
    ·exact t.elim
 |_=>exact t.elim
def Gy:D->List D->aC->aM->Prop:=fun x xs H Q=>match x,xs with
 | .ref a,[.ref b] => (match H a,H b with
  |some (.lst ds),some (.lst es)=>ds.length+es.length<=sizeLine/\Q .non (aK H a (.lst (ds++es)))
  |_,_=>False)
 |_,_=>False
theorem Vv:Kq X "list.extend" (liftM X.K Gy):=by
 intro pins s σ H x xs v us Q I rx rs h
 obtain⟨d,ds,H3,Q3,hr,rd,rds,t,k⟩:=h
 cases rd with
 |ref a=>
  cases rds with
  |nil=>exact t.elim
  |cons r1 r2=>
   cases r2 with
   |cons _ _=>cases r1 <;> exact t.elim
   |nil=>
    cases r1 with
    |ref b=>
     (delta Gy at t;dsimp only at t)
     split at t
     ·rename_i ds es ha hb
      obtain⟨vs,ga,ra⟩:=hr a _ ha
      obtain⟨ws,gb,rb⟩:=hr b _ hb
      exact Om pins s σ H _ _ v us Q I rx rs ⟨a,b,vs,ws,rfl,rfl,ga,gb,by rw[←ra.length,←rb.length];exact t.1,k _ _ _ _ (TK.lst ga) (hr.ye (TK.lst ga) ((ra.append rb).mono (TK.lst ga))) .non t.2⟩
     ·exact t.elim
    |_=>exact t.elim
 |_=>exact t.elim
def Dt:D->List D->aC->aM->Prop:=fun x xs H Q=>match x,xs with
 | .ref a,[] => (match H a with
  |some (.lst ds)=>(match ds[ds.length-1]? with | some y=>Q y (aK H a (.lst ds.dropLast)) | none=>False)
  |_=>False)
 |_,_=>False
theorem Ut:Kq X "list.pop" (liftM X.K Dt):=by
 intro pins s σ H x xs v us Q I rx rs h
 obtain⟨d,ds,H3,Q3,hr,rd,rds,t,k⟩:=h
 cases rd with
 |ref a=>
  cases rds with
  |cons _ _=>exact t.elim
  |nil=>
   (delta Dt at t;dsimp only at t)
   split at t
   ·rename_i ds ha
    split at t
    ·rename_i y ey
     obtain⟨vs,ga,ra⟩:=hr a _ ha
     obtain⟨w,ew,rw'⟩:=ra.get ey
     exact Zc pins s σ H _ _ v us Q I rx rs ⟨a,vs,w,rfl,rfl,ga,by rw[←ra.length];exact ew,k _ _ _ _ (TK.lst ga) (hr.ye (TK.lst ga) (ra.dropLast.mono (TK.lst ga))) (rw'.mono (TK.lst ga)) t⟩
    ·exact t.elim
   ·exact t.elim
 |_=>exact t.elim
end
end L3
namespace L3
open PySem PySem.Spec PyProof.Rows L2
theorem Jc{scope:Scope}{env:Env}(h:∀y,(y,NameKind.free)∈scope.names->∃c,env.cells.lookup y=some c) :
  ∃cl,closureFor scope env=pure cl/\(∀y c,cl.lookup y=some c->env.cells.lookup y=some c)/\∀y,(y,NameKind.free)∈scope.names->∃c,cl.lookup y=some c:=by
 have go:∀(names:List (Str×NameKind)) (cs:List (Str×Addr)),(∀y,(y,NameKind.free)∈names->∃c,env.cells.lookup y=some c)->(∀y c,cs.lookup y=some c->env.cells.lookup y=some c) ->
   ∃cl,(forIn (m:=Sem) names cs fun (x:Str×NameKind) r=>match x with
    |(name,kind)=>if (kind==NameKind.free)=true then do let c ←cellOf env name;pure (ForInStep.yield ((name,c)::r)) else pure (ForInStep.yield r))=pure cl /\
    (∀y c,cl.lookup y=some c->env.cells.lookup y=some c)/\(∀y,(y,NameKind.free)∈names->∃c,cl.lookup y=some c)/\∀y c,cs.lookup y=some c->∃c',cl.lookup y=some c':=by
  intro names
  induction names with
  |nil=>intro cs _ h2;exact⟨cs,rfl,h2,(fun _ z=>nomatch z),fun y c e=>⟨c,e⟩⟩
  |cons x r ih=>
   intro cs h1 h2
   obtain⟨n,k⟩:=x
   by_cases hk:k=NameKind.free
   ·subst hk
    obtain⟨c,hc⟩:=h1 n List.mem_cons_self
    have ec:cellOf env n=pure c:=by unfold cellOf;rw[hc]
    have h2':∀y c',((n,c)::cs).lookup y=some c'->env.cells.lookup y=some c':=fun y c' e=>by
     rw[List.lookup_cons] at e
     split at e
     ·rename_i he
      cases e
      rw[eq_of_beq he];exact hc
     ·exact h2 y c' e
    obtain⟨cl,e1,e2,e3,e4⟩:=ih ((n,c)::cs) (fun y hy=>h1 y (List.mem_cons_of_mem _ hy)) h2'
    have hn:∃c',cl.lookup n=some c':=e4 n c (by rw[List.lookup_cons];simp)
    refine⟨cl,?_,e2,fun y hy=>?_,fun y c' e=>?_⟩
    ·rw[List.forIn_cons]
     simp only[beq_self_eq_true,if_true,ec]
     exact e1
    ·rcases List.mem_cons.mp hy with z | z
     ·cases z;exact hn
     ·exact e3 y z
    ·by_cases hy:y=n
     ·rw[hy];exact hn
     ·exact e4 y c' (by rw[List.lookup_cons,beq_eq_false_iff_ne.mpr hy];exact e)
   ·have hb:(k==NameKind.free)=false:=by simpa using hk
    obtain⟨cl,e1,e2,e3,e4⟩:=ih cs (fun y hy=>h1 y (List.mem_cons_of_mem _ hy)) h2
    refine⟨cl,?_,e2,fun y hy=>?_,e4⟩
    ·rw[List.forIn_cons]
     simp only[hb,Bool.false_eq_true,if_false]
     exact e1
    ·rcases List.mem_cons.mp hy with z | z
     ·cases z;exact absurd rfl hk
     ·exact e3 y z
 obtain⟨cl,e1,e2,e3,_⟩:=go scope.names [] h (fun _ _ e=>by simp at e)
 refine⟨cl,?_,e2,e3⟩
 unfold closureFor
 refine Eq.trans (congrArg (fun t=>t >>= fun cs=>pure cs) e1) ?_
 rfl
theorem Nh{prog:Program}{w:World}{A:Around}{R:Result->Shared->Prop}{s:Shared}{elt target iter:Expr}{ifs:List Expr}{scope:Scope}{pos:Pos}{it acc:Value}{env:Env}(I:Nat->Shared->Prop)
  (turn:∀ n s,I n s→wpAny (model prog w) A (pyNext it) (fun r s₁ => match r with
   |none=>R (.ok .next) s₁
   | some v => wpAny (model prog w) A (letOwnedTupleGo target it v) (fun _ s₁' => wpAny (model prog w) A (assign target env v) (fun _ s₂ =>
     wpAny (model prog w) A (forIn ifs true fun c r=>if r=true then do let ok ←isTrue c env (eval c env);pure (ForInStep.yield ok) else pure (ForInStep.yield r)) (fun ok s₃=>
      if ok=true then wpAny (model prog w) A (eval elt env) (fun x s₄=>
       wpAny (model prog w) A (call (.builtin "list.append") [acc,x]) (fun _ s₅=>∃m,m<n/\I m s₅) (fun _ _=>False) s₄) (fun _ _=>False) s₃
      else ∃m,m<n/\I m s₃) (fun _ _=>False) s₂) (fun _ _=>False) s₁') (fun _ _=>False) s₁) (fun _ _=>False) s)
  (n:Nat) (h:I n s) :
  codeAny (model prog w) A (.compLoop (.ListComp elt [⟨target,iter,ifs,0⟩] scope pos) 0 it acc env) R s:=by
 refine codeAny_loop rfl I (fun n s hI=>?_) n h
 show wpAny _ A ((compTurn (.ListComp elt [⟨target,iter,ifs,0⟩] scope pos) 0 it acc env).onRaise (fun x=>do noteFrame x env;theTreesLotGoes x)) _ _ s
 refine wpAny_noted ?_
 rw[compTurn_list]
 refine wpAny_bind (wpAny_standAt (wpAny_bind (wpAny_mono (turn n s hI) (fun r s₁ h₁=>?_) fun _ _ h'=>h'.elim)))
 cases r with
 |none=>exact wpAny_pure h₁
 |some v=>
  refine wpAny_bind (wpAny_mono h₁ (fun _ s₁' h₁'=>?_) fun _ _ h'=>h'.elim)
  refine wpAny_bind (wpAny_mono h₁' (fun _ s₂ h₂=>wpAny_bind (wpAny_mono h₂ (fun ok s₃ h₃=>?_) fun _ _ h'=>h'.elim)) fun _ _ h'=>h'.elim)
  cases ok with
  |false=>exact wpAny_pure ⟨rfl,h₃⟩
  |true=>
   exact wpAny_bind (wpAny_bind (wpAny_mono h₃ (fun x s₄ h₄=>wpAny_bind (wpAny_mono h₄ (fun _ s₅ h₅=>wpAny_pure (wpAny_pure ⟨rfl,h₅⟩)) fun _ _ h'=>h'.elim)) fun _ _ h'=>h'.elim))
def vL(X:Cx)(N':List Str)(scope:Scope)(cl:List (Str×Addr))(s₁:Shared)(H₁:Hp)(fp:List Addr)(pins:List (Addr×Obj)):Cx where
 prog:=X.prog
 w:=X.w
 K:=X.K
 mg:=X.mg
 base:=X.base
 A:=X.A
 N:=N'
 s₀:=s₁
 H₀:=H₁
 env:=compEnvC scope cl s₁.heap.objs.size X.env
 outer:=X.stack
 stack:=X.stack
 ex:=fp
 fn:=fun _=>false
 calm:=X.calm
 pn:=X.pn++pins
 xe:=fun _ _=>False
abbrev FV:=List (Nat×Str)
def acg(scope sc:Scope):Scope:={ scope with names:=scope.names.map fun (n,k)=>if (k == .free&&sc.kind == .function&&sc.names.lookup n==some .cell) then (n,.cell) else (n,k) }
structure cj(sc:Scope)(N:List Str)(scope:Scope)(N':List Str)(own:List Str)(fv:FV):Prop where
 kind:scope.kind=.function
 nocell:∀y∈scope.names,y.2≠.cell
 loc:∀y∈scope.names,y.2=.local->scope.names.lookup y.1=some .local
 fre':∀y∈scope.names,y.2=.free->sc.names.lookup y.1=some .cell
 eqN:N'=own++fv.map (·.2)
 nd:N'.Nodup
 slot:∀p∈fv,N[p.1]?=some p.2/\sc.names.lookup p.2=some .cell/\(acg scope sc).names.lookup p.2=some .cell
theorem cj.fre{sc scope:Scope}{N N' own:List Str}{fv:FV}(c:cj sc N scope N' own fv):∀y,(y,NameKind.free)∈scope.names->sc.names.lookup y=some .cell:=fun y hy=>c.fre' _ hy rfl
def blk(own:List Str)(fv:FV)(σ:St):St:=own.map (fun _=>none)++fv.map fun p=>(σ[p.1]?).join
theorem j8{scope:Scope}{env:Env}:∀ {names:List (Str×NameKind)} {y:Str} {k:NameKind},
  (names.map fun (n,k)=>if (k==NameKind.free&&env.scope.kind == .function&&env.kindOf n==some .cell) then (n,NameKind.cell) else (n,k)).lookup y=some k->k=.cell\/k=.free->(∀z∈names,z.2≠.cell)->(y,NameKind.free)∈names
 |[],_,_,h,_,_=>by simp at h
 |(n,k0)::r,y,k,h,hk,hc=>by
  rw[List.map_cons] at h
  by_cases hf:k0=NameKind.free
  ·by_cases hy:y=n
   ·subst hy;subst hf;exact List.mem_cons_self
   ·refine List.mem_cons_of_mem _ (j8 (env:=env) (scope:=scope) (k:=k) ?_ hk fun z hz=>hc z (List.mem_cons_of_mem _ hz))
    dsimp only at h
    have hyb:(y==n)=false:=beq_eq_false_iff_ne.mpr hy
    split at h <;> (rw[List.lookup_cons,hyb] at h;exact h)
  ·have hb:(k0==NameKind.free)=false:=by simpa using hf
   simp only[hb,Bool.false_and,Bool.false_eq_true,if_false] at h
   rw[List.lookup_cons] at h
   by_cases hy:y=n
   ·subst hy
    simp only[beq_self_eq_true] at h
    cases h
    rcases hk with z | z
    ·exact absurd z (hc _ List.mem_cons_self)
    ·exact absurd z hf
   ·have hyb:(y==n)=false:=beq_eq_false_iff_ne.mpr hy
    rw[hyb] at h
    exact List.mem_cons_of_mem _ (j8 (env:=env) (scope:=scope) (k:=k) h hk fun z hz=>hc z (List.mem_cons_of_mem _ hz))
section
variable{X:Cx}{pins:List (Addr×Obj)}{σ:St}{H₁:Hp}{s₁ s₂:Shared}{scope:Scope}{cl:List (Str×Addr)}{N' own:List Str}{fv:FV}{fp:List Addr}
theorem Xu(I:Inv X pins σ H₁ s₁)(c:cj X.env.scope X.N scope N' own fv)(h1:∀y c,cl.lookup y=some c->X.env.cells.lookup y=some c)(h2:∀y,(y,NameKind.free)∈scope.names->∃c,cl.lookup y=some c)
  (hf:∀b∈fp,lW X pins H₁ b/\b<s₁.heap.objs.size):(vL X N' scope cl s₁ H₁ fp pins).Ok where
 mod:=I.ok.mod
 kind:=c.kind
 glob:=I.ok.glob
 blt:=I.ok.blt
 above:=Nat.le_refl _
 inj:=fun x y a e1 e2=>I.ok.inj x y a (h1 x a e1) (h1 y a e2)
 has:=fun x hx=>by
  have hx':(relabel scope X.env).names.lookup x=some .cell\/(relabel scope X.env).names.lookup x=some .free:=hx
  rcases hx' with z | z
  ·exact h2 x (j8 (scope:=scope) (env:=X.env) z (.inl rfl) c.nocell)
  ·exact h2 x (j8 (scope:=scope) (env:=X.env) z (.inr rfl) c.nocell)
 cab:=fun x a e=>by cases e
 hd:=I.ok.hd
 frames:=I.ok.frames
 stk:=.inl rfl
 exf:=fun b hb=>⟨Nat.ne_of_lt (hf b hb).2,fun x a e=>(hf b hb).1.2.2.2.2.1 x a (h1 x a e)⟩
 bs:=I.bs
 bsz:=Nat.le_trans I.ok.bsz I.sz
 noex:=fun b o e hb=>by
  rcases (hf b hb).1.2.2.2.1 with z | z
  ·exact I.ok.noex b o e z
  ·exact absurd (Nat.lt_of_lt_of_le (Heap.lt_size (I.ok.bs b o e).1) z) (Nat.lt_irrefl _)
 exfs:=fun b hb hm=>by
  rcases List.mem_cons.mp (I.xX b hm) with z | z
  ·exact (hf b hb).1.2.1 z
  ·exact (hf b hb).1.2.2.1 z
 vA:=I.stack
 frf:=I.JX
theorem VM:(blk own fv σ).length=(own++fv.map (·.2)).length:=by simp[blk]
theorem OJ(I:Inv X pins σ H₁ s₁)(c:cj X.env.scope X.N scope N' own fv)(h1:∀y c,cl.lookup y=some c->X.env.cells.lookup y=some c)(h2:∀y,(y,NameKind.free)∈scope.names->∃c,cl.lookup y=some c)
  (hf:∀b∈fp,lW X pins H₁ b/\b<s₁.heap.objs.size) {h':Heap} {m:Str->Option Value} {tk:Nat} (hn:h'.Ns s₁.heap.objs.size m) (kp:∀b o,s₁.heap.get? b=some o->h'.get? b=some o) :
  Inv (vL X N' scope cl s₁ H₁ fp pins) [] (blk own fv σ) H₁ { s₁ with heap:=h',toks:=tk } where
 ok:=Xu I c h1 h2 hf
 os:=rfl
 bare:=I.bare
 base:=Un.kept kp
 loc:=by
  refine⟨m,hn,fun i x v e1 e2 e3=>?_⟩
  have e1':(own++fv.map (·.2))[i]?=some x:=by rw[←c.eqN];exact e1
  have hi:¬i<own.length:=fun hi=>by
   unfold blk at e2
   rw[List.getElem?_append_left (by simpa using hi),List.getElem?_map] at e2
   cases z:own[i]? with
   |none=>rw[z] at e2;cases e2
   |some y=>rw[z] at e2;cases e2
  unfold blk at e2
  rw[List.getElem?_append_right (by simpa using hi),List.length_map,List.getElem?_map] at e2
  rw[List.getElem?_append_right (by simpa using hi),List.getElem?_map] at e1'
  cases z:fv[i-own.length]? with
  |none=>rw[z] at e2;cases e2
  |some p=>
   rw[z] at e2 e1'
   have ex:p.2=x:=Option.some.inj e1'
   subst ex
   obtain⟨g1,g2,g3⟩:=c.slot p (List.mem_of_getElem? z)
   have e2':(σ[p.1]?).join=some v:=Option.some.inj e2
   have e2'':σ[p.1]?=some (some v):=by
    cases q:σ[p.1]? with
    |none=>rw[q] at e2';cases e2'
    |some o=>rw[q] at e2';rw[show o=some v from e2']
   obtain⟨m0,hn0,hl0⟩:=I.loc
   obtain⟨u,ru,lu⟩:=hl0 p.1 p.2 v g1 e2'' (.inr (.inl g2))
   refine⟨u,ru,.inr ⟨.inl g3,?_⟩⟩
   rcases lu with ⟨k,_⟩ | ⟨_,cc,ec,ic⟩
   ·exact absurd (show X.env.scope.names.lookup p.2=some NameKind.local from k) (by rw[g2];intro z;cases z)
   ·have hfree:(p.2,NameKind.free)∈scope.names:=j8 (scope:=scope) (env:=X.env) g3 (.inl rfl) c.nocell
    obtain⟨c',ec'⟩:=h2 _ hfree
    have:=h1 _ _ ec'
    rw[ec] at this
    cases this
    obtain⟨o,ho,hd⟩:=ic
    exact⟨cc,ec',o,kp _ _ ho,hd⟩
 cell:=fun x a e=>by
  obtain⟨v,o,ho,hd⟩:=I.cell x a (h1 x a e)
  exact⟨v,o,kp _ _ ho,hd⟩
 free:=I.hok.fresh (Nat.le_refl _)
 freeC:=fun x a e=>I.freeC x a (h1 x a e)
 pin:=fun p hp=>by
  rw[List.append_nil] at hp
  obtain⟨g1,g2,g3,g4,g5⟩:=I.pin p hp
  refine⟨kp _ _ g1,g2,Nat.ne_of_lt (Heap.lt_size g1),fun hm=>?_,g5⟩
  rcases List.mem_cons.mp (I.xX p.1 hm) with z | z
  ·exact g3 z
  ·exact g4 z
 hok:=I.hok.kept kp
 len:=by rw[VM,←c.eqN];rfl
theorem QK{σ':St}{H':Hp}(I:Inv X pins σ H₁ s₁)(hf:∀b∈fp,lW X pins H₁ b/\b<s₁.heap.objs.size)(J:Inv (vL X N' scope cl s₁ H₁ fp pins) [] σ' H' s₂) :
  Inv X pins σ H' s₂/\lW X pins H' s₁.heap.objs.size/\∃m,s₂.heap.Ns s₁.heap.objs.size m:=by
 have I2:Inv X pins σ H' s₂:=I.call' (ch:=fp) J.os J.base J.hok J.bare fun b hb=>⟨(hf b hb).1.2.2.2.1,(hf b hb).1.2.1,(hf b hb).1.2.2.2.2.1,(hf b hb).1.2.2.2.2.2⟩
 obtain⟨m,hn,_⟩:=J.loc
 exact⟨I2,⟨J.free,(I.uX (H':=H') (Nat.le_refl _) J.free).2⟩,m,hn⟩
end
def Mf(X:Cx)(ifs:List Expr)(t:TT):Prop:=∀(pins:List (Addr×Obj)) (s:Shared) (σ:St) (H:Hp) (Q:Bool->Hp->Prop),Inv X pins σ H s->t σ H Q ->
 wpAny (model X.prog X.w) X.A (forIn ifs true fun c r=>if r=true then do let ok ←isTrue c X.env (eval c X.env);pure (ForInStep.yield ok) else pure (ForInStep.yield r)) (TP X pins σ Q) X.xe s
theorem Tf{X:Cx}:Mf X [] (fun _ H Q=>Q true H):=fun _ _ _ H _ I h=>wpAny_tests_nil ⟨H,I,h⟩
theorem RM{X:Cx}{c:Expr}{t:TT}(h:PT X c t):Mf X [c] t:=fun pins s σ H Q I hw=>wpAny_tests_one (h pins s σ H Q I hw)
def KR(wi:TI)(g:TG)(tc:TT)(te:TE)(own:List Str)(fv:FV):TE:=fun σ H Q=>wi σ H fun J H1=>∀p,H1 p=none->∃W:Nat->Nat->Hp->Prop,(∃m,W 0 m (upd H1 p (.lst [])))/\∀i m H2,W i m H2 ->
 (J.stop i H2∧Q (.ref p) H2)∨(J.go i H2∧∀ x H3,J.yld i H2 x H3→g x (blk own fv σ) H3 fun σ2 H4 => tc σ2 H4 fun b H5 => if b = true then te σ2 H5 fun v H6 => ∃ acc,H6 p = some (.lst acc)∧acc.length < sizeLine ∧
  ∃m',m'<m/\W (i+1) m' (upd H6 p (.lst (acc++[v]))) else ∃m',m'<m/\W (i+1) m' H5)
theorem zX{X:Cx}{pins:List (Addr×Obj)}{σ:St}{H:Hp}{s:Shared}{elt target iter:Expr}{ifs:List Expr}{scope:Scope}{pos fpos:Pos}{N' own:List Str}{fv:FV}{wi:TI}{g:TG}{tc:TT}{te:TE}{R:VK}{use:Option (Value->Sem Unit)}{Q':Value->Shared->Prop}
  (c:cj X.env.scope X.N scope N' own fv) (hcalm:X.calm=true) (hi:PI X target iter wi)
  (hgk:∀x σ H Q,g x σ H Q->g x σ H fun σ' H'=>(σ'.length=σ.length/\∀i,own.length<=i->σ'[i]?=σ[i]?)/\Q σ' H')
  (hb:∀cl s₁ H₁ fp,PG (vL X N' scope cl s₁ H₁ fp pins) target g/\Mf (vL X N' scope cl s₁ H₁ fp pins) ifs tc/\PE (vL X N' scope cl s₁ H₁ fp pins) elt te)
  (hs:∀x,foldedSetIterable iter X.env x=pure x) (I:Inv X pins σ H s) (h:KR wi g tc te own fv σ H R)
  (fin:∀(p C:Addr) (H':Hp) (s':Shared) (m:Str->Option Value),Inv X pins σ H' s'->lW X pins H' C->s'.heap.Ns C m->R (.ref p) H'->compPost (model X.prog X.w) X.A X.xe use Q' (.ref p) C (.ok .next) s') :
  wpAny (model X.prog X.w) X.A (comprehension (.ListComp elt [⟨target,iter,ifs,0⟩] scope pos) scope X.env fpos (newList []) false (eval iter X.env) use) Q' X.xe s:=by
 obtain⟨cl,hclos,h1,h2⟩:=Jc (scope:=scope) (env:=X.env) fun y hy=>I.ok.has y (.inl (c.fre y hy))
 refine wpAny_comprehension_free (use:=use) rfl hs hclos c.kind c.loc (wpAny_mono (hi pins s σ H _ I h) (fun v s1 h1'=>wpAny_mono h1' (fun itv s2 h2'=>?_) fun _ _ e=>e) fun _ _ e=>e)
 obtain⟨it,fp,tn,J,H2,rfl,I2,T,st2,f2,q2⟩:=h2'
 refine wpAny_newObj_type ?_
 have I3:Inv X pins σ (upd H2 s2.heap.objs.size (.lst [])) { s2 with heap:=s2.heap.push { cls:=.type "list",data:=.seq ([]:List Value).toArray } }:=I2.aaH (t':=s2.toks) (ys:=[]) (its:=[]) .nil (Nat.zero_le _)
 have np:H2 s2.heap.objs.size=none:=I2.fresh
 generalize hs3:({ s2 with heap:=s2.heap.push { cls:=.type "list",data:=.seq ([]:List Value).toArray } }:Shared)=s3 at I3
 have e3:s3.heap=s2.heap.push { cls:=.type "list",data:=.seq ([]:List Value).toArray }:=by rw[←hs3]
 have old3:∀b o,s2.heap.get? b=some o->s3.heap.get? b=some o:=fun b o e=>by rw[e3];exact Heap.get?_push_of_some _ e
 have f3:∀b∈fp,lW X pins (upd H2 s2.heap.objs.size (.lst [])) b/\b<s3.heap.objs.size:=fun b hb=>by
  obtain⟨o,ho,_⟩:=T.obj 0 _ st2 b hb
  have hlt:=Heap.lt_size ho
  refine⟨⟨?_,(f2 b hb).2⟩,Heap.lt_size (old3 b o ho)⟩
  rw[aF (Nat.ne_of_lt hlt)]
  exact (f2 b hb).1
 have st3:tn 0 s3.heap:=T.keep 0 _ _ st2 fun b hb o e=>old3 b o e
 refine wpAny_newFunctionEnv c.nocell (by intro y hy;simp at hy) (fun h' hns hsb=>?_) c.kind
 have kp:∀b o,s3.heap.get? b=some o->h'.get? b=some o:=fun b o e=>(hsb.2 b (Nat.ne_of_lt (Heap.lt_size e))).trans (Heap.get?_push_of_some _ e)
 have J0:Inv (vL X N' scope cl s3 (upd H2 s2.heap.objs.size (.lst [])) fp pins) [] (blk own fv σ) (upd H2 s2.heap.objs.size (.lst [])) { s3 with heap:=h',toks:=s3.toks+([]:List (Str×Value)).length }:=OJ I3 c h1 h2 f3 hns kp
 have st4:tn 0 h':=T.keep 0 _ _ st3 fun b hb o e=>kp b o e
 obtain⟨W,⟨m0,w0⟩,turn⟩:=q2 s2.heap.objs.size np
 obtain⟨hg,hifs,helt⟩:=hb cl s3 (upd H2 s2.heap.objs.size (.lst [])) fp
 have noP:∀b∈fp,b≠s3.heap.objs.size:=fun b hb=>Nat.ne_of_lt (f3 b hb).2
 have stat:∀ {H':Hp},(∀b∈fp,H' b=none)->∀b∈fp,lW (vL X N' scope cl s3 (upd H2 s2.heap.objs.size (.lst [])) fp pins) [] H' b:=fun hn b hb=>by
  obtain⟨⟨_,g1,g2,g3,g4,g5⟩,g6⟩:=f3 b hb
  refine⟨hn b hb,Nat.ne_of_lt g6,fun hm=>?_,.inl hb,fun x a e=>g4 x a (h1 x a e),fun p hp=>g5 p (by simpa [vL] using hp)⟩
  rcases List.mem_cons.mp (I3.xX b hm) with z | z
  ·exact g1 z
  ·exact g2 z
 have loop:codeAny (model X.prog X.w) X.A (.compLoop (.ListComp elt [⟨target,iter,ifs,0⟩] scope pos) 0 (.ref it) (.ref s2.heap.objs.size) (compEnvC scope cl s3.heap.objs.size X.env))
   (compPost (model X.prog X.w) X.A X.xe use Q' (.ref s2.heap.objs.size) s3.heap.objs.size) { s3 with heap:=h',toks:=s3.toks+([]:List (Str×Value)).length }:=by
  refine Nh (fun n s'=>∃i H' σ',Inv (vL X N' scope cl s3 (upd H2 s2.heap.objs.size (.lst [])) fp pins) [] (blk own fv σ) H' s'/\σ'=blk own fv σ/\tn i s'.heap/\(∀b∈fp,H' b=none)/\W i n H') ?_ m0 ⟨0,_,_,J0,rfl,st4,fun b hb=>(f3 b hb).1.1,w0⟩
  rintro n s5 ⟨i,H5,_,J5,rfl,st5,fr5,w5⟩
  rcases turn i n H5 w5 with ⟨stop,qn⟩ | ⟨go,step⟩
  ·refine cQ (T.done (vL X N' scope cl s3 (upd H2 s2.heap.objs.size (.lst [])) fp pins) rfl rfl rfl hcalm i [] s5 _ H5 _ J5 (stat fr5) st5 stop) fun r s6 hr=>?_
   obtain⟨rfl,J6⟩:=hr
   obtain⟨I6,f6,m6,n6⟩:=QK I3 f3 J6
   exact fin _ _ H5 s6 m6 I6 f6 n6 qn
  ·refine cQ (T.item (vL X N' scope cl s3 (upd H2 s2.heap.objs.size (.lst [])) fp pins) rfl rfl rfl hcalm i [] s5 _ H5 _ J5 (stat fr5) st5 go) fun r s6 hr=>?_
   obtain⟨u,rfl,h6⟩:=hr
   refine cQ h6 fun _ s7 h7=>?_
   obtain⟨x,H7,J7,r7,y7,st7,fr7⟩:=h7
   have J7':=J7.pinned (stat fr7) (T.obj _ _ st7)
   refine cQ (hg _ s7 _ H7 x u _ J7' r7 (hgk _ _ _ _ (step x H7 y7))) fun _ s8 h8=>?_
   obtain⟨σ8,H8,J8,⟨l8,k8⟩,q8⟩:=h8
   refine cQ (hifs _ s8 σ8 H8 _ J8 q8) fun ok s9 h9=>?_
   obtain⟨H9,J9,q9⟩:=h9
   have weak:∀ {H':Hp} {s':Shared},Inv (vL X N' scope cl s3 (upd H2 s2.heap.objs.size (.lst [])) fp pins) ([]++xG fp s7.heap) σ8 H' s' ->
     Inv (vL X N' scope cl s3 (upd H2 s2.heap.objs.size (.lst [])) fp pins) [] (blk own fv σ) H' s'/\tn (i+1) s'.heap/\∀b∈fp,H' b=none:=fun {H' s'} J'=>by
    refine⟨J'.t6.weak l8.symm fun j v e=>?_,T.keep _ _ _ st7 fun b hb o e=>(J'.pin (b,o) (List.mem_append_right _ (List.mem_append_right _ (mQ hb e)))).1,fun b hb=>?_⟩
    ·have hj:own.length<=j:=Nat.le_of_not_lt fun hj=>by
      unfold blk at e
      rw[List.getElem?_append_left (by simpa using hj),List.getElem?_map] at e
      cases z:own[j]? with
      |none=>rw[z] at e;cases e
      |some y=>rw[z] at e;cases e
     rw[k8 j hj];exact e
    ·obtain⟨o,e,d⟩:=T.obj _ _ st7 b hb
     exact (J'.pin (b,o) (List.mem_append_right _ (List.mem_append_right _ (mQ hb e)))).2.1
   cases ok with
   |false=>
    rw[if_neg Bool.false_ne_true] at q9 ⊢
    obtain⟨m',hm,w9⟩:=q9
    obtain⟨g1,g2,g3⟩:=weak J9
    exact⟨m',hm,i+1,H9,_,g1,rfl,g2,g3,w9⟩
   |true=>
    rw[if_pos rfl] at q9 ⊢
    refine cQ (helt _ s9 σ8 H9 _ J9 q9) fun xv s10 h10=>?_
    obtain⟨v,H10,J10,r10,acc,ea,hl,m',hm,w10⟩:=h10
    refine cQ (zM _ s10 σ8 H10 (.ref s2.heap.objs.size) [v] (.ref s2.heap.objs.size) [xv] (fun z H'=>z=.non/\H'=upd H10 s2.heap.objs.size (.lst (acc++[v]))) J10 rfl (.cons r10 .nil) ⟨_,acc,v,rfl,rfl,ea,hl,rfl,rfl⟩) fun _ s11 h11=>?_
    obtain⟨z,H11,J11,_,_,rfl⟩:=h11
    obtain⟨g1,g2,g3⟩:=weak J11
    exact⟨m',hm,i+1,_,_,g1,rfl,g2,g3,w10⟩
 exact codeAny_compStart_list loop (T.self X.A 0 _ _ _ st4 loop)
theorem Lg{X:Cx}{elt target iter:Expr}{ifs:List Expr}{scope:Scope}{pos:Pos}{N' own:List Str}{fv:FV}{wi:TI}{g:TG}{tc:TT}{te:TE}
  (c:cj X.env.scope X.N scope N' own fv) (hcalm:X.calm=true) (hi:PI X target iter wi)
  (hgk:∀x σ H Q,g x σ H Q->g x σ H fun σ' H'=>(σ'.length=σ.length/\∀i,own.length<=i->σ'[i]?=σ[i]?)/\Q σ' H')
  (hb:∀pins cl s₁ H₁ fp,PG (vL X N' scope cl s₁ H₁ fp pins) target g/\Mf (vL X N' scope cl s₁ H₁ fp pins) ifs tc/\PE (vL X N' scope cl s₁ H₁ fp pins) elt te)
  (hs:∀x,foldedSetIterable iter X.env x=pure x:=by intro _;rfl):PE X (.ListComp elt [⟨target,iter,ifs,0⟩] scope pos) (KR wi g tc te own fv):=by
 intro pins s σ H Q I h
 rw[eval_ListComp]
 refine zX (use:=none) (R:=Q) c hcalm hi hgk (hb pins) hs I h fun p C H' s' m J f n q=>?_
 refine⟨m,n,fun h' hs'=>⟨.ref p,H',J.turned (t':=s'.toks) (it:=C) (fun b o hb e=>(hs'.2 b hb).trans e) f.1 f.2.1 f.2.2.2.1 f.2.2.2.2.1 f.2.2.2.2.2,rfl,q⟩⟩
theorem Hf{X:Cx}{elt target iter:Expr}{ifs:List Expr}{scope:Scope}{pos spos py:Pos}{y:Str}{j:Nat}{N' own:List Str}{fv:FV}{wi:TI}{g:TG}{tc:TT}{te:TE}
  (hN:X.N.Nodup) (hj:X.N[j]?=some y) (hy:Loc X.env.scope y) (hsw:swapsWith (.ListComp elt [⟨target,iter,ifs,0⟩] scope pos) (some (.Name y py)) spos.line X.env=pure true)
  (c:cj X.env.scope X.N scope N' own fv) (hcalm:X.calm=true) (hi:PI X target iter wi)
  (hgk:∀x σ H Q,g x σ H Q->g x σ H fun σ' H'=>(σ'.length=σ.length/\∀i,own.length<=i->σ'[i]?=σ[i]?)/\Q σ' H')
  (hb:∀pins cl s₁ H₁ fp,PG (vL X N' scope cl s₁ H₁ fp pins) target g/\Mf (vL X N' scope cl s₁ H₁ fp pins) ifs tc/\PE (vL X N' scope cl s₁ H₁ fp pins) elt te)
  (hs:∀x,foldedSetIterable iter X.env x=pure x:=by intro _;rfl) (hf:X.fn y=true\/X.env.scope.names.lookup y=some .local:=by first | exact .inl rfl | exact .inr rfl | assumption) :
  PS X (.Assign [.Name y py] (.ListComp elt [⟨target,iter,ifs,0⟩] scope pos) spos) (Zq (KR wi g tc te own fv) (ji j)):=by
 intro pins s σ H Dd I h
 rw[exec_Assign_Name_used _ _ _ _ hsw]
 refine wpAny_bind (wpAny_standAt (wpAny_bind ?_))
 show wpAny _ X.A (do let _ ←comprehension (.ListComp elt [⟨target,iter,ifs,0⟩] scope pos) scope X.env _ (newList []) false (eval iter X.env) (some (assign (.Name y py) X.env))) _ _ s
 refine wpAny_bind (wpAny_mono (zX (use:=some (assign (.Name y py) X.env)) (Q':=fun _ s'=>SP X pins Dd .next s') c hcalm hi hgk (hb pins) hs I h fun p C H' s' m J f n q=>?_) (fun _ s' hq=>wpAny_pure (wpAny_pure hq)) fun _ _ e=>e)
 show wpAny _ X.A (assign (.Name y py) X.env (.ref p)) _ _ s'
 refine wpAny_assign_Name (zQ J hN hj hy (v:=.ref p) rfl (fun s'' J' hs''=>?_) hf)
 obtain⟨a,sb,ha⟩:=hs''
 have hC:C≠a:=by
  rcases ha with z | z
  ·rw[z];exact f.2.1
  ·exact fun w=>f.2.2.2.2.1 _ _ z w.symm
 refine⟨m,n.sameBut sb hC,fun h' hs'=>⟨_,H',J'.turned (t':=s''.toks) (it:=C) (fun b o hb e=>(hs'.2 b hb).trans e) f.1 f.2.1 f.2.2.2.1 f.2.2.2.2.1 f.2.2.2.2.2,q⟩⟩
theorem G9{n:Nat}(h:n<=10000):n<sizeLine:=by rw[show sizeLine=16777216 by decide];omega
def Bb(wi:rA)(g:vG)(tc:qt)(te:aZ)(own:List Str)(fv:FV):aZ:=fun σ H Q=>wi σ H fun ds keep H1=>(∀H2:aC,aL H1 H2->keep H2)/\ds.length<=10000/\∃rs:List (Option D),rs.length=ds.length /\
 (∀ (i:Nat) (d:D),ds[i]? = some d→∀ H2:aC,aL H1 H2→g d (own.map (fun _ => none)++fv.map fun p => (σ[p.1]?).join) H2 fun σ2 H4 => tc σ2 H4 fun b H5 =>
  if b=true then te σ2 H5 fun v H6=>aL H2 H6/\rs[i]?=some (some v) else aL H2 H5/\rs[i]?=some none) /\
 ∀p,H1 p=none->Q (.ref p) (aK H1 p (.lst (rs.filterMap id)))
theorem Y7{K:PySem.W.Frag}{H:Hp}{σ3:bQ}{σ:St}{own:List Str}{fv:FV}(s:SR K H σ3 σ):SR K H (own.map (fun _=>none)++fv.map fun p=>(σ3[p.1]?).join) (blk own fv σ):=by
 refine⟨by simp[blk],fun i d h=>?_⟩
 have hi:¬i<own.length:=fun hi=>by
  rw[List.getElem?_append_left (by simpa using hi),List.getElem?_map] at h
  cases z:own[i]? with
  |none=>rw[z] at h;cases h
  |some y=>rw[z] at h;cases h
 rw[List.getElem?_append_right (by simpa using hi),List.length_map,List.getElem?_map] at h
 unfold blk
 rw[List.getElem?_append_right (by simpa using hi),List.length_map,List.getElem?_map]
 cases z:fv[i-own.length]? with
 |none=>rw[z] at h;cases h
 |some p=>
  rw[z] at h
  have h':(σ3[p.1]?).join=some d:=Option.some.inj h
  have e:σ3[p.1]?=some (some d):=by
   cases q:σ3[p.1]? with
   |none=>rw[q] at h';cases h'
   |some o=>rw[q] at h';rw[show o=some d from h']
  obtain⟨v,hv,rv⟩:=s.get _ _ e
  exact⟨v,by show some (σ[p.1]?).join=some (some v);rw[hv];rfl,rv⟩
theorem jk{rs:List (Option D)}{i:Nat}{o:Option D}(h:rs[i]?=some o):(rs.take (i+1)).filterMap id=(rs.take i).filterMap id++o.toList:=by
 rw[List.take_add_one,h,List.filterMap_append]
 cases o <;> rfl
theorem uG{K:PySem.W.Frag}{wi:rA}{g:vG}{g2:TG}{tc:qt}{te:aZ}{own:List Str}{fv:FV}{σ:St}{H:Hp}{Q:VK}(hgr:∀v σ H Q,JH K g v σ H Q->g2 v σ H Q)(h:fB K (Bb wi g tc te own fv) σ H Q):KR (Wt K wi) g2 (liftT K tc) (fB K te) own fv σ H Q:=by
 obtain⟨σ3,H3,Q3,sr,hr,t,k⟩:=h
 refine⟨σ3,H3,_,sr,hr,t,fun ds keep J H3' H' tk' hr' ok q p np=>?_⟩
 obtain⟨hkeep,hlen,rs,hrl,hel,hfin⟩:=q
 have U3:H3' p=none:=hr'.fresh np
 have hrs:∀i,((rs.take i).filterMap id).length<=i:=fun i=>Nat.le_trans (List.length_filterMap_le _ _) (by rw[List.length_take];grind)
 refine⟨fun i m H2=>m=ds.length-i/\i<=ds.length/\TK H' H2/\HR K (aK H3' p (.lst ((rs.take i).filterMap id))) H2,⟨ds.length,by simp,Nat.zero_le _,TK.fresh np,hr'.ye (TK.fresh np) (.nil)⟩,?_⟩
 rintro i m H2 ⟨rfl,hi,tk2,hr2⟩
 have sub2:aL H3' (aK H3' p (.lst ((rs.take i).filterMap id))):=aL.fresh U3
 obtain⟨go,stop⟩:=ok _ H2 tk2 hr2 (hkeep _ sub2)
 by_cases hlt:i<ds.length
 ·obtain⟨g1,g2⟩:=go i hlt
  refine .inr ⟨g1,fun x H2' y=>?_⟩
  obtain⟨tky,hry,d,ed,rd⟩:=g2 x H2' y
  replace tk2:=tk2.trans tky
  refine hgr _ _ _ _ ⟨d,_,_,_,rd,(Y7 sr).mono (tk'.trans tk2),hry,hel i d ed _ sub2,fun σ3a σa H3a Ha tka sra hra qa=>⟨σ3a,H3a,_,sra,hra,qa,fun b H3b Hb tkb hrb qb=>?_⟩⟩
  cases b with
  |true=>
   rw[if_pos rfl] at qb ⊢
   refine⟨σ3a,H3b,_,sra.mono tkb,hrb,qb,fun v u H3c Hc tkc hrc rv qc=>?_⟩
   obtain⟨sub,ers⟩:=qc
   obtain⟨acc,gacc,racc⟩:=hrc p _ (sub p _ aB)
   refine⟨acc,gacc,?_,ds.length-(i+1),by grind,rfl,hlt,((tk2.trans tka).trans (tkb.trans tkc)).trans (TK.lst gacc),?_⟩
   ·rw[←racc.length]
    exact G9 (Nat.le_trans (hrs i) (Nat.le_trans hi hlen))
   ·rw[jk ers,←pM]
    exact (hrc.sub sub).ye (TK.lst gacc) ((racc.snoc rv).mono (TK.lst gacc))
  |false=>
   rw[if_neg Bool.false_ne_true] at qb ⊢
   obtain⟨sub,ers⟩:=qb
   refine⟨ds.length-(i+1),by grind,rfl,hlt,(tk2.trans tka).trans tkb,?_⟩
   rw[jk ers]
   simp only[Option.toList,List.append_nil]
   exact hrb.sub sub
 ·have e:i=ds.length:=by grind
  subst e
  refine .inl ⟨stop,k _ _ _ _ (tk'.trans tk2) hr2 (.ref p) ?_⟩
  rw[List.take_of_length_le (by rw[hrl];exact Nat.le_refl _)]
  exact hfin p U3
def nG:qt:=fun _ H Q=>Q true H
def GP(X:Cx)(ifs:List Expr)(t:qt):Prop:=Mf X ifs (liftT X.K t)
theorem di{X:Cx}:GP X [] nG:=fun pins s σ H Q I h=>by
 obtain⟨σ3,H3,Q3,sr,hr,t,k⟩:=h
 exact Tf pins s σ H Q I (k _ _ _ TK.refl hr t)
theorem Tt{X:Cx}{c:Expr}{t:qt}(h:JT X c t):GP X [c] t:=RM h
theorem gr_name{K:PySem.W.Frag}{i:Nat}:∀v σ H Q,JH K (rR i) v σ H Q->ji i v σ H Q:=fun _ _ _ _ ⟨_,_,_,_,rd,sr,hr,t,k⟩=>k _ _ _ _ TK.refl (sr.set i rd) hr t
theorem Lr{n i:Nat}(hi:i<n):∀x σ H Q,ji i x σ H Q->ji i x σ H fun σ' H'=>(σ'.length=σ.length/\∀j,n<=j->σ'[j]?=σ[j]?)/\Q σ' H':=fun x σ H Q h=>
 ⟨⟨by simp,fun j hj=>List.getElem?_set_ne (by grind)⟩,h⟩
theorem VD{K:PySem.W.Frag}{i j:Nat}:∀v σ H Q,JH K (sI i j) v σ H Q->Rm K 2 (su (ji i) (su (ji j) RG)) v σ H Q:=fun v σ H Q ⟨d,σ3,H3,Q3,rd,sr,hr,t,k⟩=>by
 cases rd with
 |tup ha ra=>
  cases ra with
  |nil=>exact t.elim
  |cons r1 ra=>
   cases ra with
   |nil=>exact t.elim
   |cons r2 ra=>
    cases ra with
    |cons _ _=>exact t.elim
    |nil=>exact⟨_,_,rfl,iT.of ha,rfl,_,_,rfl,_,_,rfl,rfl,k _ _ _ _ TK.refl ((sr.set i r1).set j r2) hr t⟩
 |_=>exact t.elim
theorem Vz{K:PySem.W.Frag}{n i j:Nat}(hi:i<n)(hj:j<n):∀x σ H Q,Rm K 2 (su (ji i) (su (ji j) RG)) x σ H Q ->
  Rm K 2 (su (ji i) (su (ji j) RG)) x σ H fun σ' H'=>(σ'.length=σ.length/\∀l,n<=l->σ'[l]?=σ[l]?)/\Q σ' H':=fun x σ H Q h=>by
 obtain⟨a,xs,rfl,h1,h2,v,r,rfl,v',r',rfl,e,q⟩:=h
 refine⟨a,_,rfl,h1,h2,v,_,rfl,v',_,rfl,e,⟨by simp,fun l hl=>?_⟩,q⟩
 rw[List.getElem?_set_ne (by grind),List.getElem?_set_ne (by grind)]
section
variable{X:Cx}{elt iter:Expr}{ifs:List Expr}{scope:Scope}{pos px py pt spos:Pos}{x x' y:Str}{fv:FV}{wi:rA}{tc:qt}{te:aZ}{kk:Nat}
theorem fV(c:cj X.env.scope X.N scope (x::fv.map (·.2)) [x] fv)(hcalm:X.calm=true)(hi:Il X (.Name x px) iter wi)
  (hifs:∀pins cl s₁ H₁ fp,GP (vL X (x::fv.map (·.2)) scope cl s₁ H₁ fp pins) ifs tc) (helt:∀pins cl s₁ H₁ fp,cF (vL X (x::fv.map (·.2)) scope cl s₁ H₁ fp pins) elt te)
  (hx:(relabel scope X.env).names.lookup x=some .local:=by rfl) (hs:∀x,foldedSetIterable iter X.env x=pure x:=by intro _;rfl):cF X (.ListComp elt [⟨.Name x px,iter,ifs,0⟩] scope pos) (Bb wi (rR 0) tc te [x] fv) :=
 bM (Lg (g:=ji 0) (tc:=liftT X.K tc) (te:=fB X.K te) c hcalm hi (Lr (Nat.zero_lt_one)) (fun pins cl s₁ H₁ fp=>⟨mV c.nd rfl (.inl hx) (.inr hx),hifs pins cl s₁ H₁ fp,helt pins cl s₁ H₁ fp⟩) hs) fun _ _ _ h=>uG gr_name h
theorem xF(j:Nat)(hN:X.N.Nodup)(c:cj X.env.scope X.N scope (x::fv.map (·.2)) [x] fv)(hcalm:X.calm=true)(hi:Il X (.Name x px) iter wi)
  (hifs:∀pins cl s₁ H₁ fp,GP (vL X (x::fv.map (·.2)) scope cl s₁ H₁ fp pins) ifs tc) (helt:∀pins cl s₁ H₁ fp,cF (vL X (x::fv.map (·.2)) scope cl s₁ H₁ fp pins) elt te)
  (hj:X.N[j]?=some y:=by rfl) (hy:Loc X.env.scope y:=by first | exact Or.inl rfl | exact Or.inr rfl) (hsw:swapsWith (.ListComp elt [⟨.Name x px,iter,ifs,0⟩] scope pos) (some (.Name y py)) spos.line X.env=pure true:=by rfl)
  (hx:(relabel scope X.env).names.lookup x=some .local:=by rfl) (hs:∀x,foldedSetIterable iter X.env x=pure x:=by intro _;rfl) (hf:X.fn y=true\/X.env.scope.names.lookup y=some .local:=by first | exact .inl rfl | exact .inr rfl | assumption) :
  Ko X (.Assign [.Name y py] (.ListComp elt [⟨.Name x px,iter,ifs,0⟩] scope pos) spos) (st3 j (Bb wi (rR 0) tc te [x] fv)) :=
 jR (Hf (g:=ji 0) (tc:=liftT X.K tc) (te:=fB X.K te) hN hj hy hsw c hcalm hi (Lr (Nat.zero_lt_one)) (fun pins cl s₁ H₁ fp=>⟨mV c.nd rfl (.inl hx) (.inr hx),hifs pins cl s₁ H₁ fp,helt pins cl s₁ H₁ fp⟩) hs hf)
  fun _ _ _ zz=>zz.ex fun σ3 H3 D3 sr hr t k=>uG gr_name ⟨σ3,H3,_,sr,hr,t,fun x v H3a Ha tka hra rx qa=>k.nx _ _ _ _ tka ((sr.mono tka).set j rx) hra qa⟩
theorem Qf(c:cj X.env.scope X.N scope (x::x'::fv.map (·.2)) [x,x'] fv)(hcalm:X.calm=true)(hi:Il X (.Tuple [.Name x px,.Name x' py] kk pt) iter wi)
  (hifs:∀pins cl s₁ H₁ fp,GP (vL X (x::x'::fv.map (·.2)) scope cl s₁ H₁ fp pins) ifs tc) (helt:∀pins cl s₁ H₁ fp,cF (vL X (x::x'::fv.map (·.2)) scope cl s₁ H₁ fp pins) elt te)
  (hx:(relabel scope X.env).names.lookup x=some .local:=by rfl) (hx':(relabel scope X.env).names.lookup x'=some .local:=by rfl) (hs:∀x,foldedSetIterable iter X.env x=pure x:=by intro _;rfl) :
  cF X (.ListComp elt [⟨.Tuple [.Name x px,.Name x' py] kk pt,iter,ifs,0⟩] scope pos) (Bb wi (sI 0 1) tc te [x,x'] fv) :=
 bM (Lg (g:=Rm X.K 2 (su (ji 0) (su (ji 1) RG))) (tc:=liftT X.K tc) (te:=fB X.K te) c hcalm hi (Vz (show 0<2 by decide) (show 1<2 by decide))
  (fun pins cl s₁ H₁ fp=>⟨Te (n:=2) hcalm (tE (mV c.nd rfl (.inl hx) (.inr hx)) (tE (mV c.nd rfl (.inl hx') (.inr hx')) Lw)),hifs pins cl s₁ H₁ fp,helt pins cl s₁ H₁ fp⟩) hs) fun _ _ _ h=>uG VD h
end
end L3
namespace L3
open PySem L2
def fJ:R3:=zf fun i j=>.int (i-j)
def abP:R3:=V1 TJ fun i j=>.int (i*j)
def abH:R3:=V1 abl fun i j=>.int (i / j)
def jL:R3:=V1 (fun _ j=>0<j) fun i j=>.int (i%j)
def Av:R3:=V1 V0 fun i j=>.int (i ^ j.toNat)
def Nu:R3:=zf fun i j=>.bl (decide (i<=j))
def Wi:R3:=zf fun i j=>.bl (decide (j<i))
def aaT:R3:=zf fun i j=>.bl (decide (j<=i))
theorem iD:∀ns:List Int,intsOf (ns.map D.int)=some ns
 |[]=>rfl
 |n::ns=>by simp only[List.map_cons,intsOf,iD ns,Option.map_some]
def jx:List Int->Int
 |[]=>0
 |[x]=>x
 |x::y::r=>min x (jx (y::r))
def kZ:List Int->Int
 |[]=>0
 |[x]=>x
 |x::y::r=>max x (kZ (y::r))
theorem oR:∀ {ns:List Int} {a:Int},a∈ns->jx ns<=a
 |[x],a,h=>by simp at h;subst h;exact Int.le_refl _
 |x::y::r,a,h=>by
  rcases List.mem_cons.mp h with rfl | h
  ·exact Int.min_le_left _ _
  ·exact Int.le_trans (Int.min_le_right _ _) (oR (ns:=y::r) h)
theorem vg:∀ {ns:List Int},ns≠[]->jx ns∈ns
 |[x],_=>List.mem_cons_self
 |x::y::r,_=>by
  have ih:=vg (ns:=y::r) (by simp)
  have e:jx (x::y::r)=min x (jx (y::r)):=rfl
  rw[e]
  rcases Int.le_total x (jx (y::r)) with h | h
  ·rw[Int.min_eq_left h];exact List.mem_cons_self
  ·rw[Int.min_eq_right h];exact List.mem_cons_of_mem _ ih
theorem yd:∀ {ns:List Int} {a:Int},a∈ns->a<=kZ ns
 |[x],a,h=>by simp at h;subst h;exact Int.le_refl _
 |x::y::r,a,h=>by
  rcases List.mem_cons.mp h with rfl | h
  ·exact Int.le_max_left _ _
  ·exact Int.le_trans (yd (ns:=y::r) h) (Int.le_max_right _ _)
theorem mK:∀ {ns:List Int},ns≠[]->kZ ns∈ns
 |[x],_=>List.mem_cons_self
 |x::y::r,_=>by
  have ih:=mK (ns:=y::r) (by simp)
  have e:kZ (x::y::r)=max x (kZ (y::r)):=rfl
  rw[e]
  rcases Int.le_total x (kZ (y::r)) with h | h
  ·rw[Int.max_eq_right h];exact List.mem_cons_of_mem _ ih
  ·rw[Int.max_eq_left h];exact List.mem_cons_self
def Ou(f:List Int->Int):List D->aC->aM->Prop:=fun ds H Q=>match ds with
 | [.ref a] => (match H a with
  | some (.lst xs) => (match intsOf xs with
   |some ns=>ns≠[]/\Q (.int (f ns)) H
   |none=>False)
  |_=>False)
 |_=>False
abbrev yC:List D->aC->aM->Prop:=Ou jx
abbrev Eo:List D->aC->aM->Prop:=Ou kZ
abbrev Pt:=Int×Int
def bN(p:Pt):D:=.tup [.int p.1,.int p.2]
def qD:List D->Option (List Pt)
 |[]=>some []
 |.tup [.int x,.int y]::ds=>(qD ds).map ((x,y)::·)
 |_::_=>none
theorem mj:∀ps:List Pt,qD (ps.map bN)=some ps
 |[]=>rfl
 |p::ps=>by simp only[List.map_cons,bN,qD];rw[mj ps];rfl
theorem pK:∀ {ds:List D} {ps:List Pt},qD ds=some ps->ds=ps.map bN:=by
 intro ds
 induction ds with
 |nil=>intro ps h;simp only[qD,Option.some.injEq] at h;subst h;rfl
 |cons d ds ih=>
  intro ps h
  unfold qD at h
  split at h
  ·rename_i a;cases a
  ·rename_i x y r heq
   cases heq
   simp only[Option.map_eq_some_iff] at h
   obtain⟨qs,h1,h2⟩:=h
   subst h2
   rw[ih h1];rfl
  ·cases h
def wB(c r:Pt):Bool:=HT.lexLt [r.2,r.1] [c.2,c.1]
def HB(row:List Pt)(c:Pt):List Pt:=row.takeWhile (wB c)++c::row.dropWhile (wB c)
def cD(ps:List Pt):List Pt:=ps.foldl HB []
theorem CV(c r:Pt):wB c r=true↔r.2<c.2\/(r.2=c.2/\r.1<c.1):=by
 unfold wB HT.lexLt
 by_cases h:r.2=c.2
 ·rw[if_pos h]
  unfold HT.lexLt
  by_cases h2:r.1=c.1
  ·rw[if_pos h2];unfold HT.lexLt;simp[h,h2]
  ·rw[if_neg h2];simp[h]
 ·rw[if_neg h]
  simp[h]
theorem jG(c r:Pt):wB c r=false↔c.2<r.2\/(c.2=r.2/\c.1<=r.1):=by
 rw[←Bool.not_eq_true,CV]
 omega
theorem Oa(row:List Pt)(c:Pt):(HB row c).Perm (c::row):=by
 unfold HB
 have e:=List.takeWhile_append_dropWhile (p:=wB c) (l:=row)
 have h:(row.takeWhile (wB c)++c::row.dropWhile (wB c)).Perm (c::(row.takeWhile (wB c)++row.dropWhile (wB c))):=List.perm_middle
 rw[e] at h
 exact h
theorem oX:∀(ps row:List Pt),(ps.foldl HB row).Perm (row++ps)
 |[],row=>by simp
 |p::ps,row=>by
  rw[List.foldl_cons]
  refine (oX ps _).trans ?_
  refine ((Oa row p).append_right ps).trans ?_
  rw[List.cons_append]
  exact List.perm_middle.symm
theorem ie(ps:List Pt):(cD ps).Perm ps:=by
 have:=oX ps []
 simpa [cD] using this
theorem uz(ps:List Pt):(cD ps).length=ps.length:=(ie ps).length_eq
def wg(a b:Pt):Prop:=wB a b=false
theorem Ob{a b c:Pt}(h1:wg a b)(h2:wg b c):wg a c:=by
 unfold wg at *
 rw[jG] at *
 grind
theorem Ho{c r:Pt}(h:wB c r=true):wg r c:=by
 unfold wg
 rw[CV] at h
 rw[jG]
 grind
theorem Cd{a b:Pt}(h1:wg a b)(h2:wg b a):a=b:=by
 unfold wg at *
 rw[jG] at *
 exact Prod.ext (by grind) (by grind)
theorem Fp{row:List Pt}{c:Pt}(h:row.Pairwise wg):(HB row c).Pairwise wg:=by
 unfold HB
 have e:=List.takeWhile_append_dropWhile (p:=wB c) (l:=row)
 have ht:∀r∈row.takeWhile (wB c),wB c r=true:=fun r hr=>by
  have:=List.all_takeWhile (p:=wB c) (l:=row)
  rw[List.all_eq_true] at this
  exact this r hr
 have hd:∀r∈row.dropWhile (wB c),wg c r:=by
  have hs:(row.dropWhile (wB c)).Pairwise wg:=by rw[←e] at h;exact (List.pairwise_append.mp h).2.1
  cases hq:row.dropWhile (wB c) with
  |nil=>intro r hr;cases hr
  |cons x xs=>
   have hx:wB c x=false:=by
    have:=List.head?_dropWhile_not (wB c) row
    rw[hq] at this
    simpa using this
   rw[hq] at hs
   intro r hr
   rcases List.mem_cons.mp hr with rfl | hr
   ·exact hx
   ·exact Ob hx ((List.pairwise_cons.mp hs).1 r hr)
 rw[←e] at h
 obtain⟨h1,h2,h3⟩:=List.pairwise_append.mp h
 refine List.pairwise_append.mpr ⟨h1,List.pairwise_cons.mpr ⟨hd,h2⟩,fun a ha b hb=>?_⟩
 rcases List.mem_cons.mp hb with rfl | hb
 ·exact Ho (ht a ha)
 ·exact h3 a ha b hb
theorem lY:∀(ps row:List Pt),row.Pairwise wg->(ps.foldl HB row).Pairwise wg
 |[],_,h=>h
 |_::ps,_,h=>lY ps _ (Fp h)
theorem mZ(ps:List Pt):(cD ps).Pairwise wg:=lY ps [] List.Pairwise.nil
theorem yU{as bs:List Pt}(hp:as.Perm bs)(ha:as.Pairwise wg)(hb:bs.Pairwise wg):as=bs:=hp.eq_of_pairwise (fun _ _ _ _ h1 h2=>Cd h1 h2) ha hb
theorem wX{as ps:List Pt}(hp:as.Perm ps)(ha:as.Pairwise wg):cD ps=as:=yU ((ie ps).trans hp.symm) (mZ ps) ha
def zc(M:Int)(c:Pt):Int:=c.2*(2*M+1)+c.1
theorem WW{M:Int}{c r:Pt}(hc : -M<=c.1/\c.1<=M)(hr : -M<=r.1/\r.1<=M):wB c r=decide (zc M r<zc M c):=by
 have hB:0<2*M+1:=by grind
 rw[Bool.eq_iff_iff,CV,decide_eq_true_iff]
 unfold zc
 constructor
 ·rintro (h | ⟨h1,h2⟩)
  ·have:=Int.mul_le_mul_of_nonneg_right (show r.2+1<=c.2 by grind) (Int.le_of_lt hB)
   rw[Int.add_mul,Int.one_mul] at this
   grind
  ·rw[h1];grind
 ·intro h
  by_cases h1:r.2<c.2
  ·exact .inl h1
  ·by_cases h2:r.2=c.2
   ·rw[h2] at h;exact .inr ⟨h2,by grind⟩
   ·exfalso
    have:=Int.mul_le_mul_of_nonneg_right (show c.2+1<=r.2 by grind) (Int.le_of_lt hB)
    rw[Int.add_mul,Int.one_mul] at this
    grind
theorem sJ:∀ps:List Pt,∃M:Int,0<=M/\∀c∈ps,-M<=c.1/\c.1<=M
 |[]=>⟨0,by grind,fun _ h=>nomatch h⟩
 |p::ps=>by
  obtain⟨M,h0,h⟩:=sJ ps
  refine⟨M+p.1.natAbs,by grind,fun c hc=>?_⟩
  rcases List.mem_cons.mp hc with rfl | hc
  ·grind
  ·have:=h c hc;grind
def Le(sp:gA):Prop:=∀(c:Pt) (H3:aC) (Q3:aM),Q3 (.tup [.int c.2,.int c.1]) H3->sp [bN c] H3 Q3
def sok(sp:gA)(x:D)(H1:aC)(Q:aM):Prop:=match x with
 | .ref a => (match H1 a with
  | some (.lst ds) => (match qD ds with
   |some ps=>Le sp/\ps.length<64/\∀p,H1 p=none->Q (.ref p) (aK H1 p (.lst ((cD ps).map bN)))
   |none=>False)
  |_=>False)
 |_=>False
def so3(sp:gA)(te:aZ):aZ:=fun σ H Q=>te σ H fun x H1=>sok sp x H1 Q
end L3
namespace L3
open PySem PySem.Spec PyProof.Rows L2
section
variable{X:Cx}
theorem Lk:∀ {ns:List Int} {a:Int},a∈ns->jx ns<=a
 |[x],a,h=>by simp at h;subst h;exact Int.le_refl _
 |x::y::r,a,h=>by
  rcases List.mem_cons.mp h with rfl | h
  ·exact Int.min_le_left _ _
  ·exact Int.le_trans (Int.min_le_right _ _) (Lk (ns:=y::r) h)
theorem Ek:∀ {ns:List Int},ns≠[]->jx ns∈ns
 |[x],_=>List.mem_cons_self
 |x::y::r,_=>by
  have ih:=Ek (ns:=y::r) (by simp)
  have e:jx (x::y::r)=min x (jx (y::r)):=rfl
  rw[e]
  rcases Int.le_total x (jx (y::r)) with h | h
  ·rw[Int.min_eq_left h];exact List.mem_cons_self
  ·rw[Int.min_eq_right h];exact List.mem_cons_of_mem _ ih
theorem JV:∀ {ns:List Int} {a:Int},a∈ns->a<=kZ ns
 |[x],a,h=>by simp at h;subst h;exact Int.le_refl _
 |x::y::r,a,h=>by
  rcases List.mem_cons.mp h with rfl | h
  ·exact Int.le_max_left _ _
  ·exact Int.le_trans (JV (ns:=y::r) h) (Int.le_max_right _ _)
theorem FQ:∀ {ns:List Int},ns≠[]->kZ ns∈ns
 |[x],_=>List.mem_cons_self
 |x::y::r,_=>by
  have ih:=FQ (ns:=y::r) (by simp)
  have e:kZ (x::y::r)=max x (kZ (y::r)):=rfl
  rw[e]
  rcases Int.le_total x (kZ (y::r)) with h | h
  ·rw[Int.max_eq_right h];exact List.mem_cons_of_mem _ ih
  ·rw[Int.max_eq_left h];exact List.mem_cons_self
theorem Ow(hc:X.calm=true):dZ X (.builtin "min") (fun xs H Q=>∃a ns,xs=[.ref a]/\jm X.K H a (ns.map V.int)/\ns≠[]/\Q (.int (jx ns)) H):=by
 intro pins s σ H xs us Q I r h
 obtain⟨a,ns,rfl,hq,hne,q⟩:=h
 obtain⟨u,rfl,ru⟩:=vals1 r
 cases ru
 obtain⟨its,rv,pl,_⟩:=I.list hq
 have hi:=intsAre_of rv
 obtain⟨zs,e⟩:=hi.allInts.items
 have hns:zs.toList.map (·.1)=ns:=by rw[←nums_intItems,←e];exact hi.numsOf
 have hpos:0<zs.size:=Nat.pos_of_ne_zero fun z=>hne (by rw[←hns,Array.eq_empty_of_size_eq_zero z];rfl)
 have hl:=pl.isList
 rw[e] at hl
 refine min_intList (I.ok.hd hc) hl hpos fun v h' tk hv hk=>?_
 obtain⟨t,rfl⟩:=intItems_at hv
 obtain⟨h1,h2⟩:=argBest_lt (numAt zs) (zs.size-1)
 have hm:numAt zs (argBest (fun i j=>decide (numAt zs i<numAt zs j)) (zs.size-1))=jx ns:=by
  refine Int.le_antisymm ?_ (Lk ?_)
  ·obtain⟨j,hj,ej⟩:=mem_getD (Ek hne)
   rw[←hns,List.length_map,Array.length_toList] at hj
   have:=h2 j (by omega)
   rw[numAt_eq zs j,hns,ej] at this
   exact this
  ·rw[numAt_eq,hns]
   exact getD_mem (by rw[←hns,List.length_map,Array.length_toList];omega)
 exact⟨.int (jx ns),H,I.kept hk,⟨t,by rw[hm]⟩,q⟩
theorem MT(hc:X.calm=true):dZ X (.builtin "max") (fun xs H Q=>∃a ns,xs=[.ref a]/\jm X.K H a (ns.map V.int)/\ns≠[]/\Q (.int (kZ ns)) H):=by
 intro pins s σ H xs us Q I r h
 obtain⟨a,ns,rfl,hq,hne,q⟩:=h
 obtain⟨u,rfl,ru⟩:=vals1 r
 cases ru
 obtain⟨its,rv,pl,_⟩:=I.list hq
 have hi:=intsAre_of rv
 obtain⟨zs,e⟩:=hi.allInts.items
 have hns:zs.toList.map (·.1)=ns:=by rw[←nums_intItems,←e];exact hi.numsOf
 have hpos:0<zs.size:=Nat.pos_of_ne_zero fun z=>hne (by rw[←hns,Array.eq_empty_of_size_eq_zero z];rfl)
 have hl:=pl.isList
 rw[e] at hl
 refine max_intList (I.ok.hd hc) hl hpos fun v h' tk hv hk=>?_
 obtain⟨t,rfl⟩:=intItems_at hv
 obtain⟨h1,h2⟩:=argBest_gt (numAt zs) (zs.size-1)
 have hm:numAt zs (argBest (fun i j=>decide (numAt zs i>numAt zs j)) (zs.size-1))=kZ ns:=by
  refine Int.le_antisymm (JV ?_) ?_
  ·rw[numAt_eq,hns]
   exact getD_mem (by rw[←hns,List.length_map,Array.length_toList];omega)
  ·obtain⟨j,hj,ej⟩:=mem_getD (FQ hne)
   rw[←hns,List.length_map,Array.length_toList] at hj
   have:=h2 j (by omega)
   rw[numAt_eq zs j,hns,ej] at this
   exact this
 exact⟨.int (kZ ns),H,I.kept hk,⟨t,by rw[hm]⟩,q⟩
theorem Lx{id:String}{f:List Int->Int}(h:dZ X (.builtin id) (fun xs H Q=>∃a ns,xs=[.ref a]/\jm X.K H a (ns.map V.int)/\ns≠[]/\Q (.int (f ns)) H)):dZ X (.builtin id) (jY X.K (Ou f)):=by
 intro pins s σ H xs us Q I rs t
 obtain⟨ds,H3,Q3,hr,rd,t,k⟩:=t
 cases rd with
 |nil=>exact t.elim
 |cons r1 r2=>
  cases r2 with
  |cons _ _=>cases r1 <;> exact t.elim
  |nil=>
   cases r1 with
   |ref a=>
    (delta Ou at t;dsimp only at t)
    split at t
    ·rename_i ds ha
     split at t
     ·rename_i ns e
      obtain⟨vs,ga,ra⟩:=hr a _ ha
      have z:=fW e
      subst z
      have z:=ra.nW
      subst z
      exact h pins s σ H _ us Q I rs ⟨a,ns,rfl,jm.of ga,t.1,k _ _ _ _ TK.refl hr (.int _) t.2⟩
     ·exact t.elim
    ·exact t.elim
   |_=>exact t.elim
theorem wK(hc:X.calm=true):dZ X (.builtin "min") (jY X.K yC):=Lx (Ow hc)
theorem JS(hc:X.calm=true):dZ X (.builtin "max") (jY X.K Eo):=Lx (MT hc)
end
end L3
namespace L3
open PySem L2
theorem cL:sizeLine=16777216:=by decide
theorem xN{n:Nat}(h:n<=1000):n<sizeLine:=by rw[cL];omega
theorem aX{H:aC}{a p:Addr}{o u:O3}(h:H a=some o)(n:H p=none):aK H p u a=some o:=by rw[bc (ne3 h n)];exact h
theorem Kr{H H2:aC}{p:Addr}{o:O3}(s:aL H H2)(h:H2 p=some o):aL (aK H p o) H2:=fun b u e=>by
 by_cases hb:b=p
 ·subst hb;rw[aB] at e;cases e;exact h
 ·rw[bc hb] at e;exact s b u e
theorem eG{H H2:aC}{p:Addr}(s:aL H H2)(h:H2 p=none):H p=none:=by
 cases e:H p with
 |none=>rfl
 |some o=>have:=s p o e;rw[h] at this;cases this
section
variable{σ:bQ}{H:aC}{Q:aM}{D0:dj}{i j:Int}{a b:Addr}{d x y:D}{ds es:List D}{ta tb te tc:aZ}{tr:lN}{t u:cO}{cA cB:qt}{QL:List D->aC->Prop}{QB:Bool->aC->Prop}
theorem ZD{k:Nat}(h:σ[k]?=some (some d))(q:Q d H):v3 k σ H Q:=by unfold v3;rw[h];exact q
theorem aad(q:Q d H):c3 d σ H Q:=q
theorem Yo{r:R3}(h:ta σ H fun x H1=>tb σ H1 fun y H2=>r x y H2 Q):o3 r ta tb σ H Q:=h
theorem adx{r:D->aC->aM->Prop}(h:ta σ H fun x H1=>r x H1 Q):u3 r ta σ H Q:=h
theorem ab1(q:Q (.int (-i)) H):jU (.int i) H Q:=q
theorem aaD(q:Q (.int (i-j)) H):fJ (.int i) (.int j) H Q:=q
theorem abO(q:Q (.int (i+j)) H):cu (.int i) (.int j) H Q:=q
theorem aeq(c:TJ i j)(q:Q (.int (i*j)) H):abP (.int i) (.int j) H Q:=⟨c,q⟩
theorem aeh(c:abl i j)(q:Q (.int (i / j)) H):abH (.int i) (.int j) H Q:=⟨c,q⟩
theorem Xa(c:0<j)(q:Q (.int (i%j)) H):jL (.int i) (.int j) H Q:=⟨c,q⟩
theorem aaq(c:V0 i j)(q:Q (.int (i ^ j.toNat)) H):Av (.int i) (.int j) H Q:=⟨c,q⟩
theorem adm(q:Q (.bl (decide (i<=j))) H):Nu (.int i) (.int j) H Q:=q
theorem ad8(q:Q (.bl (decide (j<i))) H):Wi (.int i) (.int j) H Q:=q
theorem adb(q:Q (.bl (decide (j<=i))) H):aaT (.int i) (.int j) H Q:=q
theorem adS(q:Q (.bl (decide (i<j))) H):Jf (.int i) (.int j) H Q:=q
theorem aeP{x1 x2 y1 y2:Int}(q:Q (.bl (HT.lexLt [x1,x2] [y1,y2])) H):Jf (.tup [.int x1,.int x2]) (.tup [.int y1,.int y2]) H Q:=q
theorem Wx(i:Int):rF 4 (.int i)=some (.int i):=rfl
theorem abL(b:Bool):rF 4 (.bl b)=some (.bool b):=rfl
theorem WK(x y:Int):rF 5 (.tup [.int x,.int y])=some (.tuple [.int x,.int y]):=rfl
theorem abN(q:Q (.bl (decide (i=j))) H):fL (.int i) (.int j) H Q:=by
 have e:(i==j)=decide (i=j):=rfl
 (delta fL Iz;simp only[Wx,PyData.eqv,e]);exact q
theorem abw(q:Q (.bl (!decide (i=j))) H):vd (.int i) (.int j) H Q:=by
 have e:(i==j)=decide (i=j):=rfl
 (delta vd Iz;simp only[Wx,PyData.eqv,e]);exact q
theorem abI{x1 x2 y1 y2:Int}(q:Q (.bl (decide ((x1,x2)=(y1,y2)))) H):fL (.tup [.int x1,.int x2]) (.tup [.int y1,.int y2]) H Q:=by
 have e:(PyData.eqvAll [.int x1,.int x2] [.int y1,.int y2])=decide ((x1,x2)=(y1,y2)):=by
  simp only[PyData.eqvAll,PyData.eqv,Bool.and_true,Prod.mk.injEq,Bool.decide_and];rfl
 (delta fL Iz;simp only[WK,PyData.eqv,e]);exact q
theorem ab0{x1 x2 y1 y2:Int}(q:Q (.bl (!decide ((x1,x2)=(y1,y2)))) H):vd (.tup [.int x1,.int x2]) (.tup [.int y1,.int y2]) H Q:=by
 have e:(PyData.eqvAll [.int x1,.int x2] [.int y1,.int y2])=decide ((x1,x2)=(y1,y2)):=by
  simp only[PyData.eqvAll,PyData.eqv,Bool.and_true,Prod.mk.injEq,Bool.decide_and];rfl
 (delta vd Iz;simp only[WK,PyData.eqv,e]);exact q
theorem aez(q:Q (.bl (isN x)) H):aaK x .non H Q:=q
theorem adY(q:Q (.bl (!isN x)) H):Y4 x .non H Q:=q
theorem Kf(h:pU ds i=some d)(q:Q d H):bB (.tup ds) (.int i) H Q:=by (delta bB;simp only[h]);exact q
theorem W6(h:pU ds i=some d)(q:Q d H):bB (.fl ds) (.int i) H Q:=by (delta bB;simp only[h]);exact q
theorem mH(ha:H a=some (.lst ds))(h:pU ds i=some d)(q:Q d H):bB (.ref a) (.int i) H Q:=by (delta bB;simp only[ha,h]);exact q
theorem acB(h:te σ H fun d H1=>bt d H1 QB):lJ te σ H QB:=h
theorem acS{k:Bool}(q:QB k H):bt (.bl k) H QB:=q
theorem acU(h:cA σ H fun c H1=>if c=true then cB σ H1 QB else QB false H1):an3 cA cB σ H QB:=h
theorem adZ(h:cA σ H fun c H1=>if c=true then QB true H1 else cB σ H1 QB):or3 cA cB σ H QB:=h
theorem acT(h:cA σ H fun c H1=>QB (!c) H1):Yu cA σ H QB:=h
def avk(tb:aZ)(σ:bQ)(x:D)(H1:aC)(Q:aM):Prop:=match x with
 |.bl c=>if c=true then tb σ H1 Q else Q (.bl false) H1
 |_=>False
def ovk(tb:aZ)(σ:bQ)(x:D)(H1:aC)(Q:aM):Prop:=match x with
 |.bl c=>if c=true then Q (.bl true) H1 else tb σ H1 Q
 |_=>False
def nvk(x:D)(H1:aC)(Q:aM):Prop:=match x with
 |.bl c=>Q (.bl (!c)) H1
 |_=>False
theorem ad7(h:ta σ H fun x H1=>avk tb σ x H1 Q):av3 ta tb σ H Q:=h
theorem abi{c:Bool}(h:if c=true then tb σ H Q else Q (.bl false) H):avk tb σ (.bl c) H Q:=h
theorem ae7(h:ta σ H fun x H1=>ovk tb σ x H1 Q):ov3 ta tb σ H Q:=h
theorem aeo{c:Bool}(h:if c=true then Q (.bl true) H else tb σ H Q):ovk tb σ (.bl c) H Q:=h
theorem aef(h:ta σ H fun x H1=>nvk x H1 Q):nv3 ta σ H Q:=h
theorem aaW{c:Bool}(q:Q (.bl (!c)) H):nvk (.bl c) H Q:=q
theorem aeu(h:cA σ H fun c H1=>if c=true then ta σ H1 Q else tb σ H1 Q):if3 cA ta tb σ H Q:=h
theorem Xj(q:QL [] H):aG σ H QL:=q
theorem I9(h:ta σ H fun x H1=>tr σ H1 fun xs H2=>QL (x::xs) H2):aq ta tr σ H QL:=h
theorem aaQ(h:tr σ H fun ds H1=>ds.length<=1000/\Q (.tup ds) H1):iY tr σ H Q:=h
theorem adX(h:tr σ H fun ds H1=>ds.length<=1000/\∀p,H1 p=none->Q (.ref p) (aK H1 p (.lst ds))):Og tr σ H Q:=h
theorem aaz{q:Prop}{n:Nat}(h:Nat.ble ds.length n=true)(h2:q):ds.length<=n/\q:=⟨Nat.le_of_ble_eq_true h,h2⟩
theorem acp{r:List D->aC->aM->Prop}(h:tr σ H fun ds H1=>r ds H1 Q):dC r tr σ H Q:=h
theorem ZJ(q:Q (.int ds.length) H):g8 [.tup ds] H Q:=q
theorem Yi(q:Q (.int ds.length) H):g8 [.fl ds] H Q:=q
theorem Yb(ha:H a=some (.lst ds))(q:Q (.int ds.length) H):g8 [.ref a] H Q:=by (delta g8;simp only[ha]);exact q
theorem ack(q:Q (.tup ds) H):jq [.tup ds] H Q:=q
theorem YW(ha:H a=some (.lst ds))(q:Q (.tup ds) H):jq [.ref a] H Q:=by (delta jq;simp only[ha]);exact q
theorem ab8(q:∀p,H p=none->Q (.ref p) (aK H p (.lst ds))):Ib [.tup ds] H Q:=q
theorem ab6(ha:H a=some (.lst ds))(q:∀p,H p=none->Q (.ref p) (aK H p (.lst ds))):Ib [.ref a] H Q:=by (delta Ib;simp only[ha]);exact q
theorem ac4{tl th:W7}{r:RSl}(h:te σ H fun x H1=>tl σ H1 fun l H2=>th σ H2 fun u H3=>r x l u H3 Q):sl3 r te tl th σ H Q:=h
theorem adz{QO:Option Int->aC->Prop}(q:QO none H):U3 σ H QO:=q
def ptk(x:D)(H1:aC)(QO:Option Int->aC->Prop):Prop:=match x with
 |.int i=>QO (some i) H1
 |_=>False
theorem ad4{QO:Option Int->aC->Prop}(h:te σ H fun x H1=>ptk x H1 QO):pt3 te σ H QO:=h
theorem abQ{QO:Option Int->aC->Prop}(q:QO (some i) H):ptk (.int i) H QO:=q
theorem aeB{lo hi:Option Int}(q:∀p,H p=none->Q (.ref p) (aK H p (.lst (p8 ds lo hi)))):Et (.fl ds) lo hi H Q:=q
theorem aba{lo hi:Option Int}(ha:H a=some (.lst ds))(q:∀p,H p=none->Q (.ref p) (aK H p (.lst (p8 ds lo hi)))):Et (.ref a) lo hi H Q:=by (delta Et;simp only[ha]);exact q
theorem adA(h:t { D0 with nx:=u D0 } σ H):cR t u D0 σ H:=h
theorem adu{k:Nat}(h:te σ H fun x H1=>D0.nx (σ.set k (some x)) H1):st3 k te D0 σ H:=h
theorem aby(h:D0.nx σ H):rM D0 σ H:=h
theorem abz(h:D0.bk σ H):br3 D0 σ H:=h
theorem aeR(h:D0.ct σ H):co3 D0 σ H:=h
theorem acZ(h:te σ H fun _ H1=>D0.nx σ H1):T4 te D0 σ H:=h
theorem aam(h:te σ H fun d H1=>D0.rt d H1):kO te D0 σ H:=h
theorem aey(h:D0.rt .non H):rn3 D0 σ H:=h
theorem acw(h:cA σ H fun b H1=>if b=true then t D0 σ H1 else u D0 σ H1):qR cA t u D0 σ H:=h
theorem adT{g:vG}(h:te σ H fun x H1=>g x σ H1 D0.nx):Ww te g D0 σ H:=h
theorem acC{k:Nat}{R:bQ->aC->Prop}(h:R (σ.set k (some d)) H):rR k d σ H R:=h
theorem acV{k l:Nat}{R:bQ->aC->Prop}(h:R ((σ.set k (some x)).set l (some y)) H):sI k l (.tup [x,y]) σ H R:=h
theorem ae4{k l m:Nat}{z:D}{R:bQ->aC->Prop}(h:R (((σ.set k (some x)).set l (some y)).set m (some z)) H):ac0 k l m (.tup [x,y,z]) σ H R:=h
theorem ad0{n:bQ->aC->Prop}{r:aM}{bk ct:bQ->aC->Prop}(h:n σ H):dj.nx ⟨n,r,bk,ct⟩ σ H:=h
theorem ae9{n:bQ->aC->Prop}{r:aM}{bk ct:bQ->aC->Prop}(h:r d H):dj.rt ⟨n,r,bk,ct⟩ d H:=h
theorem adR{n:bQ->aC->Prop}{r:aM}{bk ct:bQ->aC->Prop}(h:bk σ H):dj.bk ⟨n,r,bk,ct⟩ σ H:=h
theorem ae5{n:bQ->aC->Prop}{r:aM}{bk ct:bQ->aC->Prop}(h:ct σ H):dj.ct ⟨n,r,bk,ct⟩ σ H:=h
theorem bI{H':aC}(h:Q d H')(s:aL H' H):dj.rt (dJ Q) d H:=⟨H',s,h⟩
theorem R5{H':aC}(h:Q .non H')(s:aL H' H):dj.nx (dJ Q) σ H:=⟨H',s,h⟩
def Lp(g:vG)(tb:cO)(D0:dj)(σ:bQ)(ds:List D)(keep:aC->Prop)(H1:aC):Prop:=∃P:Nat->bQ->aC->Prop,P 0 σ H1/\(∀i σ H,i<=ds.length->P i σ H->keep H) /\
 (∀i d σ H,ds[i]?=some d->P i σ H->g d σ H fun σ2 H2=>tb { D0 with nx:=P (i+1),ct:=P (i+1),bk:=D0.nx } σ2 H2)/\∀σ H,P ds.length σ H->D0.nx σ H
theorem ac3{wi:rA}{g:vG}(h:wi σ H fun ds keep H1=>Lp g t D0 σ ds keep H1):G4 wi g t D0 σ H:=h
theorem Lp.by{g:vG}{keep:aC->Prop}(P:Nat->bQ->aC->Prop)(h0:P 0 σ H)(hk:∀i σ H,i<=ds.length->P i σ H->keep H)
  (turn:∀i d σ H,ds[i]?=some d->P i σ H->g d σ H fun σ2 H2=>t { D0 with nx:=P (i+1),ct:=P (i+1),bk:=D0.nx } σ2 H2) (fin:∀σ H,P ds.length σ H->D0.nx σ H):Lp g t D0 σ ds keep H:=⟨P,h0,hk,turn,fin⟩
theorem Lp.rO{g:vG}{lo:Int}{n:Nat}(P:Nat->bQ->aC->Prop)(h0:P 0 σ H)
  (turn:∀(i:Nat) σ H,i<n->P i σ H->g (.int (lo+(i:Int))) σ H fun σ2 H2=>t { D0 with nx:=P (i+1),ct:=P (i+1),bk:=D0.nx } σ2 H2) (fin:∀σ H,P n σ H->D0.nx σ H):Lp g t D0 σ (rO lo n) (fun _=>True) H :=
 ⟨P,h0,fun _ _ _ _ _=>trivial,fun i d σ H hd p=>by
  have hi:i<n:=by
   have:=(List.getElem?_eq_some_iff.mp hd).1
   rwa [sO] at this
  rw[Bw hi] at hd
  cases hd
  exact turn i σ H hi p,fun σ H p=>fin σ H (by rw[sO] at p;exact p)⟩
theorem aaN{R:List D->(aC->Prop)->aC->Prop}(h:ta σ H fun x H1=>rg1 x H1 R):ir1 ta σ H R:=h
theorem abf{R:List D->(aC->Prop)->aC->Prop}(h:ta σ H fun x H1=>tb σ H1 fun y H2=>rg2 x y H2 R):ir2 ta tb σ H R:=h
theorem aau{R:List D->(aC->Prop)->aC->Prop}(h:R (rO 0 j.toNat) (fun _=>True) H):rg1 (.int j) H R:=h
theorem abn{R:List D->(aC->Prop)->aC->Prop}(h:R (rO i (j-i).toNat) (fun _=>True) H):rg2 (.int i) (.int j) H R:=h
def ilk(x:D)(H1:aC)(R:List D->(aC->Prop)->aC->Prop):Prop:=match x with
 | .ref a => (match H1 a with
  |some (.lst ds)=>R ds (fun H'=>H' a=some (.lst ds)) H1
  |_=>False)
 |.fl ds=>R ds (fun _=>True) H1
 |_=>False
def itk(x:D)(H1:aC)(R:List D->(aC->Prop)->aC->Prop):Prop:=match x with
 |.tup ds=>R ds (fun _=>True) H1
 |_=>False
theorem acI{R:List D->(aC->Prop)->aC->Prop}(h:te σ H fun x H1=>ilk x H1 R):LC te σ H R:=h
theorem Xf{R:List D->(aC->Prop)->aC->Prop}(ha:H a=some (.lst ds))(h:R ds (fun H'=>H' a=some (.lst ds)) H):ilk (.ref a) H R:=by (delta ilk;simp only[ha]);exact h
theorem aes{R:List D->(aC->Prop)->aC->Prop}(h:R ds (fun _=>True) H):ilk (.fl ds) H R:=h
theorem ach{R:List D->(aC->Prop)->aC->Prop}(h:te σ H fun x H1=>itk x H1 R):it3 te σ H R:=h
theorem aaY{R:List D->(aC->Prop)->aC->Prop}(h:R ds (fun _=>True) H):itk (.tup ds) H R:=h
theorem XD(P:bQ->aC->Prop)(μ:bQ->aC->Nat)(h0:P σ H)(turn:∀σ H,P σ H->cA σ H fun b H1=>if b=true then t { D0 with nx:=fun σ' H'=>P σ' H'/\μ σ' H'<μ σ H,ct:=fun σ' H'=>P σ' H'/\μ σ' H'<μ σ H,bk:=D0.nx } σ H1 else D0.nx σ H1):wh3 cA t D0 σ H:=⟨P,μ,h0,turn⟩
def mtk(r:D->List D->aC->aM->Prop)(t:lN)(σ:bQ)(x:D)(H1:aC)(Q:aM):Prop:=match x with
 | .ref a => (match H1 a with
  |some (.lst _)=>t σ H1 fun xs H2=>r x xs H2 Q
  |_=>False)
 |_=>False
theorem adh{r:D->List D->aC->aM->Prop}(h:te σ H fun x H1=>mtk r tr σ x H1 Q):m3 r te tr σ H Q:=h
theorem Ka{r:D->List D->aC->aM->Prop}(ha:H a=some (.lst ds))(h:tr σ H fun xs H2=>r (.ref a) xs H2 Q):mtk r tr σ (.ref a) H Q:=by (delta mtk;simp only[ha]);exact h
theorem Fg(ha:H a=some (.lst ds))(hl:ds.length<sizeLine)(q:Q .non (aK H a (.lst (ds++[y])))):qH (.ref a) [y] H Q:=by (delta qH;simp only[ha]);exact⟨hl,q⟩
theorem abU(ha:H a=some (.lst ds))(hb:H b=some (.lst es))(hl:ds.length+es.length<=sizeLine)(q:Q .non (aK H a (.lst (ds++es)))):Gy (.ref a) [.ref b] H Q:=by (delta Gy;simp only[ha,hb]);exact⟨hl,q⟩
theorem aaV(ha:H a=some (.lst ds))(hy:ds[ds.length-1]?=some y)(q:Q y (aK H a (.lst ds.dropLast))):Dt (.ref a) [] H Q:=by (delta Dt;simp only[ha,hy]);exact q
theorem VN(ha:H a=some (.lst ds)):Ji H (.ref a)=some ds:=by (delta Ji;simp only[ha])
theorem ab4{U T:String}(h:tyH H x=some U)(hT:T∈kinds)(q:Q (.bl (Xg U T)) H):qC [x,.ty T] H Q:=by
 (delta qC;simp only[h]);exact⟨hT,q⟩
theorem BV{α:Type}{xs:List α}{f:α->D}{k:Int}(h0:0<=k)(h1:k.toNat<xs.length):pU (xs.map f) k=some (f (xs[k.toNat]'h1)):=by
 have hl:k<((xs.map f).length:Int):=by rw[List.length_map];omega
 unfold pU Pq
 rw[if_pos h0,if_pos hl,Option.bind_some,List.getElem?_map,List.getElem?_eq_getElem h1]
 rfl
theorem Ro:∀ps:List Pt,jf (rF 4) (ps.map bN)=some (ps.map fun p=>PyData.tuple [.int p.1,.int p.2])
 |[]=>rfl
 |p::ps=>by
  have e:rF 4 (bN p)=some (PyData.tuple [.int p.1,.int p.2]):=rfl
  simp only[List.map_cons,jf,e,Ro ps]
theorem Y9(p q:Pt):PyData.eqv (PyData.tuple [.int p.1,.int p.2]) (PyData.tuple [.int q.1,.int q.2])=decide (p=q):=by
 obtain⟨a,b⟩:=p
 obtain⟨c,d⟩:=q
 simp only[PyData.eqv,PyData.eqvAll,Bool.and_true,Prod.mk.injEq,Bool.decide_and];rfl
theorem Qd(p:Pt):∀ps:List Pt,(ps.map fun p=>PyData.tuple [.int p.1,.int p.2]).any (fun q=>PyData.eqv q (PyData.tuple [.int p.1,.int p.2]))=decide (p∈ps)
 |[]=>by simp
 |q::ps=>by
  rw[List.map_cons,List.any_cons,Qd p ps,Y9]
  by_cases h:q=p
  ·subst h;simp
  ·have h':¬p=q:=fun e=>h e.symm
   simp[h,h']
theorem XH{p1 p2:Int}{ps:List Pt}(h:Ji H y=some (ps.map bN))(q:Q (.bl (!decide ((p1,p2)∈ps))) H):Hh true (.tup [.int p1,.int p2]) y H Q:=by
 have e:rF 4 (.tup [.int p1,.int p2])=some (PyData.tuple [.int p1,.int p2]):=rfl
 (delta Hh;simp only[e,h,Option.bind_some,Ro])
 rw[←Qd (p1,p2) ps] at q
 exact q
def Cp(g:vG)(tc:qt)(te:aZ)(σ0:bQ)(ds:List D)(keep:aC->Prop)(H1:aC)(Q:aM):Prop:=(∀H2:aC,aL H1 H2->keep H2)/\ds.length<=10000/\∃rs:List (Option D),rs.length=ds.length /\
 (∀ (i:Nat) (d:D),ds[i]? = some d→∀ H2:aC,aL H1 H2→g d σ0 H2 fun σ2 H4 => tc σ2 H4 fun b H5 =>
  if b=true then te σ2 H5 fun v H6=>aL H2 H6/\rs[i]?=some (some v) else aL H2 H5/\rs[i]?=some none) /\
 ∀p,H1 p=none->Q (.ref p) (aK H1 p (.lst (rs.filterMap id)))
def Y8(own:List Str)(fv:FV)(σ:bQ):bQ:=own.map (fun _=>none)++fv.map fun p=>(σ[p.1]?).join
theorem adC{wi:rA}{g:vG}{own:List Str}{fv:FV}(h:wi σ H fun ds keep H1=>Cp g cA te (Y8 own fv σ) ds keep H1 Q):Bb wi g cA te own fv σ H Q:=h
theorem aex(q:QB true H):nG σ H QB:=q
theorem Cp.adU{α:Type}{g:vG}{keep:aC->Prop}{σ0:bQ}{as:List α}{E:α->D}(F:α->D)(T:α->Bool)(hk:∀H2:aC,aL H H2->keep H2)(hl:as.length<=1000)
  (hel:∀(i:Nat) a,as[i]?=some a->∀(R1:aM) (R0:aC->Prop) (H2:aC),aL H H2->(T a=true->∀H6,aL H2 H6->R1 (F a) H6)->(T a=false->∀H6,aL H2 H6->R0 H6)->g (E a) σ0 H2 fun σ2 H4=>cA σ2 H4 fun b H5=>if b=true then te σ2 H5 R1 else R0 H5)
  (fin:∀p,H p=none->Q (.ref p) (aK H p (.lst ((as.filter T).map F)))):Cp g cA te σ0 (as.map E) keep H Q:=by
 refine⟨hk,by rw[List.length_map];exact Nat.le_trans hl (by decide),as.map (fun a=>if T a=true then some (F a) else none),by simp,fun i d hd H2 hs=>?_,fun p hp=>?_⟩
 ·rw[List.getElem?_map] at hd
  cases e:as[i]? with
  |none=>rw[e] at hd;cases hd
  |some a=>
   rw[e] at hd
   cases hd
   have er:(as.map fun a=>if T a=true then some (F a) else none)[i]?=some (if T a=true then some (F a) else none):=by rw[List.getElem?_map,e];rfl
   exact hel i a e _ _ H2 hs (fun ht H6 h6=>⟨h6,by rw[er,if_pos ht]⟩) fun ht H6 h6=>⟨h6,by rw[er,if_neg (by rw[ht];exact Bool.false_ne_true)]⟩
 ·have e:∀as:List α,(as.map fun a=>if T a=true then some (F a) else none).filterMap id=(as.filter T).map F:=by
   intro as
   induction as with
   |nil=>rfl
   |cons a as ih=>
    rw[List.map_cons,List.filterMap_cons]
    cases h:T a with
    |true=>rw[List.filter_cons_of_pos h,List.map_cons,←ih];rfl
    |false=>rw[List.filter_cons_of_neg (by simp[h]),←ih];rfl
  rw[e]
  exact fin p hp
theorem Cp.map{α:Type}{g:vG}{keep:aC->Prop}{σ0:bQ}{as:List α}{E:α->D}(F:α->D)(hk:∀H2:aC,aL H H2->keep H2)(hl:as.length<=1000)
  (hel:∀(i:Nat) a,as[i]?=some a->∀(R:aM) (H2:aC),aL H H2->(∀H6,aL H2 H6->R (F a) H6)->g (E a) σ0 H2 fun σ2 H4=>te σ2 H4 R)
  (fin:∀p,H p=none->Q (.ref p) (aK H p (.lst (as.map F)))):Cp g nG te σ0 (as.map E) keep H Q:=by
 refine⟨hk,by rw[List.length_map];exact Nat.le_trans hl (by decide),as.map (fun a=>some (F a)),by simp,fun i d hd H2 hs=>?_,fun p hp=>?_⟩
 ·rw[List.getElem?_map] at hd
  cases e:as[i]? with
  |none=>rw[e] at hd;cases hd
  |some a=>
   rw[e] at hd
   cases hd
   have er:(as.map fun a=>some (F a))[i]?=some (some (F a)):=by rw[List.getElem?_map,e];rfl
   exact hel i a e _ H2 hs fun H6 h6=>⟨h6,er⟩
 ·have e:∀as:List α,(as.map fun a=>some (F a)).filterMap id=as.map F:=by
   intro as
   induction as with
   |nil=>rfl
   |cons a as ih=>rw[List.map_cons,List.filterMap_cons,List.map_cons,←ih];rfl
  rw[e]
  exact fin p hp
theorem Cp.yh{α:Type}{g:vG}{keep:aC->Prop}{σ0:bQ}{as:List α}{E:α->D}(f:α->Pt)(hk:∀H2:aC,aL H H2->keep H2)(hl:as.length<=1000)
  (hel:∀(i:Nat) a,as[i]?=some a->∀(R:aM) (H2:aC),aL H H2->(∀H6,aL H2 H6->R (.tup [.int (f a).1,.int (f a).2]) H6)->g (E a) σ0 H2 fun σ2 H4=>te σ2 H4 R)
  (fin:∀p,H p=none->Q (.ref p) (aK H p (.lst ((as.map f).map bN)))):Cp g nG te σ0 (as.map E) keep H Q :=
 Cp.map (fun a=>bN (f a)) hk hl hel fun p hp=>by have:=fin p hp;rw[List.map_map] at this;exact this
theorem Kv{ns:List Int}(ha:H a=some (.lst (ns.map D.int)))(hn:ns≠[])(q:Q (.int (jx ns)) H):yC [.ref a] H Q:=by
 simp only[yC,Ou,ha,iD];exact⟨hn,q⟩
theorem Ws{ns:List Int}(ha:H a=some (.lst (ns.map D.int)))(hn:ns≠[])(q:Q (.int (kZ ns)) H):Eo [.ref a] H Q:=by
 simp only[Eo,Ou,ha,iD];exact⟨hn,q⟩
theorem aec{sp:gA}(h:te σ H fun x H1=>sok sp x H1 Q):so3 sp te σ H Q:=h
theorem abF{sp:gA}{ps:List Pt}(ha:H a=some (.lst (ps.map bN)))(ko:Le sp)(hl:ps.length<64)(q:∀p,H p=none->Q (.ref p) (aK H p (.lst ((cD ps).map bN)))):sok sp (.ref a) H Q:=by
 (delta sok;simp only[ha,mj]);exact⟨ko,hl,q⟩
theorem aen{k l:Bool}(q:Q (.bl (k==l)) H):fL (.bl k) (.bl l) H Q:=by
 (delta fL Iz;simp only[abL,PyData.eqv]);exact q
theorem tX{p A B:Prop}[Decidable p](h1:p->A)(h2:¬p->B):if decide p=true then A else B:=by
 by_cases h:p
 ·rw[if_pos (decide_eq_true h)];exact h1 h
 ·rw[if_neg (by simpa using h)];exact h2 h
theorem Xe{p A B:Prop}[Decidable p](h1:¬p->A)(h2:p->B):if (!decide p)=true then A else B:=by
 by_cases h:p
 ·rw[if_neg (by simpa using h)];exact h2 h
 ·rw[if_pos (by simpa using h)];exact h1 h
theorem ifB{c:Bool}{A B:Prop}(h1:c=true->A)(h2:c=false->B):if c=true then A else B:=by
 cases c
 ·rw[if_neg Bool.false_ne_true];exact h2 rfl
 ·rw[if_pos rfl];exact h1 rfl
theorem ifY{c:Bool}{A B:Prop}(hc:c=true)(h:A):if c=true then A else B:=by rw[if_pos hc];exact h
theorem WY{c:Bool}{A B:Prop}(hc:c=false)(h:B):if c=true then A else B:=by subst hc;exact h
end
end L3
namespace L3
open PySem PySem.W PyProof.Rows
section
variable{cmp:Nat->Nat->(Bool->Shared->Prop)->Shared->Prop}{n:Nat}{z:Nat->Int}{s:Shared}
def ak(z:Nat->Int)(p:Array Nat)(t:Nat):Int:=z (p.getD t 0)
theorem Dc{p:Array Nat}{t:Nat}:p.getD t 0=(p[t]?).getD 0:=by simp[Array.getD_eq_getD_getElem?]
theorem oW{p q:Array Nat}{t u:Nat}(h:p[t]?=q[u]?):ak z p t=ak z q u:=by unfold ak;rw[Dc,Dc,h]
def Pm(n:Nat)(p:Array Nat):Prop:=p.Perm (List.range n).toArray
theorem Pm.size{p:Array Nat}(h:Pm n p):p.size=n:=by have:=Array.Perm.size_eq h;simpa using this
theorem Pm.lt{p:Array Nat}(h:Pm n p){t:Nat}(ht:t<n):p.getD t 0<n:=by
 have hs:t<p.size:=by rw[h.size];exact ht
 have e:p.getD t 0=p[t]:=by rw[Dc,Array.getElem?_eq_getElem hs];rfl
 have hm:p[t]∈p:=Array.getElem_mem hs
 have:=(Array.Perm.mem_iff h).mp hm
 rw[e]
 simpa using this
theorem Pm.rev{p:Array Nat}(h:Pm n p)(i j:Nat):Pm n (kas_rev p i j):=(mirror_perm p i j _).trans h
theorem Pm.bub{p:Array Nat}(h:Pm n p)(k d:Nat):Pm n (bubble p k d):=(bubble_perm p k d).trans h
theorem Ht{p:Array Nat}{i j:Nat}(hj:j<=p.size)(k:Nat):ak z (kas_rev p i j) k=if i<=k/\k<j then ak z p (i+j-1-k) else ak z p k:=by
 have e:=getElem?_mirror_all (i:=i) hj k
 by_cases h:i<=k/\k<j
 ·rw[if_pos h] at e ⊢;exact oW e
 ·rw[if_neg h] at e ⊢;exact oW e
theorem uZ{p:Array Nat}{i j:Nat}(hj:j<=p.size)(heq:∀t,i<=t->t<j->ak z p t=ak z p (j-1))(k:Nat):ak z (kas_rev p i j) k=ak z p k:=by
 rw[Ht hj]
 split
 ·rw[heq _ (by omega) (by omega),heq k (by omega) (by omega)]
 ·rfl
def uf(cmp:Nat->Nat->(Bool->Shared->Prop)->Shared->Prop)(n:Nat)(z:Nat->Int)(s:Shared):Prop:=∀i j C,i<n->j<n->C (decide (z i<z j)) s->cmp i j C s
theorem Q8(hc:uf cmp n z s){p:Array Nat}(hp:Pm n p){Q:Nat->Shared->Prop}:∀(f m:Nat),1<=m->m+f<=n ->
  (∀r,m<=r->r<=m+f->(∀t,m<=t->t<r->ak z p (t-1)<=ak z p t)->(r<m+f->ak z p r<ak z p (r-1))->Q r s)->(kas_asc p f m).kasWp cmp Q s
 |0,m,_,_,h=>h m (Nat.le_refl _) (Nat.le_refl _) (fun t h1 h2=>absurd h1 (by grind)) (fun z=>absurd z (by grind))
 |f+1,m,h1,h2,h=>by
  refine hc _ _ _ (hp.lt (by grind)) (hp.lt (by grind)) ?_
  by_cases hlt:z (p.getD m 0)<z (p.getD (m-1) 0)
  ·rw[decide_eq_true hlt]
   exact h m (Nat.le_refl _) (by grind) (fun t g1 g2=>absurd g1 (by grind)) (fun _=>hlt)
  ·rw[decide_eq_false hlt]
   refine Q8 hc hp f (m+1) (by grind) (by grind) fun r r1 r2 r3 r4=>h r (by grind) (by grind) (fun t t1 t2=>?_) (fun z=>r4 (by grind))
   by_cases ht:t=m
   ·subst ht;exact Int.not_lt.mp hlt
   ·exact r3 t (by grind) t2
def qP(z:Nat->Int)(p:Array Nat)(k:Nat):Prop:=∀i j,i<=j->j<k->ak z p i<=ak z p j
def YG(z:Nat->Int)(p:Array Nat)(k:Nat):Prop:=∀i j,i<=j->j<k->ak z p j<=ak z p i
theorem TX{p:Array Nat}{m r:Nat}(h0:qP z p m)(h1:1<=m)(h:∀t,m<=t->t<r->ak z p (t-1)<=ak z p t):qP z p r:=by
 intro i j hij hj
 induction j with
 |zero=>have:i=0:=(by grind);subst this;exact Int.le_refl _
 |succ j ih=>
  by_cases e:i=j+1
  ·subst e;exact Int.le_refl _
  ·by_cases hm:j+1<m
   ·exact h0 i (j+1) hij hm
   ·exact Int.le_trans (ih (by grind) (by grind)) (h (j+1) (by grind) hj)
theorem Dh(hc:uf cmp n z s){Q:Array Nat×Nat×Nat->Shared->Prop}:∀(f:Nat) (p:Array Nat) (m q:Nat),Pm n p->1<=m->m+f<=n->q<m->YG z p m->(∀t,m-1-q<=t->t<m->ak z p t=ak z p (m-1)) ->
  (∀p' r q',Pm n p'->1<=r->r<=m+f->q'<r->YG z p' r->(∀t,r-1-q'<=t->t<r->ak z p' t=ak z p' (r-1))->Q (p',r,q') s)->(kas_desc f p m q).kasWp cmp Q s
 |0,p,m,q,hp,h1,h2,hq,hn,he,h=>h p m q hp h1 (Nat.le_refl _) hq hn he
 |f+1,p,m,q,hp,h1,h2,hq,hn,he,h=>by
  have hsz:=hp.size
  refine hc _ _ _ (hp.lt (by grind)) (hp.lt (by grind)) ?_
  by_cases hlt:ak z p m<ak z p (m-1)
  ·rw[decide_eq_true (show z (p.getD m 0)<z (p.getD (m-1) 0) from hlt)]
   by_cases hq0:q>0
   ·have ek:∀k,ak z (kas_rev p (m-(q+1)) m) k=ak z p k:=uZ (by grind) (fun t t1 t2=>he t (by grind) t2)
    show (if q>0 then kas_desc f (kas_rev p (m-(q+1)) m) (m+1) 0 else kas_desc f p (m+1) 0).kasWp cmp Q s
    rw[if_pos hq0]
    refine Dh hc f _ (m+1) 0 (hp.rev _ _) (by grind) (by grind) (by grind) ?_ ?_ fun p' r q' a1 a2 a3 a4 a5 a6=>h p' r q' a1 a2 (by grind) a4 a5 a6
    ·intro i j hij hj
     rw[ek,ek]
     by_cases e:j=m
     ·subst e
      by_cases e2:i=j
      ·subst e2;exact Int.le_refl _
      ·exact Int.le_trans (Int.le_of_lt hlt) (hn i (j-1) (by grind) (by grind))
     ·exact hn i j hij (by grind)
    ·intro t t1 t2
     have:t=m:=by grind
     subst this;rfl
   ·show (if q>0 then kas_desc f (kas_rev p (m-(q+1)) m) (m+1) 0 else kas_desc f p (m+1) 0).kasWp cmp Q s
    rw[if_neg hq0]
    refine Dh hc f _ (m+1) 0 hp (by grind) (by grind) (by grind) ?_ ?_ fun p' r q' a1 a2 a3 a4 a5 a6=>h p' r q' a1 a2 (by grind) a4 a5 a6
    ·intro i j hij hj
     by_cases e:j=m
     ·subst e
      by_cases e2:i=j
      ·subst e2;exact Int.le_refl _
      ·exact Int.le_trans (Int.le_of_lt hlt) (hn i (j-1) (by grind) (by grind))
     ·exact hn i j hij (by grind)
    ·intro t t1 t2
     have:t=m:=by grind
     subst this;rfl
  ·rw[decide_eq_false (show ¬z (p.getD m 0)<z (p.getD (m-1) 0) from hlt)]
   refine hc _ _ _ (hp.lt (by grind)) (hp.lt (by grind)) ?_
   by_cases hgt:ak z p (m-1)<ak z p m
   ·rw[decide_eq_true (show z (p.getD (m-1) 0)<z (p.getD m 0) from hgt)]
    exact h p m q hp h1 (by grind) hq hn he
   ·rw[decide_eq_false (show ¬z (p.getD (m-1) 0)<z (p.getD m 0) from hgt)]
    have eq:ak z p m=ak z p (m-1):=by grind
    refine Dh hc f p (m+1) (q+1) hp (by grind) (by grind) (by grind) ?_ ?_ fun p' r q' a1 a2 a3 a4 a5 a6=>h p' r q' a1 a2 (by grind) a4 a5 a6
    ·intro i j hij hj
     by_cases e:j=m
     ·subst e
      by_cases e2:i=j
      ·subst e2;exact Int.le_refl _
      ·rw[eq];exact hn i (j-1) (by grind) (by grind)
     ·exact hn i j hij (by grind)
    ·intro t t1 t2
     show ak z p t=ak z p m
     by_cases e:t=m
     ·subst e;rfl
     ·rw[eq];exact he t (by grind) (by grind)
theorem S9(hc:uf cmp n z s){p:Array Nat}{m:Nat}(hp:Pm n p)(h1:1<=m)(hm:m<=n)(hn:YG z p m){Q:Nat×Array Nat->Shared->Prop}
  (h:∀r p',Pm n p'->1<=r->r<=n->qP z p' r->Q (r,p') s):(kas_tail3 m n p).kasWp cmp Q s:=by
 unfold kas_tail3
 rw[KasT.kasWp_bind]
 have hsz:=hp.size
 have hs:qP z (kas_rev p 0 m) m:=fun i j hij hj=>by
  rw[Ht (by grind),Ht (by grind),if_pos ⟨by grind,by grind⟩,if_pos ⟨by grind,by grind⟩]
  exact hn _ _ (by grind) (by grind)
 refine Q8 hc (hp.rev 0 m) _ m h1 (by grind) fun r r1 r2 r3 _=>h r _ (hp.rev 0 m) (by grind) (by grind) (TX hs h1 r3)
theorem yf(hc:uf cmp n z s){p:Array Nat}{m:Nat}(hp:Pm n p)(h1:1<=m)(hm:m+1<=n)(hn:∀t,t<m->ak z p t=ak z p (m-1))(hd:ak z p m<ak z p (m-1)){Q:Nat×Array Nat->Shared->Prop}
  (h:∀r p',Pm n p'->1<=r->r<=n->qP z p' r->Q (r,p') s):(kas_descPart m n p).kasWp cmp Q s:=by
 unfold kas_descPart
 rw[KasT.kasWp_bind]
 refine Dh hc _ p (m+1) 0 hp (by grind) (by grind) (by grind) ?_ ?_ ?_
 ·intro i j hij hj
  by_cases e:j=m
  ·subst e
   by_cases e2:i=j
   ·subst e2;exact Int.le_refl _
   ·rw[hn i (by grind)];exact Int.le_of_lt hd
  ·rw[hn i (by grind),hn j (by grind)];exact Int.le_refl _
 ·intro t t1 t2
  have:t=m:=by grind
  subst this;rfl
 ·intro p' r q' a1 a2 a3 a4 a5 a6
  have hsz:=a1.size
  show (if q'>0 then kas_tail3 r n (kas_rev p' (r-(q'+1)) r) else kas_tail3 r n p').kasWp cmp Q s
  by_cases hq:q'>0
  ·rw[if_pos hq]
   have ek:∀k,ak z (kas_rev p' (r-(q'+1)) r) k=ak z p' k:=uZ (by grind) (fun t t1 t2=>a6 t (by grind) t2)
   exact S9 hc (a1.rev _ _) a2 (by grind) (fun i j hij hj=>by rw[ek,ek];exact a5 i j hij hj) h
  ·rw[if_neg hq]
   exact S9 hc a1 a2 (by grind) a5 h
theorem Uu(hc:uf cmp n z s){p:Array Nat}(hp:Pm n p)(hn:1<=n){Q:Nat×Array Nat->Shared->Prop}(h:∀r p',Pm n p'->1<=r->r<=n->qP z p' r->Q (r,p') s):(kas_count n p).kasWp cmp Q s:=by
 unfold kas_count
 rw[KasT.kasWp_bind]
 have hsz:=hp.size
 refine Q8 hc hp _ 1 (Nat.le_refl _) (by grind) fun r r1 r2 r3 r4=>?_
 have hs:qP z p r:=TX (m:=1) (fun i j hij hj=>by
  have e1:i=0:=by grind
  have e2:j=0:=by grind
  subst e1;subst e2;exact Int.le_refl _) (Nat.le_refl _) r3
 by_cases e:r=n
 ·rw[if_pos (by rw[e];exact beq_self_eq_true n)]
  exact h r p hp r1 (by grind) hs
 ·rw[if_neg (by simpa using e)]
  have hd:=r4 (by grind)
  by_cases hr:r>1
  ·rw[if_pos hr]
   refine hc _ _ _ (hp.lt (by grind)) (hp.lt (by grind)) ?_
   by_cases hlt:ak z p 0<ak z p (r-1)
   ·rw[decide_eq_true (show z (p.getD 0 0)<z (p.getD (r-1) 0) from hlt)]
    exact h r p hp r1 (by grind) hs
   ·rw[decide_eq_false (show ¬z (p.getD 0 0)<z (p.getD (r-1) 0) from hlt)]
    have heq:∀t,t<r->ak z p t=ak z p (r-1):=fun t ht=>by
     have g1:=hs 0 t (by grind) ht
     have g2:=hs t (r-1) (by grind) (by grind)
     grind
    have ek:∀k,ak z (kas_rev p 0 r) k=ak z p k:=uZ (by grind) (fun t t1 t2=>heq t t2)
    exact yf hc (hp.rev 0 r) r1 (by grind) (fun t ht=>by rw[ek,ek];exact heq t ht) (by rw[ek,ek];exact hd) h
  ·rw[if_neg hr]
   have e1:r=1:=by grind
   subst e1
   exact yf hc hp r1 (by grind) (fun t ht=>by have:t=0:=(by grind);subst this;rfl) hd h
theorem Cm(hc:uf cmp n z s){p:Array Nat}{k:Nat}(hp:Pm n p)(hk:k<n)(hs:qP z p k){Q:Nat->Shared->Prop}:∀(f l r:Nat),l<=r->r<=k->r-l<=f->(∀t,t<l->ak z p t<=ak z p k)->(∀t,r<=t->t<k->ak z p k<ak z p t) ->
  (∀l',l'<=k->(∀t,t<l'->ak z p t<=ak z p k)->(∀t,l'<=t->t<k->ak z p k<ak z p t)->Q l' s)->(kas_place p k f l r).kasWp cmp Q s
 |0,l,r,h1,h2,h3,h4,h5,h=>h l (by grind) h4 (fun t t1 t2=>h5 t (by grind) t2)
 |f+1,l,r,h1,h2,h3,h4,h5,h=>by
  show (if l≥r then KasT.ret l else .ask (p.getD k 0) (p.getD ((l+r) / 2) 0) fun c=>if c=true then kas_place p k f l ((l+r) / 2) else kas_place p k f ((l+r) / 2+1) r).kasWp cmp Q s
  by_cases hlr:l≥r
  ·rw[if_pos hlr]
   exact h l (by grind) h4 (fun t t1 t2=>h5 t (by grind) t2)
  ·rw[if_neg hlr]
   refine hc _ _ _ (hp.lt (by grind)) (hp.lt (by grind)) ?_
   by_cases hlt:ak z p k<ak z p ((l+r) / 2)
   ·rw[decide_eq_true (show z (p.getD k 0)<z (p.getD ((l+r) / 2) 0) from hlt)]
    exact Cm hc hp hk hs f l ((l+r) / 2) (by grind) (by grind) (by grind) h4 (fun t t1 t2=>by
     have:=hs ((l+r) / 2) t t1 t2
     grind) h
   ·rw[decide_eq_false (show ¬z (p.getD k 0)<z (p.getD ((l+r) / 2) 0) from hlt)]
    exact Cm hc hp hk hs f ((l+r) / 2+1) r (by grind) h2 (by grind) (fun t ht=>by
     have:=hs t ((l+r) / 2) (by grind) (by grind)
     grind) h5 h
theorem W3(hc:uf cmp n z s){Q:Array Nat->Shared->Prop}:∀(f:Nat) (p:Array Nat) (k:Nat),k+f=n->Pm n p->qP z p k->(∀p',Pm n p'->qP z p' n->Q p' s)->(kas_bin f p k).kasWp cmp Q s
 |0,p,k,h1,hp,hs,h=>h p hp (by rw[←h1];exact hs)
 |f+1,p,k,h1,hp,hs,h=>by
  show ((kas_place p k k 0 k).bind fun l=>kas_bin f (bubble p k (k-l)) (k+1)).kasWp cmp Q s
  rw[KasT.kasWp_bind]
  have hsz:=hp.size
  refine Cm hc hp (by grind) hs k 0 k (Nat.zero_le _) (Nat.le_refl _) (by grind) (fun t ht=>absurd ht (by grind)) (fun t t1 t2=>absurd t1 (by grind)) fun l l1 l2 l3=>?_
  refine W3 hc f _ (k+1) (by grind) (hp.bub _ _) ?_ h
  have eb:∀t,ak z (bubble p k (k-l)) t=if t=l then ak z p k else if l<t/\t<=k then ak z p (t-1) else ak z p t:=fun t=>by
   have e:=getElem?_bubble (xs:=p) (src:=k) (by grind) (k-l) (by grind) t
   rw[show k-(k-l)=l by grind] at e
   by_cases g1:t=l
   ·rw[if_pos g1] at e ⊢;exact oW e
   ·rw[if_neg g1] at e ⊢
    by_cases g2:l<t/\t<=k
    ·rw[if_pos g2] at e ⊢;exact oW e
    ·rw[if_neg g2] at e ⊢;exact oW e
  intro i j hij hj
  rw[eb,eb]
  by_cases i1:i=l
  ·rw[if_pos i1]
   by_cases j1:j=l
   ·rw[if_pos j1];exact Int.le_refl _
   ·rw[if_neg j1,if_pos ⟨by grind,by grind⟩]
    exact Int.le_of_lt (l3 (j-1) (by grind) (by grind))
  ·rw[if_neg i1]
   by_cases i2:l<i/\i<=k
   ·rw[if_pos i2,if_neg (by grind),if_pos ⟨by grind,by grind⟩]
    exact hs _ _ (by grind) (by grind)
   ·rw[if_neg i2]
    by_cases j1:j=l
    ·rw[if_pos j1];exact l2 i (by grind)
    ·rw[if_neg j1]
     by_cases j2:l<j/\j<=k
     ·rw[if_pos j2];exact hs _ _ (by grind) (by grind)
     ·rw[if_neg j2];exact hs _ _ hij (by grind)
theorem Zn(hc:uf cmp n z s)(hn:1<=n){Q:Array Nat->Shared->Prop}(h:∀p,Pm n p->qP z p n->Q p s):(kas_sort n).kasWp cmp Q s:=by
 unfold kas_sort
 rw[KasT.kasWp_bind]
 refine Uu hc (Array.Perm.refl _) hn fun r p hp h1 h2 hs=>?_
 show (if r<n then kas_bin (n-max r 1) p (max r 1) else .ret p).kasWp cmp Q s
 have e:max r 1=r:=by grind
 by_cases hr:r<n
 ·rw[if_pos hr,e]
  exact W3 hc _ p r (by grind) hp hs h
 ·rw[if_neg hr]
  have:r=n:=by grind
  subst this
  exact h p hp hs
end
end L3
namespace L3
open PySem PySem.Spec PySem.W PyProof.Rows
section
variable{prog:Program}{w:World}{A:Around}{E:Value->Shared->Prop}{s:Shared}
structure Su(prog:Program)(w:World)(A:Around)(s:Shared)(vs:List Value)(f:Value)(z:Nat->Int)(Q:Value->Shared->Prop)(D kS:Addr)(J:Nat->List Value->Nat->Shared->Prop):Prop where
 start:∀e1 h',(∀b o,s.heap.get? b=some o->h'.get? b=some o)->h'.get? D=some (seqObj "list" #[] e1)->h'.get? kS=some (seqObj "list" #[] 0)->J e1 [] 0 { s with heap:=h' }
 stand:∀e1 ks e s1,J e1 ks e s1->s1.heap.get? kS=some (seqObj "list" (List.toArray ks) e)/\s1.heap.get? D=some (seqObj "list" #[] e1)
 turn:∀e1 ks e s1 x,J e1 ks e s1->vs[ks.length]?=some x->wpAny (model prog w) A (call f [x]) (fun k s2=>s2.heap.get? kS=some (seqObj "list" (List.toArray ks) e) /\
  ∀c h',Heap.SameBut kS s2.heap h'->h'.get? kS=some (seqObj "list" (List.toArray (ks++[k])) c)->J e1 (ks++[k]) c { s2 with heap:=h' }) (fun _ _=>False) s1
 order:∀e1 ks e s1,J e1 ks e s1->ks.length=vs.length->2<=vs.length->wpAny (model prog w) A (keyKind' (List.toArray ks)) (fun κ s2=>s2=s1/\uf (kas_ask prog w A κ ks) vs.length z s1) (fun _ _=>False) s1
 fin:∀e1 ks e s1 (p:Array Nat),J e1 ks e s1->ks.length=vs.length->Pm vs.length p->qP z p vs.length->∀h' c,(∀b o,b≠kS->b≠D->s1.heap.get? b=some o->h'.get? b=some o) ->
  h'.get? D=some (seqObj "list" (List.toArray (p.toList.map fun i=>vs.getD i Value.none)) c)->Q (.ref D) { s1 with heap:=h' }
theorem An{D kS:Addr}{ks:List Value}{e e1:Nat}{st:SortSt}{out:List Value}{P:PySem.Fin->Shared->Prop}(hk:s.heap.get? kS=some (seqObj "list" (List.toArray ks) e))(hD:s.heap.get? D=some (seqObj "list" #[] e1))(ne:D≠kS)
  (ho:(arrOf st).map (·.2)=List.toArray out) (hf:failedOf st=none) (h1:ks.length<64) (h2:out.length<64)
  (h:∀h' c,(∀b o,b≠kS->b≠D->s.heap.get? b=some o->h'.get? b=some o)->h'.get? D=some (seqObj "list" (List.toArray out) c)->P (.done (.ret .none)) { s with heap:=h' }):wpAny (model prog w) A (ksk_tail D false e1 (.ref kS) st) P E s:=by
 have s1:=Heap.SameBut.update s.heap kS (Obj.mapSeq fun _=>(#[]:Array Value))
 have hD1:(s.heap.update kS (Obj.mapSeq fun _=>(#[]:Array Value))).get? D=some (seqObj "list" #[] e1):=(s1.2 D ne).trans hD
 have s2:=Heap.SameBut.update (s.heap.update kS (Obj.mapSeq fun _=>(#[]:Array Value))) D (Obj.mapSeq fun _=>List.toArray out)
 unfold ksk_tail
 dsimp only
 rw[ho]
 refine wpAny_bind (listUpdate_at hk rfl (wpAny_bind (wpAny_letGo (wpAny_bind (seqEpoch_at hD1 rfl (wpAny_bind (listUpdate_at hD1 rfl ?_ (Nat.zero_le _) ?_)))))) ?_ (Nat.zero_le _))
 ·rw[hf]
  simp only[bne_self_eq_false,Bool.false_eq_true,if_false]
  exact wpAny_pure (h _ _ (fun b o n1 n2 q=>(s2.2 b n2).trans ((s1.2 b n1).trans q)) (get?_update_seq hD1 fun _=>List.toArray out))
 ·simp only[Bool.false_eq_true,if_false,List.size_toArray]
  rw[sizeLine_eq];grind
 ·rw[List.size_toArray,sizeLine_eq];grind
theorem T3{D kS:Addr}{J:Nat->List Value->Nat->Shared->Prop}{s0:Shared}{vs ks:List Value}{f:Value}{z:Nat->Int}{Q:Value->Shared->Prop}{e e1:Nat}{P:PySem.Fin->Shared->Prop}(T:Su prog w A s0 vs f z Q D kS J)(ne:D≠kS)(h64:vs.length<64)
  (hJ:J e1 ks e s) (hl:ks.length=vs.length) (hP:∀s',Q (.ref D) s'->P (.done (.ret .none)) s'):wpAny (model prog w) A (ksk_end D false vs.toArray e1 (.ref kS) (List.toArray ks)) P E s:=by
 obtain⟨hk,hD⟩:=T.stand _ _ _ _ hJ
 unfold ksk_end
 dsimp only
 simp only[Bool.false_eq_true,if_false]
 by_cases h2:vs.toArray.size<2
 ·rw[if_pos h2,if_pos h2]
  rw[List.size_toArray] at h2
  refine wpAny_bind (wpAny_pure ?_)
  rw[StateT.run_pure]
  refine wpAny_bind (wpAny_pure ?_)
  have hz:(List.range vs.length).map (fun i=>vs.getD i Value.none)=vs:=by
   apply List.ext_getElem?
   intro i
   rw[List.getElem?_map]
   by_cases hi:i<vs.length
   ·rw[List.getElem?_range hi,List.getElem?_eq_getElem hi]
    simp[hi]
   ·rw[List.getElem?_eq_none (by simpa using hi),List.getElem?_eq_none (by simpa using hi)];rfl
  refine An (out:=vs) hk hD ne ?_ rfl (by grind) h64 fun h' c g1 g2=>hP _ (T.fin e1 ks e s (List.toArray (List.range vs.length)) hJ hl (Array.Perm.refl _) ?_ h' c g1 ?_)
  ·show Array.map (·.2) ((List.toArray ks).zip vs.toArray)=vs.toArray
   apply Array.toList_inj.mp
   simp only[Array.toList_map,Array.toList_zip]
   exact List.map_snd_zip (by grind)
  ·intro i j hij hj
   have:i=j:=by grind
   subst this;exact Int.le_refl _
  ·rw[g2]
   simp only[List.toList_toArray] at hz ⊢
   rw[hz]
 ·rw[if_neg h2,if_neg h2]
  rw[List.size_toArray] at h2
  refine wpAny_bind (wpAny_mono (T.order _ _ _ _ hJ hl (by grind)) (fun κ s2 hk2=>?_) fun _ _ x=>x.elim)
  obtain⟨rfl,hc⟩:=hk2
  refine wpAny_bind (wpAny_mono (kat_run (Q:=fun st' s'=>s'=s2/\∃p:Array Nat,Pm vs.length p/\qP z p vs.length/\arrOf st'=p.map (kas_item ((List.toArray ks).zip vs.toArray))/\failedOf st'=none) (G:=fun p s'=>s'=s2/\Pm vs.length p/\qP z p vs.length)
   hl (by grind) h64 (fun p st' s' a1 a2 a3 a4=>⟨a4.1,p,a4.2.1,a4.2.2,a2,a3⟩) (Zn hc (by grind) fun p g1 g2=>⟨rfl,g1,g2⟩)) ?_ fun _ _ x=>x)
  rintro⟨⟨⟩,st'⟩ s' ⟨rfl,p,pm,so,har,hf⟩
  dsimp only
  refine An hk hD ne (kat_snds hl har) hf (by grind) ?_ fun h' c g1 g2=>hP _ (T.fin e1 ks e _ p hJ hl pm so h' c g1 g2)
  rw[List.length_map,Array.length_toList,pm.size];exact h64
theorem M3{D:Addr}{vs:List Value}{f:Value}{z:Nat->Int}{Q:Value->Shared->Prop}{s0:Shared}{n:Nat}{P:PySem.Fin->Shared->Prop}(hD:s.heap.get? D=some (seqObj "list" vs.toArray n))(h64:vs.length<64)
  (kp:∀b o,s0.heap.get? b=some o->s.heap.get? b=some o/\b≠D) (hs:∃h,s={ s0 with heap:=h })
  (T:∀kS,s.heap.objs.size<=kS->∃J,Su prog w A s0 vs f z Q D kS J) (hP:∀s',Q (.ref D) s'->P (.done (.ret .none)) s'):wpAny (model prog w) A (ksk_tree D f false) P E s:=by
 have s1:=Heap.SameBut.update s.heap D (Obj.mapSeq fun _=>(#[]:Array Value))
 obtain⟨e1,hD1⟩:∃e1,(s.heap.update D (Obj.mapSeq fun _=>(#[]:Array Value))).get? D=some (seqObj "list" #[] e1):=⟨_,get?_update_seq hD fun _=>#[]⟩
 have hz:(((s.heap.update D (Obj.mapSeq fun _=>(#[]:Array Value))).push (seqObj "tuple" vs.toArray 0))).objs.size=s.heap.objs.size+1:=by rw[size_push',Heap.size_update]
 have hlt:D<s.heap.objs.size:=Heap.lt_size hD
 have hne:D≠(((s.heap.update D (Obj.mapSeq fun _=>(#[]:Array Value))).push (seqObj "tuple" vs.toArray 0))).objs.size:=Nat.ne_of_lt (by rw[hz];exact Nat.lt_succ_of_lt hlt)
 obtain⟨J,T⟩:=T (((s.heap.update D (Obj.mapSeq fun _=>(#[]:Array Value))).push (seqObj "tuple" vs.toArray 0))).objs.size (by rw[hz];exact Nat.le_succ _)
 unfold ksk_tree
 refine wpAny_bind (listItems_at hD rfl (wpAny_bind (listUpdate_at hD rfl (wpAny_bind (seqEpoch_at hD1 rfl (wpAny_bind (wpAny_newTuple (wpAny_bind (wpAny_newList (wpAny_holding ?_) (Nat.zero_le _))) ?_)))) ?_ (Nat.zero_le _))))
 ·unfold ksk_rest
  obtain⟨h0,rfl⟩:=hs
  have J0:=T.start e1 ((((h0.update D (Obj.mapSeq fun _=>(#[]:Array Value))).push (seqObj "tuple" vs.toArray 0))).push (seqObj "list" #[] 0)) (fun b o q=>Heap.get?_push_of_some _ (Heap.get?_push_of_some _ ((s1.2 b (kp b o q).2).trans (kp b o q).1))) (Heap.get?_push_of_some _ (Heap.get?_push_of_some _ hD1)) (Heap.get?_push_size _ rfl)
  refine wpAny_bind (wpAny_rule ?_)
  rw[List.forIn_toArray]
  refine wpAny_bind (ksk_fold (fun i s'=>∃ks e,ks.length=i/\J e1 ks e s') vs 0 _ ⟨[],0,rfl,J0⟩ (fun j x s' hx hI=>?_) fun s' hI=>?_)
  ·obtain⟨ks,e,hl,hJ⟩:=hI
   have hj:ks.length=j:=by grind
   have hjl:j<vs.length:=(List.getElem?_eq_some_iff.mp hx).1
   refine wpAny_bind (wpAny_attempt (wpAny_mono (T.turn _ _ _ _ x hJ (by rw[hj];exact hx)) (fun k s2 hk=>?_) fun _ _ hF=>hF.elim))
   obtain⟨hk,fin⟩:=hk
   dsimp only
   refine wpAny_bind (listUpdate_at hk rfl ?_ ?_ ?_)
   ·have hu:=get?_update_seq hk (·.push k)
    rw[show (List.toArray ks).push k=List.toArray (ks++[k]) by simp] at hu
    exact wpAny_pure ⟨rfl,ks++[k],_,by simp;grind,fin _ _ (Heap.SameBut.update ..) hu⟩
   ·rw[List.size_toArray,sizeLine_eq];grind
   ·rw[Array.size_push,List.size_toArray,sizeLine_eq];grind
  ·obtain⟨ks,e,hl,hJ⟩:=hI
   have hl':ks.length=vs.length:=by grind
   dsimp only
   refine wpAny_bind (listItems_at (T.stand _ _ _ _ hJ).1 rfl ?_)
   exact T3 T hne h64 hJ hl' hP
 ·show vs.length<=_;rw[sizeLine_eq];grind
 ·rw[List.size_toArray,sizeLine_eq];grind
theorem Np{l q:Addr}{vs:List Value}{z:Nat->Int}{Q:Value->Shared->Prop}(hl:s.heap.IsList l vs.toArray)(h64:vs.length<64)
  (T:∀D kS,s.heap.objs.size<=D->D<kS->∃J,Su prog w A.in1.in1 s vs (.ref q) z Q D kS J):wpAny (model prog w) A (call (.builtin "sorted") [.ref l] [(Str.ofString "key",.ref q)]) Q E s:=by
 refine call_function_entry_kw kind_sorted plain_sorted entry_sorted (ksk_s1 _ _) ?_
 unfold Builtin.«sorted»
 have hz:((s.heap.push (seqObj "list" #[] 0)).update s.heap.objs.size (Obj.mapSeq (·++vs.toArray))).objs.size=s.heap.objs.size+1:=(Heap.size_update ..).trans (size_push' ..)
 refine wpAny_bind (m:=checkCount "sorted" 1 1 _) (wpAny_pure (wpAny_bind (collect_list hl (wpAny_bind (wpAny_newList ?_ ?_)) ?_)))
 ·have kp:∀b o,s.heap.get? b=some o->(((s.heap.push (seqObj "list" #[] 0)).update s.heap.objs.size (Obj.mapSeq (·++vs.toArray))).push (seqObj "list" vs.toArray 0)).get? b=some o:=fun b o q=>by
   have hb:b<s.heap.objs.size:=Heap.lt_size q
   rw[Heap.get?_push_ne _ _ _ (by rw[hz];exact Nat.ne_of_lt (Nat.lt_succ_of_lt hb)),Heap.get?_update_ne _ _ _ _ (Nat.ne_of_lt hb),Heap.get?_push_ne _ _ _ (Nat.ne_of_lt hb)]
   exact q
  have hD:(((s.heap.push (seqObj "list" #[] 0)).update s.heap.objs.size (Obj.mapSeq (·++vs.toArray))).push (seqObj "list" vs.toArray 0)).get? ((s.heap.push (seqObj "list" #[] 0)).update s.heap.objs.size (Obj.mapSeq (·++vs.toArray))).objs.size=some (seqObj "list" vs.toArray 0):=Heap.get?_push_size _ rfl
  refine wpAny_bind (wpAny_holding (wpAny_call_entry_kw slot_list_sort ⟨_,hD,rfl⟩ entry_list_sort ?_ (ksk_l1 _ _)))
  refine M3 (s0:=s) (Q:=Q) hD h64 (fun b o q=>⟨kp b o q,Nat.ne_of_lt (by rw[hz];exact Nat.lt_succ_of_lt (Heap.lt_size q))⟩) ⟨_,rfl⟩ (fun kS hk=>T _ kS (by rw[hz];exact Nat.le_succ _) (Nat.lt_of_lt_of_le (Heap.lt_size hD) hk)) fun s' hq=>⟨_,rfl,wpAny_pure ⟨_,rfl,hq⟩⟩
 ·rw[sizeLine_eq];grind
 ·rw[sizeLine_eq];grind
end
end L3
namespace L3
open PySem PySem.Spec PyProof.Rows L2
def Cx.GX(X:Cx):Cx:={ X with A:=X.A.in1.in1,xe:=fun _ _=>False }
theorem Ok.GX{X:Cx}(k:X.Ok):(Cx.GX X).Ok:=⟨k.mod,k.kind,k.glob,k.blt,k.above,k.inj,k.has,k.cab,k.hd,k.frames,k.stk,k.exf,k.bs,k.bsz,k.noex,k.exfs,k.vA,k.frf⟩
section
variable{X:Cx}{pins:List (Addr×Obj)}{σ:St}{H H':Hp}{s:Shared}
theorem Inv.GX(I:Inv X pins σ H s):Inv (Cx.GX X) pins σ H s:=⟨Ok.GX I.ok,I.os,I.bare,I.base,I.loc,I.cell,I.free,I.freeC,I.pin,I.hok,I.len⟩
theorem Inv.aed(k:X.Ok)(I:Inv (Cx.GX X) pins σ H s):Inv X pins σ H s:=⟨k,I.os,I.bare,I.base,I.loc,I.cell,I.free,I.freeC,I.pin,I.hok,I.len⟩
theorem Inv.adopt{D kS:Addr}{xs:List V}{its:List Value}{n:Nat}{h':Heap}(I:Inv X pins σ H s)(fD:lW X pins H D)(fk:lW X pins H kS)(g:∀b o,b≠kS->b≠D->s.heap.get? b=some o->h'.get? b=some o)
  (hD:h'.get? D=some (seqObj "list" its.toArray n)) (hv:Vals xs its) (hz:xs.length<=sizeLine):Inv X pins σ (upd H D (.lst xs)) { s with heap:=h' }:=by
 have nD:∀b u,H b=some u->b≠D:=fun b u e z=>by rw[z,fD.1] at e;cases e
 have nK:∀b u,H b=some u->b≠kS:=fun b u e z=>by rw[z,fk.1] at e;cases e
 have out:∀b,b∉[kS,D]->b≠kS/\b≠D:=fun b hb=>⟨fun z=>hb (by simp[z]),fun z=>hb (by simp[z])⟩
 refine I.step (g':=s.gens) (d':=s.drawn) (t':=s.toks) (ch:=[kS,D]) (fun b hb=>?_) (fun b o _ _ hc e _=>g b o (out b hc).1 (out b hc).2 e) (fun b o _ _ hc e _=>⟨o.slots,g b o (out b hc).1 (out b hc).2 e⟩) (fun b o hc _ z=>by rw[aF (out b hc).2];exact z) ?_
  (fun b ys e=>by rw[aF (nD b _ e)];exact e) (fun b o u e=>by rw[aF (nD b _ e)];exact e) (fun b ps e=>⟨#[],by rw[aF (nD b _ e),e];simp⟩) (fun m hm=>?_) (fun b u e=>?_) I.bare
 ·rcases List.mem_cons.mp hb with z | hb
  ·rw[z];exact⟨fk.2.2.2.1,fk.2.1,fk.2.2.2.2.1,fk.2.2.2.2.2⟩
  ·rw[List.mem_singleton.mp hb];exact⟨fD.2.2.2.1,fD.2.1,fD.2.2.2.2.1,fD.2.2.2.2.2⟩
 ·exact fun b o hc e=>⟨o,g b o (out b hc).1 (out b hc).2 e⟩
 ·obtain⟨o,es,ep,ho,r⟩:=hm
  exact⟨o,es,ep,g _ o (Ne.symm fk.2.1) (Ne.symm fD.2.1) ho,r⟩
 ·by_cases hb:b=D
  ·subst hb
   rw[aR] at e
   cases e
   exact⟨hz,its,n,hv,hD⟩
  ·rw[aF hb] at e
   refine (I.hok b u e).stay (fun c v hc q=>?_) (fun c q=>by rw[aF (nD c _ q)];exact q) fun c ys q=>by rw[aF (nD c _ q)];exact q
   rcases hc with z | z
   ·exact g c v (by rw[z];exact nK b u e) (by rw[z];exact hb) q
   ·exact g c v (nK c _ z) (nD c _ z) q
end
def O8(K:PySem.W.Frag)(H:Hp):List Pt->List Value->Prop:=Paired fun c k=>∃a,k=.ref a/\iT K H a [.int c.2,.int c.1]
theorem O8.mono{K:PySem.W.Frag}{H H':Hp}(t:TK H H'){cs:List Pt}{ks:List Value}(h:O8 K H cs ks):O8 K H' cs ks:=Paired.yh h fun _ _ ⟨a,e,q⟩=>⟨a,e,t.sqT q⟩
theorem Paired.snoc{α β:Type}{R:α->β->Prop}{as:List α}{bs:List β}{a:α}{b:β}(t:Paired R as bs)(h:R a b):Paired R (as++[a]) (bs++[b]):=by
 induction t with
 |nil=>exact .cons h .nil
 |cons r _ ih=>exact .cons r ih
theorem Paired.at{α β:Type}{R:α->β->Prop}:∀ {as:List α} {bs:List β} {i:Nat} {a:α},Paired R as bs->as[i]?=some a->∃b,bs[i]?=some b/\R a b
 |_,_,_,_,.nil,e=>by simp at e
 |_,_,0,_,.cons r _,e=>by simp at e;subst e;exact⟨_,rfl,r⟩
 |_,_,i+1,a,.cons _ t,e=>by
  obtain⟨b,h1,h2⟩:=Paired.at (i:=i) (a:=a) t (by simpa using e)
  exact⟨b,by simpa using h1,h2⟩
section
variable{X:Cx}
theorem xg{pins:List (Addr×Obj)}{σ:St}{H:Hp}{s:Shared}(I:Inv X pins σ H s){a:Addr}{y x:Int}(h:iT X.K H a [.int y,.int x]):∃o n t u,s.heap.get? a=some o/\o.cls=.type "tuple"/\o.data=.seq #[.int y t,.int x u] n:=by
 obtain⟨its,rv,⟨o,e,c,n,d⟩,_⟩:=I.tuple h
 obtain⟨u,v,rfl,⟨t,rfl⟩,⟨t',rfl⟩⟩:=vals2 rv
 exact⟨o,n,t,t',e,c,by simpa using d⟩
theorem O4{pins:List (Addr×Obj)}{σ:St}{H:Hp}{s:Shared}(I:Inv X pins σ H s):∀ {cs:List Pt} {ks:List Value},O8 X.K H cs ks->∃fs,PySem.W.KatTups s.heap ks fs/\fs.length=ks.length/\∀v∈fs,∃i t,v=Value.int i t:=by
 intro cs ks h
 induction h with
 |nil=>exact⟨[],trivial,rfl,fun _ h=>nomatch h⟩
 |cons r t ih=>
  obtain⟨a,rfl,q⟩:=r
  obtain⟨o,n,t1,t2,e,c,d⟩:=xg I q
  obtain⟨fs,h1,h2,h3⟩:=ih
  refine⟨_::fs,.cons e c d rfl h1,congrArg (· + 1) h2,fun v hv=>?_⟩
  rcases List.mem_cons.mp hv with rfl | hv
  ·exact⟨_,_,rfl⟩
  ·exact h3 v hv
theorem Sq{pins:List (Addr×Obj)}{σ:St}{H:Hp}{s:Shared}{A:Around}{E:Value->Shared->Prop}(I:Inv X pins σ H s){a b:Addr}{c d:Pt}{C:Bool->Shared->Prop}(ha:iT X.K H a [.int c.2,.int c.1])(hb:iT X.K H b [.int d.2,.int d.1])(h:C (wB d c) s) :
  wpAny (model X.prog X.w) A (keyLt' (tuples' true) (.ref a) (.ref b)) C E s:=by
 obtain⟨oa,na,t1,t2,ea,_,da⟩:=xg I ha
 obtain⟨ob,nb,u1,u2,eb,_,db⟩:=xg I hb
 refine PySem.W.kat_lt ea da eb db (PySem.W.kat_cons (wpAny_eqBool_int ?_))
 have e0:wB d c=if c.2=d.2 then (if c.1=d.1 then false else decide (c.1<d.1)) else decide (c.2<d.2):=rfl
 by_cases h1:c.2=d.2
 ·rw[show (c.2==d.2)=true by simp[h1]]
  rw[e0,if_pos h1] at h
  refine PySem.W.kat_yes (PySem.W.kat_cons (wpAny_eqBool_int ?_))
  by_cases h2:c.1=d.1
  ·rw[show (c.1==d.1)=true by simp[h2]]
   rw[if_pos h2] at h
   exact PySem.W.kat_yes (PySem.W.kat_nil h)
  ·rw[show (c.1==d.1)=false by simp[h2]]
   rw[if_neg h2] at h
   exact PySem.W.kat_no (PySem.W.kat_one _ _ (lt_int h))
 ·rw[show (c.2==d.2)=false by simp[h1]]
  rw[e0,if_neg h1] at h
  exact PySem.W.kat_no (oneLt_int h)
end
end L3
namespace L3
open PySem PySem.Spec PyProof.Rows L2
theorem wY{α:Type}(xs:List α)(d:α):(List.range xs.length).map (fun i=>xs.getD i d)=xs:=by
 apply List.ext_getElem?
 intro i
 rw[List.getElem?_map]
 by_cases hi:i<xs.length
 ·rw[List.getElem?_range hi,List.getElem?_eq_getElem hi]
  simp[hi]
 ·rw[List.getElem?_eq_none (by simpa using hi),List.getElem?_eq_none (by simpa using hi)];rfl
theorem Bg{vs:List V}{its:List Value}(rv:Vals vs its):∀ {l:List Nat},(∀i∈l,i<vs.length)->Vals (l.map fun i=>vs.getD i .non) (l.map fun i=>its.getD i Value.none)
 |[],_=>.nil
 |i::l,h=>by
  have hi:=h i (by simp)
  obtain⟨u,hu,r⟩:=rv.get (List.getElem?_eq_getElem hi)
  refine .cons ?_ (Bg rv fun j hj=>h j (by simp[hj]))
  have e1:vs.getD i .non=vs[i]:=by simp[hi]
  have e2:its.getD i Value.none=u:=by rw[List.getD_eq_getElem?_getD,hu];rfl
  show RelV (vs.getD i .non) (its.getD i Value.none)
  rw[e1,e2];exact r
theorem FJ{K:PySem.W.Frag}{H:Hp}{ps:List Pt}{vs:List V}(ra:bj K H (ps.map bN) vs):∀ {l:List Nat},(∀i∈l,i<ps.length)->bj K H ((l.map fun i=>ps.getD i (0,0)).map bN) (l.map fun i=>vs.getD i .non)
 |[],_=>.nil
 |i::l,h=>by
  have hi:=h i (by simp)
  obtain⟨v,hv,r⟩:=ra.get (i:=i) (d:=bN ps[i]) (by rw[List.getElem?_map,List.getElem?_eq_getElem hi];rfl)
  refine .cons ?_ (FJ ra fun j hj=>h j (by simp[hj]))
  have e1:ps.getD i (0,0)=ps[i]:=by simp[hi]
  have e2:vs.getD i .non=v:=by rw[List.getD_eq_getElem?_getD,hv];rfl
  show Rep K H (bN (ps.getD i (0,0))) (vs.getD i .non)
  rw[e1,e2];exact r
theorem Gm{M:Int}{ps:List Pt}{p:Array Nat}(hM:∀c∈ps,-M<=c.1/\c.1<=M)(pm:Pm ps.length p)(so:qP (fun i=>zc M (ps.getD i (0,0))) p ps.length):cD ps=p.toList.map fun i=>ps.getD i (0,0):=by
 have hmem:∀i,i<ps.length->ps.getD i (0,0)∈ps:=fun i hi=>by rw[show ps.getD i (0,0)=ps[i] by simp[hi]];exact List.getElem_mem hi
 refine wX ?_ ?_
 ·have h1:p.toList.Perm (List.range ps.length):=by have:=Array.Perm.toList pm;simpa using this
  have h2:=h1.map fun i=>ps.getD i (0,0)
  rw[wY] at h2
  exact h2
 ·rw[List.pairwise_iff_getElem]
  intro i j hi hj hij
  have hsz:=pm.size
  rw[List.length_map,Array.length_toList,hsz] at hi hj
  have key:∀t,t<ps.length->∀h,(p.toList.map fun i=>ps.getD i (0,0))[t]'h=ps.getD (p.getD t 0) (0,0):=fun t ht h=>by
   rw[List.getElem_map]
   have:p.toList[t]'(by simpa [hsz] using ht)=p.getD t 0:=by simp[Array.getD,hsz,ht]
   rw[this]
  rw[key i hi,key j hj]
  have h1:=so i j (Nat.le_of_lt hij) hj
  unfold wg
  rw[WW (hM _ (hmem _ (pm.lt hi))) (hM _ (hmem _ (pm.lt hj)))]
  exact decide_eq_false (Int.not_lt.mpr h1)
section
variable{X:Cx}{pins:List (Addr×Obj)}{σ:St}{H:Hp}{s:Shared}
theorem Bc(I:Inv X pins σ H s){f a:Addr}{vs:List V}{ps:List Pt}{H3:aC}
  (ga:H a=some (.lst vs)) (ra:bj X.K H (ps.map bN) vs) (hr3:HR X.K H3 H) (h64:ps.length<64) {Q:VK}
  (call1:∀ (pins:List (Addr×Obj)) (H':Hp) (s:Shared) (c:Pt) (v:V) (u:Value),TK H H'→HR X.K H3 H'→Inv (Cx.GX X) pins σ H' s→Rep X.K H' (bN c) v→RelV v u →
   wpAny (model X.prog X.w) (Cx.GX X).A (call (.ref f) [u]) (EP (Cx.GX X) pins σ fun v H''=>TK H' H''/\HR X.K H3 H''/\Rep X.K H'' (.tup [.int c.2,.int c.1]) v) (fun _ _=>False) s)
  (hQ:∀(D:Addr) (H'':Hp),TK H H''->HR X.K (aK H3 D (.lst ((cD ps).map bN))) H''->H3 D=none->Q (.ref D) H'') :
  wpAny (model X.prog X.w) X.A (call (.builtin "sorted") [.ref a] [(Str.ofString "key",.ref f)]) (EP X pins σ Q) X.xe s:=by
 obtain⟨its,rv,pl,_⟩:=I.list (jm.of ga)
 have hv:vs.length=ps.length:=by rw[←ra.length,List.length_map]
 have hn:its.length=ps.length:=by rw[←rv.length];exact hv
 obtain⟨M,hM0,hM⟩:=sJ ps
 refine Np (z:=fun i=>zc M (ps.getD i (0,0))) pl.isList (by grind) fun D kS hD hk=>?_
 have hK:s.heap.objs.size<=kS:=Nat.le_trans hD (Nat.le_of_lt hk)
 have nD:H D=none:=I.hok.fresh hD
 have nK:H kS=none:=I.hok.fresh hK
 have fD:=(Inv.GX I).uX (H':=H) hD nD
 have fk:=(Inv.GX I).uX (H':=H) hK nK
 have nc:∀(xs:Array Value) (e:Nat) (v:Option Value),(seqObj "list" xs e).data≠.cell v:=fun _ _ _ z=>by cases z
 refine⟨fun e1 ks e s'=>∃H',Inv (Cx.GX X) (pins++[(D,seqObj "list" #[] e1)]) σ H' s'/\s'.heap.get? kS=some (seqObj "list" (List.toArray ks) e)/\H' kS=none/\TK H H'/\HR X.K H3 H'/\O8 X.K H' (ps.take ks.length) ks,?_⟩
 constructor
 ·intro e1 h' kp hD' hk'
  have I2:=(Inv.GX I).kept (t':=s.toks) kp
  refine⟨H,I2.pP fun p hp=>?_,hk',nK,TK.refl,hr3,.nil⟩
  rcases List.mem_append.mp hp with hp | hp
  ·exact I2.pin p (List.mem_append_right _ hp)
  ·rw[List.mem_singleton.mp hp]
   exact⟨hD',nD,fD.2.1,fD.2.2.1,nc _ _⟩
 ·rintro e1 ks e s1 ⟨H',J,h1,_⟩
  exact⟨h1,(J.pin (D,seqObj "list" #[] e1) (by simp)).1⟩
 ·rintro e1 ks e s1 x ⟨H',J,hk1,nk1,tk,hr',kr⟩ hx
  have hi:ks.length<ps.length:=by have:=(List.getElem?_eq_some_iff.mp hx).1;grind
  have hc:ps[ks.length]?=some ps[ks.length]:=List.getElem?_eq_getElem hi
  generalize ps[ks.length]=c at hc
  obtain⟨v,hv1,rep⟩:=ra.get (i:=ks.length) (d:=bN c) (by rw[List.getElem?_map,hc];rfl)
  obtain⟨u,hu,rx⟩:=rv.get hv1
  rw[hx] at hu
  cases hu
  have J2:Inv (Cx.GX X) (pins++[(D,seqObj "list" #[] e1),(kS,seqObj "list" (List.toArray ks) e)]) σ H' s1:=J.pP fun p hp=>by
   rcases List.mem_append.mp hp with hp | hp
   ·exact J.pin p (by simp[hp])
   ·rcases List.mem_cons.mp hp with rfl | hp
    ·exact J.pin _ (by simp)
    ·rw[List.mem_singleton.mp hp]
     exact⟨hk1,nk1,fk.2.1,fk.2.2.1,nc _ _⟩
  refine wpAny_mono (call1 _ H' s1 c v x tk hr' J2 (rep.mono tk) rx) (fun k s2 hk2=>?_) fun _ _ z=>z
  ·obtain⟨v',H'',J3,rk,tk',hr'',rep'⟩:=hk2
   cases rep' with
   |tup sq rl=>
    cases rk
    have ex:=bj.nW (ns:=[c.2,c.1]) rl
    subst ex
    have pk:=J3.pin (kS,seqObj "list" (List.toArray ks) e) (by simp)
    refine⟨pk.1,fun c' h' sb hk'=>⟨H'',?_,hk',pk.2.1,tk.trans tk',hr'',?_⟩⟩
    ·refine (J3.pP (pins':=pins++[(D,seqObj "list" #[] e1)]) fun p hp=>J3.pin p ?_).turned (it:=kS) (t':=s2.toks) (fun b o hb e=>(sb.2 b hb).trans e) pk.2.1 fk.2.1 fk.2.2.2.1 fk.2.2.2.2.1 fun p hp=>?_
     ·rcases List.mem_append.mp hp with hp | hp
      ·simp[hp]
      ·rw[List.mem_singleton.mp hp];simp
     ·rcases List.mem_append.mp hp with hp | hp
      ·exact fk.2.2.2.2.2 p (List.mem_append_left _ hp)
      ·rcases List.mem_append.mp hp with hp | hp
       ·exact fk.2.2.2.2.2 p (List.mem_append_right _ hp)
       ·rw[List.mem_singleton.mp hp];exact Nat.ne_of_lt hk
    ·rw[List.length_append,List.length_singleton,List.take_add_one,hc]
     exact Paired.snoc (O8.mono tk' kr) ⟨_,rfl,iT.of sq⟩
 ·rintro e1 ks e s1 ⟨H',J,hk1,nk1,tk,hr',kr⟩ hl h2
  rw[List.take_of_length_le (by grind)] at kr
  obtain⟨fs,t1,t2,t3⟩:=O4 J kr
  refine PySem.W.kat_kind (T:=.type "int") t1 (by grind) (fun v hv=>?_) (by decide) ⟨rfl,?_⟩
  ·obtain⟨i,t,rfl⟩:=t3 v hv
   exact PySem.W.Looks.now
  ·intro i j C hi hj hC
   have hi':i<ps.length:=by grind
   have hj':j<ps.length:=by grind
   obtain⟨ki,ei,ai,rfl,qi⟩:=Paired.at kr (List.getElem?_eq_getElem hi')
   obtain⟨kj,ej,aj,rfl,qj⟩:=Paired.at kr (List.getElem?_eq_getElem hj')
   unfold PySem.W.kas_ask
   rw[show ks.getD i Value.none=.ref ai by rw[List.getD_eq_getElem?_getD,ei];rfl,show ks.getD j Value.none=.ref aj by rw[List.getD_eq_getElem?_getD,ej];rfl]
   refine Sq J qi qj ?_
   rw[WW (hM _ (List.getElem_mem hj')) (hM _ (List.getElem_mem hi'))]
   have e1:ps.getD i (0,0)=ps[i]:=by simp[hi']
   have e2:ps.getD j (0,0)=ps[j]:=by simp[hj']
   have hC':C (decide (zc M (ps.getD i (0,0))<zc M (ps.getD j (0,0)))) s1:=hC
   rw[e1,e2] at hC'
   exact hC'
 ·rintro e1 ks e s1 p ⟨H',J,hk1,nk1,tk,hr',kr⟩ hl pm so h' c g hD'
  have pD:=J.pin (D,seqObj "list" #[] e1) (by simp)
  have nD':H' D=none:=pD.2.1
  rw[hn] at pm so
  have hlt:∀i∈p.toList,i<ps.length:=fun i hi=>by
   have h1:p.toList.Perm (List.range ps.length):=by have:=Array.Perm.toList pm;simpa using this
   simpa using h1.mem_iff.mp hi
  have hvals:=Bg rv (l:=p.toList) fun i hi=>by rw[hv];exact hlt i hi
  have J':=Inv.adopt (J.pP (pins':=pins) fun q hq=>J.pin q (by simp[hq])) ⟨nD',fD.2⟩ ⟨nk1,fk.2⟩ g hD' hvals (by rw[List.length_map,Array.length_toList,pm.size,sizeLine_eq];grind)
  refine⟨.ref D,_,Inv.aed I.ok J',rfl,hQ D _ (tk.trans (TK.fresh nD')) ?_ (hr3.fresh nD)⟩
  refine hr'.ye (TK.fresh nD') ?_
  rw[Gm hM pm so]
  exact ((FJ ra hlt).mono tk).mono (TK.fresh nD')
theorem RK(I:Inv X pins σ H s){k:Nat}{f:Addr}{fd:FuncData}{pp:List Str}{sp:gA}(F:nO X.prog X.w X.K X.mg X.base yR k f fd pp (o9 X.K sp))(hr:fH (k+2) X.A)(hb:Binds X.K fd pp []){a:Addr}{vs:List V}{ps:List Pt}{H3:aC}
  (ga:H a=some (.lst vs)) (ra:bj X.K H (ps.map bN) vs) (hr3:HR X.K H3 H) (ko:Le sp) (h64:ps.length<64) {Q:VK}
  (hQ:∀(D:Addr) (H'':Hp),TK H H''->HR X.K (aK H3 D (.lst ((cD ps).map bN))) H''->H3 D=none->Q (.ref D) H'') :
  wpAny (model X.prog X.w) X.A (call (.builtin "sorted") [.ref a] [(Str.ofString "key",.ref f)]) (EP X pins σ Q) X.xe s:=by
 refine Bc I ga ra hr3 h64 (fun pins' H' s' c v u tk hr' J rep rx=>?_) hQ
 refine Pr (X:=Cx.GX X) (E:=E0) F (hr.in1.in1) hb .nil WL J (.cons rx .nil) ?_
 exact⟨[bN c],H3,fun d H3'=>d=.tup [.int c.2,.int c.1]/\H3'=H3,hr',.cons rep .nil,ko c H3 _ ⟨rfl,rfl⟩,fun d v H3'' H'' tk' hr'' rep' q=>by
  obtain⟨rfl,rfl⟩:=q
  exact⟨tk',hr'',rep'⟩⟩
theorem Ju{k:Nat}{x:Str}{pp:List Str}{sp:gA}{e:Expr}{te:aZ}{p pos kp kpos:Pos}(F:Fn X.prog X.w X.K X.mg X.base k x pp sp)(hr:fH (k+2) X.A)(hs:X.mg "sorted" = none)(he:cF X e te)
  (hg:Gl X "sorted":=by rfl) (hx:Gl X x:=by rfl) (hdb:(x==("__debug__" : Str))=false:=by decide) (h1:starEach [e] X.env=(false,eval e X.env)::starEach [] X.env:=by rfl)
  (h2:backTo pos (starEach [e] X.env)=(false,eval e X.env)::backTo pos (starEach [] X.env):=by rfl) (h3:(backTo pos (starEach [e] X.env)).any (·.1)=false:=by rfl) (h4:(backToKw pos (keywordEach [⟨some "key",.Name x kp,kpos⟩] X.env)).all (·.1.isSome)=true:=by rfl)
  (h5:(backToKw pos (keywordEach [⟨some "key",.Name x kp,kpos⟩] X.env)).any (·.1.isNone)=false:=by rfl) (h6:(backToKw pos (keywordEach [⟨some "key",.Name x kp,kpos⟩] X.env)).filterMap (·.1)=[Str.ofString "key"]:=by rfl) :
  cF X (.Call (.Name "sorted" p) [e] [⟨some "key",.Name x kp,kpos⟩] pos) (so3 sp te):=by
 obtain⟨f,fd,F,hm,hkp,hb⟩:=F.ex
 intro pins s σ H Q I h
 obtain⟨σ3,H3,Q3,sr,hr3,t,kk⟩:=h
 refine wpAny_Call_Name_kw (jd I hg hs boot_sorted ?_ (by decide) (by decide))
 have pa:PA X [e] (Ax (fB X.K te) Nq):=CP he Ir h1
 refine callWith_kw (cQ (pa pos pins s σ H (fun vs H1=>∃d v H31,vs=[v]/\TK H H1/\HR X.K H31 H1/\Rep X.K H1 d v/\sok sp d H31 Q3) I ⟨σ3,H3,_,sr,hr3,t,fun d v H3' H' tk hr' rep q=>⟨d,v,H3',rfl,tk,hr',rep,q⟩⟩) fun us s1 hq=>?_) h2 h3 h4 h5
 obtain⟨vs,H1,I1,rvs,d,v,H31,rfl,tk1,hr1,rep1,q1⟩:=hq
 have pk:PK X [⟨some "key",.Name x kp,kpos⟩] (Ax (tC (.ref f)) Nq):=K3 (Lj (v:=.ref f) hx hm rfl hdb) Sg
 refine cQ (pk pos pins s1 σ H1 (fun zs H2=>zs=[.ref f]/\H2=H1) I1 ⟨rfl,rfl⟩) fun ws s2 hq=>?_
 obtain⟨zs,H2,I2,rz,rfl,rfl⟩:=hq
 obtain⟨w1,rfl,rw1⟩:=vals1 rz
 cases rw1
 obtain⟨u1,rfl,ru1⟩:=vals1 rvs
 rw[h6]
 cases rep1 with
 |ref a=>
  cases ru1
  unfold sok at q1
  dsimp only at q1
  split at q1
  ·rename_i ds ha
   split at q1
   ·rename_i ps ep
    obtain⟨ko,h64,q1⟩:=q1
    have z:=pK ep
    subst z
    obtain⟨vs,ga,ra⟩:=hr1 a _ ha
    exact RK I2 F hr hb ga ra hr1 ko h64 fun D H'' tk hr'' nD=>kk _ _ _ _ (tk1.trans tk) hr'' (.ref D) (q1 D nD)
   ·exact q1.elim
  ·exact q1.elim
 |_=>exact q1.elim
end
end L3
namespace L3
open PySem PySem.Spec PyProof.Rows L2
def keysOf:List D->Option (List Key)
 |[]=>some []
 |.int i::ds=>(keysOf ds).map (Sum.inl i::·)
 |.str x::ds=>(keysOf ds).map (Sum.inr x::·)
 |_::_=>none
theorem jK{K:PySem.W.Frag}{H:Hp}:∀ {ds:List D} {xs:List V} {ks:List Key},bj K H ds xs->keysOf ds=some ks->xs=ks.map kV
 |_,_,_,.nil,h=>by simp only[keysOf,Option.some.injEq] at h;subst h;rfl
 |_,_,_,.cons (d:=d) r t,h=>by
  cases r with
  |int i=>
   simp only[keysOf,Option.map_eq_some_iff] at h
   obtain⟨ms,h1,rfl⟩:=h
   rw[jK t h1];rfl
  |str i=>
   simp only[keysOf,Option.map_eq_some_iff] at h
   obtain⟨ms,h1,rfl⟩:=h
   rw[jK t h1];rfl
  |_=>simp[keysOf] at h
abbrev Tab:=List (List Key×D)
def jM(kvs:Tab)(k:List Key):Option D:=(kvs.find? fun kv=>decide (kv.1=k)).map (·.2)
def dput(kvs:Tab)(k:List Key)(d:D):Tab:=if (kvs.any fun kv=>decide (kv.1=k))=true then kvs.map (fun kv=>if kv.1=k then (kv.1,d) else kv) else kvs++[(k,d)]
abbrev TR(K:PySem.W.Frag)(H:Hp):Tab->List (List Key×V)->Prop:=Paired (fun (p:List Key×D) (q:List Key×V)=>p.1=q.1/\Rep K H p.2 q.2)
theorem TR.look{K:PySem.W.Frag}{H:Hp}{k:List Key}:∀ {kvs:Tab} {ks:List (List Key×V)},TR K H kvs ks->(j7 ks k).isSome=(jM kvs k).isSome/\∀d,jM kvs k=some d->∃v,j7 ks k=some v/\Rep K H d v
 |_,_,.nil=>⟨rfl,fun _ h=>nomatch h⟩
 |_,_,.cons (a:=p) (b:=q) r t=>by
  have ih:=TR.look (k:=k) t
  by_cases e:p.1=k
  ·have e':q.1=k:=r.1.symm.trans e
   have l1:∀rest:Tab,jM (p::rest) k=some p.2:=fun rest=>by unfold jM;rw[List.find?_cons_of_pos (by simpa using e)];rfl
   rw[oJ e',l1]
   exact⟨rfl,fun d h=>⟨_,rfl,by cases h;exact r.2⟩⟩
  ·have e':¬q.1=k:=fun z=>e (r.1.trans z)
   have l1:∀rest:Tab,jM (p::rest) k=jM rest k:=fun rest=>by unfold jM;rw[List.find?_cons_of_neg (by simpa using e)]
   rw[nZ e',l1]
   exact ih
theorem TR.any{K:PySem.W.Frag}{H:Hp}{k:List Key}:∀ {kvs:Tab} {ks:List (List Key×V)},TR K H kvs ks->(kvs.any fun kv=>decide (kv.1=k))=ks.any fun kv=>decide (kv.1=k)
 |_,_,.nil=>rfl
 |_,_,.cons r t=>by rw[List.any_cons,List.any_cons,TR.any t,r.1]
theorem TR.repl{K:PySem.W.Frag}{H:Hp}{k:List Key}{d:D}{v:V}(rd:Rep K H d v):∀ {kvs:Tab} {ks:List (List Key×V)},TR K H kvs ks->TR K H (kvs.map fun kv=>if kv.1=k then (kv.1,d) else kv) (ks.map fun kv=>if kv.1=k then (kv.1,v) else kv)
 |_,_,.nil=>.nil
 |_,_,.cons (a:=p) (b:=q) r t=>by
  refine .cons ?_ (TR.repl rd t)
  dsimp only
  by_cases e:p.1=k
  ·rw[if_pos e,if_pos (r.1.symm.trans e)];exact⟨r.1,rd⟩
  ·rw[if_neg e,if_neg (fun z=>e (r.1.trans z))];exact r
theorem TR.put{K:PySem.W.Frag}{H:Hp}{k:List Key}{d:D}{v:V}{kvs:Tab}{ks:List (List Key×V)}(r:TR K H kvs ks)(rd:Rep K H d v):TR K H (dput kvs k d) (putK ks k v):=by
 unfold dput putK
 rw[←TR.any r]
 split
 ·exact TR.repl rd r
 ·exact Paired.snoc r ⟨rfl,rd⟩
theorem TR.mono{K:PySem.W.Frag}{H H':Hp}(t:TK H H'){kvs:Tab}{ks:List (List Key×V)}(r:TR K H kvs ks):TR K H' kvs ks:=Paired.yh r fun _ _ z=>⟨z.1,z.2.mono t⟩
theorem HR.Vi{K:PySem.W.Frag}{H:Hp}{H3:aC}(h:HR K H3 H){p:Addr}{ks:List (List Key×V)}{kvs:Tab}(t:TK H (upd H p (.dT ks)))(r:TR K (upd H p (.dT ks)) kvs ks):HR K (aK H3 p (.dic kvs)) (upd H p (.dT ks)):=h.set (o3:=.dic kvs) t ⟨ks,aR,r⟩
def Fw(neg:Bool):R3:=fun x y H Q=>match x,y with
 | .tup ds,.ref a => (match keysOf ds,H a with
  |some k,some (.dic kvs)=>Q (.bl (if neg then !(jM kvs k).isSome else (jM kvs k).isSome)) H
  |_,_=>False)
 |_,_=>False
def oh(neg:Bool):R3:=fun x y H Q=>Hh neg x y H Q\/Fw neg x y H Q
section
variable{X:Cx}
theorem Uy(hu:X.A.units+64<cLine):jj X (compareOp .In) (cz X.K (oh false)):=by
 intro pins s σ H x y v u Q I rx ry h
 obtain⟨dx,dy,H3,Q3,hr,rdx,rdy,t,k⟩:=h
 rcases t with t | t
 ·exact Y0 hu pins s σ H x y v u Q I rx ry ⟨dx,dy,H3,Q3,hr,rdx,rdy,t,k⟩
 ·cases rdx with
  |tup ha ra=>
   cases rdy with
   |ref a=>
    (delta Fw at t;dsimp only at t)
    split at t
    ·rename_i ks kvs e1 e2
     obtain⟨vs,gd,rd⟩:=hr a _ e2
     cases ry
     have ex:=jK ra e1
     subst ex
     refine adG (by omega) I (uF.t gd ha) rx fun s' I'=>⟨.bl _,H,I',rfl,?_⟩
     rw[(TR.look (k:=ks) rd).1]
     exact k _ _ _ _ TK.refl hr (.bl _) t
    ·exact t.elim
   |_=>exact t.elim
  |_=>exact t.elim
theorem mR(hu:X.A.units+64<cLine):jj X (compareOp .NotIn) (cz X.K (oh true)):=by
 intro pins s σ H x y v u Q I rx ry h
 obtain⟨dx,dy,H3,Q3,hr,rdx,rdy,t,k⟩:=h
 rcases t with t | t
 ·exact Nr hu pins s σ H x y v u Q I rx ry ⟨dx,dy,H3,Q3,hr,rdx,rdy,t,k⟩
 ·cases rdx with
  |tup ha ra=>
   cases rdy with
   |ref a=>
    (delta Fw at t;dsimp only at t)
    split at t
    ·rename_i ks kvs e1 e2
     obtain⟨vs,gd,rd⟩:=hr a _ e2
     cases ry
     have ex:=jK ra e1
     subst ex
     refine Vy (by omega) I (uF.t gd ha) rx fun s' I'=>⟨.bl _,H,I',rfl,?_⟩
     rw[(TR.look (k:=ks) rd).1]
     exact k _ _ _ _ TK.refl hr (.bl _) t
    ·exact t.elim
   |_=>exact t.elim
  |_=>exact t.elim
def Ym(v x y:D)(σ:bQ)(H:aC)(R:bQ->aC->Prop):Prop:=match x,y with
 | .ref a,.tup ds => (match keysOf ds,H a with
  |some k,some (.dic kvs)=>kvs.length<1000/\R σ (aK H a (.dic (dput kvs k v)))
  |_,_=>False)
 |_,_=>False
def dp3(td ty tv:aZ):cO:=fun D0 σ H=>tv σ H fun v H1=>td σ H1 fun x H2=>ty σ H2 fun y H3=>Ym v x y σ H3 D0.nx
theorem wM{o i value:Expr}{td ty tv:aZ}{pos pos':Pos}(hu:X.A.units+64<cLine)(ho:cF X o td)(hi:cF X i ty)(hv:cF X value tv)(hs:swapsWith value (some (.Subscript o i pos')) pos.line X.env=pure false:=by rfl) :
  Ko X (.Assign [.Subscript o i pos'] value pos) (dp3 td ty tv) :=
 jR (Um (by omega) ho hi hv hs) fun D0 σ H zz=>zz.ex fun σ3 H3 D3 sr hr t k=>⟨σ3,H3,_,sr,hr,t,fun dv v H3a Ha tka hra rv qa=>⟨σ3,H3a,_,sr.mono tka,hra,qa,fun dx x H3b Hb tkb hrb rx qb=>⟨σ3,H3b,_,(sr.mono tka).mono tkb,hrb,qb,fun dy y H3c Hc tkc hrc ry qc=>by
  cases rx with
  |ref a=>
   cases ry with
   |tup hb rb=>
    (delta Ym at qc;dsimp only at qc)
    split at qc
    ·rename_i ks kvs e1 e2
     obtain⟨vs,gd,rd⟩:=hrc a _ e2
     have ex:=jK rb e1
     subst ex
     obtain⟨hl,qc⟩:=qc
     refine⟨a,_,rfl,TY.t gd hb (by rw[←Paired.length rd];exact uP (Nat.le_of_lt hl)),?_⟩
     have tt:=TK.dT (o:=.dT (putK vs ks v)) gd
     exact k.nx _ _ _ _ ((tka.trans (tkb.trans tkc)).trans tt) ((((sr.mono tka).mono tkb).mono tkc).mono tt) (hrc.Vi tt (TR.put (TR.mono tt rd) (((rv.mono tkb).mono tkc).mono tt))) qc
    ·exact qc.elim
   |_=>exact qc.elim
  |_=>exact qc.elim⟩⟩⟩
def dn3:aZ:=fun _ H Q=>∀p,H p=none->Q (.ref p) (aK H p (.dic []))
theorem VP{pos:Pos}:cF X (.Dict [] [] pos) dn3:=bM Rq fun _ _ _ ⟨_,_,_,_,hr,t,k⟩=>fun p n=>k _ _ _ _ (TK.fresh n) (hr.Vi (TK.fresh n) .nil) (.ref p) (t p (hr.fresh n))
theorem Nv{pins:List (Addr×Obj)}{σ:St}{H:Hp}{s:Shared}{a b:Addr}{kvs:List (List Key×V)}{k:List Key}{v:V}{r:Value}{A:Around}{E:Value->Shared->Prop}{Q:Unit->Shared->Prop}(hu:A.units<cLine)(I:Inv X pins σ H s)(e:H a=some (.dT kvs))(eb:H b=some (.tup (k.map kV)))
  (l:kvs.length<sizeLine) (rv:RelV v r) (h:∀s',Inv X pins σ (upd H a (.dT (putK kvs k v))) s'->Q () s'):wpAny (model X.prog X.w) A (dictSet a (.ref b) r) Q E s:=by
 obtain⟨z,hd,xs,rel,dd⟩:=QH I.hok e
 have hz:xs.length<=sizeLine:=by rw[←Paired.length rel];exact z
 have hl:(putK kvs k v).length<=sizeLine:=Nat.le_trans (lF kvs k v) l
 refine wpAny_dictSet_heap (knd:=tupleKind (bH X.prog X.w)) (hsz:=hz) hu (uI I.hok eb) dd fun h' dd' hs=>h _ ?_
 obtain⟨q,es,ep,hq,h2,h3,h4,_,h5⟩:=dd'
 exact wG I (by rw[e];exact True.intro) hs ⟨q,hq⟩ ⟨hl,hd,_,(rel.put k eb rv).keeps fun c ys ec=>by rw[aF (qF ec e (fun z=>nomatch z))];exact ec,q,es,ep,hq,h2,h3,h4,h5⟩
def ddk(p:Addr)(x y:D)(H:aC)(Q:aM):Prop:=match x with
 | .tup ds => H p = some (.dic [])∧(match keysOf ds with
  |some k=>Q (.ref p) (aK H p (.dic [(k,y)]))
  |none=>False)
 |_=>False
def dd3(tk tv:aZ):aZ:=fun σ H Q=>∀p,H p=none->tk σ (aK H p (.dic [])) fun x H1=>tv σ H1 fun y H2=>ddk p x y H2 Q
theorem Gu{ke ve:Expr}{tk tv:aZ}{pos:Pos}(hu:X.A.units<cLine)(hk:cF X ke tk)(hv:cF X ve tv):cF X (.Dict [some ke] [ve] pos) (dd3 tk tv):=by
 intro pins s σ H Q I h
 obtain⟨σ3,H3,Q3,sr,hr,t,k⟩:=h
 have hn:=I.hok.fresh (Nat.le_refl s.heap.objs.size)
 have I1:=I.laid (a:=s.heap.objs.size) (o:=.dT []) (h':=s.heap.push { cls:=.type "dict",data:=.dict #[] }) (t':=s.toks) (fun _ _ q=>Heap.get?_push_of_some _ q) (Nat.le_refl _) (Eh s.heap I.big)
 have pp:PPs X pos [some ke] [ve] [(fB X.K tk,fB X.K tv)]:=Qp hk hv Vp
 have tk0:TK H (upd H s.heap.objs.size (.dT [])):=TK.fresh hn
 refine wpAny_Dict_any rfl rfl (by simp) (by simp) (cQ (pp pins _ σ _ (fun ps H2=>∃dx dy x y H32,ps=[(x,y)]/\TK H H2/\HR X.K H32 H2/\Rep X.K H2 dx x/\Rep X.K H2 dy y/\ddk s.heap.objs.size dx dy H32 Q3) I1 ?_) fun ws s2 hq=>?_)
 ·exact⟨σ3,_,_,sr.mono tk0,hr.Vi tk0 .nil,t _ (hr.fresh hn),fun dx x H3a Ha tka hra rx qa=>⟨σ3,H3a,_,(sr.mono tk0).mono tka,hra,qa,fun dy y H3b Hb tkb hrb ry qb=>⟨dx,dy,x,y,H3b,rfl,(tk0.trans tka).trans tkb,hrb,rx.mono tkb,ry,qb⟩⟩⟩
 ·obtain⟨ps,H2,I2,rel,dx,dy,x,y,H32,rfl,tk2,hr2,rx,ry,q⟩:=hq
  cases rel with
  |cons r1 r2=>
   cases r2
   rename_i w1
   obtain⟨u1,u2⟩:=w1
   obtain⟨r1,r2⟩:=r1
   unfold storeAll
   rw[List.forIn_cons]
   cases rx with
   |tup hb rb=>
    (delta ddk at q;dsimp only at q)
    obtain⟨q0,q⟩:=q
    split at q
    ·rename_i ks e1
     have ex:=jK rb e1
     subst ex
     obtain⟨vs,gd,rd⟩:=hr2 _ _ q0
     cases rd
     cases r1
     refine wpAny_bind (wpAny_bind (Nv hu I2 gd hb (by rw[sizeLine_eq];decide) r2 fun s' I'=>wpAny_pure ?_))
     show wpAny _ _ (forIn [] PUnit.unit _) _ _ s'
     rw[List.forIn_nil]
     have tt:=TK.dT (o:=.dT (putK [] ks y)) gd
     exact wpAny_pure ⟨.ref _,_,I',rfl,k _ _ _ _ (tk2.trans tt) (hr2.Vi tt (.cons ⟨rfl,ry.mono tt⟩ .nil)) (.ref _) q⟩
    ·exact q.elim
   |_=>exact q.elim
end
def Zw:cO:=fun _ _ _=>False
theorem lR{X:Cx}{st:Stmt}:Ko X st Zw:=fun _ _ _ _ _ _ h=>by obtain⟨_,_,_,_,_,t,_⟩:=h;exact t.elim
end L3
namespace L3
open PySem PySem.Spec PyProof.Rows L2
section
variable{prog:Program}{w:World}{A:Around}{E:Value->Shared->Prop}{s:Shared}
end
section
variable{X:Cx}{pins:List (Addr×Obj)}{σ:St}
end
end L3
namespace L3
open PySem PySem.Spec PyProof.Rows L2
theorem Q5{X:Cx}{x:Str}{i:Int}{pos:Pos}(hg:Gl X x)(hm:∃tk,X.mg x=some (.int i tk))(hd:(x==("__debug__" : Str))=false:=by decide):cF X (.Name x pos) (c3 (.int i)):=by
 obtain⟨tk,hm⟩:=hm
 exact Pz hg hm hd
end L3
namespace L3
open PySem L2
def kP(c:Pt):List Key:=[Sum.inl c.1,Sum.inl c.2]
theorem xO{a b:Pt}(h:kP a=kP b):a=b:=by
 unfold kP at h
 simp only[List.cons.injEq,Sum.inl.injEq,and_true] at h
 exact Prod.ext h.1 h.2
def gM(ps:List Pt):Tab:=ps.map fun c=>(kP c,D.bl true)
def lL(ps:List Pt)(c:Pt):List Pt:=if c∈ps then ps else ps++[c]
theorem vq(c:Pt):∀ps:List Pt,(jM (gM ps) (kP c)).isSome=decide (c∈ps)
 |[]=>rfl
 |p::ps=>by
  unfold gM jM
  rw[List.map_cons]
  by_cases e:p=c
  ·subst e
   rw[List.find?_cons_of_pos (by simp)]
   simp
  ·have e':¬kP p=kP c:=fun z=>e (xO z)
   rw[List.find?_cons_of_neg (by simpa using e')]
   have ih:=vq c ps
   unfold gM jM at ih
   rw[ih]
   have e2:¬c=p:=fun z=>e z.symm
   simp[e2]
theorem UT(c:Pt)(ps:List Pt):((gM ps).any fun kv=>decide (kv.1=kP c))=decide (c∈ps):=by
 induction ps with
 |nil=>rfl
 |cons p ps ih=>
  have e0:gM (p::ps)=(kP p,D.bl true)::gM ps:=rfl
  rw[e0,List.any_cons,ih]
  by_cases e:p=c
  ·subst e;simp
  ·have e':¬kP p=kP c:=fun z=>e (xO z)
   have e2:¬c=p:=fun z=>e z.symm
   simp[e',e2]
theorem Ss(ps:List Pt)(c:Pt):dput (gM ps) (kP c) (.bl true)=gM (lL ps c):=by
 unfold dput lL
 rw[UT]
 by_cases h:c∈ps
 ·rw[if_pos (decide_eq_true h),if_pos h]
  unfold gM
  rw[List.map_map]
  refine List.map_congr_left fun p _=>?_
  show (if kP p=kP c then (kP p,D.bl true) else (kP p,D.bl true))=_
  split <;> rfl
 ·rw[if_neg (by simpa using h),if_neg h]
  unfold gM
  rw[List.map_append];rfl
theorem Qy{ps:List Pt}{c x:Pt}:x∈lL ps c↔x∈ps\/x=c:=by
 unfold lL
 split
 ·rename_i h
  constructor
  ·exact .inl
  ·rintro (h1 | rfl)
   ·exact h1
   ·exact h
 ·simp
theorem Af{x:Pt}:∀ {ps acc:List Pt},x∈ps.foldl lL acc↔x∈acc\/x∈ps
 |[],acc=>by simp
 |p::ps,acc=>by
  rw[List.foldl_cons,Af,Qy,List.mem_cons]
  constructor
  ·rintro ((h | h) | h)
   ·exact .inl h
   ·exact .inr (.inl h)
   ·exact .inr (.inr h)
  ·rintro (h | h | h)
   ·exact .inl (.inl h)
   ·exact .inl (.inr h)
   ·exact .inr h
theorem Aa:∀(ps acc:List Pt),(ps.foldl lL acc).length<=acc.length+ps.length
 |[],acc=>by simp
 |p::ps,acc=>by
  rw[List.foldl_cons]
  have h1:=Aa ps (lL acc p)
  have h2:(lL acc p).length<=acc.length+1:=by unfold lL;split <;> simp
  rw[List.length_cons];grind
section
variable{σ:bQ}{H:aC}{Q:aM}{D0:dj}{a p:Addr}{x y:D}{ta tb te:aZ}{p1 p2:Int}{ps:List Pt}
theorem Jd(h:Ji H y=some (ps.map bN))(q:Q (.bl (!decide ((p1,p2)∈ps))) H):oh true (.tup [.int p1,.int p2]) y H Q:=.inl (XH h q)
theorem abM(h:H a=some (.dic (gM ps)))(q:Q (.bl (decide ((p1,p2)∈ps))) H):oh false (.tup [.int p1,.int p2]) (.ref a) H Q:=by
 refine .inr ?_
 have e:keysOf [D.int p1,.int p2]=some (kP (p1,p2)):=rfl
 (delta Fw;simp only[e,h,vq])
 exact q
theorem ZP(h:H a=some (.dic (gM ps)))(q:Q (.bl (!decide ((p1,p2)∈ps))) H):oh true (.tup [.int p1,.int p2]) (.ref a) H Q:=by
 refine .inr ?_
 have e:keysOf [D.int p1,.int p2]=some (kP (p1,p2)):=rfl
 (delta Fw;simp only[e,h,vq])
 exact q
theorem ado(h:te σ H fun v H1=>ta σ H1 fun x H2=>tb σ H2 fun y H3=>Ym v x y σ H3 D0.nx):dp3 ta tb te D0 σ H:=h
theorem QG{R:bQ->aC->Prop}(ha:H a=some (.dic (gM ps)))(hl:ps.length<1000)(q:R σ (aK H a (.dic (gM (lL ps (p1,p2)))))):Ym (.bl true) (.ref a) (.tup [.int p1,.int p2]) σ H R:=by
 have e:keysOf [D.int p1,.int p2]=some (kP (p1,p2)):=rfl
 (delta Ym;simp only[e,ha,Ss])
 exact⟨by unfold gM;rw[List.length_map];exact hl,q⟩
theorem adO(h:∀p,H p=none->Q (.ref p) (aK H p (.dic []))):dn3 σ H Q:=h
theorem aeb(h:∀p,H p=none->ta σ (aK H p (.dic [])) fun x H1=>tb σ H1 fun y H2=>ddk p x y H2 Q):dd3 ta tb σ H Q:=h
theorem Xd(h:H p=some (.dic []))(q:Q (.ref p) (aK H p (.dic (gM [(p1,p2)])))):ddk p (.tup [.int p1,.int p2]) (.bl true) H Q:=by
 have e:keysOf [D.int p1,.int p2]=some (kP (p1,p2)):=rfl
 (delta ddk;simp only[e]);exact⟨h,q⟩
end
end L3
namespace L3
open PySem PySem.Spec PyProof.Rows L2
def boolsOf:List D->Option (List Bool)
 |[]=>some []
 |.bl b::ds=>(boolsOf ds).map (b::·)
 |_::_=>none
theorem Fi(bs:List Bool):boolsOf (bs.map D.bl)=some bs:=by
 induction bs with
 |nil=>rfl
 |cons b bs ih=>rw[List.map_cons,boolsOf,ih];rfl
theorem vH:∀ {ds:List D} {bs:List Bool},boolsOf ds=some bs->ds=bs.map D.bl
 |[],bs,h=>by cases h;rfl
 |d::ds,bs,h=>by
  cases d with
  |bl b=>
   rw[boolsOf,Option.map_eq_some_iff] at h
   obtain⟨cs,hc,rfl⟩:=h
   rw[vH hc];rfl
  |_=>cases h
def Ql(f:List Bool->Bool):List D->aC->aM->Prop:=fun ds H Q=>match ds with
 | [.ref a] => (match H a with
  | some (.lst xs) => (match boolsOf xs with
   |some bs=>Q (.bl (f bs)) H
   |none=>False)
  |_=>False)
 |_=>False
abbrev WT:List D->aC->aM->Prop:=Ql fun bs=>bs.all id
theorem acX{f:List Bool->Bool}{bs:List Bool}{a:Addr}{H:aC}{Q:aM}(ha:H a=some (.lst (bs.map D.bl)))(q:Q (.bl (f bs)) H):Ql f [.ref a] H Q:=by
 (delta Ql;simp only[ha,Fi]);exact q
def lets(z:Str):List D:=z.cps.toList.map fun c=>D.str ⟨#[c]⟩
def iz3(te:aZ):rA:=fun σ H R=>te σ H fun x H1=>match x with
 |.str z=>R (lets z) (fun _=>True) H1
 |_=>False
def izk(x:D)(H:aC)(R:List D->(aC->Prop)->aC->Prop):Prop:=match x with
 |.str z=>R (lets z) (fun _=>True) H
 |_=>False
theorem acz{te:aZ}{σ:bQ}{H:aC}{R:List D->(aC->Prop)->aC->Prop}(h:te σ H fun x H1=>izk x H1 R):iz3 te σ H R:=h
theorem aaj{z:Str}{H:aC}{R:List D->(aC->Prop)->aC->Prop}(h:R (lets z) (fun _=>True) H):izk (.str z) H R:=h
def strsOf:List D->Option (List Str)
 |[]=>some []
 |.str b::ds=>(strsOf ds).map (b::·)
 |_::_=>none
theorem Jw(bs:List Str):strsOf (bs.map D.str)=some bs:=by
 induction bs with
 |nil=>rfl
 |cons b bs ih=>rw[List.map_cons,strsOf,ih];rfl
theorem wZ:∀ {ds:List D} {bs:List Str},strsOf ds=some bs->ds=bs.map D.str
 |[],bs,h=>by cases h;rfl
 |d::ds,bs,h=>by
  cases d with
  |str b=>
   rw[strsOf,Option.map_eq_some_iff] at h
   obtain⟨cs,hc,rfl⟩:=h
   rw[wZ hc];rfl
  |_=>cases h
def vJ(z:Str)(ys:List Str):Str:=⟨(ys.drop 1).foldl (fun acc p=>acc++z.cps++p.cps) (ys.headD ⟨#[]⟩).cps⟩
theorem Ab(z:Str)(hz:z.cps=#[]):∀(ys:List Str) (acc:Array Nat),ys.foldl (fun acc p=>acc++z.cps++p.cps) acc=acc++(ys.map fun y=>y.cps.toList).flatten.toArray
 |[],acc=>by simp
 |y::ys,acc=>by rw[List.foldl_cons,Ab z hz ys,hz];apply Array.ext';simp
theorem Mj{z:Str}(hz:z.cps=#[])(ys:List Str):vJ z ys=⟨(ys.map fun y=>y.cps.toList).flatten.toArray⟩:=by
 unfold vJ
 rw[Ab z hz]
 cases ys with
 |nil=>simp
 |cons y ys=>simp
theorem HY{z:Str}(hz:z.cps=#[])(cs:List Nat):vJ z (cs.map fun c=>⟨#[c]⟩)=⟨cs.toArray⟩:=by
 rw[Mj hz,List.map_map]
 congr 2
 induction cs with
 |nil=>rfl
 |cons c cs ih=>simp only[List.map_cons,List.flatten_cons,ih];rfl
def qO:D->List D->aC->aM->Prop:=fun x xs H Q=>match x,xs with
 | .str z,[.ref a] => (match H a with
  | some (.lst ds) => (match strsOf ds with
   |some ys=>(ys.map fun y=>y.cps.size).sum+ys.length*z.cps.size<=16777216/\Q (.str (vJ z ys)) H
   |none=>False)
  |_=>False)
 |_,_=>False
def sW(z y:Str):Option Nat:=(List.range (z.cps.size+1)).find? fun i=>decide (i+y.cps.size<=z.cps.size)&&(z.cps.extract i (i+y.cps.size)==y.cps)
def uo:D->List D->aC->aM->Prop:=fun x xs H Q=>match x,xs with
 | .str z,[.str y] => (match sW z y with
  |some i=>Q (.int i) H
  |none=>False)
 |_,_=>False
def mz3(r:D->List D->aC->aM->Prop)(to:aZ)(t:lN):aZ:=fun σ H Q=>to σ H fun x H1=>(match x with
 |.str _=>t σ H1 fun xs H2=>r x xs H2 Q
 |_=>False)
def mzk(r:D->List D->aC->aM->Prop)(t:lN)(σ:bQ)(x:D)(H1:aC)(Q:aM):Prop:=match x with
 |.str _=>t σ H1 fun xs H2=>r x xs H2 Q
 |_=>False
theorem ad6{r:D->List D->aC->aM->Prop}{to:aZ}{t:lN}{σ:bQ}{H:aC}{Q:aM}(h:to σ H fun x H1=>mzk r t σ x H1 Q):mz3 r to t σ H Q:=h
theorem aaM{r:D->List D->aC->aM->Prop}{t:lN}{σ:bQ}{z:Str}{H:aC}{Q:aM}(h:t σ H fun xs H2=>r (.str z) xs H2 Q):mzk r t σ (.str z) H Q:=h
theorem Zh{z:Str}{ys:List Str}{a:Addr}{H:aC}{Q:aM}(ha:H a=some (.lst (ys.map D.str)))(hl:(ys.map fun y=>y.cps.size).sum+ys.length*z.cps.size<=16777216)(q:Q (.str (vJ z ys)) H):qO (.str z) [.ref a] H Q:=by
 (delta qO;simp only[ha,Jw]);exact⟨hl,q⟩
theorem Ve{z y:Str}{i:Nat}{H:aC}{Q:aM}(h:sW z y=some i)(q:Q (.int i) H):uo (.str z) [.str y] H Q:=by
 (delta uo;simp only[h]);exact q
def zK(z:Str)(lo hi:Option Int):Str:=⟨(p8 z.cps.toList lo hi).toArray⟩
def KC:RSl:=fun x lo hi H Q=>match x with
 |.str z=>z.length<=sizeLine/\Q (.str (zK z lo hi)) H
 |_=>False
theorem W5{z:Str}{lo hi:Option Int}{H:aC}{Q:aM}(hl:z.length<=sizeLine)(q:Q (.str (zK z lo hi)) H):KC (.str z) lo hi H Q:=⟨hl,q⟩
end L3
namespace L3
open PySem PySem.Spec PyProof.Rows PySem.Calls L2
section
variable{X:Cx}
theorem Fd:∀ {bs:List Bool} {us:List Value} {i:Nat} {v:Value},Vals (bs.map V.bl) us->us[i]?=some v->∃b,bs[i]?=some b/\v=.bool b
 |[],_,i,v,.nil,e=>by simp at e
 |b::bs,_,0,v,.cons r t,e=>by
  simp at e;subst e
  exact⟨b,rfl,r⟩
 |b::bs,_,i+1,v,.cons r t,e=>by
  obtain⟨c,h1,h2⟩:=Fd (bs:=bs) (i:=i) t (by simpa using e)
  exact⟨c,by simpa using h1,h2⟩
theorem bj.zP{K:PySem.W.Frag}{H:Hp}:∀ {bs:List Bool} {vs:List V},bj K H (bs.map D.bl) vs->vs=bs.map V.bl
 |[],_,.nil=>rfl
 |_::bs,_,.cons (.bl _) t=>by rw[List.map_cons,bj.zP (bs:=bs) t]
theorem O9{h h':Heap}{o:Obj}(hk:∀b x,b∉[h.objs.size]->(h.push o).get? b=some x->h'.get? b=some x)(b:Addr)(x:Obj)(e:h.get? b=some x):h'.get? b=some x:=by
 refine hk b x (fun hm=>?_) (Heap.get?_push_of_some _ e)
 rw[List.mem_singleton.mp hm] at e
 exact absurd (Heap.lt_size e) (Nat.lt_irrefl _)
theorem Mw(hc:X.calm=true):dZ X (.builtin "all") (fun xs H Q=>∃(a:Addr) (bs:List Bool),xs=[.ref a]/\jm X.K H a (bs.map V.bl)/\Q (.bl (bs.all id)) H):=by
 intro pins s σ H xs us Q I r h
 obtain⟨a,bs,rfl,hq,q⟩:=h
 obtain⟨u,rfl,ru⟩:=vals1 r
 cases ru
 obtain⟨its,rv,pl,_⟩:=I.list hq
 have hl:=pl.isList
 have hlt:a<s.heap.objs.size:=by obtain⟨_,e,_⟩:=hl;exact Heap.lt_size e
 have hlen:its.length=bs.length:=by have:=rv.length;rw[List.length_map] at this;exact this.symm
 refine call_all_walk (wpAny_pyIter_list hl ?_)
 refine⟨s.heap.objs.size,[s.heap.objs.size,a],[s.heap.objs.size],its.toArray.size,_,_,fun i=>(bs[i]?).getD true,rfl,
  Walks.list (A:=X.A.in1) (I.ok.hd hc) _ a (Nat.ne_of_lt hlt) its.toArray,⟨⟨_,Heap.get?_push_size _ rfl,rfl,rfl⟩,hl.push _⟩,?_,?_⟩
 ·intro i v s' Q' E' hP hQ
  obtain⟨b,e,rfl⟩:=Fd rv (i:=i) (v:=v) (by simpa using hP)
  dsimp only at hQ
  rw[e,Option.getD_some] at hQ
  exact wpAny_truthy_bool hQ
 ·intro h' tk hk
  rw[List.size_toArray,hlen,LSm.range_all]
  exact⟨.bl (bs.all id),H,I.kept (O9 hk),rfl,q⟩
theorem UW{id:String}{f:List Bool->Bool}(h:dZ X (.builtin id) (fun xs H Q=>∃(a:Addr) (bs:List Bool),xs=[.ref a]/\jm X.K H a (bs.map V.bl)/\Q (.bl (f bs)) H)):dZ X (.builtin id) (jY X.K (Ql f)):=by
 intro pins s σ H xs us Q I rs t
 obtain⟨ds,H3,Q3,hr,rd,t,k⟩:=t
 cases rd with
 |nil=>exact t.elim
 |cons r1 r2=>
  cases r2 with
  |cons _ _=>cases r1 <;> exact t.elim
  |nil=>
   cases r1 with
   |ref a=>
    (delta Ql at t;dsimp only at t)
    split at t
    ·rename_i ds ha
     split at t
     ·rename_i bs e
      obtain⟨vs,ga,ra⟩:=hr a _ ha
      have z:=vH e
      subst z
      have z:=ra.zP
      subst z
      exact h pins s σ H _ us Q I rs ⟨a,bs,rfl,jm.of ga,k _ _ _ _ TK.refl hr (.bl _) t⟩
     ·exact t.elim
    ·exact t.elim
   |_=>exact t.elim
theorem Uo(hc:X.calm=true):dZ X (.builtin "all") (jY X.K WT):=UW (Mw hc)
end
end L3
namespace L3
open PySem PySem.Spec PyProof.Rows L2
def Itx(x:Str):It:=⟨fun i _=>i<x.cps.size,fun i H v H'=>H'=H/\∃c,x.cps[i]?=some c/\v=.str ⟨#[c]⟩,fun i _=>x.cps.size<=i⟩
theorem zZ{P:Program}{w:World}{K:PySem.W.Frag}{tg:Expr}{ty:String}{x:Str}{t:Tok}(it:Addr)
  (hn:["enumerate", "zip", "dict_itemiterator", "dict_reverseitemiterator", "odict_iterator", "itertools.zip_longest", "itertools.pairwise"].contains ty=false)
  (W:∀A':Around,A'.handled=none->Walks P w A' it [it] [it] x.cps.size (SignAt x) (fun i h=>h.IsStrIter it ty x t i))
  (S:∀(A:Around) (i:Nat) (s:Shared) (Q:Value->Shared->Prop) (E:Value->Shared->Prop),s.heap.IsStrIter it ty x t i->Q (.ref it) s->wpAny (model P w) A (pyIter (.ref it)) Q E s) :
  Turn P w K tg (Itx x) [it] it (fun i h=>i<=x.cps.size/\h.IsStrIter it ty x t i) where
 mem:=List.mem_singleton.mpr rfl
 obj:=by
  rintro i h ⟨_,o,e,_,d⟩ b hb
  rw[List.mem_singleton.mp hb]
  exact⟨o,e,fun v z=>by rw[d] at z;cases z⟩
 keep:=by
  rintro i h h' ⟨l,o,e,c⟩ k
  exact⟨l,o,k it (List.mem_singleton.mpr rfl) o e,c⟩
 item:=by
  intro X hP hw hK hc i pins s σ H E I hf st hg
  subst hP hw hK
  obtain⟨f0,f1,f2,f3,f4,f5⟩:=hf it (List.mem_singleton.mpr rfl)
  refine (W X.A (I.ok.hd hc)).item i s _ _ hg st.2 fun v h' tk hv st' kk=>?_
  obtain⟨c,u,hcx,rfl⟩:=hv
  have I1:L2.Inv X pins σ H { s with heap:=h',toks:=tk }:=I.turned (fun b o hb e=>kk b o (fun z=>hb (List.mem_singleton.mp z)) e) f0 f1 f3 f4 f5
  obtain⟨o,e,hcl,d⟩:=id st'
  exact⟨_,rfl,tM (s:={ s with heap:=h',toks:=tk }) e hcl d hn ⟨.str ⟨#[c]⟩,H,I1,⟨u,rfl⟩,⟨rfl,c,hcx,rfl⟩,⟨hg,st'⟩,fun b hb=>(hf b hb).1⟩⟩
 done:=by
  intro X hP hw hK hc i pins s σ H E I hf st hg
  subst hP hw hK
  obtain⟨f0,f1,f2,f3,f4,f5⟩:=hf it (List.mem_singleton.mpr rfl)
  have hi:i=x.cps.size:=Nat.le_antisymm st.1 hg
  subst hi
  exact (W X.A (I.ok.hd hc)).done s _ _ st.2 fun h' tk kk=>⟨rfl,I.turned (t':=tk) (fun b o hb e=>kk b o (fun z=>hb (List.mem_singleton.mp z)) e) f0 f1 f3 f4 f5⟩
 self:=fun A i s Q E st h=>S A i s Q E st.2 h
section
variable{X:Cx}
def abA(tl:TE):TI:=fun σ H R=>tl σ H fun x H1=>∃z,x=.str z/\R (Itx z) H1
theorem UJ{tg l:Expr}{tl:TE}(hl:PE X l tl):PI X tg l (abA tl):=by
 intro pins s σ H R I h
 refine cQ (hl pins s σ H _ I h) fun v s1 zz=>?_
 obtain⟨x,H1,I1,r1,q1⟩:=zz
 obtain⟨z,rfl,q⟩:=q1
 obtain⟨t,rfl⟩:=r1
 have fp:∀b∈[s1.heap.objs.size],lW X pins H1 b:=fun b hb=>by
  rw[List.mem_singleton.mp hb]
  exact I1.uX (Nat.le_refl _) (I1.hok.fresh (Nat.le_refl _))
 cases ha:z.cps.all (· < 128)
 ·refine wpAny_pyIter_wide ha ?_
  exact⟨s1.heap.objs.size,[s1.heap.objs.size],_,_,H1,rfl,I1.kept (t':=s1.toks) fun b o e=>Heap.get?_push_of_some _ e,
   zZ (ty := "str_iterator") (x:=z) (t:=t) _ (by decide) (fun A' hA=>Walks.strWide hA _ z t) (fun A i s Q E st h=>wpAny_pyIter_striter_wide st h),⟨Nat.zero_le _,_,Heap.get?_push_size _ rfl,rfl,rfl⟩,fp,q⟩
 ·refine wpAny_pyIter_ascii ha ?_
  exact⟨s1.heap.objs.size,[s1.heap.objs.size],_,_,H1,rfl,I1.kept (t':=s1.toks) fun b o e=>Heap.get?_push_of_some _ e,
   zZ (ty := "str_ascii_iterator") (x:=z) (t:=t) _ (by decide) (fun A' hA=>Walks.strAscii hA _ z t) (fun A i s Q E st h=>wpAny_pyIter_striter_ascii st h),⟨Nat.zero_le _,_,Heap.get?_push_size _ rfl,rfl,rfl⟩,fp,q⟩
theorem Nf{K:PySem.W.Frag}{H:Hp}{z:Str}:vY K H (lets z) (fun _=>True) (Itx z):=fun H3 H' tk hr _=>by
 have hl:(lets z).length=z.cps.size:=by unfold lets;rw[List.length_map,Array.length_toList]
 refine⟨fun i hi=>⟨by rw[hl] at hi;exact hi,fun x H'' y=>?_⟩,by rw[hl];exact Nat.le_refl _⟩
 obtain⟨e,c,hc,rfl⟩:=y
 subst e
 refine⟨TK.refl,hr,.str ⟨#[c]⟩,?_,.str _⟩
 unfold lets
 rw[List.getElem?_map,Array.getElem?_toList,hc]
 rfl
theorem Ks{tg e:Expr}{te:aZ}(h:cF X e te):Il X tg e (iz3 te) :=
 j0 (UJ h) fun _ _ _ ⟨σ3,H3,R3,sr,hr,t,k⟩=>⟨σ3,H3,_,sr,hr,t,fun x v H3a Ha tka hra rx qa=>by
  cases rx with
  |str z=>exact⟨z,rfl,k _ _ _ _ _ tka hra Nf qa⟩
  |_=>exact qa.elim⟩
end
end L3
namespace L3
open PySem PySem.Spec PyProof.Rows L2
section
variable{X:Cx}
theorem bj.SX{K:PySem.W.Frag}{H:Hp}{bs:List Str}:∀ {vs:List V},bj K H (bs.map D.str) vs->vs=bs.map V.str:=by
 induction bs with
 |nil=>intro vs h;cases h;rfl
 |cons b bs ih=>
  intro vs h
  cases h with
  |cons r t=>
   cases r
   rw[ih t];rfl
theorem Ky:∀ {ys:List Str} {us:List Value},Vals (ys.map V.str) us->StrsAre us ys
 |[],_,.nil=>.nil
 |y::ys,_,.cons r t=>by
  obtain⟨k,rfl⟩:=r
  exact .cons y k (Ky t)
theorem Th:Kq X "str.join" (fun x xs H Q=>∃(z:Str) (a:Addr) (ys:List Str),x=.str z/\xs=[.ref a]/\jm X.K H a (ys.map V.str)/\(ys.map fun y=>y.cps.size).sum+ys.length*z.cps.size<=16777216/\Q (.str (vJ z ys)) H):=by
 intro pins s σ H x xs v us Q I rx rs h
 obtain⟨z,a,ys,rfl,rfl,hq,hl,q⟩:=h
 obtain⟨t,rfl⟩:=rx
 obtain⟨u,rfl,ru⟩:=vals1 rs
 cases ru
 obtain⟨its,rv,pl,_⟩:=I.list hq
 refine join_list pl.isList (ys:=ys) (by simpa using Ky rv) hl fun t' k=>?_
 exact⟨.str (vJ z ys),H,I.kept (t':=k) fun _ _ e=>e,⟨t',rfl⟩,q⟩
theorem Nz:Kq X "str.index" (fun x xs H Q=>∃(z y:Str) (i:Nat),x=.str z/\xs=[.str y]/\sW z y=some i/\Q (.int i) H):=by
 intro pins s σ H x xs v us Q I rx rs h
 obtain⟨z,y,i,rfl,rfl,hi,q⟩:=h
 obtain⟨t,rfl⟩:=rx
 obtain⟨u,rfl,ru⟩:=vals1 rs
 obtain⟨t2,rfl⟩:=ru
 unfold sW at hi
 rw[List.find?_range_eq_some] at hi
 obtain⟨h1,h2,h3⟩:=hi
 rw[Bool.and_eq_true,decide_eq_true_eq] at h1
 have at_i:StrLaws.At z y z.length i:=⟨h1.1,h1.2⟩
 rcases StrLaws.occ_head z y 1 (Nat.le_refl _) with ⟨_,hn⟩ | ⟨j,r,e,hj,hn⟩
 ·exact absurd at_i (hn i)
 ·have hij:j=i:=by
   rcases Nat.lt_trichotomy i j with hlt | heq | hgt
   ·exact absurd at_i (hn i hlt)
   ·exact heq.symm
   ·have:=h3 j hgt
    rw[Bool.not_eq_true',Bool.and_eq_false_iff] at this
    rcases this with w | w
    ·rw[decide_eq_false_iff_not] at w
     exact absurd hj.1 w
    ·have w2:=hj.2
     unfold Builtin.Str.subAt at w2
     exact absurd (show (z.cps.extract j (j+y.cps.size)==y.cps)=true from w2) (by rw[w];decide)
  subst hij
  exact SC.index e ⟨.int j,H,I.tok _,⟨_,rfl⟩,q⟩
theorem Fj:Kq X "str.join" (liftM X.K qO):=by
 intro pins s σ H x xs v us Q I rx rs t
 obtain⟨d,ds,H3,Q3,hr,rd,rds,t,k⟩:=t
 cases rd with
 |str z=>
  cases rds with
  |nil=>exact t.elim
  |cons r1 r2=>
   cases r2 with
   |cons _ _=>cases r1 <;> exact t.elim
   |nil=>
    cases r1 with
    |ref a=>
     (delta qO at t;dsimp only at t)
     split at t
     ·rename_i ds ha
      split at t
      ·rename_i ys e
       obtain⟨vs,ga,ra⟩:=hr a _ ha
       have w:=wZ e
       subst w
       have w:=ra.SX
       subst w
       exact Th pins s σ H _ _ v us Q I rx rs ⟨z,a,ys,rfl,rfl,jm.of ga,t.1,k _ _ _ _ TK.refl hr (.str _) t.2⟩
      ·exact t.elim
     ·exact t.elim
    |_=>exact t.elim
 |_=>exact t.elim
theorem M7:Kq X "str.index" (liftM X.K uo):=by
 intro pins s σ H x xs v us Q I rx rs t
 obtain⟨d,ds,H3,Q3,hr,rd,rds,t,k⟩:=t
 cases rd with
 |str z=>
  cases rds with
  |nil=>exact t.elim
  |cons r1 r2=>
   cases r2 with
   |cons _ _=>cases r1 <;> exact t.elim
   |nil=>
    cases r1 with
    |str y=>
     (delta uo at t;dsimp only at t)
     split at t
     ·rename_i i e
      exact Nz pins s σ H _ _ v us Q I rx rs ⟨z,y,i,rfl,rfl,e,k _ _ _ _ TK.refl hr (.int _) t⟩
     ·exact t.elim
    |_=>exact t.elim
 |_=>exact t.elim
theorem Td{o e:Expr}{es:List Expr}{to:aZ}{t:lN}{name:Str}{apos cpos:Pos}{id:String}{r:D->List D->aC->aM->Prop}(slot:Slot "str" name id)(hty:typeOf (.builtin id)=pure (.type "method_descriptor"))
  (hm:Kq X id (liftM X.K r)) (ho:cF X o to) (ha:Ud X (e::es) t) (hbase:attributeBase o name X.env (eval o X.env)=eval o X.env:=by rfl)
  (hfew:((backTo cpos (starEach (e::es) X.env)).all (fun x=>!x.1)&&(backToKw cpos (keywordEach [] X.env)).all (fun x=>x.1.isSome)&&decide ((e::es).length+([]:List Keyword).length+(if ([]:List Keyword).isEmpty then 0 else 1)<30))=true:=by rfl)
  (hline:(apos.endLine==cpos.line)=true:=by rfl) (hs:starEach (e::es) X.env=(false,eval e X.env)::starEach es X.env:=by rfl) (hplain:(backTo cpos (starEach es X.env)).any (·.1)=false:=by rfl) :
  cF X (.Call (.Attribute o name apos) (e::es) [] cpos) (mz3 r to t) :=
 bM (W2 PySem.F.plainAttrs_str slot hty hm ho ha hbase hfew hline hs hplain) fun _ _ _ zz=>zz.ex fun σ3 H3 Q3 sr hr t k=>⟨σ3,H3,_,sr,hr,t,fun x v H3a Ha tka hra rx qa=>by
  cases rx with
  |str z=>
   exact⟨rfl,σ3,H3a,_,sr.mono tka,hra,qa,fun ds vs H3b Hb tkb hrb rs qb=>⟨.str z,ds,H3b,Q3,hrb,.str z,rs,qb,(k.mono tka).mono tkb⟩⟩
  |_=>exact qa.elim⟩
end
end L3
namespace L3
open PySem PySem.Spec PyProof.Rows L2
section
variable{X:Cx}
theorem KQ(v:Option Int)(d n:Nat):(match v with | none=>(d:Int) | some i=>max 0 (min (if i<0 then i+(n:Int) else i) (n:Int)))=((HT.uH n d v:Nat):Int):=by
 cases v with
 |none=>rfl
 |some i=>
  unfold HT.uH
  dsimp only
  split <;> grind
theorem Jl(lo hi:Option Int)(n:Nat):Builtin.Str.strSliceIndices lo hi 1 n=(List.range (HT.uH n n hi-HT.uH n 0 lo)).map (HT.uH n 0 lo + ·):=by
 have e1:=KQ lo 0 n
 have e2:=KQ hi n n
 rw[←sliceRange_one,←e1,←e2]
 cases lo <;> cases hi <;> rfl
theorem abp(v:Option Int)(n:Nat):HT.uH n n v<=n:=by
 cases v with
 |none=>exact Nat.le_refl n
 |some i=>
  unfold HT.uH
  dsimp only
  split <;> grind
theorem Ni(z:Str)(lo hi:Option Int):Txt.slice z lo hi=zK z lo hi:=by
 have hl:z.cps.toList.length=z.length:=Array.length_toList
 have hh:=abp hi z.length
 unfold Txt.slice zK p8
 rw[Jl,pick_run,hl]
 split
 ·rename_i c
  rw[Bool.and_eq_true] at c
  have c2:=c.2
  rw[beq_iff_eq] at c2
  have c3:HT.uH z.length z.length hi-HT.uH z.length 0 lo=z.length:=by simpa using c2
  obtain⟨a⟩:=z
  congr 1
  apply Array.ext'
  rw[c3]
  by_cases h0:a.size=0
  ·have e:a=#[]:=Array.eq_empty_of_size_eq_zero h0
   subst e
   simp
  ·have hlo:HT.uH (Str.length ⟨a⟩) 0 lo=0:=by
    have h1:Str.length ⟨a⟩=a.size:=rfl
    grind
   rw[hlo,List.drop_zero,List.take_of_length_le (by rw[hl];exact Nat.le_refl _)]
 ·rfl
theorem VH:SlR X (fun x lo hi H Q=>∃z,x=.str z/\z.length<=sizeLine/\Q (.str (zK z lo hi)) H):=by
 intro pins s σ H x v vl vu lo hi sl Q I rx hs pl pu h
 obtain⟨z,rfl,hz,q⟩:=h
 obtain⟨t,rfl⟩:=rx
 have fin:∀t' k,EP X pins σ Q (.str (Txt.slice z lo hi) t') { s with toks:=k }:=fun t' k=>by
  rw[Ni]
  exact⟨.str (zK z lo hi),H,I.kept (t':=k) fun _ _ e=>e,⟨t',rfl⟩,q⟩
 refine⟨"str",_,F.slot_str_getitem.lookup,typeIs_str _ _ _,?_⟩
 cases pl with
 |none=>
  cases pu with
  |none=>exact wpAny_getItem_str_slice (l:=none) (u:=none) (st:=none) hs rfl (post_val_or_str ⟨Nat.le_trans (Txt.slice_le z _ _) hz,fin⟩)
  |int j u=>exact wpAny_getItem_str_slice (l:=none) (u:=some (j,u)) (st:=none) hs rfl (post_val_or_str ⟨Nat.le_trans (Txt.slice_le z _ _) hz,fin⟩)
 |int i w=>
  cases pu with
  |none=>exact wpAny_getItem_str_slice (l:=some (i,w)) (u:=none) (st:=none) hs rfl (post_val_or_str ⟨Nat.le_trans (Txt.slice_le z _ _) hz,fin⟩)
  |int j u=>exact wpAny_getItem_str_slice (l:=some (i,w)) (u:=some (j,u)) (st:=none) hs rfl (post_val_or_str ⟨Nat.le_trans (Txt.slice_le z _ _) hz,fin⟩)
theorem Gh:SlR X (Jz X.K KC):=by
 intro pins s σ H x v vl vu lo hi sl Q I rx hs pl pu h
 obtain⟨d,H3,Q3,hr,rd,t,k⟩:=h
 cases rd with
 |str z=>exact VH pins s σ H _ v vl vu lo hi sl Q I rx hs pl pu ⟨z,rfl,t.1,k _ _ _ _ TK.refl hr (.str _) t.2⟩
 |_=>exact t.elim
end
end L3
namespace L3
open PySem L2
def Bt(n:Nat)(i:Int):Prop:=i.natAbs<2 ^ n
section
variable{m n:Nat}{i j:Int}
theorem Bt.mono(h:Bt m i)(l:m<=n):Bt n i:=Nat.lt_of_lt_of_le h (Nat.pow_le_pow_right (by decide) l)
theorem Bt.of_le(h:Bt m j)(l:i.natAbs<=j.natAbs):Bt m i:=Nat.lt_of_le_of_lt l h
theorem Bt.add(h:Bt m i)(g:Bt n j):Bt (max m n+1) (i+j):=by
 have h':=Bt.mono h (Nat.le_max_left m n)
 have g':=Bt.mono g (Nat.le_max_right m n)
 show _<_
 rw[Nat.pow_succ,Nat.mul_two]
 exact Nat.lt_of_le_of_lt (Int.natAbs_add_le i j) (Nat.add_lt_add h' g')
theorem Bt.neg(h:Bt m i):Bt m (-i):=by unfold Bt at *;rw[Int.natAbs_neg];exact h
theorem Bt.sub(h:Bt m i)(g:Bt n j):Bt (max m n+1) (i-j):=by rw[Int.sub_eq_add_neg];exact h.add g.neg
theorem Bt.mul(h:Bt m i)(g:Bt n j):Bt (m+n) (i*j):=by
 unfold Bt at *
 rw[Int.natAbs_mul,Nat.pow_add]
 exact Nat.mul_lt_mul'' h g
theorem Bt.div(h:Bt m i):Bt m (i / j):=Bt.of_le h (Int.natAbs_ediv_le_natAbs i j)
theorem Bt.lit(h:i.natAbs<2 ^ n):Bt n i:=h
end
def vI(i j:Int):Prop:=TJ i j\/∃m n,Bt m i/\Bt n j/\m+n<=134217728
theorem vI.of{m n:Nat}{i j:Int}(h:Bt m i)(g:Bt n j)(l:m+n<=134217728):vI i j:=.inr ⟨m,n,h,g,l⟩
def TV(_ j:Int):Prop:=0<j/\Bt 8999 j
def pH:R3:=V1 vI fun i j=>.int (i*j)
def pI:R3:=V1 TV fun i j=>.int (i / j)
section
variable{σ:bQ}{H:aC}{Q:aM}{i j:Int}{d x y:D}{ds es:List D}
theorem Sh(c:vI i j)(q:Q (.int (i*j)) H):pH (.int i) (.int j) H Q:=⟨c,q⟩
theorem ZF(c:TV i j)(q:Q (.int (i / j)) H):pI (.int i) (.int j) H Q:=⟨c,q⟩
theorem JW:∀ns:List Int,jf (rF 4) (ns.map D.int)=some (ns.map PyData.int)
 |[]=>rfl
 |n::ns=>by
  have e:rF 4 (D.int n)=some (PyData.int n):=rfl
  simp only[List.map_cons,jf,e,JW ns]
theorem KJ(H:aC)(ns:List Int):Iz H (.tup (ns.map D.int))=some (.tuple (ns.map PyData.int)):=by
 have e:Iz H (.tup (ns.map D.int))=(jf (rF 4) (ns.map D.int)).map .tuple:=rfl
 rw[e,JW];rfl
theorem pA:∀ms ns:List Int,PyData.eqvAll (ms.map PyData.int) (ns.map PyData.int)=decide (ms=ns)
 |[],[]=>by simp[PyData.eqvAll]
 |[],_::_=>by simp[PyData.eqvAll]
 |_::_,[]=>by simp[PyData.eqvAll]
 |m::ms,n::ns=>by
  have e:PyData.eqv (.int m) (.int n)=decide (m=n):=by simp only[PyData.eqv];rfl
  simp only[List.map_cons,PyData.eqvAll,pA ms ns,e,List.cons.injEq,Bool.decide_and]
theorem YC{ms ns:List Int}(q:Q (.bl (decide (ms=ns))) H):fL (.tup (ms.map D.int)) (.tup (ns.map D.int)) H Q:=by
 (delta fL;simp only[KJ,PyData.eqv,pA]);exact q
theorem ZV{ms ns:List Int}(q:Q (.bl (!decide (ms=ns))) H):vd (.tup (ms.map D.int)) (.tup (ns.map D.int)) H Q:=by
 (delta vd;simp only[KJ,PyData.eqv,pA]);exact q
theorem adW{a b c a' b' c':Int}(q:Q (.bl (decide ([a,b,c]=[a',b',c']))) H):fL (.tup [.int a,.int b,.int c]) (.tup [.int a',.int b',.int c']) H Q:=YC (ms:=[a,b,c]) (ns:=[a',b',c']) q
theorem adF{a b c a' b' c':Int}(q:Q (.bl (!decide ([a,b,c]=[a',b',c']))) H):vd (.tup [.int a,.int b,.int c]) (.tup [.int a',.int b',.int c']) H Q:=ZV (ms:=[a,b,c]) (ns:=[a',b',c']) q
theorem Cp.rO{g:vG}{σ0:bQ}{te:aZ}{lo:Int}{n:Nat}(F:Nat->D)(hl:n<=1000)
  (hel:∀i:Nat,i<n->∀(R:aM) (H2:aC),aL H H2->(∀H6,aL H2 H6->R (F i) H6)->g (.int (lo+(i:Int))) σ0 H2 fun σ2 H4=>te σ2 H4 R)
  (fin:∀p,H p=none->Q (.ref p) (aK H p (.lst ((List.range n).map F)))):Cp g nG te σ0 (rO lo n) (fun _=>True) H Q :=
 Cp.map F (fun _ _=>trivial) (by rw[List.length_range];exact hl) (fun _ a ha=>hel a (List.mem_range.mp (List.mem_of_getElem? ha))) fin
end
def gG(ds es:List D):List D:=List.zipWith (fun x y=>D.tup [x,y]) ds es
def zpk(x y:D)(H:aC)(R:List D->(aC->Prop)->aC->Prop):Prop:=match x,y with
 | .ref a,.ref b => (match H a,H b with
  |some (.lst ds),some (.lst es)=>R (gG ds es) (fun H'=>H' a=some (.lst ds)/\H' b=some (.lst es)) H
  |_,_=>False)
 |_,_=>False
def izp(ta tb:aZ):rA:=fun σ H R=>ta σ H fun x H1=>tb σ H1 fun y H2=>zpk x y H2 R
section
variable{σ:bQ}{H:aC}{a b:Addr}{ds es:List D}
theorem aeD{ta tb:aZ}{R:List D->(aC->Prop)->aC->Prop}(h:ta σ H fun x H1=>tb σ H1 fun y H2=>zpk x y H2 R):izp ta tb σ H R:=h
theorem pF{α β:Type}{f:α->D}{g:β->D}:∀(as:List α) (bs:List β),gG (as.map f) (bs.map g)=(as.zip bs).map fun p=>D.tup [f p.1,g p.2]
 |[],_=>rfl
 |_::_,[]=>rfl
 |a::as,b::bs=>by
  have ih:=pF (f:=f) (g:=g) as bs
  unfold gG at ih ⊢
  rw[List.map_cons,List.map_cons,List.zipWith_cons_cons,ih,List.zip_cons_cons,List.map_cons]
def rvk(x:D)(H:aC)(Q:aM):Prop:=match x with
 | .ref a => (match H a with
  |some (.lst ds)=>∀p,H p=none->Q (.ref p) (aK H p (.lst ds.reverse))
  |_=>False)
 |_=>False
def acu(te:aZ):aZ:=fun σ H Q=>te σ H fun x H1=>rvk x H1 Q
theorem aeF{te:aZ}{Q:aM}(h:te σ H fun x H1=>rvk x H1 Q):acu te σ H Q:=h
theorem aei{Q:aM}(ha:H a=some (.lst ds))(h:∀p,H p=none->Q (.ref p) (aK H p (.lst ds.reverse))):rvk (.ref a) H Q:=by (delta rvk;simp only[ha]);exact h
def pr3(i j:Nat)(ta tb:aZ):cO:=fun D0 σ H=>ta σ H fun x H1=>tb σ H1 fun y H2=>D0.nx ((σ.set i (some x)).set j (some y)) H2
theorem aeV{i j:Nat}{ta tb:aZ}{D0:dj}(h:ta σ H fun x H1=>tb σ H1 fun y H2=>D0.nx ((σ.set i (some x)).set j (some y)) H2):pr3 i j ta tb D0 σ H:=h
def kdk(kvs:List (Str×D))(x:D)(H:aC)(Q:aM):Prop:=match x with
 | .str z => (match kvs.lookup z with
  |some d=>Q d H
  |none=>False)
 |_=>False
def kd3(kvs:List (Str×D))(te:aZ):aZ:=fun σ H Q=>te σ H fun x H1=>kdk kvs x H1 Q
theorem acD{kvs:List (Str×D)}{te:aZ}{Q:aM}(h:te σ H fun x H1=>kdk kvs x H1 Q):kd3 kvs te σ H Q:=h
theorem Am{kvs:List (Str×D)}{z:Str}{d:D}{Q:aM}(hl:kvs.lookup z=some d)(h:Q d H):kdk kvs (.str z) H Q:=by (delta kdk;simp only[hl]);exact h
theorem aaR{ds:List D}{i:Int}{d:D}{Q:aM}(h:pU ds i=some d)(q:Q d H):bB (.ktup ds) (.int i) H Q:=by (delta bB;simp only[h]);exact q
def irk(x:D)(H:aC)(R:List D->(aC->Prop)->aC->Prop):Prop:=match x with
 |.str z=>z.length<=sizeLine/\R (lets z).reverse (fun _=>True) H
 |_=>False
def irv(te:aZ):rA:=fun σ H R=>te σ H fun x H1=>irk x H1 R
theorem abt{te:aZ}{R:List D->(aC->Prop)->aC->Prop}(h:te σ H fun x H1=>irk x H1 R):irv te σ H R:=h
theorem aai{z:Str}{R:List D->(aC->Prop)->aC->Prop}(hz:z.length<=sizeLine)(h:R (lets z).reverse (fun _=>True) H):irk (.str z) H R:=⟨hz,h⟩
def ikd(kvs:List (Str×D)):rA:=fun _ H R=>R (kvs.map fun p=>D.str p.1) (fun _=>True) H
theorem abV{kvs:List (Str×D)}{R:List D->(aC->Prop)->aC->Prop}(h:R (kvs.map fun p=>D.str p.1) (fun _=>True) H):ikd kvs σ H R:=h
def Xi(k:Nat)(r:R3)(te:aZ):cO:=fun D0 σ H=>match σ[k]? with
 |some (some x)=>te σ H fun y H1=>r x y H1 fun z H2=>D0.nx (σ.set k (some z)) H2
 |_=>False
theorem adD{k:Nat}{r:R3}{te:aZ}{D0:dj}{x:D}(hx:σ[k]?=some (some x))(h:te σ H fun y H1=>r x y H1 fun z H2=>D0.nx (σ.set k (some z)) H2):Xi k r te D0 σ H:=by
 simp only[Xi,hx];exact h
def yu:R3:=fun x y H Q=>match x,y with
 |.int i,.int j=>Q (.int (i+j)) H
 |.str i,.str j=>i.length+j.length<=sizeLine/\Q (.str (i++j)) H
 |_,_=>False
def I8:R3:=zf fun i j=>.int (i-j)
theorem Yr{i j:Int}{Q:aM}(q:Q (.int (i+j)) H):yu (.int i) (.int j) H Q:=q
theorem Lq{y z:Str}{Q:aM}(hl:y.length+z.length<=sizeLine)(q:Q (.str (y++z)) H):yu (.str y) (.str z) H Q:=⟨hl,q⟩
theorem YS{i j:Int}{Q:aM}(q:Q (.int (i-j)) H):I8 (.int i) (.int j) H Q:=q
def Xz:List D->aC->aM->Prop:=fun ds H Q=>match ds with
 |[.int i,.int j]=>Q (.int (if j>i then j else i)) H
 |_=>False
theorem ade{i j:Int}{Q:aM}(q:Q (.int (if j>i then j else i)) H):Xz [.int i,.int j] H Q:=q
def asc(z:Str):Prop:=z.cps.all (· < 128)=true
def ztk(x y:D)(H:aC)(R:List D->(aC->Prop)->aC->Prop):Prop:=match x,y with
 | .ref a,.str z => (match H a with
  |some (.lst ds)=>asc z/\R (gG ds (lets z)) (fun H'=>H' a=some (.lst ds)) H
  |_=>False)
 |_,_=>False
def tzk(x y:D)(H:aC)(R:List D->(aC->Prop)->aC->Prop):Prop:=match x,y with
 | .str z,.ref a => (match H a with
  |some (.lst ds)=>asc z/\R (gG (lets z) ds) (fun H'=>H' a=some (.lst ds)) H
  |_=>False)
 |_,_=>False
def izt(ta tb:aZ):rA:=fun σ H R=>ta σ H fun x H1=>tb σ H1 fun y H2=>ztk x y H2 R
def itz(ta tb:aZ):rA:=fun σ H R=>ta σ H fun x H1=>tb σ H1 fun y H2=>tzk x y H2 R
theorem aaB{ta tb:aZ}{R:List D->(aC->Prop)->aC->Prop}(h:ta σ H fun x H1=>tb σ H1 fun y H2=>ztk x y H2 R):izt ta tb σ H R:=h
theorem aeJ{ta tb:aZ}{R:List D->(aC->Prop)->aC->Prop}(h:ta σ H fun x H1=>tb σ H1 fun y H2=>tzk x y H2 R):itz ta tb σ H R:=h
theorem WX{z:Str}{R:List D->(aC->Prop)->aC->Prop}(ha:H a=some (.lst ds))(hz:asc z)(h:R (gG ds (lets z)) (fun H'=>H' a=some (.lst ds)) H):ztk (.ref a) (.str z) H R:=by
 (delta ztk;simp only[ha]);exact⟨hz,h⟩
end
end L3
namespace L3
open PySem PySem.Spec PyProof.Rows L2
section
variable{X:Cx}
theorem vI.ok{i j:Int}(h:vI i j):IntMulOk i j:=by
 rcases h with h | ⟨m,n,h1,h2,h3⟩
 ·exact h.ok
 ·exact IntMulOk.of_le (intBits_le_iff.mpr h1) (intBits_le_iff.mpr h2) h3
theorem Bt.log{j:Int}(h:Bt 8999 j):j.natAbs.log2<9000:=by
 by_cases h0:j.natAbs=0
 ·rw[h0];decide +kernel
 ·have:=(Nat.log2_lt h0).mpr h
  omega
theorem nY:jj X (binaryOp .Mult) (cz X.K pH):=CQ (opI fun _ _ _ _ _ _ _ hc q=>mul_int q (vI.ok hc)) fun _ _ _=>.int _
theorem mO:jj X (binaryOp .FloorDiv) (cz X.K pI):=CQ (opI fun i j _ _ _ _ _ hc q=>by
 have h1:(0:Int)<j:=hc.1
 exact floordiv_int (by omega) (by rw[Int.fdiv_eq_ediv_of_nonneg i (by omega)];exact q) (.inl (PyProof.noPylong_of_log2 (Bt.log hc.2)))) fun _ _ _=>.int _
end
end L3
namespace L3
open PySem PySem.Spec PyProof.Rows L2
section
variable{X:Cx}{pins:List (Addr×Obj)}{σ:St}{H:Hp}{s:Shared}{h':Heap}
theorem uJ{t':Nat}{ch:List Addr}{T:Addr}{o:HO}(I:L2.Inv X pins σ H s)(k:∀b u,b∉ch->s.heap.get? b=some u->h'.get? b=some u)
  (hf:∀b∈ch,lW X pins H b) (hp:s.heap.objs.size<=T) (new:cP X.prog X.w (upd H T o) h' T o):L2.Inv X pins σ (upd H T o) { s with heap:=h',toks:=t' }:=by
 have hn:H T=none:=I.hok.fresh hp
 refine I.step (g':=s.gens) (d':=s.drawn) (ch:=ch) (fun b hb=>?_) (fun b u _ _ hc e _=>k b u hc e) (fun b u _ _ hc e _=>⟨u.slots,k b u hc e⟩)
  (fun b u _ e n=>by rw[aF (Nat.ne_of_lt (Nat.lt_of_lt_of_le (Heap.lt_size e) hp))];exact n) (fun b u hc e=>⟨u,k b u hc e⟩)
  (fun b xs q=>by rw[aF (bJ q hn)];exact q) (fun b u xs q=>by rw[aF (bJ q hn)];exact q) (fun b ps q=>⟨#[],by rw[aF (bJ q hn),q];simp⟩) (fun m hm=>?_) (fun b u e=>?_) I.bare
 ·obtain⟨f0,f1,f2,f3,f4,f5⟩:=hf b hb
  exact⟨f3,f1,f4,f5⟩
 ·obtain⟨u,es,ep,hu,r⟩:=hm
  exact⟨u,es,ep,k _ u (fun z=>(hf _ z).2.1 rfl) hu,r⟩
 ·by_cases hb:b=T
  ·subst hb;rw[aR] at e;cases e;exact new
  ·rw[aF hb] at e
   refine (I.hok b u e).stay (fun c v hc q=>k c v (fun z=>?_) q) (fun c q=>by rw[aF (bJ q hn)];exact q) fun c xs q=>by rw[aF (bJ q hn)];exact q
   have f0:=(hf c z).1
   rcases hc with rfl | hc
   ·rw[f0] at e;cases e
   ·rw[f0] at hc;cases hc
theorem Cw{t':Nat}{ch:List Addr}(I:L2.Inv X pins σ H s)(k:∀b u,b∉ch->s.heap.get? b=some u->h'.get? b=some u)
  (hf:∀b∈ch,lW X pins H b):L2.Inv X pins σ H { s with heap:=h',toks:=t' }:=by
 refine I.step (g':=s.gens) (d':=s.drawn) (ch:=ch) (fun b hb=>?_) (fun b u _ _ hc e _=>k b u hc e) (fun b u _ _ hc e _=>⟨u.slots,k b u hc e⟩)
  (fun b u _ e n=>n) (fun b u hc e=>⟨u,k b u hc e⟩)
  (fun b xs q=>q) (fun b u xs q=>q) (fun b ps q=>⟨#[],by rw[q];simp⟩) (fun m hm=>?_) (fun b u e=>?_) I.bare
 ·obtain⟨f0,f1,f2,f3,f4,f5⟩:=hf b hb
  exact⟨f3,f1,f4,f5⟩
 ·obtain⟨u,es,ep,hu,r⟩:=hm
  exact⟨u,es,ep,k _ u (fun z=>(hf _ z).2.1 rfl) hu,r⟩
 ·refine (I.hok b u e).stay (fun c v hc q=>k c v (fun z=>?_) q) (fun c q=>q) fun c xs q=>q
  have f0:=(hf c z).1
  rcases hc with rfl | hc
  ·rw[f0] at e;cases e
  ·rw[f0] at hc;cases hc
end
section
variable{X:Cx}{tg:Expr}
theorem boot_zip:bootBuiltins "zip" = some (.type "zip"):=by rfl
theorem bj.zip{K:PySem.W.Frag}{H:Hp}{ds es:List D}{xs ys:List V}{i:Nat}{x y:V}(r:bj K H ds xs)(r':bj K H es ys)(hx:xs[i]?=some x)(hy:ys[i]?=some y):∃d e,(gG ds es)[i]?=some (.tup [d,e])/\Rep K H d x/\Rep K H e y:=by
 obtain⟨d,hd,rd⟩:=r.Jv hx
 obtain⟨e,he,re⟩:=r'.Jv hy
 refine⟨d,e,?_,rd,re⟩
 unfold gG
 rw[List.getElem?_zipWith,hd,he]
end
end L3
namespace L3
open PySem PySem.Spec PyProof.Rows L2
section
variable{prog:Program}{w:World}{A:Around}{E:Value->Shared->Prop}{s:Shared}
end
section
variable{X:Cx}
theorem boot_reversed:bootBuiltins "reversed" = some (.type "reversed"):=by rfl
end
end L3
namespace L3
open PySem PySem.Spec PyProof.Rows L2
inductive Fq(K:PySem.W.Frag):D->Value->Prop
 |str (x:Str) (t:Tok):Fq K (.str x) (.str x t)
 |int (i:Int) (t:Tok):Fq K (.int i) (.int i t)
 |tupI {a:Addr} {ns:List Int}:KTp K a (ns.map V.int)->Fq K (.ktup (ns.map D.int)) (.ref a)
theorem Fq.rep{K:PySem.W.Frag}{H:Hp}{d:D}{v:Value}(r:Fq K d v):∃y,RelV y v/\Rep K H d y:=by
 cases r with
 |str x t=>exact⟨.str x,⟨t,rfl⟩,.str x⟩
 |int i t=>exact⟨.int i,⟨t,rfl⟩,.int i⟩
 |tupI h=>exact⟨.ref _,rfl,.ktup h (bj.ints _)⟩
inductive Bh(w:World)(K:PySem.W.Frag):List DictEntry->List (Str×D)->Prop
 |nil:Bh w K [] []
 |cons {k:Str} {d:D} {t:Tok} {v:Value} {es:List DictEntry} {kvs:List (Str×D)}:Fq K d v->Bh w K es kvs->Bh w K (⟨hashStr w k,.str k t,v⟩::es) ((k,d)::kvs)
structure DC(K:PySem.W.Frag)(w:World)(a:Addr)(kvs:List (Str×D)):Prop where
 ob:∃o es ep,K.lookup a=some o/\o.ExactDict/\o.data=.dict es ep/\Bh w K es.toList kvs
 nd:(kvs.map (·.1)).Nodup
 ns:(a==sysModules)=false
theorem Bh.pairs{P:Program}{w:World}{K:PySem.W.Frag}:∀ {es:List DictEntry} {kvs:List (Str×D)},Bh w K es kvs->∃vs:List (Key×Value),Pairs (bH P w) es vs/\vs.map (·.1)=kvs.map (fun p=>(Sum.inr p.1:Key)) /\
  (∀e∈es,∃k,(bH P w).is k e.key=true/\e.hash=(bH P w).hash k)/\(∀z d,kvs.lookup z=some d->∃v,valueAt vs (.inr z)=some v/\Fq K d v)/\∀z,kvs.lookup z=none->valueAt vs (.inr z)=none
 |_,_,.nil=>⟨[],.nil,rfl,by simp,by simp,fun z _=>rfl⟩
 |_,_,.cons (k:=k) (d:=d) (t:=t) (v:=v) r h=>by
  obtain⟨vs,h1,h2,h3,h4,h5⟩:=Bh.pairs (P:=P) h
  refine⟨(.inr k,v)::vs,.cons (oE P w k t) rfl h1,by rw[List.map_cons,h2];rfl,?_,?_,?_⟩
  ·intro e he
   rcases List.mem_cons.mp he with rfl | he
   ·exact⟨.inr k,oE P w k t,rfl⟩
   ·exact h3 e he
  ·intro z dz hz
   by_cases e:z=k
   ·subst e
    rw[List.lookup_cons,beq_self_eq_true] at hz
    cases hz
    exact⟨v,by unfold valueAt;rw[List.find?_cons_of_pos (by simp)];rfl,r⟩
   ·have hb:(z==k)=false:=beq_eq_false_iff_ne.mpr e
    rw[List.lookup_cons,hb] at hz
    obtain⟨v',q1,q2⟩:=h4 z dz hz
    refine⟨v',?_,q2⟩
    unfold valueAt at q1 ⊢
    rw[List.find?_cons_of_neg (by simp;exact fun q=>e q.symm)]
    exact q1
  ·intro z hz
   have e:z≠k:=by
    rintro rfl
    rw[List.lookup_cons,beq_self_eq_true] at hz
    cases hz
   have hb:(z==k)=false:=beq_eq_false_iff_ne.mpr e
   rw[List.lookup_cons,hb] at hz
   have q1:=h5 z hz
   unfold valueAt at q1 ⊢
   rw[List.find?_cons_of_neg (by simp;exact fun q=>e q.symm)]
   exact q1
theorem DC.dict{K:PySem.W.Frag}{P:Program}{w:World}{a:Addr}{kvs:List (Str×D)}{h:Heap}(c:DC K w a kvs)(hk:K.In h):∃vs:List (Key×Value),h.DictOf (bH P w) a vs/\(∀z d,kvs.lookup z=some d->∃v,valueAt vs (.inr z)=some v/\Fq K d v)/\∀z,kvs.lookup z=none->valueAt vs (.inr z)=none:=by
 obtain⟨o,es,ep,h1,h2,h3,h4⟩:=c.ob
 obtain⟨vs,p1,p2,p3,p4,p5⟩:=Bh.pairs (P:=P) h4
 refine⟨vs,⟨o,es,ep,hk a o h1,h2,h3,fun e he=>p3 e (by simpa using he),p1,?_⟩,p4,p5⟩
 rw[p2]
 have:=c.nd
 rw[List.nodup_iff_pairwise_ne,List.pairwise_map] at this ⊢
 exact this.imp fun h q=>h (Sum.inr.inj q)
section
variable{X:Cx}
def tKd(K:PySem.W.Frag)(kvs:List (Str×D))(te:TE):TE:=fun σ H Q=>te σ H fun x H1=>∃z d,x=.str z/\kvs.lookup z=some d/\∀v y,RelV y v->Rep K H1 d y->Q y H1
theorem abT{x:Str}{a:Addr}{kvs:List (Str×D)}{e:Expr}{te:TE}{p pos:Pos}(hg:Gl X x)(hm:X.mg x=some (.ref a))(c:DC X.K X.w a kvs)(he:PE X e te)(hs:Ot e)(hd:(x==("__debug__" : Str))=false:=by decide):PE X (.Subscript (.Name x p) e pos) (tKd X.K kvs te):=by
 intro pins s σ H Q I h
 refine Ln PySem.F.slot_dict_getitem.lookup hs (sZ I hg hm (cQ (he pins s σ H _ I h) fun iv s2 zz=>?_) hd)
 obtain⟨y,H2,I2,ry,z,d,ey,hl,q2⟩:=zz
 subst ey
 obtain⟨vs,dd,h1,_⟩:=c.dict (P:=X.prog) I2.uq
 obtain⟨v,hv,rk⟩:=h1 z d hl
 obtain⟨y,ryv,rep⟩:=rk.rep (H:=H2)
 exact⟨dd.typeIs,wpAny_getItem_of (vC (k:=.inr z) ry) dd.mapOf hv ⟨y,H2,I2.tok _,ryv,q2 v y ryv rep⟩⟩
theorem Eg{x:Str}{kvs:List (Str×D)}{e:Expr}{te:aZ}{p pos:Pos}(hg:Gl X x)(hm:∃a,X.mg x=some (.ref a)/\DC X.K X.w a kvs)(he:cF X e te)(hs:Ot e:=by exact fun _ _=>rfl)(hd:(x==("__debug__" : Str))=false:=by decide) :
  cF X (.Subscript (.Name x p) e pos) (kd3 kvs te):=by
 obtain⟨a,hm,c⟩:=hm
 refine bM (abT hg hm c he hs hd) fun _ _ _ h=>?_
 obtain⟨σ3,H3,Q3,sr,hr,t,k⟩:=h
 refine⟨σ3,H3,_,sr,hr,t,fun x v H3a Ha tka hra rx qa=>?_⟩
 cases rx with
 |str z=>
  (delta kdk at qa;dsimp only at qa)
  split at qa
  ·rename_i d hl
   exact⟨z,d,rfl,hl,fun v y _ rep=>k _ _ _ _ tka hra rep qa⟩
  ·exact qa.elim
 |_=>exact qa.elim
def adE(kvs:List (Str×D))(neg:Bool)(te:TE):TE:=fun σ H Q=>te σ H fun x H1=>∃z,x=.str z/\Q (.bl (neg != (kvs.lookup z).isSome)) H1
theorem Z0{pins:List (Addr×Obj)}{σ:St}{H:Hp}{s:Shared}{a:Addr}{kvs:List (Str×D)}{z:Str}{iv:Value}(I:L2.Inv X pins σ H s)(c:DC X.K X.w a kvs)(ry:RelV (.str z) iv):∃vs:List (Key×Value),s.heap.DictOf (bH X.prog X.w) a vs/\(valueAt vs (.inr z)).isSome=(kvs.lookup z).isSome:=by
 obtain⟨vs,dd,h1,h2⟩:=c.dict (P:=X.prog) I.uq
 refine⟨vs,dd,?_⟩
 cases e:kvs.lookup z with
 |none=>rw[h2 z e];rfl
 |some d=>obtain⟨v,hv,_⟩:=h1 z d e;rw[hv];rfl
end
section
variable{X:Cx}{elt iter:Expr}{ifs:List Expr}{scope:Scope}{pos px px' py pt spos:Pos}{x x' y:Str}{fv:FV}{wi:rA}{tc:qt}{te:aZ}{kk:Nat}
end
end L3
namespace L3
open PySem PySem.Spec PyProof.Rows L2
theorem Ph:typeLookup (.type "str") "__reversed__" = pure none:=by
 rw[typeLookup_type,builtinLookup_eq_fast]
 kernel_rfl
theorem Tw:Slot "reversed" "__init__" "object.__init__" :=
 .of (owner := "object") (n := "__init__") (by rw[typeLookup_type,builtinLookup_eq_fast];kernel_rfl) (by decide +kernel) (by decide +kernel) (by decide +kernel)
  (by first | exact .inl (by decide +kernel) | exact .inr (by decide +kernel)) (by rw[isSubtype_type];kernel_rfl)
theorem Jm:TypeCalled "reversed" "reversed.__new__" "object.__init__" :=
 ⟨by decide +kernel,by decide +kernel,⟨_,_,F.mro_reversed⟩,F.made_reversed,by decide +kernel,by rw[isSubtype_type];kernel_rfl,Tw⟩
theorem oK:Slot "reversed" "__next__" "reversed.__next__" :=
 .of (owner := "reversed") (n := "__next__") (by rw[typeLookup_type,builtinLookup_eq_fast];kernel_rfl) (by decide +kernel) (by decide +kernel) (by decide +kernel)
  (by first | exact .inl (by decide +kernel) | exact .inr (by decide +kernel)) (by rw[isSubtype_type];kernel_rfl)
theorem pB:entryFor table "reversed.__next__" = some Builtin.«reversed.__next__»:=entryFor_of_tree (by kernel_rfl)
theorem Ba:Manifest.owners.lookup (String.ofList ['d','e','s','r','e','v','e','r'].reverse)=some Manifest.sig_reversed:=by kernel_rfl
theorem qz(a:Value):argsOk "reversed.__next__" ⟨[a],[]⟩:=by
 unfold argsOk
 rw[signature?_of (id := "reversed.__next__") (n:=['_','_','t','x','e','n','_','_']) (o:=['d','e','s','r','e','v','e','r']) (by kernel_rfl) Ba]
 kernel_rfl
theorem yX(a:Value):argsOk "reversed.__iter__" ⟨[a],[]⟩:=by
 unfold argsOk
 rw[signature?_of (id := "reversed.__iter__") (n:=['_','_','r','e','t','i','_','_']) (o:=['d','e','s','r','e','v','e','r']) (by kernel_rfl) Ba]
 kernel_rfl
theorem DP:Slot "reversed" "__iter__" "reversed.__iter__" :=
 .of (owner := "reversed") (n := "__iter__") (by rw[typeLookup_type,builtinLookup_eq_fast];kernel_rfl) (by decide +kernel) (by decide +kernel) (by decide +kernel)
  (by first | exact .inl (by decide +kernel) | exact .inr (by decide +kernel)) (by rw[isSubtype_type];kernel_rfl)
theorem yq:entryFor table "reversed.__iter__" = some Builtin.«dict_keyiterator.__iter__» :=
 entryFor_alias (id' := "dict_keyiterator.__iter__") (by kernel_rfl) (by first | rfl | decide +kernel | (unfold String.splitOn;simp +decide [String.splitOnAux])) (by decide +kernel) (by kernel_rfl)
theorem NP(x:Str)(t:Tok)(hfit:¬(x.length:Int)≥2 ^ 63):Meets (Builtin.«reversed.__new__» ⟨[.type "reversed",.str x t],[]⟩) (fun _ R s=>R (.ok (.ret (.ref s.heap.objs.size))) { s with heap:=s.heap.push { cls:=.type "reversed",data:=.fields #[.str x t,rawInt ((x.length:Int)-1)] },toks:=s.toks+1+1 }) :=
 .of_wp fun prog w A R s h=>by
  unfold Builtin.«reversed.__new__»
  refine wpAny_bind (wpAny_of_eq (newClass_reversed _) ?_)
  try dsimp only
  refine wpAny_bind (wpAny_of_eq (a:=()) (by first | rfl | kernel_rfl) ?_)
  refine wpAny_bind (wpAny_of_eq (a:=()) (by first | rfl | kernel_rfl) ?_)
  try dsimp only
  refine wpAny_bind (wpAny_specialOf (T := "str") (v:=.str x t) rfl Ph ?_)
  refine wpAny_bind ?_
  wp_delta
  refine wpAny_bind (wpAny_isInstance (T := "str") (v:=.str x t) (b:=false) rfl (by rw[isSubtype_type];kernel_rfl) ?_)
  try dsimp only
  refine wpAny_bind (wpAny_specialOf (T := "str") (v:=.str x t) rfl PySem.F.slot_str_getitem.lookup ?_)
  try dsimp only
  rw[if_pos (by decide)]
  refine wpAny_pure ?_
  rw[if_neg (by decide)]
  refine wpAny_bind (len_str hfit ?_)
  refine wpAny_bind (wpAny_of_eq (a:=some _) rfl ?_)
  try dsimp only
  refine wpAny_bind ?_
  unfold Builtin.SmallTypes.newRecord
  exact wpAny_newObj_type (wpAny_pure ⟨_,rfl,h⟩)
def Jk(h:Heap)(it:Addr)(x:Str)(t:Tok)(i:Int):Prop:=h.get? it=some { cls:=.type "reversed",data:=.fields #[.str x t,rawInt i] }
section
variable{prog:Program}{w:World}{A:Around}{E:Value->Shared->Prop}{s:Shared}{x:Str}{t:Tok}{it:Addr}
theorem zb{Q:Value->Shared->Prop}(hfit:¬(x.length:Int)≥2 ^ 63)(h:Q (.ref s.heap.objs.size) { s with heap:=s.heap.push { cls:=.type "reversed",data:=.fields #[.str x t,rawInt ((x.length:Int)-1)] },toks:=s.toks+1+1 }) :
  wpAny (model prog w) A (call (.type "reversed") [.str x t]) Q E s :=
 callType_new Jm (by decide) (F.typeCall_reversed_1 _) (F.newCall_reversed_1 _) (fun obj=>F.args_object_init_2 obj _) F.entry_reversed_new (NP x t hfit) ⟨⟨_,Heap.get?_push_size _ rfl,rfl⟩,h⟩
theorem rE{i:Int}(h:Jk s.heap it x t i):s.TypeIs (.ref it) "reversed":=⟨_,h,rfl⟩
theorem Qe{i:Nat}{c:Nat}{Q:Option Value->Shared->Prop}(hit:Jk s.heap it x t (i:Int))(hfit:¬(x.length:Int)≥2 ^ 63)(hc:x.cps[i]?=some c)
  (hQ:∀h' tk u,Jk h' it x t ((i:Int)-1)->Heap.SameBut it s.heap h'->Q (some (.str ⟨#[c]⟩ u)) { s with heap:=h',toks:=tk }):wpAny (model prog w) A (pyNext (.ref it)) Q E s:=by
 have hT:=rE hit
 have hit':s.heap.get? it=some { cls:=.type "reversed",data:=.fields #[.str x t,rawInt (i:Int)] }:=hit
 unfold pyNext
 refine wpAny_bind (wpAny_attempt (wpAny_callSpecial?_slot (name:=Str.ofString "__next__") hT oK (wpAny_call_entry oK hT pB ?_ (qz _))))
 unfold Builtin.«reversed.__next__»
 refine wpAny_bind (wpAny_of_eq (a:=(Value.ref it,[])) rfl ?_)
 try dsimp only
 refine wpAny_bind (wpAny_field hit' rfl (x:=.str x t) rfl ?_)
 refine wpAny_bind (wpAny_field hit' rfl (x:=rawInt (i:Int)) rfl ?_)
 show wpAny _ _ (if (i:Int)<0 then _ else _) _ _ s
 rw[if_neg (by omega)]
 refine wpAny_bind (wpAny_specialOf (T := "str") (v:=.str x t) rfl PySem.F.slot_str_getitem.lookup ?_)
 rw[if_neg (by decide)]
 have hlt:i<x.cps.size:=(Array.getElem?_eq_some_iff.mp hc).1
 have hsi:(seqIndex? (i:Int) x.length).bind (x.cps[·]?)=some c:=by
  have e:seqIndex? (i:Int) x.length=some i:=by
   unfold seqIndex?
   have h1:¬((i:Int)<0):=by omega
   have h2:(i:Int)<(x.length:Int):=by show (i:Int)<(x.cps.size:Int);omega
   simp only[h1,if_false]
   rw[if_pos (by simp[h2]),Int.toNat_natCast]
  rw[e];exact hc
 have hr:(decide ((i:Int) < -(2 ^ 63:Int))||decide ((i:Int)≥2 ^ 63))=false:=by
  have h2:(i:Int)<(x.length:Int):=by show (i:Int)<(x.cps.size:Int);omega
  have h3:¬((i:Int) < -(2 ^ 63:Int)):=by omega
  have h4:¬((i:Int)≥2 ^ 63):=by omega
  rw[decide_eq_false h3,decide_eq_false h4];rfl
 refine wpAny_bind (wpAny_mkInt ?_)
 refine wpAny_bind (wpAny_attempt (getItem_str hr hsi ?_))
 show wpAny _ _ (field (Value.ref it) 1 >>= _) _ _ _
 refine wpAny_bind (wpAny_field (s:={ s with toks:=s.toks+1+1 }) hit' rfl (x:=rawInt (i:Int)) rfl ?_)
 show wpAny _ _ (setField (Value.ref it) 1 (rawInt ((i:Int)-1)) >>= _) _ _ _
 refine wpAny_bind (wpAny_setField_rec (s:={ s with toks:=s.toks+1+1 }) hit' (by simp) fun h1 hz hs=>?_)
 exact wpAny_pure ⟨_,rfl,wpAny_pure (hQ h1 _ _ hz hs)⟩
theorem Wo{Q:Option Value->Shared->Prop}(hh:A.handled=none)(hit:Jk s.heap it x t (-1))(hQ:∀h',(∀b o,b≠it->s.heap.get? b=some o->h'.get? b=some o)->Q none { s with heap:=h' }):wpAny (model prog w) A (pyNext (.ref it)) Q E s:=by
 have hT:=rE hit
 have hit':s.heap.get? it=some { cls:=.type "reversed",data:=.fields #[.str x t,rawInt (-1)] }:=hit
 unfold pyNext
 refine wpAny_bind (wpAny_attempt (wpAny_callSpecial?_slot (name:=Str.ofString "__next__") hT oK (wpAny_call_entry oK hT pB ?_ (qz _))))
 unfold Builtin.«reversed.__next__»
 refine wpAny_bind (wpAny_of_eq (a:=(Value.ref it,[])) rfl ?_)
 try dsimp only
 refine wpAny_bind (wpAny_field hit' rfl (x:=.str x t) rfl ?_)
 refine wpAny_bind (wpAny_field hit' rfl (x:=rawInt (-1)) rfl ?_)
 show wpAny _ _ (if (-1:Int)<0 then _ else _) _ _ s
 rw[if_pos (by omega)]
 refine wpAny_bind (wpAny_rule ?_)
 refine wpAny_bind ?_
 wp_delta
 refine wpAny_bind (wpAny_setField_rec hit' (by simp) fun h1 hz hs=>?_)
 refine wpAny_setField_rec (s:={ s with heap:=h1 }) hz (by simp) fun h2 hz2 hs2=>?_
 refine wpAny_bind ?_
 show wpAny _ _ (newExc (.type "StopIteration") [] >>= _) _ _ _
 refine wpAny_bind ?_
 simp only[newExc,newTuple]
 refine wpAny_bind (wpAny_newObj_type ?_ (by size_fits))
 refine wpAny_bind (m:=firstArgMember _ _) (wpAny_of_eq (a:=Value.none) (by first | rfl | (simp only[firstArgMember];rfl)) ?_)
 refine wpAny_newObj_type ?_ (by size_fits)
 simp only[raiseNew]
 refine wpAny_bind (wpAny_handled ?_)
 rw[show A.in1.handled=none from hh]
 refine wpAny_bind (wpAny_pure (wpAny_throw ?_))
 refine wpAny_bind (wpAny_isInstance (T := "StopIteration") (b:=true) ⟨_,Heap.get?_push_size _ rfl,rfl⟩ isSubtype_stop ?_)
 exact wpAny_pure (hQ _ fun b o hb e=>Heap.get?_push_of_some _ (Heap.get?_push_of_some _ ((hs2.2 b hb).trans ((hs.2 b hb).trans e))))
theorem GC{i:Int}{Q:Value->Shared->Prop}(hit:Jk s.heap it x t i)(h:Q (.ref it) s):wpAny (model prog w) A (pyIter (.ref it)) Q E s:=by
 have hT:=rE hit
 refine wpAny_pyIter_slot hT DP (wpAny_call_entry DP hT yq ?_ (yX _))
 show wpAny _ _ (ret (.ref it)) _ _ s
 exact wpAny_pure ⟨_,rfl, "reversed",_,hT,oK.lookup,h⟩
end
def Itv(x:Str):It:=⟨fun i _=>i<x.cps.size,fun i H v H'=>H'=H/\∃c,x.cps[x.cps.size-1-i]?=some c/\v=.str ⟨#[c]⟩,fun i _=>x.cps.size<=i⟩
theorem R6{P:Program}{w:World}{K:PySem.W.Frag}{tg:Expr}{x:Str}{t:Tok}(it:Addr)(hfit:¬(x.length:Int)≥2 ^ 63) :
  Turn P w K tg (Itv x) [it] it (fun i h=>i<=x.cps.size/\Jk h it x t ((x.cps.size:Int)-1-(i:Int))) where
 mem:=List.mem_singleton.mpr rfl
 obj:=by
  rintro i h ⟨_,e⟩ b hb
  rw[List.mem_singleton.mp hb]
  exact⟨_,e,fun v z=>nomatch z⟩
 keep:=by
  rintro i h h' ⟨l,e⟩ k
  exact⟨l,k it (List.mem_singleton.mpr rfl) _ e⟩
 item:=by
  intro X hP hw hK hc i pins s σ H E I hf st hg
  subst hP hw hK
  obtain⟨f0,f1,f2,f3,f4,f5⟩:=hf it (List.mem_singleton.mpr rfl)
  have hlt:i<x.cps.size:=hg
  obtain⟨_,e⟩:=st
  have ei:(x.cps.size:Int)-1-(i:Int)=((x.cps.size-1-i:Nat):Int):=by omega
  rw[ei] at e
  have hx:x.cps[x.cps.size-1-i]?=some (x.cps[x.cps.size-1-i]'(by omega)):=Array.getElem?_eq_getElem (by omega)
  refine Qe e hfit hx fun h' tk u e' sb=>?_
  have e2:((x.cps.size-1-i:Nat):Int)-1=(x.cps.size:Int)-1-((i+1:Nat):Int):=by omega
  rw[e2] at e'
  have I1:L2.Inv X pins σ H { s with heap:=h',toks:=tk }:=I.turned (fun b o hb q=>(sb.2 b hb).trans q) f0 f1 f3 f4 f5
  exact⟨_,rfl,tM (s:={ s with heap:=h',toks:=tk }) e' rfl rfl (by decide) ⟨.str _,H,I1,⟨u,rfl⟩,⟨rfl,_,hx,rfl⟩,⟨hlt,e'⟩,fun b hb=>(hf b hb).1⟩⟩
 done:=by
  intro X hP hw hK hc i pins s σ H E I hf st hg
  subst hP hw hK
  obtain⟨f0,f1,f2,f3,f4,f5⟩:=hf it (List.mem_singleton.mpr rfl)
  have hi:i=x.cps.size:=Nat.le_antisymm st.1 hg
  subst hi
  have e:=st.2
  rw[show (x.cps.size:Int)-1-(x.cps.size:Int) = -1 from by omega] at e
  exact Wo (I.ok.hd hc) e fun h' k=>⟨rfl,I.turned (t':=s.toks) (fun b o hb q=>k b o hb q) f0 f1 f3 f4 f5⟩
 self:=fun A i s Q E st h=>GC st.2 h
section
variable{X:Cx}{tg:Expr}
def adH(te:TE):TI:=fun σ H R=>te σ H fun x H1=>∃z,x=.str z/\z.length<=sizeLine/\R (Itv z) H1
theorem Xy{a:Expr}{ta:TE}{p pos:Pos}(hg:Gl X "reversed")(hm:X.mg "reversed" = none)(ha:PE X a ta)(hs:starEach [a] X.env=[(false,eval a X.env)]:=by rfl):PI X tg (.Call (.Name "reversed" p) [a] [] pos) (adH ta):=by
 intro pins s σ H R I h
 refine Call_ (jd I hg hm boot_reversed (PyProof.Rows.callWith_type1 ?_ hs rfl))
 rw[hs]
 refine Calls.spliced_cons (cQ (ha pins s σ H _ I h) fun v s1 zz=>?_)
 obtain⟨x,H1,I1,r1,z,ex,hz,q⟩:=zz
 subst ex
 obtain⟨t,rfl⟩:=r1
 refine Calls.spliced_nil ?_
 have hfit:¬(z.length:Int)≥2 ^ 63:=by rw[cL] at hz;omega
 refine zb hfit ?_
 have e0:Jk (s1.heap.push { cls:=.type "reversed",data:=.fields #[.str z t,rawInt ((z.length:Int)-1)] }) s1.heap.objs.size z t ((z.cps.size:Int)-1-((0:Nat):Int)):=by
  have e:(z.cps.size:Int)-1-((0:Nat):Int)=(z.length:Int)-1:=by show _=(z.cps.size:Int)-1;omega
  rw[e]
  exact Heap.get?_push_size _ rfl
 have I2:L2.Inv X pins σ H1 { s1 with heap:=s1.heap.push { cls:=.type "reversed",data:=.fields #[.str z t,rawInt ((z.length:Int)-1)] },toks:=s1.toks+1+1 }:=I1.kept fun b o e=>Heap.get?_push_of_some _ e
 refine GC (s:={ s1 with heap:=s1.heap.push { cls:=.type "reversed",data:=.fields #[.str z t,rawInt ((z.length:Int)-1)] },toks:=s1.toks+1+1 }) e0 ?_
 refine⟨s1.heap.objs.size,[s1.heap.objs.size],_,_,H1,rfl,I2,R6 _ hfit,⟨Nat.zero_le _,e0⟩,fun b hb=>?_,q⟩
 rw[List.mem_singleton.mp hb]
 exact I1.uX (Nat.le_refl _) (I1.hok.fresh (Nat.le_refl _))
theorem Pu{K:PySem.W.Frag}{H:Hp}{z:Str}:vY K H (lets z).reverse (fun _=>True) (Itv z):=fun H3 H' tk hr _=>by
 have hl:(lets z).length=z.cps.size:=by unfold lets;rw[List.length_map,Array.length_toList]
 refine⟨fun i hi=>?_,by rw[List.length_reverse,hl];exact Nat.le_refl _⟩
 rw[List.length_reverse,hl] at hi
 refine⟨hi,fun x H'' y=>?_⟩
 obtain⟨e,c,hc,rfl⟩:=y
 subst e
 refine⟨TK.refl,hr,.str ⟨#[c]⟩,?_,.str _⟩
 rw[List.getElem?_reverse (by rw[hl];exact hi),hl]
 unfold lets
 rw[List.getElem?_map,Array.getElem?_toList,hc]
 rfl
theorem YJ{e:Expr}{te:aZ}{p pos:Pos}(hm:X.mg "reversed" = none)(h:cF X e te)(hg:Gl X "reversed":=by rfl)(hs:starEach [e] X.env=[(false,eval e X.env)]:=by rfl):Il X tg (.Call (.Name "reversed" p) [e] [] pos) (irv te) :=
 j0 (Xy hg hm h hs) fun _ _ _ ⟨σ3,H3,R3,sr,hr,t,k⟩=>⟨σ3,H3,_,sr,hr,t,fun x v H3a Ha tka hra rx qa=>by
  cases rx with
  |str z=>exact⟨z,rfl,qa.1,k _ _ _ _ _ tka hra Pu qa.2⟩
  |_=>exact qa.elim⟩
end
end L3
namespace L3
open PySem PySem.Spec PyProof.Rows L2
def Itk(kvs:List (Str×D)):It:=⟨fun i _=>i<kvs.length,fun i H v H'=>H'=H/\∃p,kvs[i]?=some p/\v=.str p.1,fun i _=>kvs.length<=i⟩
theorem DC.at{K:PySem.W.Frag}{P:Program}{w:World}{a:Addr}{kvs:List (Str×D)}(c:DC K w a kvs):∃(vs:List (Key×Value)) (ep:Nat),(∀h:Heap,K.In h->h.DictAt (bH P w) a vs ep)/\vs.map (·.1)=kvs.map (fun p=>(Sum.inr p.1:Key)):=by
 obtain⟨o,es,ep,h1,h2,h3,h4⟩:=c.ob
 obtain⟨vs,p1,p2,p3,p4,p5⟩:=Bh.pairs (P:=P) h4
 refine⟨vs,ep,fun h hk=>⟨o,es,hk a o h1,h2,h3,fun e he=>p3 e (by simpa using he),p1,?_⟩,p2⟩
 rw[p2]
 have:=c.nd
 rw[List.nodup_iff_pairwise_ne,List.pairwise_map] at this ⊢
 exact this.imp fun h q=>h (Sum.inr.inj q)
theorem V7{P:Program}{w:World}{K:PySem.W.Frag}{tg:Expr}{a it:Addr}{kvs:List (Str×D)}{vs:List (Key×Value)}{ep:Nat}(hd:∀h:Heap,K.In h->h.DictAt (bH P w) a vs ep)(hk:vs.map (·.1)=kvs.map (fun p=>(Sum.inr p.1:Key))) :
  Turn P w K tg (Itk kvs) [it] it (fun i h=>h.IsKeyIter it a i vs.length ep) where
 mem:=List.mem_singleton.mpr rfl
 obj:=by
  rintro i h ⟨o,e,c,d⟩ b hb
  rw[List.mem_singleton.mp hb]
  exact⟨o,e,fun v z=>by rw[d] at z;cases z⟩
 keep:=fun i h h' st k=>st.at fun o e=>k it (List.mem_singleton.mpr rfl) o e
 item:=by
  intro X hP hw hK hc i pins s σ H E I hf st hg
  subst hP hw hK
  obtain⟨f0,f1,f2,f3,f4,f5⟩:=hf it (List.mem_singleton.mpr rfl)
  have hlt:i<kvs.length:=hg
  have hl:vs.length=kvs.length:=by have:=congrArg List.length hk;rwa [List.length_map,List.length_map] at this
  have e1:vs[i]?=some vs[i]:=List.getElem?_eq_getElem (by omega)
  have e2:kvs[i]?=some kvs[i]:=List.getElem?_eq_getElem hlt
  have e3:vs[i].1=Sum.inr kvs[i].1:=by
   have:=congrArg (fun l=>l[i]?) hk
   simp only[List.getElem?_map,e1,e2,Option.map_some] at this
   exact Option.some.inj this
  obtain⟨⟨kk,vv⟩,hkv⟩:∃q,vs[i]=q:=⟨_,rfl⟩
  rw[hkv] at e1 e3
  refine wpAny_pyNext_dict_item st (hd _ I.uq) e1 fun key h' his st' sb=>?_
  have e3':kk=Sum.inr kvs[i].1:=e3
  subst e3'
  have his':wR (Sum.inr kvs[i].1) key=true:=his
  rcases cC his' with ⟨j,t,z,_⟩ | ⟨x,t,z,rfl⟩
  ·cases z
  ·cases z
   have I1:L2.Inv X pins σ H { s with heap:=h' }:=I.turned (t':=s.toks) (fun b o hb q=>(sb.2 b hb).trans q) f0 f1 f3 f4 f5
   obtain⟨o,e,hcl,dd⟩:=id st'
   exact⟨_,rfl,tM (s:={ s with heap:=h' }) e hcl dd (by decide) ⟨.str _,H,I1,⟨t,rfl⟩,⟨rfl,_,e2,rfl⟩,st',fun b hb=>(hf b hb).1⟩⟩
 done:=by
  intro X hP hw hK hc i pins s σ H E I hf st hg
  subst hP hw hK
  obtain⟨f0,f1,f2,f3,f4,f5⟩:=hf it (List.mem_singleton.mpr rfl)
  have hle:kvs.length<=i:=hg
  have hl:vs.length=kvs.length:=by have:=congrArg List.length hk;rwa [List.length_map,List.length_map] at this
  exact wpAny_pyNext_dict_end (I.ok.hd hc) st (hd _ I.uq) (List.getElem?_eq_none (by omega)) fun h' eb=>⟨rfl,I.turned (t':=s.toks) (fun b o hb q=>eb b o hb q) f0 f1 f3 f4 f5⟩
 self:=fun A i s Q E st h=>wpAny_pyIter_keyiter st h
section
variable{X:Cx}{tg:Expr}
def jKd(kvs:List (Str×D)):TI:=fun _ H R=>R (Itk kvs) H
theorem abJ{x:Str}{a:Addr}{kvs:List (Str×D)}{p:Pos}(hg:Gl X x)(hm:X.mg x=some (.ref a))(c:DC X.K X.w a kvs)(hd:(x==("__debug__" : Str))=false:=by decide):PI X tg (.Name x p) (jKd kvs):=by
 intro pins s σ H R I h
 obtain⟨vs,ep,h1,h2⟩:=c.at (P:=X.prog)
 refine sZ I hg hm ?_ hd
 refine wpAny_pyIter_dict c.ns (h1 _ I.uq) ?_
 refine⟨s.heap.objs.size,[s.heap.objs.size],_,_,H,rfl,I.kept (t':=s.toks) fun b o e=>Heap.get?_push_of_some _ e,V7 h1 h2,⟨_,Heap.get?_push_size _ rfl,rfl,rfl⟩,fun b hb=>?_,h⟩
 rw[List.mem_singleton.mp hb]
 exact I.uX (Nat.le_refl _) (I.hok.fresh (Nat.le_refl _))
theorem Vk{K:PySem.W.Frag}{H:Hp}{kvs:List (Str×D)}:vY K H (kvs.map fun p=>D.str p.1) (fun _=>True) (Itk kvs):=fun H3 H' tk hr _=>by
 refine⟨fun i hi=>?_,by rw[List.length_map];exact Nat.le_refl _⟩
 rw[List.length_map] at hi
 refine⟨hi,fun x H'' y=>?_⟩
 obtain⟨e,q,hq,rfl⟩:=y
 subst e
 exact⟨TK.refl,hr,.str q.1,by rw[List.getElem?_map,hq];rfl,.str _⟩
theorem aaF{x:Str}{kvs:List (Str×D)}{p:Pos}(hg:Gl X x)(hm:∃a,X.mg x=some (.ref a)/\DC X.K X.w a kvs)(hd:(x==("__debug__" : Str))=false:=by decide):Il X tg (.Name x p) (ikd kvs):=by
 obtain⟨a,hm,c⟩:=hm
 refine j0 (abJ hg hm c hd) fun _ _ _ ⟨σ3,H3,R3,sr,hr,t,k⟩=>k _ _ _ _ _ TK.refl hr Vk t
end
end L3
namespace L3
open PySem PySem.Spec PyProof.Rows L2
section
variable{X:Cx}
theorem Fl:jj X (inplaceOp .Add) (cz X.K yu):=by
 intro pins s σ H x y v u Q I rx ry h
 obtain⟨dx,dy,H3,Q3,hr,rdx,rdy,t,k⟩:=h
 cases rdx with
 |int i=>
  cases rdy with
  |int j=>exact Wg pins s σ H _ _ v u Q I rx ry ⟨i,j,rfl,rfl,k _ _ _ _ TK.refl hr (.int _) t⟩
  |_=>exact t.elim
 |str i=>
  cases rdy with
  |str j=>exact Ff pins s σ H _ _ v u Q I rx ry ⟨i,j,rfl,rfl,t.1,k _ _ _ _ TK.refl hr (.str _) t.2⟩
  |_=>exact t.elim
 |_=>exact t.elim
theorem QR:jj X (inplaceOp .Sub) (cz X.K I8):=sV Wh fun _ _ _=>.int _
theorem Ik{i:Nat}{x:Str}{e:Expr}{te:aZ}{op:Operator}{r:R3}{pos' pos:Pos}(hN:X.N.Nodup)(ho:jj X (inplaceOp op) (cz X.K r))(he:cF X e te)(hi:X.N[i]?=some x:=by rfl)(hx:Loc X.env.scope x:=by first | exact Or.inl rfl | exact Or.inr rfl)
  (hf:X.fn x=true\/X.env.scope.names.lookup x=some .local:=by first | exact .inl rfl | exact .inr rfl | assumption):Ko X (.AugAssign (.Name x pos') op e pos) (Xi i r te) :=
 jR (XQ (i:=i) (ti:=cz X.K r) hN hi hx he ho hf) fun D0 σ H zz=>zz.ex fun σ3 H3 D3 sr hr t k=>by
  simp only[Xi] at t
  split at t
  ·rename_i d hd
   obtain⟨v,hv,rv⟩:=sr.get _ _ hd
   refine⟨v,hv,σ3,H3,_,sr,hr,t,fun y u H3a Ha tka hra ry qa=>⟨d,y,H3a,_,hra,rv.mono tka,ry,qa,fun z w H3b Hb tkb hrb rz qb=>?_⟩⟩
   exact k.nx _ _ _ _ (tka.trans tkb) ((sr.mono (tka.trans tkb)).set i rz) hrb qb
  ·exact t.elim
end
end L3
namespace L3
open PySem PySem.Spec PyProof.Rows L2
structure ZAp(z TI TO i1 i2:Addr)(f1 f2:List Addr):Prop where
 TIz:TI≠z
 TOz:TO≠z
 i1z:i1≠z
 i2z:i2≠z
 TITO:TI≠TO
 TIi1:TI≠i1
 TIi2:TI≠i2
 TOi1:TO≠i1
 TOi2:TO≠i2
 i12:i1≠i2
 a1:z∉f1/\TO∉f1/\i2∉f1
 a2:z∉f2/\TO∉f2/\i1∉f2
section
variable{prog:Program}{w:World}{A:Around}{E:Value->Shared->Prop}{s:Shared}
variable{z TI TO i1 i2:Addr}{f1 f2:List Addr}{n1 n2 k:Nat}{P1 P2:Nat->Value->Prop}{S1 S2:Nat->Heap->Prop}{a b:Value}
theorem zR{Q:Option Value->Shared->Prop}(D:ZAp z TI TO i1 i2 f1 f2)(D1:Draws prog w A.in1 i1 f1 n1 P1 S1)(D2:Draws prog w A.in1 i2 f2 n2 P2 S2)(h1:k<n1)(h2:k<n2)
  (hz:IsZip s.heap z TI TO .none) (hTI:IsPair s.heap TI (.ref i1) (.ref i2)) (hTO:IsPair s.heap TO a b) (st1:S1 k s.heap) (st2:S2 k s.heap)
  (hQ:∀ h' tk x y,P1 k x→P2 k y→IsZip h' z TI TO (rawInt s.heap.objs.size)→IsPair h' TO x y→S1 (k + 1) h'→S2 (k + 1) h'→IsPair h' s.heap.objs.size x y →
   (∀c o,c≠z->c≠TO->c≠i1->c≠i2->s.heap.get? c=some o->h'.get? c=some o)->Q (some (.ref s.heap.objs.size)) { s with heap:=h',toks:=tk }) :
  wpAny (model prog w) A (pyNext (.ref z)) Q E s:=by
 have hT:s.TypeIs (.ref z) "zip":=⟨_,hz,rfl⟩
 unfold pyNext
 refine wpAny_bind (wpAny_attempt (wpAny_callSpecial?_slot (name:=Str.ofString "__next__") hT F.slot_zip_next (wpAny_call_entry F.slot_zip_next hT F.entry_zip_next ?_ (F.args_zip_next_1 _))))
 show wpAny _ _ (field (.ref z) 2 >>= _) _ _ _
 refine wpAny_bind (wpAny_field hz rfl (x:=.bool false) rfl ?_)
 show wpAny _ _ (field (.ref z) 3 >>= _) _ _ _
 refine wpAny_bind (wpAny_field hz rfl (x:=.ref TI) rfl ?_)
 refine wpAny_bind (wpAny_seqItems hTI rfl ?_)
 show wpAny _ _ (Builtin.SmallTypes.ownedTupleIsFree (.ref z) >>= _) _ _ _
 refine wpAny_bind ?_
 unfold Builtin.SmallTypes.ownedTupleIsFree
 refine wpAny_bind (wpAny_field hz rfl (x:=.none) rfl (wpAny_pure ?_))
 simp only[if_true]
 refine wpAny_bind (wpAny_rule ?_)
 refine wpAny_bind (wpAny_field hz rfl (x:=.ref TO) rfl ?_)
 refine wpAny_bind (wpAny_setField_rec hz (by simp) fun h₁ hz₁ hs₁=>?_)
 replace hz₁:IsZip h₁ z TI TO .ellipsis:=hz₁
 refine wpAny_bind ?_
 simp only[List.zipIdx_cons,List.zipIdx_nil,List.forIn_cons,List.forIn_nil]
 have ne:∀ {c d:Addr} {f:List Addr},c∈f->d∉f->c≠d:=fun hc hd e=>hd (e▸hc)
 refine wpAny_bind (wpAny_bind (wpAny_onRaise ?_))
 show wpAny _ _ (Builtin.SmallTypes.nextOf (.ref i1) >>= _) _ _ _
 have s11:S1 k h₁:=D1.frame _ _ _ st1 fun c hc o e=>(hs₁.2 c (ne hc D.a1.1)).trans e
 have s21:S2 k h₁:=D2.frame _ _ _ st2 fun c hc o e=>(hs₁.2 c (ne hc D.a2.1)).trans e
 refine wpAny_bind (D1.item k { s with heap:=h₁ } _ _ h1 s11 fun x h₂ tk₂ hx s12 hs₂=>wpAny_pure ?_)
 have hTO₂:IsPair h₂ TO a b:=(hs₂.2 TO D.TOi1).trans ((hs₁.2 TO D.TOz).trans hTO)
 refine wpAny_bind (wpAny_seqItems (s:={ s with heap:=h₂,toks:=tk₂ }) hTO₂ rfl ?_)
 refine wpAny_bind (wpAny_updateSeq_pair (s:={ s with heap:=h₂,toks:=tk₂ }) hTO₂ fun h₃ hTO₃ hs₃=>?_)
 replace hTO₃:IsPair h₃ TO x b:=hTO₃
 refine wpAny_bind (wpAny_letGo (wpAny_pure ?_))
 have s13:S1 (k+1) h₃:=D1.frame _ _ _ s12 fun c hc o e=>(hs₃.2 c (ne hc D.a1.2.1)).trans e
 have s23:S2 k h₃:=D2.frame _ _ _ s21 fun c hc o e=>(hs₃.2 c (ne hc D.a2.2.1)).trans ((hs₂.2 c (ne hc D.a2.2.2)).trans e)
 refine wpAny_bind (wpAny_bind (wpAny_onRaise ?_))
 show wpAny _ _ (Builtin.SmallTypes.nextOf (.ref i2) >>= _) _ _ _
 refine wpAny_bind (D2.item k { s with heap:=h₃,toks:=tk₂ } _ _ h2 s23 fun y h₄ tk₄ hy s24 hs₄=>wpAny_pure ?_)
 have hTO₄:IsPair h₄ TO x b:=(hs₄.2 TO D.TOi2).trans hTO₃
 refine wpAny_bind (wpAny_seqItems (s:={ s with heap:=h₄,toks:=tk₄ }) hTO₄ rfl ?_)
 refine wpAny_bind (wpAny_updateSeq_pair (s:={ s with heap:=h₄,toks:=tk₄ }) hTO₄ fun h₅ hTO₅ hs₅=>?_)
 replace hTO₅:IsPair h₅ TO x y:=hTO₅
 refine wpAny_bind (wpAny_letGo (wpAny_pure (wpAny_pure ?_)))
 have s14:S1 (k+1) h₅:=D1.frame _ _ _ s13 fun c hc o e=>(hs₅.2 c (ne hc D.a1.2.1)).trans ((hs₄.2 c (ne hc D.a1.2.2)).trans e)
 have s25:S2 (k+1) h₅:=D2.frame _ _ _ s24 fun c hc o e=>(hs₅.2 c (ne hc D.a2.2.1)).trans e
 refine wpAny_bind (wpAny_seqItems (s:={ s with heap:=h₅,toks:=tk₄ }) hTO₅ rfl ?_)
 refine wpAny_bind (wpAny_newTuple ?_)
 have hsz:h₅.objs.size=s.heap.objs.size:=by rw[hs₅.1,hs₄.1,hs₃.1,hs₂.1,hs₁.1]
 have hz₅:IsZip h₅ z TI TO .ellipsis:=(hs₅.2 z D.TOz.symm).trans ((hs₄.2 z D.i2z.symm).trans ((hs₃.2 z D.TOz.symm).trans ((hs₂.2 z D.i1z.symm).trans hz₁)))
 have hk₅:∀c o,c≠z->c≠TO->c≠i1->c≠i2->s.heap.get? c=some o->h₅.get? c=some o:=fun c o c1 c2 c3 c4 e=>
  (hs₅.2 c c2).trans ((hs₄.2 c c4).trans ((hs₃.2 c c2).trans ((hs₂.2 c c3).trans ((hs₁.2 c c1).trans e))))
 have hzlt:z<h₅.objs.size:=Heap.lt_size hz₅
 show wpAny _ _ (Builtin.SmallTypes.ownedTupleHandOut (.ref z) (.ref h₅.objs.size) >>= _) _ _ _
 refine wpAny_bind ?_
 unfold Builtin.SmallTypes.ownedTupleHandOut
 have hz₆:IsZip (h₅.push { cls:=.type "tuple",data:=.seq #[x,y] }) z TI TO .ellipsis:=Heap.get?_push_of_some _ hz₅
 refine wpAny_bind (wpAny_setField_rec (s:={ s with heap:=h₅.push { cls:=.type "tuple",data:=.seq #[x,y] },toks:=tk₄ }) hz₆ (by simp) fun h₇ hz₇ hs₇=>?_)
 replace hz₇:IsZip h₇ z TI TO (rawInt h₅.objs.size):=hz₇
 refine wpAny_setField_rec (s:={ s with heap:=h₇,toks:=tk₄ }) hz₇ (by simp) fun h₈ hz₈ hs₈=>?_
 replace hz₈:IsZip h₈ z TI TO (rawInt h₅.objs.size):=hz₈
 have up:∀c o,c≠z->h₅.get? c=some o->h₈.get? c=some o:=fun c o c1 e=>(hs₈.2 c c1).trans ((hs₇.2 c c1).trans (Heap.get?_push_of_some _ e))
 have hT₈:IsPair h₈ h₅.objs.size x y:=(hs₈.2 _ (Nat.ne_of_gt hzlt)).trans ((hs₇.2 _ (Nat.ne_of_gt hzlt)).trans (Heap.get?_push_size _ rfl))
 rw[hsz] at hz₈ hT₈
 refine wpAny_pure ⟨_,rfl,wpAny_pure ?_⟩
 show Q (some (.ref h₅.objs.size)) _
 rw[hsz]
 exact hQ h₈ tk₄ x y hx hy hz₈ (up _ _ D.TOz hTO₅) (D1.frame _ _ _ s14 fun c hc o e=>up c o (ne hc D.a1.1) e) (D2.frame _ _ _ s25 fun c hc o e=>up c o (ne hc D.a2.1) e) hT₈ fun c o c1 c2 c3 c4 e=>up c o c1 (hk₅ c o c1 c2 c3 c4 e)
def MP(prog:Program)(w:World)(A:Around)(it:Addr)(S:Heap->Prop):Prop:=∀(s:Shared) (Q:Value->Shared->Prop) (E:Value->Shared->Prop),S s.heap ->
 (∀h' e,Heap.ExtBut it s.heap h'->(∃o,h'.get? e=some o/\o.cls=.type "StopIteration")->E (.ref e) { s with heap:=h' })->wpAny (model prog w) A (Builtin.SmallTypes.nextOf (.ref it)) Q E s
theorem GJ{Q:Option Value->Shared->Prop}(D:ZAp z TI TO i1 i2 f1 f2)(fr1:∀h h':Heap,S1 k h->(∀b∈f1,∀o,h.get? b=some o->h'.get? b=some o)->S1 k h')(fr2:∀h h':Heap,S2 k h->(∀b∈f2,∀o,h.get? b=some o->h'.get? b=some o)->S2 k h')
  (hend:MP prog w A.in1 i1 (S1 k)\/((k<n1/\Draws prog w A.in1 i1 f1 n1 P1 S1)/\MP prog w A.in1 i2 (S2 k)))
  (hz:IsZip s.heap z TI TO .none) (hTI:IsPair s.heap TI (.ref i1) (.ref i2)) (hTO:IsPair s.heap TO a b) (st1:S1 k s.heap) (st2:S2 k s.heap)
  (hQ:∀h' tk,(∀c o,c≠z->c≠TO->c≠i1->c≠i2->s.heap.get? c=some o->h'.get? c=some o)->Q none { s with heap:=h',toks:=tk }) :
  wpAny (model prog w) A (pyNext (.ref z)) Q E s:=by
 have hT:s.TypeIs (.ref z) "zip":=⟨_,hz,rfl⟩
 unfold pyNext
 refine wpAny_bind (wpAny_attempt (wpAny_callSpecial?_slot (name:=Str.ofString "__next__") hT F.slot_zip_next (wpAny_call_entry F.slot_zip_next hT F.entry_zip_next ?_ (F.args_zip_next_1 _))))
 have fin:∀h' e tk,(∀c o,c≠z->c≠TO->c≠i1->c≠i2->s.heap.get? c=some o->h'.get? c=some o)->(∃o,h'.get? e=some o/\o.cls=.type "StopIteration") ->
   wpAny (model prog w) A (do let r ←isInstance (.ref e) (Value.type "StopIteration");if r=true then pure none else throw (.ref e)) Q E { s with heap:=h',toks:=tk }:=by
  rintro h' e tk hk ⟨o,ho,hc⟩
  refine wpAny_bind (wpAny_isInstance (T := "StopIteration") (b:=true) ⟨o,ho,hc⟩ isSubtype_stop ?_)
  exact wpAny_pure (hQ h' tk hk)
 show wpAny _ _ (field (.ref z) 2 >>= _) _ _ _
 refine wpAny_bind (wpAny_field hz rfl (x:=.bool false) rfl ?_)
 show wpAny _ _ (field (.ref z) 3 >>= _) _ _ _
 refine wpAny_bind (wpAny_field hz rfl (x:=.ref TI) rfl ?_)
 refine wpAny_bind (wpAny_seqItems hTI rfl ?_)
 show wpAny _ _ (Builtin.SmallTypes.ownedTupleIsFree (.ref z) >>= _) _ _ _
 refine wpAny_bind ?_
 unfold Builtin.SmallTypes.ownedTupleIsFree
 refine wpAny_bind (wpAny_field hz rfl (x:=.none) rfl (wpAny_pure ?_))
 simp only[if_true]
 refine wpAny_bind (wpAny_rule ?_)
 refine wpAny_bind (wpAny_field hz rfl (x:=.ref TO) rfl ?_)
 refine wpAny_bind (wpAny_setField_rec hz (by simp) fun h₁ hz₁ hs₁=>?_)
 replace hz₁:IsZip h₁ z TI TO .ellipsis:=hz₁
 refine wpAny_bind ?_
 simp only[List.zipIdx_cons,List.zipIdx_nil,List.forIn_cons,List.forIn_nil]
 have ne:∀ {c d:Addr} {f:List Addr},c∈f->d∉f->c≠d:=fun hc hd e=>hd (e▸hc)
 refine wpAny_bind (wpAny_bind (wpAny_onRaise ?_))
 show wpAny _ _ (Builtin.SmallTypes.nextOf (.ref i1) >>= _) _ _ _
 have s11:S1 k h₁:=fr1 _ _ st1 fun c hc o e=>(hs₁.2 c (ne hc D.a1.1)).trans e
 have s21:S2 k h₁:=fr2 _ _ st2 fun c hc o e=>(hs₁.2 c (ne hc D.a2.1)).trans e
 rcases hend with hend | ⟨⟨hk1,D1⟩,hend⟩
 ·refine wpAny_bind (hend { s with heap:=h₁ } _ _ s11 fun h₂ e hs₂ he=>?_)
  obtain⟨oe,hoe,hce⟩:=he
  have hz₂:IsZip h₂ z TI TO .ellipsis:=hs₂ _ _ D.i1z.symm hz₁
  have hez:e≠z:=fun x=>by subst x;rw[hz₂] at hoe;cases hoe;simp at hce
  refine wpAny_setField_rec (s:={ s with heap:=h₂ }) hz₂ (by simp) fun h₃ _ hs₃=>?_
  exact fin h₃ e s.toks (fun c o c1 _ c3 _ x=>(hs₃.2 c c1).trans (hs₂ c o c3 ((hs₁.2 c c1).trans x))) ⟨oe,(hs₃.2 e hez).trans hoe,hce⟩
 ·refine wpAny_bind (D1.item k { s with heap:=h₁ } _ _ hk1 s11 fun x h₂ tk₂ hx s12 hs₂=>wpAny_pure ?_)
  have hTO₂:IsPair h₂ TO a b:=(hs₂.2 TO D.TOi1).trans ((hs₁.2 TO D.TOz).trans hTO)
  refine wpAny_bind (wpAny_seqItems (s:={ s with heap:=h₂,toks:=tk₂ }) hTO₂ rfl ?_)
  refine wpAny_bind (wpAny_updateSeq_pair (s:={ s with heap:=h₂,toks:=tk₂ }) hTO₂ fun h₃ hTO₃ hs₃=>?_)
  refine wpAny_bind (wpAny_letGo (wpAny_pure ?_))
  have s23:S2 k h₃:=fr2 _ _ s21 fun c hc o e=>(hs₃.2 c (ne hc D.a2.2.1)).trans ((hs₂.2 c (ne hc D.a2.2.2)).trans e)
  refine wpAny_bind (wpAny_bind (wpAny_onRaise ?_))
  show wpAny _ _ (Builtin.SmallTypes.nextOf (.ref i2) >>= _) _ _ _
  refine wpAny_bind (hend { s with heap:=h₃,toks:=tk₂ } _ _ s23 fun h₄ e hs₄ he=>?_)
  obtain⟨oe,hoe,hce⟩:=he
  have hz₄:IsZip h₄ z TI TO .ellipsis:=hs₄ _ _ D.i2z.symm ((hs₃.2 z D.TOz.symm).trans ((hs₂.2 z D.i1z.symm).trans hz₁))
  have hez:e≠z:=fun x=>by subst x;rw[hz₄] at hoe;cases hoe;simp at hce
  refine wpAny_setField_rec (s:={ s with heap:=h₄,toks:=tk₂ }) hz₄ (by simp) fun h₅ _ hs₅=>?_
  exact fin h₅ e tk₂ (fun c o c1 c2 c3 c4 x=>(hs₅.2 c c1).trans (hs₄ c o c4 ((hs₃.2 c c2).trans ((hs₂.2 c c3).trans ((hs₁.2 c c1).trans x))))) ⟨oe,(hs₅.2 e hez).trans hoe,hce⟩
end
def YQ(x:Str)(t:Tok):Obj:={ cls:=.type "str_ascii_iterator",data:=.fields #[.str x t,.int 0 0] }
def ZR(l:Addr):Obj:={ cls:=.type "list_iterator",data:=.fields #[.ref l,.int 0 0] }
abbrev zh2(h:Heap)(o1 o2:Obj):Heap:=(h.push o1).push o2
abbrev zh3(h:Heap)(o1 o2:Obj):Heap:=(zh2 h o1 o2).push { cls:=.type "tuple",data:=.seq #[.ref h.objs.size,.ref (h.push o1).objs.size] }
abbrev zh4(h:Heap)(o1 o2:Obj):Heap:=(zh3 h o1 o2).push { cls:=.type "tuple",data:=.seq #[.none,.none] }
abbrev Bl(h:Heap)(o1 o2:Obj):Heap:=(zh4 h o1 o2).push { cls:=.type "zip",data:=.fields #[.none,.bool false,.bool false,.ref (zh2 h o1 o2).objs.size,.ref (zh3 h o1 o2).objs.size] }
set_option maxHeartbeats 4000000 in
theorem BK(l:Addr)(xs:Array Value)(x:Str)(t:Tok)(ha:x.cps.all (· < 128)=true) :
  Meets (Builtin.«zip.__new__» ⟨[.type "zip",.ref l,.str x t],[]⟩) (fun _ R s=>s.heap.IsList l xs/\R (.ok (.ret (.ref (zh4 s.heap (ZR l) (YQ x t)).objs.size))) { s with heap:=Bl s.heap (ZR l) (YQ x t) }) :=
 .of_wp fun prog w A R s h=>by
  obtain⟨hp,g,d,tk,os⟩:=s
  obtain⟨hl,h⟩:=h
  have hsub:=sub_zip
  have hL:Heap.IsList (Shared.heap ⟨hp,g,d,tk,os⟩) l xs:=hl
  wp_walk using wpAny_pyIter_list hL,wpAny_pyIter_ascii ha
  exact⟨_,rfl,h⟩
theorem Kd(h:Heap)(o1 o2:Obj)(f1:o1.isFreed=false)(f2:o2.isFreed=false):let n:=h.objs.size
  (zh4 h o1 o2).objs.size=n+4/\IsZip (Bl h o1 o2) (n+4) (n+2) (n+3) .none/\IsPair (Bl h o1 o2) (n+2) (.ref n) (.ref (n+1))/\IsPair (Bl h o1 o2) (n+3) .none .none/\(Bl h o1 o2).get? n=some o1/\(Bl h o1 o2).get? (n+1)=some o2/\∀c o,h.get? c=some o->(Bl h o1 o2).get? c=some o:=by
 intro n
 have z1:(h.push o1).objs.size=n+1:=Heap.size_push ..
 have z2:(zh2 h o1 o2).objs.size=n+2:=by rw[Heap.size_push,z1]
 have z3:(zh3 h o1 o2).objs.size=n+3:=by rw[Heap.size_push,z2]
 have z4:(zh4 h o1 o2).objs.size=n+4:=by rw[Heap.size_push,z3]
 have g5:(Bl h o1 o2).get? (zh4 h o1 o2).objs.size=some _:=Heap.get?_push_size _ rfl
 have g4:(Bl h o1 o2).get? (zh3 h o1 o2).objs.size=some _:=Heap.get?_push_of_some _ (Heap.get?_push_size _ rfl)
 have g3:(Bl h o1 o2).get? (zh2 h o1 o2).objs.size=some _:=Heap.get?_push_of_some _ (Heap.get?_push_of_some _ (Heap.get?_push_size _ rfl))
 have g2:(Bl h o1 o2).get? (h.push o1).objs.size=some o2:=Heap.get?_push_of_some _ (Heap.get?_push_of_some _ (Heap.get?_push_of_some _ (Heap.get?_push_size _ f2)))
 have g1:(Bl h o1 o2).get? h.objs.size=some o1:=Heap.get?_push_of_some _ (Heap.get?_push_of_some _ (Heap.get?_push_of_some _ (Heap.get?_push_of_some _ (Heap.get?_push_size _ f1))))
 rw[z2,z3,z4] at g5
 rw[z1,z2] at g3
 rw[z3] at g4
 rw[z1] at g2
 exact⟨z4,g5,g3,g4,g1,g2,fun c o x=>Heap.get?_push_of_some _ (Heap.get?_push_of_some _ (Heap.get?_push_of_some _ (Heap.get?_push_of_some _ (Heap.get?_push_of_some _ x))))⟩
end L3
namespace L3
open PySem PySem.Spec PyProof.Rows L2
theorem Pk{l n:Nat}(h:l<n):n+4≠l/\n+3≠l/\n+1≠l/\n≠l:=by grind
theorem nm1{x a:Nat}(h:x≠a):x∉[a]:=by simp[h]
theorem Vj{x a b:Nat}(h:x≠a)(g:x≠b):x∉[a,b]:=by simp[h,g]
def G6(K:PySem.W.Frag)(a:Addr)(x:Str):It :=
 ⟨fun i H=>∃xs v c,jm K H a xs/\xs[i]?=some v/\x.cps[i]?=some c,
   fun i H y H'=>∃T v c,y=.ref T/\H T=none/\H'=upd H T (.tup [v,.str ⟨#[c]⟩])/\x.cps[i]?=some c/\∀xs,jm K H a xs->xs[i]?=some v,
   fun i H=>∃xs,jm K H a xs/\(xs.length<=i\/x.cps.size<=i)⟩
theorem Fx{P:Program}{w:World}{K:PySem.W.Frag}{elts:List Expr}{kt:Nat}{pt:Pos}{x:Str}{t:Tok}(z TI TO i1 i2 a:Addr)(D:ZAp z TI TO i1 i2 [i1,a] [i2])(hai:a≠i1) :
  Turn P w K (.Tuple elts kt pt) (G6 K a x) [z,TI,TO,i1,i2] z (fun i h=>IsZip h z TI TO .none/\IsPair h TI (.ref i1) (.ref i2)/\(∃u v,IsPair h TO u v)/\h.IsListIter i1 a i/\i<=x.cps.size/\h.IsStrIter i2 "str_ascii_iterator" x t i) where
 mem:=by simp
 obj:=by
  rintro i h ⟨h1,h2,⟨u,v,h3⟩,⟨o4,h4,c4,d4⟩,_,⟨o5,h5,c5,d5⟩⟩ c hc
  simp only[List.mem_cons,List.not_mem_nil,or_false] at hc
  rcases hc with rfl | rfl | rfl | rfl | rfl
  ·exact⟨_,h1,fun v z=>nomatch z⟩
  ·exact⟨_,h2,fun v z=>nomatch z⟩
  ·exact⟨_,h3,fun v z=>nomatch z⟩
  ·first
   |exact⟨_,h4,fun v z=>by rw[d4] at z;cases z⟩
   |exact⟨_,h5,fun v z=>by rw[d5] at z;cases z⟩
  ·first
   |exact⟨_,h4,fun v z=>by rw[d4] at z;cases z⟩
   |exact⟨_,h5,fun v z=>by rw[d5] at z;cases z⟩
 keep:=by
  rintro i h h' ⟨h1,h2,⟨u,v,h3⟩,h4,hi,⟨o5,h5,r5⟩⟩ k
  exact⟨k z (by simp) _ h1,k TI (by simp) _ h2,⟨u,v,k TO (by simp) _ h3⟩,h4.at fun o e=>k i1 (by simp) o e,hi,o5,k i2 (by simp) o5 h5,r5⟩
 item:=by
  intro X hP hw hK hc i pins s σ H E I hf st hg
  subst hP hw hK
  obtain⟨xs,v,c,hq,hxv,hcx⟩:=hg
  obtain⟨h1,h2,⟨u0,v0,h3⟩,h4,_,h5⟩:=st
  obtain⟨its,rv,pl,hz⟩:=I.list hq
  obtain⟨u,hu,ru⟩:=rv.get hxv
  have hh:=I.ok.hd hc
  have hlv:i<its.length:=(List.getElem?_eq_some_iff.mp hu).1
  have hct:i<x.cps.size:=(Array.getElem?_eq_some_iff.mp hcx).1
  have hT:H s.heap.objs.size=none:=I.hok.fresh (Nat.le_refl _)
  refine zR (k:=i) (f1:=[i1,a]) (f2:=[i2]) (S1:=fun i h=>h.IsListIter i1 a i/\h.IsList a its.toArray) (S2:=fun i h=>h.IsStrIter i2 "str_ascii_iterator" x t i) D (Draws.list (prog:=X.prog) (w:=X.w) (A:=X.A.in1) hh i1 a hai its.toArray) (Draws.strAscii (prog:=X.prog) (w:=X.w) (A:=X.A.in1) hh i2 x t) (by simp;grind) hct h1 h2 h3 ⟨h4,pl.isList⟩ h5 fun h' tk y1 y2 hy1 hy2 a1 a2 sa sb a5 a7=>?_
  refine⟨_,rfl,?_⟩
  refine wpAny_letOwnedTupleGo_zip (s:={ s with heap:=h',toks:=tk }) a1 fun h'' b1 b2=>?_
  have lt:∀ {c o},s.heap.get? c=some o->s.heap.objs.size≠c:=fun e=>Nat.ne_of_gt (Heap.lt_size e)
  obtain⟨c',u',hc',rfl⟩:=hy2
  have ec:c'=c:=Option.some.inj (hc'.symm.trans hcx)
  subst ec
  have eu:y1=u:=by
   have q:=hy1
   simp only[List.getElem?_toArray] at q
   exact Option.some.inj (q.symm.trans hu)
  subst eu
  have new:h''.get? s.heap.objs.size=some { cls:=.type "tuple",data:=.seq #[y1,.str ⟨#[c']⟩ u'] }:=(b2.2 _ (lt h1)).trans a5
  have I1:L2.Inv X pins σ (upd H s.heap.objs.size (.tup [v,.str ⟨#[c']⟩])) { s with heap:=h'',toks:=tk }:=by
   refine uJ (ch:=[z,TI,TO,i1,i2]) I (fun c o hcn e=>?_) hf (Nat.le_refl _) ⟨?_,[y1,.str ⟨#[c']⟩ u'],.cons ru (.cons ⟨_,rfl⟩ .nil),⟨_,new,rfl,_,rfl,rfl⟩⟩
   ·have n1:c≠z:=fun w=>hcn (by simp[w])
    exact (b2.2 c n1).trans (a7 c o n1 (fun w=>hcn (by simp[w])) (fun w=>hcn (by simp[w])) (fun w=>hcn (by simp[w])) e)
   ·show 2<=sizeLine;decide
  refine⟨.ref s.heap.objs.size,_,I1,rfl,⟨_,v,c',rfl,hT,rfl,hcx,fun xs' q1=>by rw[I.Eu q1 hq];exact hxv⟩,⟨b1,?_,⟨_,_,(b2.2 TO D.TOz).trans a2⟩,?_,hct,?_⟩,fun d hdm=>?_⟩
  ·exact (b2.2 TI D.TIz).trans (a7 TI _ D.TIz D.TITO D.TIi1 D.TIi2 h2)
  ·exact (sa).1.at fun o e=>(b2.2 i1 D.i1z).trans e
  ·obtain⟨o,e,r⟩:=sb
   exact⟨o,(b2.2 i2 D.i2z).trans e,r⟩
  ·have hcn:H d=none:=(hf d hdm).1
   have:d≠s.heap.objs.size:=by
    obtain⟨o,e,_⟩:∃o,s.heap.get? d=some o/\True:=by
     simp only[List.mem_cons,List.not_mem_nil,or_false] at hdm
     obtain⟨o4,e4,_⟩:=h4
     obtain⟨o5,e5,_⟩:=h5
     rcases hdm with rfl | rfl | rfl | rfl | rfl
     ·exact⟨_,h1,trivial⟩
     ·exact⟨_,h2,trivial⟩
     ·exact⟨_,h3,trivial⟩
     ·first | exact⟨_,e4,trivial⟩ | exact⟨_,e5,trivial⟩
     ·first | exact⟨_,e4,trivial⟩ | exact⟨_,e5,trivial⟩
    exact (lt e).symm
   rw[aF this];exact hcn
 done:=by
  intro X hP hw hK hc i pins s σ H E I hf st hg
  subst hP hw hK
  obtain⟨xs,hq,hx⟩:=hg
  obtain⟨h1,h2,⟨u0,v0,h3⟩,h4,hi,h5⟩:=st
  obtain⟨its,rv,pl,hz⟩:=I.list hq
  have hl:=rv.length
  have hh:=I.ok.hd hc
  have DL:=Draws.list (prog:=X.prog) (w:=X.w) (A:=X.A.in1) hh i1 a hai its.toArray
  have DT:=Draws.strAscii (prog:=X.prog) (w:=X.w) (A:=X.A.in1) hh i2 x t
  have endL:its.length<=i->MP X.prog X.w X.A.in1 i1 ((fun i h=>h.IsListIter i1 a i/\h.IsList a its.toArray) i):=fun hle s' Q E' st' hE=>wpAny_nextOf_list_end hh st'.1 st'.2 (by simp;grind) hE
  have Dy:x.cps.size<=i->MP X.prog X.w X.A.in1 i2 ((fun i h=>h.IsStrIter i2 "str_ascii_iterator" x t i) i):=fun hle s' Q E' st' hE=>by
   have e:i=x.cps.size:=Nat.le_antisymm hi hle
   subst e
   exact DT.done s' Q E' st' hE
  refine GJ (k:=i) (P1:=fun i v=>its.toArray[i]?=some v) (f1:=[i1,a]) (f2:=[i2]) (n1:=its.toArray.size) (S1:=fun i h=>h.IsListIter i1 a i/\h.IsList a its.toArray) (S2:=fun i h=>h.IsStrIter i2 "str_ascii_iterator" x t i) D (fun _ _ q k=>DL.frame i _ _ q k) (fun _ _ q k=>DT.frame i _ _ q k) ?_ h1 h2 h3 ⟨h4,pl.isList⟩ h5 fun h' tk k=>⟨rfl,?_⟩
  ·by_cases hle:its.length<=i
   ·exact .inl (endL hle)
   ·exact .inr ⟨⟨by simp;grind,DL⟩,Dy (by grind)⟩
  ·exact Cw (t':=tk) (ch:=[z,TI,TO,i1,i2]) I (fun c o hcn e=>k c o (fun w=>hcn (by simp[w])) (fun w=>hcn (by simp[w])) (fun w=>hcn (by simp[w])) (fun w=>hcn (by simp[w])) e) hf
 self:=fun A i s Q E st h=>wpAny_pyIter_zip st.1 h
section
variable{X:Cx}{tg:Expr}
theorem Ef{prog:Program}{w:World}{A:Around}{E:Value->Shared->Prop}{s:Shared}{l:Addr}{xs:Array Value}{x:Str}{t:Tok}{Q:Value->Shared->Prop}(ha:x.cps.all (· < 128)=true)(hl:s.heap.IsList l xs)
  (h:Q (.ref (s.heap.objs.size+4)) { s with heap:=Bl s.heap (ZR l) (YQ x t) }):wpAny (model prog w) A (call (.type "zip") [.ref l,.str x t]) Q E s:=by
 refine callType_new F.called_zip (by decide) (F.typeCall_zip_2 _ _) (F.newCall_zip_2 _ _) (fun obj=>F.args_object_init_3 obj _ _) F.entry_zip_new (BK l xs x t ha) ⟨hl,?_⟩
 obtain⟨z4,g5,_⟩:=Kd s.heap (ZR l) (YQ x t) rfl rfl
 show _/\_
 rw[z4]
 exact⟨⟨_,g5,rfl⟩,h⟩
def Vu(K:PySem.W.Frag)(ta:TA):TI:=fun σ H R=>ta σ H fun vs H1=>∃l x,vs=[.ref l,.str x]/\x.cps.all (· < 128)=true/\(∃xs,jm K H1 l xs)/\R (G6 K l x) H1
theorem NK{a b:Expr}{ta:TA}{p pos pt:Pos}{elts:List Expr}{kt:Nat}(hg:Gl X "zip")(hm:X.mg "zip" = none)(ha:PA X [a,b] ta)(hs:starEach [a,b] X.env=[(false,eval a X.env),(false,eval b X.env)]:=by rfl)(hs2:starEach [b] X.env=[(false,eval b X.env)]:=by rfl) :
  PI X (.Tuple elts kt pt) (.Call (.Name "zip" p) [a,b] [] pos) (Vu X.K ta):=by
 intro pins s σ H R I h
 refine Call_ (jd I hg hm boot_zip (PyProof.Rows.callWith_type1 (cQ (ha pos pins s σ H _ I h) fun us s1 ⟨vs,H1,I1,r1,l,x,e,hx,⟨xs,hq⟩,q⟩=>?_) (by rw[hs,hs2]) (by rw[hs2];rfl)))
 subst e
 obtain⟨u,u',rfl,e1,e2⟩:=vals2 r1
 cases e1
 obtain⟨t,rfl⟩:=e2
 obtain⟨its,rv,pl,hz⟩:=I1.list hq
 have a1:l<s1.heap.objs.size:=by obtain⟨_,e,_⟩:=pl.isList;exact Heap.lt_size e
 refine Ef hx pl.isList ?_
 obtain⟨z4,g5,g3,g4,g1,g2,hk⟩:=Kd s1.heap (ZR l) (YQ x t) rfl rfl
 generalize hn:s1.heap.objs.size=n at *
 refine wpAny_pyIter_zip (s:={ s1 with heap:=Bl s1.heap (ZR l) (YQ x t) }) g5 ?_
 have I2:L2.Inv X pins σ H1 { s1 with heap:=Bl s1.heap (ZR l) (YQ x t),toks:=s1.toks }:=I1.kept (t':=s1.toks) hk
 have D:ZAp (n+4) (n+2) (n+3) n (n+1) [n,l] [n+1]:=by
  exact⟨(show (n+2:Nat)≠n+4 from by grind),(show (n+3:Nat)≠n+4 from by grind),(show (n:Nat)≠n+4 from by grind),(show (n+1:Nat)≠n+4 from by grind),(show (n+2:Nat)≠n+3 from by grind),(show (n+2:Nat)≠n from by grind),(show (n+2:Nat)≠n+1 from by grind),(show (n+3:Nat)≠n from by grind),(show (n+3:Nat)≠n+1 from by grind),(show (n:Nat)≠n+1 from by grind),⟨Vj (show (n+4:Nat)≠n from by grind) (Pk a1).1,Vj (show (n+3:Nat)≠n from by grind) (Pk a1).2.1,Vj (show (n+1:Nat)≠n from by grind) (Pk a1).2.2.1⟩,⟨nm1 (show (n+4:Nat)≠n+1 from by grind),nm1 (show (n+3:Nat)≠n+1 from by grind),nm1 (show (n:Nat)≠n+1 from by grind)⟩⟩
 refine⟨_,_,_,_,H1,rfl,I2,Fx (t:=t) _ _ _ _ _ l D (Ne.symm (Pk a1).2.2.2),⟨g5,g3,⟨_,_,g4⟩,⟨_,g1,rfl,rfl⟩,Nat.zero_le _,⟨_,g2,rfl,rfl⟩⟩,fun b hb=>?_,q⟩
 simp only[List.mem_cons,List.not_mem_nil,or_false] at hb
 have hge:s1.heap.objs.size<=b:=by rw[hn];rcases hb with rfl | rfl | rfl | rfl | rfl <;> grind
 exact I1.uX (b:=b) (H':=H1) hge (I1.hok.fresh hge)
theorem Dr{K:PySem.W.Frag}{H:Hp}{a:Addr}{ds:List D}{z:Str}:vY K H (gG ds (lets z)) (fun H'=>H' a=some (.lst ds)) (G6 K a z):=fun H3 H' _ hr hk=>by
 obtain⟨vs,ga,ra⟩:=hr a _ hk
 have hl:(gG ds (lets z)).length=min ds.length z.cps.size:=by
  have hz:(lets z).length=z.cps.size:=by unfold lets;rw[List.length_map,Array.length_toList]
  unfold gG;rw[List.length_zipWith,hz]
 refine⟨fun i hi=>?_,?_⟩
 ·rw[hl] at hi
  have h1:i<vs.length:=by rw[←ra.length];grind
  have h2:i<z.cps.size:=by grind
  refine⟨⟨vs,vs[i],z.cps[i],jm.of ga,by simp,by simp⟩,fun v H'' y=>?_⟩
  obtain⟨T,x,c,rfl,hT,rfl,hc,hx⟩:=y
  obtain⟨d,hd,rd⟩:=ra.Jv (hx vs (jm.of ga))
  have hc2:(lets z)[i]?=some (.str ⟨#[c]⟩):=by unfold lets;rw[List.getElem?_map,Array.getElem?_toList,hc];rfl
  refine⟨TK.fresh hT,hr.tup hT,.tup [d,.str ⟨#[c]⟩],?_,.tup aR (.cons (rd.mono (TK.fresh hT)) (.cons (.str _) .nil))⟩
  unfold gG
  rw[List.getElem?_zipWith,hd,hc2]
 ·rw[hl]
  refine⟨vs,jm.of ga,?_⟩
  rw[←ra.length]
  grind
end
section
variable{X:Cx}{tg:Expr}
end
section
variable{X:Cx}
theorem Al{a b:Expr}{ta tb:aZ}{p pos pt:Pos}{elts:List Expr}{kt:Nat}(hm:X.mg "zip" = none)(ha:cF X a ta)(hb:cF X b tb)(hg:Gl X "zip":=by rfl)(hs:starEach [a,b] X.env=[(false,eval a X.env),(false,eval b X.env)]:=by rfl)
  (hs1:starEach [a,b] X.env=(false,eval a X.env)::starEach [b] X.env:=by rfl) (hs2:starEach [b] X.env=(false,eval b X.env)::starEach [] X.env:=by rfl) (hs3:starEach [b] X.env=[(false,eval b X.env)]:=by rfl):Il X (.Tuple elts kt pt) (.Call (.Name "zip" p) [a,b] [] pos) (izt ta tb) :=
 j0 (NK hg hm (aa ha (aa hb aA hs2) hs1) hs hs3) fun _ _ _ ⟨σ3,H3,R3,sr,hr,t,k⟩=>by
  refine⟨σ3,H3,fun ds H1=>(match ds with | [x,y]=>ztk x y H1 R3 | _=>False),sr,hr,t,fun ds vs H3a Ha tka hra rs qa=>?_⟩
  cases rs with
  |nil=>exact qa.elim
  |cons r1 r2=>
   cases r2 with
   |nil=>exact qa.elim
   |cons r2 r3=>
    cases r3 with
    |cons _ _=>exact qa.elim
    |nil=>
     cases r1 with
     |ref x=>
      cases r2 with
      |str z=>
       (delta ztk at qa;dsimp only at qa)
       split at qa
       ·rename_i ds hx
        obtain⟨vs,ga,ra⟩:=hra x _ hx
        exact⟨x,z,rfl,qa.1,⟨vs,jm.of ga⟩,k _ _ _ _ _ tka hra Dr qa.2⟩
       ·exact qa.elim
      |_=>exact qa.elim
     |_=>exact qa.elim
end
section
variable{X:Cx}
end
end L3
namespace L3
open PySem PySem.Spec PyProof.Rows L2
section
variable{X:Cx}
end
end L3
namespace L3
open PySem PySem.Spec PyProof.Rows L2
def TF(f:Str)(y:D):List (Str×D)->List (Str×D)
 |[]=>[(f,y)]
 |(g,x)::r=>if g=f then (g,y)::r else (g,x)::TF f y r
def JP(cs:List Str)(f:Str)(x:D)(H:aC)(Q:aM):Prop:=match x with
 | .ref a => (match H a with
  | some (.ins c fs) => c∈cs∧(match fs.lookup f with
   |some d=>Q d H
   |none=>False)
  |_=>False)
 |_=>False
def fd3(cs:List Str)(f:Str)(ta:aZ):aZ:=fun σ H Q=>ta σ H fun x H1=>JP cs f x H1 Q
def Wl(cs:List Str)(f:Str)(y x:D)(H:aC)(R:aC->Prop):Prop:=match x with
 | .ref a => (match H a with
  |some (.ins c fs)=>(c∈cs/\fs.length<1000)/\R (aK H a (.ins c (TF f y fs)))
  |_=>False)
 |_=>False
def sf3(cs:List Str)(f:Str)(ta tv:aZ):cO:=fun D σ H=>tv σ H fun y H1=>ta σ H1 fun x H2=>Wl cs f y x H2 (D.nx σ)
def Di(ms:List (Str×gA))(m:Str)(x:D)(H:aC)(R:gA->Prop):Prop:=match x with
 | .ref a => (match H a with
  | some (.ins c fs) => fs.lookup m = none∧(match ms.lookup c with
   |some sp=>R sp
   |none=>False)
  |_=>False)
 |_=>False
def me3(ms:List (Str×gA))(m:Str)(ta:aZ)(t:lN):aZ:=fun σ H Q=>ta σ H fun x H1=>Di ms m x H1 fun sp=>t σ H1 fun ds H2=>sp (x::ds) H2 Q
def mk3(c:Str)(sp:gA)(t:lN):aZ:=fun σ H Q=>t σ H fun ds H1=>∀x,H1 x=none->sp (.ref x::ds) (aK H1 x (.ins c [])) fun v H2=>v=.non/\Q (.ref x) H2
section
variable{H:aC}{Q:aM}{σ:bQ}{a:Addr}{c f m:Str}{cs:List Str}{fs:List (Str×D)}{d y:D}{ta tv:aZ}{t:lN}{sp:gA}{ms:List (Str×gA)}
theorem aeY(h:ta σ H fun x H1=>JP cs f x H1 Q):fd3 cs f ta σ H Q:=h
theorem aeH(h:H a=some (.ins c fs))(hc:c∈cs)(hl:fs.lookup f=some d)(q:Q d H):JP cs f (.ref a) H Q:=by
 (delta JP;simp only[h,hl]);exact⟨hc,q⟩
theorem aev{E:dj}(h:tv σ H fun y H1=>ta σ H1 fun x H2=>Wl cs f y x H2 (E.nx σ)):sf3 cs f ta tv E σ H:=h
theorem ae0{R:aC->Prop}(h:H a=some (.ins c fs))(hc:c∈cs)(hl:fs.length<1000)(q:R (aK H a (.ins c (TF f y fs)))):Wl cs f y (.ref a) H R:=by
 (delta Wl;simp only[h]);exact⟨⟨hc,hl⟩,q⟩
theorem aeS(h:ta σ H fun x H1=>Di ms m x H1 fun sp=>t σ H1 fun ds H2=>sp (x::ds) H2 Q):me3 ms m ta t σ H Q:=h
theorem acj{R:gA->Prop}(h:H a=some (.ins c fs))(hl:fs.lookup m=none)(hs:ms.lookup c=some sp)(q:R sp):Di ms m (.ref a) H R:=by
 (delta Di;simp only[h,hs]);exact⟨hl,q⟩
theorem ae3(h:t σ H fun ds H1=>∀x,H1 x=none->sp (.ref x::ds) (aK H1 x (.ins c [])) fun v H2=>v=.non/\Q (.ref x) H2):mk3 c sp t σ H Q:=h
end
def enk(x:D)(H:aC)(R:List D->(aC->Prop)->aC->Prop):Prop:=match x with
 | .ref a => (match H a with
  |some (.lst ds)=>R (gG (rO 0 ds.length) ds) (fun H'=>H' a=some (.lst ds)) H
  |_=>False)
 |_=>False
def ien(te:aZ):rA:=fun σ H R=>te σ H fun x H1=>enk x H1 R
theorem aep{te:aZ}{σ:bQ}{H:aC}{R:List D->(aC->Prop)->aC->Prop}(h:te σ H fun x H1=>enk x H1 R):ien te σ H R:=h
theorem aer{H:aC}{a:Addr}{ds:List D}{R:List D->(aC->Prop)->aC->Prop}(h:H a=some (.lst ds))(q:R (gG (rO 0 ds.length) ds) (fun H'=>H' a=some (.lst ds)) H):enk (.ref a) H R:=by
 (delta enk;simp only[h]);exact q
theorem R9(ds:List D):(gG (rO 0 ds.length) ds).length=ds.length:=by unfold gG;rw[List.length_zipWith,sO,Nat.min_self]
def aat:List D->aC->aM->Prop:=fun ds H Q=>match ds with
 |[.bl b]=>Q (.int (if b then 1 else 0)) H
 |[.int i]=>Q (.int i) H
 |_=>False
theorem acN{b:Bool}{H:aC}{Q:aM}(q:Q (.int (if b then 1 else 0)) H):aat [.bl b] H Q:=q
abbrev ur:=Str->aC->Prop
abbrev Ga:=List D->aC->aM->ur->Prop
def cbE(sp:Ga)(t:lN):ur->aZ:=fun E σ H Q=>t σ H fun ds H1=>sp ds H1 Q E
def rz3(E:ur)(c:Str)(te:aZ):cO:=fun _ σ H=>te σ H fun _ H1=>∃H2,aL H2 H1/\E c H2
def tr3(t:ur->aZ)(cs:List Str)(th:cO):cO:=fun D σ H=>t (fun c H1=>c∈cs/\th D σ H1) σ H fun _ H1=>D.nx σ H1
section
variable{H:aC}{Q:aM}{σ:bQ}{t:lN}{sp:Ga}{E:ur}{c:Str}{te:aZ}
theorem aeE(h:t σ H fun ds H1=>sp ds H1 Q E):cbE sp t E σ H Q:=h
theorem ae1{D:dj}(h:te σ H fun _ H1=>∃H2,aL H2 H1/\E c H2):rz3 E c te D σ H:=h
theorem aeI{D:dj}{t:ur->aZ}{cs:List Str}{th:cO}(h:t (fun c H1=>c∈cs/\th D σ H1) σ H fun _ H1=>D.nx σ H1):tr3 t cs th D σ H:=h
end
def Uw(tbl:List (Str×Bool))(x:D)(H:aC)(Q:aM):Prop:=match x with
 | .ref a => (match H a with
  | some (.exc c) => (match tbl.lookup c with
   |some b=>Q (.bl b) H
   |none=>False)
  |_=>False)
 |_=>False
def adP(tbl:List (Str×Bool))(ta:aZ):aZ:=fun σ H Q=>ta σ H fun x H1=>Uw tbl x H1 Q
def sxE(t:ur->aZ):ur->cO:=fun E D σ H=>t E σ H fun _ H1=>D.nx σ H1
def sxS(i:Nat)(t:ur->aZ):ur->cO:=fun E D σ H=>t E σ H fun v H1=>D.nx (σ.set i (some v)) H1
def gone(i:Nat)(D:dj):dj:={ nx:=fun σ' H'=>D.nx (σ'.set i none) H',rt:=D.rt,bk:=fun σ' H'=>D.bk (σ'.set i none) H',ct:=fun σ' H'=>D.ct (σ'.set i none) H' }
def adM(t:ur->cO)(cs:List Str)(i:Nat)(th:cO):cO:=fun D σ H=>t (fun c H1=>c∈cs/\∀a,H1 a=none->th (gone i D) (σ.set i (some (.ref a))) (aK H1 a (.exc c))) D σ H
section
variable{H:aC}{Q:aM}{σ:bQ}{a:Addr}{c:Str}{b:Bool}{tbl:List (Str×Bool)}{ta:aZ}
theorem adB(h:ta σ H fun x H1=>Uw tbl x H1 Q):adP tbl ta σ H Q:=h
theorem aee(h:H a=some (.exc c))(hl:tbl.lookup c=some b)(q:Q (.bl b) H):Uw tbl (.ref a) H Q:=by
 (delta Uw;simp only[h,hl]);exact q
theorem aeG{D:dj}{t:ur->cO}{cs:List Str}{i:Nat}{th:cO}(h:t (fun c H1=>c∈cs/\∀a,H1 a=none->th (gone i D) (σ.set i (some (.ref a))) (aK H1 a (.exc c))) D σ H):adM t cs i th D σ H:=h
theorem acf{D:dj}{i:Nat}(h:D.nx (σ.set i none) H):(gone i D).nx σ H:=h
theorem ab7{E:dj}{i:Nat}{d:D}(h:E.rt d H):(gone i E).rt d H:=h
theorem aet{D:dj}{E:ur}{t:ur->aZ}(h:t E σ H fun _ H1=>D.nx σ H1):sxE t E D σ H:=h
theorem aeC{D:dj}{E:ur}{i:Nat}{t:ur->aZ}(h:t E σ H fun v H1=>D.nx (σ.set i (some v)) H1):sxS i t E D σ H:=h
end
end L3
namespace L3
open PySem PySem.Spec PyProof.Rows L2
section
variable{K:PySem.W.Frag}{H:Hp}
end
structure aeg(P:Program)(w:World)(K:PySem.W.Frag)(mg:Str->Option Value)(base:Heap)(k:Nat)(c m:Str)(ps:List Str)(sp:gA):Prop where
 ex:∃C f fd,PySem.W.nsIn K mainGlobals c=some (some (.ref C))/\Cls K C/\Meth K C m f/\nO P w K mg base yR k f fd ps (o9 K sp)/\Binds K fd ps []
structure aeW(P:Program)(w:World)(K:PySem.W.Frag)(mg:Str->Option Value)(base:Heap)(k:Nat)(c:Str)(ps:List Str)(sp:gA):Prop where
 ex:∃C f fd,PySem.W.nsIn K mainGlobals c=some (some (.ref C))/\mg c=some (.ref C)/\Mk K C f/\nO P w K mg base yR k f fd ps (o9 K sp)/\Binds K fd ps []
section
variable{X:Cx}{e o value:Expr}{es:List Expr}{ta tv:aZ}{t:lN}{cs:List Str}{f m c:Str}{k:Nat}{pos pos' p apos:Pos}{ps:List Str}{sp:gA}
end
end L3
namespace L3
open PySem PySem.Spec PyProof.Rows L2
def XAt(h:Heap)(a:Addr)(C:Value)(T:Addr):Prop :=
 ∃oe vs oT ts a0,h.get? a=some oe/\(oe.cls=C/\vs[0]?=some a0)/\oe.data=.fields vs/\vs[1]?=some (.ref T)/\T≠a/\h.get? T=some oT/\oT.data=.fields ts/\ts[3]?=some .none
def CXE(P:Program)(w:World):Ue:=fun outer H s E e s'=>∃a T C H',e=.ref a/\s'.os=s.os/\AllBare s'.gens/\Un (frs outer) [] H H' s.heap s'.heap/\rK P w H' s'.heap /\
 s.heap.get? a=none/\s.heap.get? T=none/\H' a=none/\H' T=none/\XAt s'.heap a (.ref C) T/\E (.ref C) none H'
section
variable{M:Model}{A:Around}{E:Value->Shared->Prop}{s:Shared}{env:Env}{outer:List Env}{L a T t:Addr}{C:Value}{base:Heap}{Q:Unit->Shared->Prop}
end
section
variable{P:Program}{w:World}{K:PySem.W.Frag}{mg:Str->Option Value}{base:Heap}{N:List Str}{qual:Str}{scope:Scope}{f:Addr}{cd:Value}{A:Around}{outer:List Env}{s0:Shared}{H0:Hp}{E:XK}
end
end L3
namespace L3
open PySem PySem.Spec PyProof.Rows L2
section
variable{M:Model}{A:Around}{E:Value->Shared->Prop}{s:Shared}{env:Env}{outer:List Env}{L a T t:Addr}{C:Value}{base:Heap}{Q:Unit->Shared->Prop}
end
def KX(K:PySem.W.Frag)(H:Hp)(E3:ur)(E:XK):Prop:=∀c C H3' H',TK H H'->HR K H3' H'->PySem.W.nsIn K mainGlobals c=some (some (.ref C))->E3 c H3'->E (.ref C) none H'
inductive adq(K:PySem.W.Frag)(t:ur->aZ)(E:XK)(σ:St)(H:Hp)(Q:VK):Prop
 |mk (σ3:bQ) (H3:aC) (Q3:aM) (E3:ur) (_:SR K H σ3 σ) (_:HR K H3 H) (_:t E3 σ3 H3 Q3) (_:KE K H Q3 Q) (_:KX K H E3 E)
inductive By(K:PySem.W.Frag)(sp:Ga)(vs:List V)(H:Hp)(Q:VK)(E:XK):Prop
 |mk (ds:List D) (H3:aC) (Q3:aM) (E3:ur) (_:HR K H3 H) (_:bj K H ds vs) (_:sp ds H3 Q3 E3) (_:KE K H Q3 Q) (_:KX K H E3 E)
structure FnE(P:Program)(w:World)(K:PySem.W.Frag)(mg:Str->Option Value)(base:Heap)(k:Nat)(x:Str)(ps:List Str)(sp:Ga):Prop where
 ex:∃f fd,nO P w K mg base (CXE P w) k f fd ps (By K sp)/\mg x=some (.ref f)/\PySem.W.keepIn K (.ref f)=true/\Binds K fd ps []
section
variable{X:Cx}{k:Nat}{x c:Str}{f:Addr}{fd:FuncData}{ps:List Str}{sp:Ga}{p pos:Pos}{e:Expr}{es:List Expr}{t:lN}
end
section
variable{X:Cx}{c:Str}{e:Expr}{te:aZ}{np cpos pos:Pos}{E:XK}{E3:ur}
end
end L3
namespace L3
open PySem PySem.Spec PyProof.Rows L2
section
variable{X:Cx}{st:Stmt}{sts:List Stmt}{e:Expr}{t:cO}{te:aZ}{tt:qt}
end
end L3
namespace L3
open PySem PySem.Spec PyProof.Rows L2
section
variable{X:Cx}{A':Around}{pins:List (Addr×Obj)}{σ:St}{H:Hp}{s:Shared}
end
end L3
namespace L3
open PySem PySem.Spec PyProof.Rows L2
section
variable{X:Cx}{tg:Expr}
theorem Mh:bootBuiltins "enumerate" = some (.type "enumerate"):=by rfl
end
end L3
namespace L3
open PySem PySem.Spec PyProof.Rows L2 PySem.Calls Builtin Builtin.ObjectAttr Builtin.Getset_descriptor
structure aeT(K:PySem.W.Frag)(C:Addr):Prop where
 ga:PySem.W.findIn K (.ref C) "__getattribute__" = some (some (.builtin "BaseException.__getattribute__"))
 gh:PySem.W.findIn K (.ref C) "__getattr__" = some none
 cl:PySem.W.findIn K (.ref C) "__class__" = some (some (.builtin "object.__class__"))
 gs:PySem.W.specialIn K (.builtin "object.__class__") "__get__" = some (some (.builtin "getset_descriptor.__get__"))
 tk:PySem.W.takesIn K (.builtin "object.__class__")=some true
 mo:PySem.W.mroIn K C (.type "object")=some true
 mb:PySem.W.mroIn K C (.type "BaseException")=some true
section
variable{prog:Program}{w:World}{A:Around}{E:Value->Shared->Prop}{s:Shared}{K:PySem.W.Frag}{a C:Addr}
end
end L3
namespace L3
open PySem PySem.Spec PyProof.Rows L2
section
variable{X:Cx}{e:Expr}{ta:aZ}{cx:Str}{tbl:List (Str×Bool)}{p np pos:Pos}
end
inductive aea(K:PySem.W.Frag)(t:ur->cO)(E:XK)(D:Ends)(σ:St)(H:Hp):Prop
 |mk (σ3:bQ) (H3:aC) (D3:dj) (E3:ur) (_:SR K H σ3 σ) (_:HR K H3 H) (_:t E3 D3 σ3 H3) (_:KS K H D3 D) (_:KX K H E3 E)
section
variable{X:Cx}{pins:List (Addr×Obj)}{σ:St}{H:Hp}{s:Shared}
end
section
variable{X:Cx}{e:Expr}{t:ur->aZ}{pos:Pos}
end
end L3
namespace L3
open PySem PySem.Spec PyProof.Rows L2
def dgk(x y:D)(H:aC)(Q:aM):Prop:=match x,y with
 | .ref a,.tup ds => (match keysOf ds,H a with
  | some k,some (.dic kvs) => (match jM kvs k with
   |some d=>Q d H
   |none=>False)
  |_,_=>False)
 |_,_=>False
def dg3(ta tb:aZ):aZ:=fun σ H Q=>ta σ H fun x H1=>tb σ H1 fun y H2=>dgk x y H2 Q
def xf:List D->aC->aM->Prop:=fun ds H Q=>match ds with
 | [.ref a] => (match H a with
  |some (.dic kvs)=>Q (.int kvs.length) H
  |_=>False)
 |_=>False
def nP(kvs:List (Pt×D)):Tab:=kvs.map fun kv=>(kP kv.1,kv.2)
def j9(kvs:List (Pt×D))(c:Pt):Option D:=(kvs.find? fun kv=>decide (kv.1=c)).map (·.2)
def wV(kvs:List (Pt×D))(c:Pt)(d:D):List (Pt×D):=if (kvs.any fun kv=>decide (kv.1=c))=true then kvs.map (fun kv=>if kv.1=c then (kv.1,d) else kv) else kvs++[(c,d)]
theorem Li(c:Pt):∀kvs:List (Pt×D),jM (nP kvs) (kP c)=j9 kvs c
 |[]=>rfl
 |p::kvs=>by
  unfold nP jM j9
  rw[List.map_cons]
  by_cases e:p.1=c
  ·rw[List.find?_cons_of_pos (by simp[e]),List.find?_cons_of_pos (by simp[e])];rfl
  ·have e':¬kP p.1=kP c:=fun z=>e (xO z)
   rw[List.find?_cons_of_neg (by simpa using e'),List.find?_cons_of_neg (by simpa using e)]
   exact Li c kvs
theorem XS(c:Pt)(d:D)(kvs:List (Pt×D)):dput (nP kvs) (kP c) d=nP (wV kvs c d):=by
 have ha:((nP kvs).any fun kv=>decide (kv.1=kP c))=kvs.any fun kv=>decide (kv.1=c):=by
  unfold nP
  rw[List.any_map]
  congr 1
  funext kv
  by_cases e:kv.1=c
  ·simp[e]
  ·have e':¬kP kv.1=kP c:=fun z=>e (xO z)
   simp[e,e']
 unfold dput wV
 rw[ha]
 split
 ·unfold nP
  rw[List.map_map,List.map_map]
  refine List.map_congr_left fun kv _=>?_
  show (if kP kv.1=kP c then (kP kv.1,d) else (kP kv.1,kv.2))=_
  by_cases e:kv.1=c
  ·simp[e]
  ·have e':¬kP kv.1=kP c:=fun z=>e (xO z)
   simp[e,e']
 ·unfold nP
  rw[List.map_append];rfl
theorem Rb(kvs:List (Pt×D)):(nP kvs).length=kvs.length:=by unfold nP;rw[List.length_map]
theorem zT(c:Pt)(d:D)(kvs:List (Pt×D)):(wV kvs c d).map (·.1)=if c∈kvs.map (·.1) then kvs.map (·.1) else kvs.map (·.1)++[c]:=by
 have ha:(kvs.any fun kv=>decide (kv.1=c))=decide (c∈kvs.map (·.1)):=by
  rw[Bool.eq_iff_iff,List.any_eq_true,decide_eq_true_eq,List.mem_map]
  constructor
  ·rintro⟨x,hx,e⟩;exact⟨x,hx,by simpa using e⟩
  ·rintro⟨x,hx,e⟩;exact⟨x,hx,by simpa using e⟩
 unfold wV
 rw[ha]
 by_cases h:c∈kvs.map (·.1)
 ·rw[if_pos (decide_eq_true h),if_pos h,List.map_map]
  refine List.map_congr_left fun kv _=>?_
  show (if kv.1=c then (kv.1,d) else kv).1=kv.1
  split <;> rfl
 ·rw[if_neg (by simpa using h),if_neg h,List.map_append];rfl
theorem G3{c:Pt}{d:D}{kvs:List (Pt×D)}(h:(kvs.map (·.1)).Nodup):((wV kvs c d).map (·.1)).Nodup:=by
 rw[zT]
 split
 ·exact h
 ·rename_i z
  rw[List.nodup_append]
  exact⟨h,by simp,fun a ha b hb=>by rw[List.mem_singleton.mp hb];exact fun e=>z (e▸ha)⟩
theorem tZ{c q:Pt}{d:D}{kvs:List (Pt×D)}:q∈(wV kvs c d).map (·.1)↔q∈kvs.map (·.1)\/q=c:=by
 rw[zT]
 split
 ·rename_i z
  constructor
  ·exact .inl
  ·rintro (y | rfl)
   ·exact y
   ·exact z
 ·simp
theorem Ft{c q:Pt}{d:D}(h:¬c=q):∀kvs:List (Pt×D),j9 (kvs.map fun kv=>if kv.1=c then (kv.1,d) else kv) q=j9 kvs q
 |[]=>rfl
 |p::kvs=>by
  have ih:=Ft (d:=d) h kvs
  unfold j9 at ih ⊢
  rw[List.map_cons]
  by_cases e:p.1=q
  ·have e':¬p.1=c:=fun z=>h (z▸e)
   rw[if_neg e',List.find?_cons_of_pos (by simp[e]),List.find?_cons_of_pos (by simp[e])]
  ·have e1:¬(if p.1=c then (p.1,d) else p).1=q:=by split <;> exact e
   rw[List.find?_cons_of_neg (by simpa using e1),List.find?_cons_of_neg (by simpa using e)]
   exact ih
theorem Ad{c:Pt}{d:D}:∀kvs:List (Pt×D),(kvs.any fun kv=>decide (kv.1=c))=true->j9 (kvs.map fun kv=>if kv.1=c then (kv.1,d) else kv) c=some d
 |[],h=>by simp at h
 |p::kvs,h=>by
  unfold j9
  rw[List.map_cons]
  by_cases e:p.1=c
  ·rw[if_pos e,List.find?_cons_of_pos (by simp[e])];rfl
  ·rw[List.any_cons,decide_eq_false e,Bool.false_or] at h
   have ih:=Ad (d:=d) kvs h
   unfold j9 at ih
   rw[if_neg e,List.find?_cons_of_neg (by simpa using e)]
   exact ih
theorem Oj{c q:Pt}{d:D}{kvs:List (Pt×D)}:j9 (wV kvs c d) q=if q=c then some d else j9 kvs q:=by
 unfold wV
 by_cases h:(kvs.any fun kv=>decide (kv.1=c))=true
 ·rw[if_pos h]
  by_cases e:q=c
  ·subst e;rw[if_pos rfl];exact Ad kvs h
  ·rw[if_neg e];exact Ft (fun z=>e z.symm) kvs
 ·rw[if_neg h]
  by_cases e:q=c
  ·subst e
   rw[if_pos rfl]
   unfold j9
   rw[List.find?_append]
   have:kvs.find? (fun kv=>decide (kv.1=q))=none:=by
    rw[List.find?_eq_none]
    intro x hx z
    exact h (List.any_eq_true.mpr ⟨x,hx,z⟩)
   rw[this,Option.none_or,List.find?_cons_of_pos (by simp)];rfl
  ·rw[if_neg e]
   unfold j9
   rw[List.find?_append,List.find?_cons_of_neg (by simpa using fun z:c=q=>e z.symm),List.find?_nil,Option.or_none]
section
variable{H:aC}{Q:aM}{σ:bQ}{a:Addr}{p1 p2:Int}{d:D}{kvs:List (Pt×D)}{ta tb:aZ}
theorem ad1(h:ta σ H fun x H1=>tb σ H1 fun y H2=>dgk x y H2 Q):dg3 ta tb σ H Q:=h
theorem Xk(h:H a=some (.dic (nP kvs)))(hl:j9 kvs (p1,p2)=some d)(q:Q d H):dgk (.ref a) (.tup [.int p1,.int p2]) H Q:=by
 have e:keysOf [D.int p1,.int p2]=some (kP (p1,p2)):=rfl
 (delta dgk;simp only[e,h,Li,hl]);exact q
theorem aab{kvs:Tab}(h:H a=some (.dic kvs))(q:Q (.int kvs.length) H):xf [.ref a] H Q:=by
 (delta xf;simp only[h]);exact q
theorem aaI{R:bQ->aC->Prop}(ha:H a=some (.dic (nP kvs)))(hl:kvs.length<1000)(q:R σ (aK H a (.dic (nP (wV kvs (p1,p2) d))))):Ym d (.ref a) (.tup [.int p1,.int p2]) σ H R:=by
 have e:keysOf [D.int p1,.int p2]=some (kP (p1,p2)):=rfl
 (delta Ym;simp only[e,ha,XS])
 exact⟨by rw[Rb];exact hl,q⟩
end
def lzk(x y:D)(H:aC)(Q:aM):Prop:=match x,y with
 | .tup ds,.ref b => (match H b with
  |some (.lst es)=>ds.length<=1000/\∀p,H p=none->Q (.ref p) (aK H p (.lst (gG ds es)))
  |_=>False)
 |_,_=>False
def lz3(ta tb:aZ):aZ:=fun σ H Q=>ta σ H fun x H1=>tb σ H1 fun y H2=>lzk x y H2 Q
def tO:List D->aC->aM->Prop:=fun ds H Q=>match ds with
 | [.ref a] => (match H a with
  | some (.lst xs) => (match intsOf xs with
   |some ns=>ns.length<64/\∀(ms:List Int) (p:Addr),ms.Perm ns->ms.Pairwise (·<=·)->H p=none->Q (.ref p) (aK H p (.lst (ms.map D.int)))
   |none=>False)
  |_=>False)
 |_=>False
section
variable{H:aC}{Q:aM}{σ:bQ}{a:Addr}{ds es:List D}{ta tb:aZ}
theorem afa(h:ta σ H fun x H1=>tb σ H1 fun y H2=>lzk x y H2 Q):lz3 ta tb σ H Q:=h
theorem Wa{ns:List Int}(h:H a=some (.lst (ns.map D.int)))(hl:ns.length<64)(q:∀(ms:List Int) (p:Addr),ms.Perm ns->ms.Pairwise (·<=·)->H p=none->Q (.ref p) (aK H p (.lst (ms.map D.int)))):tO [.ref a] H Q:=by
 (delta tO;simp only[h,iD]);exact⟨hl,q⟩
end
end L3
namespace L3
open PySem PySem.Spec PyProof.Rows L2
section
variable{X:Cx}{o i:Expr}{ta tb:aZ}{pos:Pos}
theorem Vs(hu:X.A.units+64<cLine)(ho:cF X o ta)(hi:cF X i tb)(hs:Ot i:=by exact fun _ _=>rfl):cF X (.Subscript o i pos) (dg3 ta tb) :=
 bM (Kz (Nat.lt_of_le_of_lt (Nat.add_le_add_left (by decide:1<=64) _) hu) ho hi hs) fun _ _ _ zz=>zz.ex fun σ3 H3 Q3 sr hr t k=>⟨σ3,H3,_,sr,hr,t,fun x v H3a Ha tka hra rx qa=>⟨σ3,H3a,_,sr.mono tka,hra,qa,fun y u H3b Hb tkb hrb ry qb=>by
  have rx':=rx.mono tkb
  cases rx' with
  |ref a=>
   cases ry with
   |tup hy ry=>
    (delta dgk at qb;dsimp only at qb)
    split at qb
    ·rename_i ks kvs e1 e2
     split at qb
     ·rename_i d e3
      obtain⟨vs,gd,rd⟩:=hrb a _ e2
      have ex:=jK ry e1
      subst ex
      obtain⟨v,hv,rv⟩:=(TR.look (k:=ks) rd).2 d e3
      exact⟨a,v,rfl,by rw[←hv];exact uF.t gd hy,k _ _ _ _ (tka.trans tkb) hrb rv qb⟩
     ·exact qb.elim
    ·exact qb.elim
   |_=>exact qb.elim
  |_=>exact qb.elim⟩⟩
theorem qX{α β:Type}{F:α->β->Prop}:∀ {l:List α} {m:List β},Paired F l m->l.length=m.length
 |_,_,.nil=>rfl
 |_,_,.cons _ t=>by rw[List.length_cons,List.length_cons,qX t]
theorem Im{prog:Program}{w:World}{K:Type}[DecidableEq K]{knd:HeapKind prog w K}{d:Addr}(hd:(d==sysModules)=false) :
  MeetsIn prog w (Builtin.«dict.__len__» ⟨[.ref d],[]⟩) (fun _ R s=>∃xs:List (K×Addr×Value),s.heap.DictOfH knd d xs/\R (.ok (.ret (.int xs.length s.toks))) { s with toks:=s.toks+1 }) :=
 .of_wp fun A R s ⟨xs,hm,h⟩=>by
  obtain⟨o,es,ep,ho,hc,hdat,he,hp,hn⟩:=hm
  show wpAny _ _ (dictSize d >>= _) _ _ s
  unfold dictSize
  refine wpAny_bind (wpAny_bind (wpAny_dictEntries ho hdat (wpAny_pure ?_)))
  show wpAny _ _ (Builtin.Dict.pendingCount d >>= _) _ _ s
  refine wpAny_bind (wpAny_pendingCount_other hd ?_)
  refine wpAny_ret_mkInt ?_
  rw[Nat.add_zero,size_of_entries he];exact h
theorem Mq{prog:Program}{w:World}{K:Type}[DecidableEq K]{knd:HeapKind prog w K}{A:Around}{E:Value->Shared->Prop}{s:Shared}{d:Addr}{xs:List (K×Addr×Value)}{Q:Value->Shared->Prop}(hd:(d==sysModules)=false)(hm:s.heap.DictOfH knd d xs)(hfit:(xs.length:Int)<2 ^ 63)
  (h:Q (.int xs.length (s.toks+1)) { s with toks:=s.toks+1+1 }):wpAny (model prog w) A (call (.builtin "len") [.ref d]) Q E s:=by
 refine Calls.call_function_entry kind_len plain_len entry_len (args_len1 _) ?_
 unfold Builtin.«len»
 refine wpAny_bind (m:=oneArg "len" _) (wpAny_pure ?_)
 refine wpAny_bind (m:=callSpecial? (.ref d) (Str.ofString "__len__")) (wpAny_callSpecial?_slot (name:=Str.ofString "__len__") hm.typeIs F.slot_dict_len
  (call_meetsIn F.slot_dict_len hm.typeIs F.entry_dict_len (F.args_dict_len_1 _) (Im (knd:=knd) hd) ⟨xs,hm,?_⟩))
 show wpAny _ _ _ _ _ { s with toks:=s.toks+1 }
 refine wpAny_bind (wpAny_holding (wpAny_pure ?_))
 refine wpAny_bind (wpAny_letGo ?_)
 show wpAny _ _ (if ((xs.length:Nat):Int)<0 then _ else _) _ _ _
 rw[if_neg (by grind)]
 show wpAny _ _ (if ((xs.length:Nat):Int)≥2 ^ 63 then _ else _) _ _ _
 rw[if_neg (by grind)]
 exact wpAny_bind (wpAny_mkInt (wpAny_pure ⟨_,rfl,h⟩))
theorem Px:dZ X (.builtin "len") (jY X.K xf):=by
 intro pins s σ H xs us Q I rs h
 obtain⟨ds,H3,Q3,hr,rd,t,k⟩:=h
 cases rd with
 |nil=>exact t.elim
 |cons r1 r2=>
  cases r2 with
  |cons _ _=>cases r1 <;> exact t.elim
  |nil=>
   cases r1 with
   |ref a=>
    (delta xf at t;dsimp only at t)
    split at t
    ·rename_i kvs ha
     obtain⟨ks,ga,ra⟩:=hr a _ ha
     obtain⟨z,hd,ys,rel,dd⟩:=QH I.hok ga
     obtain⟨u,rfl,ru⟩:=Vals.one rs
     obtain rfl:u=Value.ref a:=ru
     have l1:ys.length=ks.length:=(qX rel).symm
     have l2:kvs.length=ks.length:=qX ra
     refine Mq hd dd (by rw[l1];rw[sizeLine_eq] at z;grind) ?_
     refine⟨.int kvs.length,H,I.tok _,⟨_,by rw[l1,←l2]⟩,k _ _ _ _ TK.refl hr (.int _) t⟩
    ·exact t.elim
   |_=>exact t.elim
end
end L3
namespace L3
open PySem PySem.Spec PyProof.Rows L2
section
variable{prog:Program}{w:World}{A:Around}{E:Value->Shared->Prop}{s:Shared}
theorem Jb{jt tt:Addr}{i:Nat}{its:Array Value}{x:Value}{Q:Value->Shared->Prop}(hj:s.heap.IsTupleIter jt tt i)(ht:s.heap.IsTuple tt its)(hx:its[i]?=some x)
  (hQ:∀h',h'.IsTupleIter jt tt (i+1)->Heap.SameBut jt s.heap h'->Q x { s with heap:=h' }):wpAny (model prog w) A (Builtin.SmallTypes.nextOf (.ref jt)) Q E s:=by
 obtain⟨o,ho,hc,hd⟩:=id hj
 obtain⟨ol,hol,_,nl,hdl⟩:=ht
 unfold Builtin.SmallTypes.nextOf
 refine wpAny_bind (wpAny_callSpecial?_slot (name:=Str.ofString "__next__") hj.typeIs F.slot_tuple_iterator_next (wpAny_call_entry F.slot_tuple_iterator_next hj.typeIs F.entry_tuple_iterator_next ?_ (F.args_tuple_iterator_next_1 _)))
 show wpAny _ _ (field (.ref jt) 0 >>= _) _ _ s
 refine wpAny_bind (wpAny_field ho hd (x:=.ref tt) rfl ?_)
 show wpAny _ _ (if (Value.ref tt==Value.none)=true then _ else _) _ _ s
 rw[if_neg (show ¬((Value.ref tt==Value.none)=true) from Bool.false_ne_true)]
 show wpAny _ _ (field (.ref jt) 1 >>= _) _ _ s
 refine wpAny_bind (wpAny_field ho hd (x:=.int i 0) rfl ?_)
 show wpAny _ _ (seqItems? (.ref tt) >>= _) _ _ s
 refine wpAny_bind (wpAny_seqItems hol hdl ?_)
 simp only[Int.toNat_natCast,hx]
 refine wpAny_bind (wpAny_setField ho hd (by simp) (wpAny_pure ⟨x,rfl,wpAny_pure (hQ _ ⟨_,Heap.get?_update_self _ ho (Obj.isFreed_of_fields (Obj.data_mapFields hd _)),(Obj.cls_mapFields ..).trans hc,by rw[Obj.data_mapFields hd];simp[rawInt]⟩ (Heap.SameBut.update ..))⟩))
theorem jO{jt tt:Addr}{i:Nat}{its:Array Value}{Q:Value->Shared->Prop}(hh:A.handled=none)(hj:s.heap.IsTupleIter jt tt i)(ht:s.heap.IsTuple tt its)(hx:its[i]?=none)
  (hE:∀h' e,Heap.ExtBut jt s.heap h'->(∃o,h'.get? e=some o/\o.cls=.type "StopIteration")->E (.ref e) { s with heap:=h' }):wpAny (model prog w) A (Builtin.SmallTypes.nextOf (.ref jt)) Q E s:=by
 obtain⟨o,ho,hc,hd⟩:=id hj
 obtain⟨ol,hol,_,nl,hdl⟩:=ht
 unfold Builtin.SmallTypes.nextOf
 refine wpAny_bind (wpAny_callSpecial?_slot (name:=Str.ofString "__next__") hj.typeIs F.slot_tuple_iterator_next (wpAny_call_entry F.slot_tuple_iterator_next hj.typeIs F.entry_tuple_iterator_next ?_ (F.args_tuple_iterator_next_1 _)))
 show wpAny _ _ (field (.ref jt) 0 >>= _) _ _ s
 refine wpAny_bind (wpAny_field ho hd (x:=.ref tt) rfl ?_)
 show wpAny _ _ (if (Value.ref tt==Value.none)=true then _ else _) _ _ s
 rw[if_neg (show ¬((Value.ref tt==Value.none)=true) from Bool.false_ne_true)]
 show wpAny _ _ (field (.ref jt) 1 >>= _) _ _ s
 refine wpAny_bind (wpAny_field ho hd (x:=.int i 0) rfl ?_)
 show wpAny _ _ (seqItems? (.ref tt) >>= _) _ _ s
 refine wpAny_bind (wpAny_seqItems hol hdl ?_)
 simp only[Int.toNat_natCast,hx]
 refine wpAny_bind (wpAny_rule (wpAny_bind (wpAny_setField ho hd (by simp) ?_)))
 show wpAny _ _ (newExc (.type "StopIteration") [] >>= fun _=>_) _ _ _
 refine wpAny_bind ?_
 simp only[newExc,newTuple]
 refine wpAny_bind (wpAny_newObj_type ?_ (by size_fits))
 refine wpAny_bind (m:=firstArgMember _ _) (wpAny_of_eq (a:=Value.none) (by first | (simp only[firstArgMember];rfl) | rfl) ?_)
 refine wpAny_newObj_type ?_ (by size_fits)
 simp only[raiseNew]
 refine wpAny_bind (wpAny_handled ?_)
 first | rw[hh] | rw[show A.in1.handled=none from hh]
 refine wpAny_bind (wpAny_pure (wpAny_throw ?_))
 exact hE _ _ (((Heap.SameBut.update ..).extBut.push _).push _) ⟨_,Heap.get?_push_size _ rfl,rfl⟩
theorem De(hh:A.handled=none)(jt tt:Addr)(hne:tt≠jt)(its:Array Value):Draws prog w A jt [jt,tt] its.size (fun i v=>its[i]?=some v) (fun i h=>h.IsTupleIter jt tt i/\h.IsTuple tt its) where
 live:=fun _ _ st=>let ⟨o,ho,_⟩:=st.1;⟨o,ho⟩
 frame:=fun _ _ _ st hk=>⟨st.1.at fun o e=>hk jt (by simp) o e,st.2.at fun o e=>hk tt (by simp) o e⟩
 item:=fun i s Q E hi st hQ=>Jb st.1 st.2 (x:=its[i]) (by simp[hi]) fun h' hj' hs'=>hQ _ h' s.toks (by simp[hi]) ⟨hj',st.2.extBut hs'.extBut hne⟩ hs'
 done:=fun s Q E st hE=>jO hh st.1 st.2 (by simp) hE
variable{z TI TO i1 i2 T0:Addr}{f1 f2:List Addr}{n1 n2 k:Nat}{P1 P2:Nat->Value->Prop}{S1 S2:Nat->Heap->Prop}{a b:Value}
end
end L3
namespace L3
open PySem PySem.Spec PyProof.Rows L2
section
variable{X:Cx}{pins:List (Addr×Obj)}{σ:St}{A:Around}{z TI TO i1 i2 ta lb S:Addr}{us ws:List Value}{xs ys:List V}{dx dy:List D}{H0:Hp}{H3:aC}{R:Result->Shared->Prop}
end
end L3
namespace L3
open PySem PySem.Spec PyProof.Rows L2
def JK(t:Addr):Obj:={ cls:=.type "tuple_iterator",data:=.fields #[.ref t,.int 0 0] }
section
variable{X:Cx}{pins:List (Addr×Obj)}{σ:St}{A:Around}{z TI TO i1 i2 ta lb S:Addr}{us ws:List Value}{xs ys:List V}{dx dy:List D}{H0:Hp}{H3:aC}{R:Result->Shared->Prop}{res:Value}
end
end L3
namespace L3
open PySem PySem.Spec PyProof.Rows L2
section
variable{X:Cx}
end
end L3
namespace L3
open PySem PySem.Spec PyProof.Rows L2
theorem mG{us:List Value}{ns:List Int}(h:IntsAre us ns):Vals (ns.map V.int) us:=by
 induction h with
 |nil=>exact .nil
 |cons n t _ ih=>exact .cons ⟨t,rfl⟩ ih
section
variable{X:Cx}
theorem Nm:dZ X (.builtin "sorted") (jY X.K tO):=by
 intro pins s σ H xs us Q I rs h
 obtain⟨ds,H3,Q3,hr,rd,t,k⟩:=h
 cases rd with
 |nil=>exact t.elim
 |cons r1 r2=>
  cases r2 with
  |cons _ _=>cases r1 <;> exact t.elim
  |nil=>
   cases r1 with
   |ref a=>
    (delta tO at t;dsimp only at t)
    split at t
    ·rename_i ds ha
     split at t
     ·rename_i ns en
      obtain⟨h64,t⟩:=t
      have e':=fW en
      subst e'
      obtain⟨vs,ga,ra⟩:=hr a _ ha
      have ev:=bj.nW ra
      subst ev
      obtain⟨its,rv,pl,hz⟩:=I.list (jm.of ga)
      obtain⟨u,rfl,ru⟩:=Vals.one rs
      obtain rfl:u=Value.ref a:=ru
      have hl:its.length=ns.length:=by rw[←rv.length,List.length_map]
      refine PyProof.Rows.sorted_ints pl.isList (intsAre_of rv) (by grind) fun out ms hI hp hw=>?_
      obtain⟨e,he⟩:=sortedAll_at s.heap its out
      have hml:ms.length=ns.length:=hp.length_eq
      have fr:H (s.heap.objs.size+1)=none:=I.hok.fresh (Nat.le_succ _)
      refine⟨.ref (s.heap.objs.size+1),_,I.laid (t':=s.toks) (a:=s.heap.objs.size+1) (o:=.lst (ms.map V.int)) (fun b o q=>sortedAll_old q) (Nat.le_succ _) ⟨by rw[List.length_map,hml];exact sY (by grind),out.toList,e,mG hI,?_⟩,rfl,?_⟩
      ·rw[Array.toArray_toList];exact he
      ·exact k _ _ _ _ (TK.fresh fr) (hr.ye (TK.fresh fr) (bj.ints ms)) (.ref _) (t ms _ hp hw (hr.fresh fr))
     ·exact t.elim
    ·exact t.elim
   |_=>exact t.elim
end
end L3
namespace L3
section
open PySem PyProof.Rows PySem.Spec
open PySem.SeqAt
open PySem.AutoSeq1 (wpAny_loadPart')
open PySem.MeetsSeq3 PySem.MeetsSeq2 PySem.MeetsSeq
end
end L3
namespace L3
open PySem PySem.Spec PySem.W PyProof.Rows
section
variable{prog:Program}{w:World}{A:Around}{E:Value->Shared->Prop}{s:Shared}
end
end L3
namespace L3
open PySem PySem.Spec PyProof.Rows L2
end L3
namespace L3
open PySem PySem.Spec PyProof.Rows L2
def rk(f:Nat->List Int)(n i:Nat):Int:=(((List.range n).countP fun k=>HT.lexLt (f k) (f i)):Nat)
section
variable{X:Cx}
end
end L3
namespace L3
open PySem PySem.Spec PyProof.Rows L2
def aa3:R3:=fun x y H Q=>match x,y with
 |.bl b,.bl c=>Q (.bl (b==c)) H
 |_,_=>False
def Yx:R3:=fun x y H Q=>match x,y with
 |.bl b,.bl c=>Q (.bl (!(b==c))) H
 |_,_=>False
theorem aeO{b c:Bool}{H:aC}{Q:aM}(q:Q (.bl (b==c)) H):aa3 (.bl b) (.bl c) H Q:=q
theorem ad2{b c:Bool}{H:aC}{Q:aM}(q:Q (.bl (!(b==c))) H):Yx (.bl b) (.bl c) H Q:=q
def CpJ(g:vG)(tc:qt)(te:aZ)(σ0:bQ)(ds:List D)(keep:aC->Prop)(H1:aC)(Q:aM):Prop:=ds.length<=1000/\∀p,H1 p=none->∃J:Nat->List D->aC->Prop,
 J 0 [] (aK H1 p (.lst []))/\(∀i out H2,J i out H2->out.length<=i/\keep H2) /\
 (∀ i d out H2,ds[i]? = some d→J i out H2→g d σ0 H2 fun σ2 H4 => tc σ2 H4 fun b H5 =>
  if b=true then te σ2 H5 fun v H6=>H6 p=some (.lst out)/\J (i+1) (out++[v]) (aK H6 p (.lst (out++[v]))) else J (i+1) out H5) /\
 ∀out H2,J ds.length out H2->Q (.ref p) H2
def ac5(wi:rA)(g:vG)(tc:qt)(te:aZ)(own:List Str)(fv:FV):aZ:=fun σ H Q=>wi σ H fun ds keep H1=>CpJ g tc te (Y8 own fv σ) ds keep H1 Q
theorem aeL{wi:rA}{g:vG}{tc:qt}{te:aZ}{own:List Str}{fv:FV}{σ:bQ}{H:aC}{Q:aM}(h:wi σ H fun ds keep H1=>CpJ g tc te (Y8 own fv σ) ds keep H1 Q):ac5 wi g tc te own fv σ H Q:=h
end L3
namespace L3
open PySem PySem.Spec PyProof.Rows L2
section
variable{X:Cx}
end
section
variable{X:Cx}{elt iter:Expr}{ifs:List Expr}{scope:Scope}{pos px:Pos}{x:Str}{fv:FV}{wi:rA}{tc:qt}{te:aZ}
end
end L3
namespace L3
open PySem PySem.Spec PyProof.Rows L2
def aaO(i j l:Nat):vG:=fun d σ H Q=>match d with
 |.tup [x,.tup [y,z]]=>Q (((σ.set i (some x)).set j (some y)).set l (some z)) H
 |_=>False
theorem aej{i j l:Nat}{x y z:D}{σ:bQ}{H:aC}{R:bQ->aC->Prop}(h:R (((σ.set i (some x)).set j (some y)).set l (some z)) H):aaO i j l (.tup [x,.tup [y,z]]) σ H R:=h
end L3
namespace L3
open PySem PySem.Spec PyProof.Rows L2
section
variable{X:Cx}
end
end L3
namespace L3
open PySem PySem.Spec PyProof.Rows L2
structure ae2(P:Program)(w:World)(K:PySem.W.Frag)(mg:Str->Option Value)(base:Heap)(k:Nat)(c m:Str)(ps:List Str)(sp:gA):Prop where
 ex:∃C f fd mc,mg c=some (.ref C)/\PySem.W.specialIn K (.ref C) "__getattribute__" = some (some (.builtin "type.__getattribute__"))/\PySem.W.readsIn K C mc=true/\PySem.W.findCls K (.ref C) mc m=some (.val (.ref f)) /\
  PySem.W.handedIn (.ref f)=true/\PySem.W.keepIn K (.ref f)=true/\nO P w K mg base yR k f fd ps (o9 K sp)/\Binds K fd ps []
section
variable{X:Cx}{e:Expr}{es:List Expr}{t:lN}{m c:Str}{k:Nat}{pos p apos:Pos}{ps:List Str}{sp:gA}
end
end L3
namespace L3
open PySem PySem.Spec PyProof.Rows L2
section
variable{X:Cx}{elt iter:Expr}{ifs:List Expr}{scope:Scope}{pos px py pz pt pu:Pos}{x y z:Str}{fv:FV}{wi:rA}{tc:qt}{te:aZ}{kk kl:Nat}
end
end L3
namespace L3
open PySem PySem.Spec PyProof.Rows L2
abbrev Gc:=(Int×Int×Int)×Pt
def q5(q:Gc):List Int:=[q.1.1,q.1.2.1,q.1.2.2,q.2.1,q.2.2]
end L3
namespace L3
open PySem PySem.Spec PyProof.Rows L2
section
variable{X:Cx}
def TI(K:PySem.W.Frag)(H:Hp)(ns:List Int)(b:Addr):Prop:=∃v,Rep K H (.tup (ns.map D.int)) v/\RelV v (.ref b)
end
end L3
namespace L3
end L3
namespace L3.ST
open PySem PySem.SetTable
def adv(M:Nat)(p:Probe):Probe:=if p.more>0 then { p with j:=p.j+1,more:=p.more-1 } else { p with j:=(leap M p.i p.perturb).1,more:=runEnd M (leap M p.i p.perturb).1-(leap M p.i p.perturb).1,i:=(leap M p.i p.perturb).1,perturb:=(leap M p.i p.perturb).2 }
def dm(M:Nat)(p:Probe):Nat->Probe
 |0=>p
 |n+1=>dm M (adv M p) n
theorem jo(M:Nat):∀(m n:Nat) (p:Probe),dm M p (m+n)=dm M (dm M p m) n
 |0,n,p=>by rw[Nat.zero_add];rfl
 |m+1,n,p=>by rw[show m+1+n=(m+n)+1 from by grind];exact jo M m n (adv M p)
def blk(M:Nat)(x:Nat×Nat)(d:Option Nat):Probe:={ j:=x.1,more:=runEnd M x.1-x.1,i:=x.1,perturb:=x.2,dummy:=d }
def l0(M i:Nat):Nat:=(i*5+1)%(M+1)
def Msk(M:Nat):Prop:=M=7\/M=31\/M=127
def acx(xs:Array Nat):Prop:=∀a b,a<b->b<xs.size->xs.getD a 0<xs.getD b 0
def Has(xs:Array Nat)(j:Nat):Prop:=∃i,i<xs.size/\xs.getD i 0=j
end L3.ST
namespace L3.ST
open PySem PySem.SetTable
def st0(M:Nat)(h:Int):Probe:=blk M (bits h%(M+1),bits h) none
def kY(M:Nat)(occ:Nat->Prop)(h:Int)(j:Nat):Prop:=∃n,(dm M (st0 M h) n).j=j/\∀m,m<n->occ (dm M (st0 M h) m).j
theorem kY.mono{M:Nat}{occ occ':Nat->Prop}{h:Int}{j:Nat}(r:kY M occ h j)(k:∀j,occ j->occ' j):kY M occ' h j:=by
 obtain⟨n,h1,h2⟩:=r
 exact⟨n,h1,fun m hm=>k _ (h2 m hm)⟩
structure Tb(t:SetTable)(hs:Nat->Int)(n:Nat):Prop where
 size:t.place.size=n
 rise:acx t.place
 le:∀i,i<n->t.place.getD i 0<=t.mask
 nod:t.dummies=#[]
 msk:Msk t.mask
 rch:∀i,i<n->kY t.mask (Has t.place) (hs i) (t.place.getD i 0)
end L3.ST
namespace L3.ST
open PySem PySem.SetTable
def Tkn(ow:Array (Option Nat))(j:Nat):Prop:=(ow.getD j (some 0)).isNone=false
structure Own(M:Nat)(hs:Nat->Int)(ow:Array (Option Nat))(k:Nat):Prop where
 size:ow.size=M+1
 lt:∀j k',ow.getD j none=some k'->k'<k
 has:∀k',k'<k->∃j,j<=M/\ow.getD j none=some k'/\kY M (Tkn ow) (hs k') j
 one:∀j j' k',ow.getD j none=some k'->ow.getD j' none=some k'->j=j'
end L3.ST
namespace L3.ST
open PySem PySem.SetTable
end L3.ST
namespace L3.ST
open PySem PySem.SetTable PySem.Spec PyProof.Rows
section
variable{prog:Program}{w:World}{A:Around}{E:Value->Shared->Prop}{s:Shared}
def hsh(prog:Program)(w:World)(ks:List (List Int))(i:Nat):Int:=tupleKeyHash (intKind prog w) (ks.getD i [])
end
end L3.ST
namespace L3.ST
open PySem PySem.SetTable PySem.Spec PyProof.Rows
section
variable{prog:Program}{w:World}{A:Around}{E:Value->Shared->Prop}{s:Shared}
end
end L3.ST
namespace L3.ST
open PySem PySem.SetTable PySem.Spec PyProof.Rows
section
variable{prog:Program}{w:World}{A:Around}{E:Value->Shared->Prop}{s:Shared}
end
end L3.ST
namespace L3.ST
open PySem PySem.SetTable PySem.Spec PyProof.Rows
section
variable{prog:Program}{w:World}{A:Around}{E:Value->Shared->Prop}{s:Shared}
end
end L3.ST
namespace L3.ST
open PySem PySem.SetTable PySem.Spec PyProof.Rows
section
variable{prog:Program}{w:World}{A:Around}{E:Value->Shared->Prop}{s:Shared}
end
end L3.ST
namespace L3
open PySem PySem.Spec PyProof.Rows L2
end L3
namespace L3
open PySem PySem.Spec PyProof.Rows L2
section
variable{X:Cx}
end
end L3
namespace L3
open PySem PySem.Spec PyProof.Rows L2
def Dk(ms:List (Str×Ga))(m:Str)(x:D)(H:aC)(R:Ga->Prop):Prop:=∃a c fs sp,x=.ref a/\H a=some (.ins c fs)/\fs.lookup m=none/\ms.lookup c=some sp/\R sp
def meE(ms:List (Str×Ga))(m:Str)(ta:aZ)(t:lN):ur->aZ:=fun E σ H Q=>ta σ H fun x H1=>Dk ms m x H1 fun sp=>t σ H1 fun ds H2=>sp (x::ds) H2 Q E
def mkE(c:Str)(sp:Ga)(t:lN):ur->aZ:=fun E σ H Q=>t σ H fun ds H1=>∀x,H1 x=none->sp (.ref x::ds) (aK H1 x (.ins c [])) (fun v H2=>v=.non/\Q (.ref x) H2) E
section
variable{H:aC}{Q:aM}{E:ur}{σ:bQ}{a:Addr}{c m:Str}{fs:List (Str×D)}{ta:aZ}{t:lN}{sp:Ga}{ms:List (Str×Ga)}
theorem aek(h:ta σ H fun x H1=>Dk ms m x H1 fun sp=>t σ H1 fun ds H2=>sp (x::ds) H2 Q E):meE ms m ta t E σ H Q:=h
theorem ab5{R:Ga->Prop}(h:H a=some (.ins c fs))(hl:fs.lookup m=none)(hs:ms.lookup c=some sp)(q:R sp):Dk ms m (.ref a) H R:=⟨a,c,fs,sp,rfl,h,hl,hs,q⟩
theorem aeM(h:t σ H fun ds H1=>∀x,H1 x=none->sp (.ref x::ds) (aK H1 x (.ins c [])) (fun v H2=>v=.non/\Q (.ref x) H2) E):mkE c sp t E σ H Q:=h
end
end L3
namespace L3
open PySem PySem.Spec PyProof.Rows L2
structure ae6(P:Program)(w:World)(K:PySem.W.Frag)(mg:Str->Option Value)(base:Heap)(k:Nat)(c m:Str)(ps:List Str)(sp:Ga):Prop where
 ex:∃C f fd,PySem.W.nsIn K mainGlobals c=some (some (.ref C))/\Cls K C/\Meth K C m f/\nO P w K mg base (CXE P w) k f fd ps (By K sp)/\Binds K fd ps []
structure MkE(P:Program)(w:World)(K:PySem.W.Frag)(mg:Str->Option Value)(base:Heap)(k:Nat)(c:Str)(ps:List Str)(sp:Ga):Prop where
 ex:∃C f fd,PySem.W.nsIn K mainGlobals c=some (some (.ref C))/\mg c=some (.ref C)/\Mk K C f/\nO P w K mg base (CXE P w) k f fd ps (By K sp)/\Binds K fd ps []
structure BsE(P:Program)(w:World)(K:PySem.W.Frag)(mg:Str->Option Value)(base:Heap)(k:Nat)(c m:Str)(ps:List Str)(sp:Ga):Prop where
 ex:∃C f fd mc,mg c=some (.ref C)/\PySem.W.specialIn K (.ref C) "__getattribute__" = some (some (.builtin "type.__getattribute__"))/\PySem.W.readsIn K C mc=true/\PySem.W.findCls K (.ref C) mc m=some (.val (.ref f)) /\
  PySem.W.handedIn (.ref f)=true/\PySem.W.keepIn K (.ref f)=true/\nO P w K mg base (CXE P w) k f fd ps (By K sp)/\Binds K fd ps []
section
variable{X:Cx}{e o:Expr}{es:List Expr}{ta:aZ}{t:lN}{m c:Str}{k:Nat}{pos p apos:Pos}{ps:List Str}{sp:Ga}
end
end L3
namespace L3
open PySem PySem.Spec PyProof.Rows L2
def Zy(tbl:List (Str×Bool))(x:D)(H:aC)(Q:aM):Prop:=∃a c fs b,x=.ref a/\H a=some (.ins c fs)/\tbl.lookup c=some b/\Q (.bl b) H
def ac9(tbl:List (Str×Bool))(ta:aZ):aZ:=fun σ H Q=>ta σ H fun x H1=>Zy tbl x H1 Q
theorem adN{tbl:List (Str×Bool)}{ta:aZ}{σ:bQ}{H:aC}{Q:aM}(h:ta σ H fun x H1=>Zy tbl x H1 Q):ac9 tbl ta σ H Q:=h
theorem adn{tbl:List (Str×Bool)}{a:Addr}{c:Str}{fs:List (Str×D)}{b:Bool}{H:aC}{Q:aM}(h:H a=some (.ins c fs))(hl:tbl.lookup c=some b)(q:Q (.bl b) H):Zy tbl (.ref a) H Q:=⟨a,c,fs,b,rfl,h,hl,q⟩
end L3
namespace L3
open PySem PySem.Spec PyProof.Rows L2
section
variable{X:Cx}{e:Expr}{ta:aZ}{cx:Str}{tbl:List (Str×Bool)}{p np pos:Pos}
end
end L3
namespace L3
open PySem PySem.Spec PyProof.Rows L2
def Oh(x:Str)(l k:Nat)(d:D)(H1:aC)(Q:aM):Prop:=match d with
 | .ref a => (match H1 a with
  | some (.lst ds) => (match qD ds with
   |some ps=>ps.length<64/\∃T,(H1 T=some (.tab x)\/H1 T=some (.tabd x l k))/\∀p,H1 p=none->Q (.ref p) (aK (aK H1 T (.tabd x l k)) p (.lst ((cD ps).map bN)))
   |none=>False)
  |_=>False)
 |_=>False
def soL(x:Str)(l k:Nat)(te:aZ):aZ:=fun σ H Q=>te σ H fun d H1=>Oh x l k d H1 Q
theorem aav{x:Str}{l k:Nat}{te:aZ}{σ:bQ}{H:aC}{Q:aM}(h:te σ H fun d H1=>Oh x l k d H1 Q):soL x l k te σ H Q:=h
theorem XX{x:Str}{l k:Nat}{a T:Addr}{ps:List Pt}{H:aC}{Q:aM}(ha:H a=some (.lst (ps.map bN)))(hl:ps.length<64)(hT:H T=some (.tab x)\/H T=some (.tabd x l k))
  (q:∀p,H p=none->Q (.ref p) (aK (aK H T (.tabd x l k)) p (.lst ((cD ps).map bN)))):Oh x l k (.ref a) H Q:=by
 unfold Oh
 dsimp only
 rw[ha]
 dsimp only
 rw[mj]
 exact⟨hl,T,hT,q⟩
end L3
namespace L3
open PySem PySem.Spec PyProof.Rows L2
section
variable{X:Cx}{pins:List (Addr×Obj)}{σ:St}{H H':Hp}{s:Shared}
theorem Kh{T:Addr}{ps more:Array Value}{h':Heap}{tk:Nat}(I:Inv X pins σ H s)(kT:H T=some (.tbl ps))(kT':H' T=some (.tbl (ps++more)))(kx:∀b o,b≠T->s.heap.get? b=some o->h'.get? b=some o)
  (hT:h'.get? T=some (PySem.W.tabObj (ps++more))) (same:∀b,b≠T->b<s.heap.objs.size->H' b=H b) (new:∀b u,s.heap.objs.size<=b->H' b=some u->cP X.prog X.w H' h' b u):Inv X pins σ H' { s with heap:=h',toks:=tk }:=by
 have lt:∀b u,H b=some u->b<s.heap.objs.size:=fun b u e=>I.hok.lt e
 have nT:∀b,H b=none->b≠T:=fun b n z=>by rw[z,kT] at n;cases n
 have st:∀b u,b≠T->H b=some u->H' b=some u:=fun b u n e=>(same b n (lt b u e)).trans e
 refine I.step (g':=s.gens) (d':=s.drawn) (ch:=[]) (fun _ z=>nomatch z) (fun b o _ _ _ e n=>kx b o (nT b n) e) (fun b o _ _ _ e n=>⟨o.slots,kx b o (nT b n) e⟩) (fun b o _ e n=>(same b (nT b n) (Heap.lt_size e)).trans n)
  (fun b o _ e=>?_) (fun b xs e=>st b _ (fun z=>by rw[z,kT] at e;cases e) e) (fun b o u e=>st b _ (fun z=>by rw[z,kT] at e;cases e) e) (fun b qs e=>?_) (fun m hm=>?_) (fun b u e=>?_) I.bare
 ·by_cases hb:b=T
  ·exact⟨_,by rw[hb];exact hT⟩
  ·exact⟨o,kx b o hb e⟩
 ·by_cases hb:b=T
  ·subst hb
   rw[kT] at e
   cases e
   exact⟨more,kT'⟩
  ·exact⟨#[],by rw[st b _ hb e];simp⟩
 ·obtain⟨o,es,ep,ho,r⟩:=hm
  exact⟨o,es,ep,kx _ o (nT _ I.free) ho,r⟩
 ·by_cases hb:b=T
  ·subst hb
   rw[kT'] at e
   cases e
   exact hT
  ·by_cases hl:b<s.heap.objs.size
   ·rw[same b hb hl] at e
    refine (I.hok b u e).stay (fun c v hc q=>kx c v ?_ q) (fun c q=>?_) fun c xs q=>?_
    ·rcases hc with z | z
     ·rw[z];exact hb
     ·exact fun w=>by rw[w,kT] at z;cases z
    ·exact st c _ (fun w=>by rw[w,kT] at q;cases q) q
    ·exact st c _ (fun w=>by rw[w,kT] at q;cases q) q
   ·exact new b u (Nat.le_of_not_lt hl) e
theorem Tp(I:Inv X pins σ H s){x:Str}{c T:Addr}{ps:Array Value}(tk:CW X.K H x c T)(kT:H T=some (.tbl ps)):s.heap.BuiltinsAt X.mg T/\mainGlobals≠T/\PySem.W.CodeHd s.heap c T/\s.heap.Ns mainGlobals X.mg/\s.heap.get? T=some (PySem.W.tabObj ps):=by
 obtain⟨bm,ob,h1,h2,h3,h4,h5,h6⟩:=tk.bm
 have hg:s.heap.Ns mainGlobals X.mg:=I.ok.mod.glob.keeps I.bk
 have e:=PySem.W.mg_of I.ok.mod.kin I.ok.mod.glob h1
 have hb:=(I.hok bm _ h3).1
 have hT:s.heap.get? T=some (PySem.W.tabObj ps):=I.hok T _ kT
 have n1:bm≠mainGlobals:=fun z=>by
  obtain⟨o,es,ep,e1,d,_⟩:=hg
  rw[z,e1] at hb
  cases hb
  rw[h6] at d
  cases d
 have n2:mainGlobals≠T:=fun z=>by
  obtain⟨o,es,ep,e1,d,_⟩:=hg
  rw[z,hT] at e1
  cases e1
  cases d
 have n3:bm≠T:=fun z=>by rw[z,kT] at h3;cases h3
 exact⟨⟨bm,ob,e,h2,n1,n3,hb,h4,h5,h6⟩,n2,tk.hd _ I.uq,hg,hT⟩
abbrev lamO(X:Cx)(params:Arguments)(body:Expr)(scope:Scope)(c':Addr)(ctv:Value):Obj :=
 PySem.W.kla_obj "<lambda>" (X.env.qual ++ "<lambda>") params body scope [] ((X.mg "__name__").getD .none) c' ctv
theorem RD{x:Str}{c T:Addr}{params:Arguments}{body:Expr}{scope:Scope}{pos:Pos}{R:Value->Shared->Prop}(I:Inv X pins σ H s)(tk:CW X.K H x c T)(kT:H T=some (.tbl #[]))(hd:defaultsOf params X.env=([],[]))(hcl:closureFor scope X.env=pure [])
  (hcode:X.env.code=.ref c)
  (h:∀ f c' oc vs t ctv s' H',H f = none→H c' = none→f≠c'→f≠T→c'≠T→oc.data = .fields vs→vs[1]? = some (.str (X.env.qual ++ "<lambda>") t)→H' = upd (upd (upd H T (.tbl #[rawInt pos.line,rawInt pos.col,.ref c'])) c' (.frz oc (.own c'))) f (.frz (lamO X params body scope c' ctv) (.own f)) →
   Inv X pins σ H' s'->R (.ref f) s'):wpAny (model X.prog X.w) X.A (eval (.Lambda params body scope pos) X.env) R X.xe s:=by
 obtain⟨hb,hgT,hC,hg,hT⟩:=Tp I tk kT
 refine PySem.W.kla_eval hd (PySem.W.kla_makeFunction hcl I.ok.glob hg hcode hC hT trivial rfl hgT hb fun c' ctv h' tk' hx hge hlt hrec htb=>?_)
 obtain⟨c₂,oc,vs,t,e2,hoc,hdd,hv⟩:=hrec
 cases e2
 have hTs:T<s.heap.objs.size:=Heap.lt_size hT
 have hfs:s.heap.objs.size<=h'.objs.size:=Nat.le_of_lt (Nat.lt_of_le_of_lt hge hlt)
 have nc:H c'=none:=I.hok.fresh hge
 have nf:H h'.objs.size=none:=I.hok.fresh hfs
 have e1:h'.objs.size≠c':=Nat.ne_of_gt hlt
 have e3:h'.objs.size≠T:=Nat.ne_of_gt (Nat.lt_of_lt_of_le hTs hfs)
 have e4:c'≠T:=Nat.ne_of_gt (Nat.lt_of_lt_of_le hTs hge)
 refine h h'.objs.size c' oc vs t ctv _ _ nf nc e1 e3 e4 hdd hv rfl (Kh (T:=T) (ps:=#[]) (more:=#[rawInt pos.line,rawInt pos.col,.ref c']) I kT ?_ (fun b o hb' e=>Heap.get?_push_of_some _ (hx b o hb' e)) (Heap.get?_push_of_some _ htb) (fun b hb' hl=>?_) fun b u hl e=>?_)
 ·rw[aF (Ne.symm e3),aF (Ne.symm e4),aR];rfl
 ·rw[aF (Nat.ne_of_lt (Nat.lt_of_lt_of_le hl hfs)),aF (Nat.ne_of_lt (Nat.lt_of_lt_of_le hl hge)),aF hb']
 ·by_cases hb1:b=h'.objs.size
  ·rw[hb1,aR] at e
   cases e
   rw[hb1]
   exact⟨Heap.get?_push_size _ rfl,_,Heap.get?_push_size _ rfl⟩
  ·rw[aF hb1] at e
   by_cases hb2:b=c'
   ·rw[hb2,aR] at e
    cases e
    rw[hb2]
    exact⟨Heap.get?_push_of_some _ hoc,_,Heap.get?_push_of_some _ hoc⟩
   ·rw[aF hb2,aF (Nat.ne_of_gt (Nat.lt_of_lt_of_le hTs hl)),I.hok.fresh hl] at e
    cases e
theorem Vc{x:Str}{c T c':Addr}{params:Arguments}{body:Expr}{scope:Scope}{pos:Pos}{R:Value->Shared->Prop}(I:Inv X pins σ H s)(tk:CW X.K H x c T)(kT:H T=some (.tbl #[rawInt pos.line,rawInt pos.col,.ref c']))(hd:defaultsOf params X.env=([],[]))(hcl:closureFor scope X.env=pure [])
  (hcode:X.env.code=.ref c)
  (h:∀f ctv s' H',H f=none->H'=upd H f (.frz (lamO X params body scope c' ctv) (.own f))->Inv X pins σ H' s'->R (.ref f) s'):wpAny (model X.prog X.w) X.A (eval (.Lambda params body scope pos) X.env) R X.xe s:=by
 obtain⟨hb,hgT,hC,hg,hT⟩:=Tp I tk kT
 refine PySem.W.kla_eval hd (PySem.W.kla_makeFunctionHit (cv:=.ref c') hcl I.ok.glob hg hcode hC hT ?_ ?_ hb fun ctv h' tk' hk hsz=>?_)
 ·simp[TriplesOk,rawInt]
 ·simp[codeAmong,rawInt]
 ·have hTs:T<s.heap.objs.size:=Heap.lt_size hT
  have nf:H h'.objs.size=none:=I.hok.fresh hsz
  have e3:h'.objs.size≠T:=Nat.ne_of_gt (Nat.lt_of_lt_of_le hTs hsz)
  refine h h'.objs.size ctv _ _ nf rfl (Kh (T:=T) (more:=#[]) I kT ?_ (fun b o hb' e=>Heap.get?_push_of_some _ (hk b o e)) (Heap.get?_push_of_some _ ?_) (fun b hb' hl=>?_) fun b u hl e=>?_)
  ·rw[aF (Ne.symm e3),kT];simp
  ·rw[hk _ _ hT];simp
  ·rw[aF (Nat.ne_of_lt (Nat.lt_of_lt_of_le hl hsz))]
  ·by_cases hb1:b=h'.objs.size
   ·rw[hb1,aR] at e
    cases e
    rw[hb1]
    exact⟨Heap.get?_push_size _ rfl,_,Heap.get?_push_size _ rfl⟩
   ·rw[aF hb1,I.hok.fresh hl] at e
    cases e
theorem Uz{k:Nat}{f c':Addr}{name qual:Str}{params:Arguments}{body:Expr}{scope:Scope}{pm ctv:Value}{N ps:List Str}{us:List Value}{vs:List V}{t:TE}{Q:VK}(I:Inv X pins σ H s)(hf:s.heap.get? f=some (PySem.W.kla_obj name qual params body scope [] pm c' ctv))(hcd:s.heap.CodeRec (.ref c') qual)
  (S:aU N ps scope) (hr:fH (k+1) X.A) (hl:vs.length=ps.length) (r:Vals vs us) (hb:bindArgs (PySem.W.kla_fn name qual params body scope [] pm (.ref c') ctv) ⟨us,[]⟩=pure (ps.zip us))
  (hbody:∀(A:Around) (outer:List Env) (s:Shared) (H:Hp),fH k (A.deeper (envOfC qual scope s.heap.objs.size f (.ref c')))->PE (uY yR X.prog X.w X.K X.mg X.base N qual scope f (.ref c') A outer s H E0).Pj body t) (ht:t (L2.start N vs) H Q) :
  wpAny (model X.prog X.w) X.A (call (.ref f) us) (EP X pins σ Q) X.xe s:=by
 have e0:=I.env0
 have lim:s.heap.NoLimit:=I.nolimit
 have hkind:∀y∈ps.zip us,scope.names.lookup y.1=some .local\/(scope.names.lookup y.1=some .cell/\((cellsFrom (s.heap.objs.size+1) scope.names []).lookup y.1).isSome=true):=fun ⟨n,v⟩ hy=>by
  rcases S.par n (List.of_mem_zip hy).1 with q | q
  ·exact .inl q
  ·exact .inr ⟨q,PySem.W.cellsFrom_some _ _ _ (.inl q)⟩
 refine wpAny_call (codeAny_mono (PySem.W.kla_callFunE (R:=CR yR X.stack X.prog X.w H s Q E0) hr.depth hf rfl S.co S.gen rfl hcd ?_) fun r s' hq=>?_)
 ·rw[hb]
  refine wpAny_pure (wpAny_newFunctionEnv_cells S.kind hkind fun env he s1 x=>?_)
  subst he
  refine⟨lim.keeps x.toInCall.keep,PySem.W.kla_codeExpr ?_⟩
  have J:Inv (uY yR X.prog X.w X.K X.mg X.base N qual scope f (.ref c') X.A X.stack s H E0).Pj [] (L2.start N vs) H s1:=by
   have J0:=zU (CX:=yR) (E:=E0) (N:=N) (qual:=qual) (f:=f) (cd:=.ref c') S hr.hd e0 hl r x
   exact J0.wish _
  refine wpAny_mono (hbody X.A X.stack s H (hr.deeper _) [] s1 (L2.start N vs) H Q J ht) (fun u s' hs=>?_) fun _ _ z=>z.elim
  obtain⟨v,H',J',rv,q⟩:=hs
  exact⟨v,H',J'.os,J'.bare,J'.base,J'.hok,rv,q⟩
 ·cases r with
  |error e=>exact False.elim hq
  |ok fl=>
   cases fl with
   |ret u=>exact I.after hq
   |next=>exact False.elim hq
   |brk=>exact False.elim hq
   |cont=>exact False.elim hq
end
end L3
namespace L3
open PySem PySem.Spec PyProof.Rows L2
section
variable{X:Cx}{pins:List (Addr×Obj)}{σ:St}{H:Hp}{s:Shared}
theorem TK.acF{H:Hp}{p:Addr}{o:HO}{ps:Array Value}(n:H p=some (.tbl ps)):TK H (upd H p o) :=
 ⟨fun a ys h=>by rw[aF (qF h n (by intro z;cases z))];exact h,fun a o' u h=>by rw[aF (qF h n (by intro z;cases z))];exact h⟩
theorem HJ{x y:Str}{e body:Expr}{te tb:aZ}{params:Arguments}{scope:Scope}{l k q:Nat}{p pos lpos kpos:Pos}{f₀:Addr}{fd₀:FuncData}{oc₀:Value}{od₀:Option Addr}{sl₀:Array (Option Value)}(hm:X.mg x=some (.ref f₀))(hk:X.K.lookup f₀=some ⟨oc₀,od₀,.func fd₀,sl₀⟩)(hcv:X.env.code=fd₀.code)
  (S:aU [y] [y] scope) (hr:fH (q+3) X.A) (hs:X.mg "sorted" = none) (he:cF X e te)
  (hbody:∀(f c':Addr) (A:Around) (outer:List Env) (s:Shared) (H:Hp),cF (uY yR X.prog X.w X.K X.mg X.base [y] (El x) scope f (.ref c') A outer s H E0).Pj body tb)
  (hkey:∀(c:Pt) (H3:aC) (Q3:aM),Q3 (.tup [.int c.2,.int c.1]) H3->tb (aH [y] [bN c]) H3 Q3)
  (hb:∀(pm:Value) (c':Addr) (ctv u:Value),bindArgs (PySem.W.kla_fn "<lambda>" (El x) params body scope [] pm (.ref c') ctv) ⟨[u],[]⟩=pure [(y,u)])
  (hl:lpos.line=l:=by rfl) (hc:lpos.col=k:=by rfl)
  (hq:X.env.qual ++ "<lambda>" = El x:=by rfl) (hd:defaultsOf params X.env=([],[]):=by rfl) (hcl:closureFor scope X.env=pure []:=by rfl)
  (hg:Gl X "sorted":=by rfl) (h1:starEach [e] X.env=(false,eval e X.env)::starEach [] X.env:=by rfl)
  (h2:backTo pos (starEach [e] X.env)=(false,eval e X.env)::backTo pos (starEach [] X.env):=by rfl) (h3:(backTo pos (starEach [e] X.env)).any (·.1)=false:=by rfl) (h4:(backToKw pos (keywordEach [⟨some "key",.Lambda params body scope lpos,kpos⟩] X.env)).all (·.1.isSome)=true:=by rfl)
  (h5:(backToKw pos (keywordEach [⟨some "key",.Lambda params body scope lpos,kpos⟩] X.env)).any (·.1.isNone)=false:=by rfl) (h6:(backToKw pos (keywordEach [⟨some "key",.Lambda params body scope lpos,kpos⟩] X.env)).filterMap (·.1)=[Str.ofString "key"]:=by rfl) :
  cF X (.Call (.Name "sorted" p) [e] [⟨some "key",.Lambda params body scope lpos,kpos⟩] pos) (soL x l k te):=by
 intro pins s σ H Q I h
 obtain⟨σ3,H3,Q3,sr,hr3,t,kk⟩:=h
 refine wpAny_Call_Name_kw (jd I hg hs boot_sorted ?_ (by decide) (by decide))
 have pa:PA X [e] (Ax (fB X.K te) Nq):=CP he Ir h1
 refine callWith_kw (cQ (pa pos pins s σ H (fun vs H1=>∃d v H31,vs=[v]/\TK H H1/\HR X.K H31 H1/\Rep X.K H1 d v/\Oh x l k d H31 Q3) I ⟨σ3,H3,_,sr,hr3,t,fun d v H3' H' tk hr' rep q=>⟨d,v,H3',rfl,tk,hr',rep,q⟩⟩) fun us s1 hq=>?_) h2 h3 h4 h5
 obtain⟨vs,H1,I1,rvs,d,v,H31,rfl,tk1,hr1,rep1,q1⟩:=hq
 obtain⟨u1,rfl,ru1⟩:=vals1 rvs
 rw[h6]
 cases rep1 with
 |ref a=>
  cases ru1
  unfold Oh at q1
  dsimp only at q1
  split at q1
  ·rename_i ds ha
   split at q1
   ·rename_i ps ep
    obtain⟨h64,T,hT,q1⟩:=q1
    have z:=pK ep
    subst z
    obtain⟨vs,ga,ra⟩:=hr1 a _ ha
    have fin:∀(f c' oc:_) (ctv:Value) (vs':Array Value) (tq:Nat) (H2:Hp),HR X.K (aK H31 T (.tabd x l k)) H2->TK H1 H2->H2 c'=some (.frz oc (.own c'))->oc.data=.fields vs'->vs'[1]?=some (.str (El x) tq) ->
      H2 f=some (.frz (lamO X params body scope c' ctv) (.own f))->H2 a=some (.lst vs)->∀s2,Inv X pins σ H2 s2->wpAny (model X.prog X.w) X.A (call (.builtin "sorted") [.ref a] [(Str.ofString "key",.ref f)]) (EP X pins σ Q) X.xe s2:=by
     intro f c' oc ctv vs' tq H2 hr2 tk2 kc hdd hv kf ga2 s2 I2
     refine Bc I2 ga2 (ra.mono tk2) hr2 h64 (fun pins' H' s' c v u tk hr' J rep rx=>?_) fun D H'' tk hr'' nD=>kk _ _ _ _ ((tk1.trans tk2).trans tk) hr'' (.ref D) (q1 D ?_)
     ·have of:=(J.hok f _ (tk.frz _ _ _ kf)).1
      have oc':=(J.hok c' _ (tk.frz _ _ _ kc)).1
      rw[show lamO X params body scope c' ctv=PySem.W.kla_obj "<lambda>" (El x) params body scope [] ((X.mg "__name__").getD .none) c' ctv by unfold lamO;rw[hq]] at of
      refine Uz (X:=Cx.GX X) (k:=q) (t:=fB X.K tb) J of ⟨c',oc,vs',tq,rfl,oc',hdd,hv⟩ S (hr.in1.in1) rfl (.cons rx .nil) (hb _ _ _ _) (fun A outer s0 H0 _=>hbody f c' A outer s0 H0) ?_
      exact⟨aH [y] [bN c],_,fun d H3'=>d=.tup [.int c.2,.int c.1]/\H3'=_,yr (.cons rep .nil),hr',hkey c _ _ ⟨rfl,rfl⟩,fun d v H3'' H'' tk' hr'' rep' q=>by
       obtain⟨rfl,rfl⟩:=q
       exact⟨tk',hr'',rep'⟩⟩
     ·by_cases hDT:D=T
      ·rw[hDT,aB] at nD;cases nD
      ·rw[bc hDT] at nD;exact nD
    have codeE:∀c,PySem.W.tabIn X.K x=some (c,T)->X.env.code=.ref c:=fun c ht=>by
     rw[hcv]
     exact PySem.W.law_code I1.uq (I1.ok.mod.glob.keeps I1.bk) ht hm (I1.uq _ _ hk) rfl
    have pl:PE X (.Lambda params body scope lpos) (fun _ H' Q'=>H'=H1/\∀(f c':Addr) (oc:Obj) (ctv:Value) (vs':Array Value) (tq:Nat) (H2:Hp),HR X.K (aK H31 T (.tabd x l k)) H2->TK H1 H2->H2 c'=some (.frz oc (.own c'))->oc.data=.fields vs'->vs'[1]?=some (.str (El x) tq) ->
      H2 f=some (.frz (lamO X params body scope c' ctv) (.own f))->H2 a=some (.lst vs)->Q' (.ref f) H2):=by
     intro pins s σ H' Q' I ⟨eH,hq'⟩
     subst eH
     rcases hT with hT | hT
     ·obtain⟨kT,c,tkT⟩:=hr1 T _ hT
      refine RD I tkT kT hd hcl (codeE c tkT.tab) fun f c' oc vs' t ctv s' H2 nf nc e1 e2 e3 hdd hv eH J=>⟨.ref f,H2,J,rfl,?_⟩
      have nc1:upd H' T (.tbl #[rawInt lpos.line,rawInt lpos.col,.ref c']) c'=none:=by rw[aF e3];exact nc
      have nf1:upd (upd H' T (.tbl #[rawInt lpos.line,rawInt lpos.col,.ref c'])) c' (.frz oc (.own c')) f=none:=by rw[aF e1,aF e2];exact nf
      have tkA:TK H' H2:=by rw[eH];exact ((TK.acF kT).trans (TK.fresh nc1)).trans (TK.fresh nf1)
      have kc:H2 c'=some (.frz oc (.own c')):=by rw[eH,aF (Ne.symm e1),aR]
      have old:∀b u,b≠T->H' b=some u->H2 b=some u:=fun b u n e=>by rw[eH,aF (bJ e nf),aF (bJ e nc),aF n];exact e
      rw[hq] at hv
      refine hq' f c' oc ctv vs' t H2 (fun b u e=>?_) tkA kc hdd hv (by rw[eH,aR]) (old a _ (fun z=>by rw[z,kT] at ga;cases ga) ga)
      by_cases hb':b=T
      ·subst hb'
       rw[aB] at e
       cases e
       exact⟨c',oc,vs',t,by rw[eH,aF (Ne.symm e2),aF (Ne.symm e3),aR,hl,hc],kc,hdd,hv,c,tkT.mono tkA⟩
      ·rw[bc hb'] at e
       refine (hr1 b u e).keep tkA ?_
       have n1:b≠c':=ne3 e (hr1.fresh nc)
       have n2:b≠f:=ne3 e (hr1.fresh nf)
       rw[eH,aF n2,aF n1,aF hb']
     ·obtain⟨c',oc,vs',t,kT,kc,hdd,hv,c,tkT⟩:=hr1 T _ hT
      have kT':H' T=some (.tbl #[rawInt lpos.line,rawInt lpos.col,.ref c']):=by rw[kT,hl,hc]
      refine Vc I tkT kT' hd hcl (codeE c tkT.tab) fun f ctv s' H2 nf eH J=>⟨.ref f,H2,J,rfl,?_⟩
      have tkA:TK H' H2:=by rw[eH];exact TK.fresh nf
      have old:∀b u,H' b=some u->H2 b=some u:=fun b u e=>by rw[eH,aF (bJ e nf)];exact e
      refine hq' f c' oc ctv vs' t H2 (fun b u e=>?_) tkA (old _ _ kc) hdd hv (by rw[eH,aR]) (old a _ ga)
      by_cases hb':b=T
      ·subst hb'
       rw[aB] at e
       cases e
       exact⟨c',oc,vs',t,old _ _ kT,old _ _ kc,hdd,hv,c,tkT.mono tkA⟩
      ·rw[bc hb'] at e
       refine (hr1 b u e).keep tkA ?_
       rw[eH,aF (ne3 e (hr1.fresh nf))]
    have pk:PK X [⟨some "key",.Lambda params body scope lpos,kpos⟩] (Ax _ Nq):=K3 pl Sg
    refine cQ (pk pos pins s1 σ H1 (fun zs H2=>∃(f c':Addr) (oc:Obj) (ctv:Value) (vs':Array Value) (tq:Nat),zs=[.ref f]/\HR X.K (aK H31 T (.tabd x l k)) H2/\TK H1 H2/\H2 c'=some (.frz oc (.own c'))/\oc.data=.fields vs'/\vs'[1]?=some (.str (El x) tq) /\
      H2 f=some (.frz (lamO X params body scope c' ctv) (.own f))/\H2 a=some (.lst vs)) I1 ⟨rfl,fun f c' oc ctv vs' tq H2 g1 g2 g3 g4 g5 g6 g7=>⟨f,c',oc,ctv,vs',tq,rfl,g1,g2,g3,g4,g5,g6,g7⟩⟩) fun ws s2 hq2=>?_
    obtain⟨zs,H2,I2,rz,f,c',oc,ctv,vs',tq,rfl,g1,g2,g3,g4,g5,g6,g7⟩:=hq2
    obtain⟨w1,rfl,rw1⟩:=vals1 rz
    cases rw1
    exact fin f c' oc ctv vs' tq H2 g1 g2 g3 g4 g5 g6 g7 s2 I2
   ·exact q1.elim
  ·exact q1.elim
 |_=>exact q1.elim
end
theorem U7{y:Str}(c:Pt)(H3:aC)(Q3:aM)(h:Q3 (.tup [.int c.2,.int c.1]) H3):iY (aq (o3 bB (v3 0) (c3 (.int 1))) (aq (o3 bB (v3 0) (c3 (.int 0))) aG)) (aH [y] [bN c]) H3 Q3:=by
 refine aaQ (I9 (Yo (ZD (d:=.tup [.int c.1,.int c.2]) rfl (aad (Kf (d:=.int c.2) rfl (I9 (Yo (ZD (d:=.tup [.int c.1,.int c.2]) rfl (aad (Kf (d:=.int c.1) rfl (Xj ?_)))))))))))
 exact⟨by show 2<=1000;decide,h⟩
end L3
namespace L3
open PySem PySem.Spec PyProof.Rows L2
theorem acW{P:Program}{w:World}{K:PySem.W.Frag}{mg:Str->Option Value}{base:Heap}{x qual:Str}{st:Stmt}{f:Addr}{fd:FuncData}{N ps:List Str}{k:Nat}{sp:gA}(F:KY K x qual st f fd)(S:aU N ps (az st))
  (hm:mg x=some (.ref f)) (hb:Binds K fd ps []) (len:∀ds H Q,sp ds H Q->ds.length=ps.length)
  (hbody:∀ (oc:Value) (od:Option Addr) (sl:Array (Option Value)),K.lookup f = some ⟨oc,od,.func fd,sl⟩→∀ (A:Around) (outer:List Env) (s:Shared) (H:Hp) (E:XK),fH k (A.deeper (envOfC qual (az st) s.heap.objs.size f fd.code)) →
   ∃t,v8 (uY yR P w K mg base N qual (az st) f fd.code A outer s H E).Pj (aN st) t/\∀ds H3 Q3,sp ds H3 Q3->t (dJ Q3) (aH N ds) H3):Fn P w K mg base (k+1) x ps sp:=by
 refine⟨f,fd,?_,hm,F.kp,hb⟩
 obtain⟨oc,od,kV,doc,pm,an,cdv,ct,osl,rfl,lk,hcd⟩:=F.ex
 refine W8 lk hcd S (fun vs H Q E h=>?_) (fun A outer s H vs Q E hr h=>?_)
 ·obtain⟨ds,H3,Q3,_,rs,q,_⟩:=h
  rw[←rs.length]
  exact len ds H3 Q3 q
 ·obtain⟨ds,H3,Q3,hr3,rs,q,k⟩:=h
  obtain⟨t,ht,hq⟩:=hbody oc od osl lk A outer s H E hr
  refine⟨_,Ea.Pj ht,aH N ds,H3,_,yr rs,hr3,hq ds H3 Q3 q,⟨fun σ3 σ H3' H' tk sr hr' z=>?_,fun d v H3' H' tk hr' rd z=>?_,fun _ _ _ _ _ _ _ z=>z.elim,fun _ _ _ _ _ _ _ z=>z.elim⟩⟩
  ·obtain⟨H'',sub,q'⟩:=z
   exact k _ _ _ _ tk (hr'.sub sub) .non q'
  ·obtain⟨H'',sub,q'⟩:=z
   exact k _ _ _ _ tk (hr'.sub sub) rd q'
def aan(T:Addr)(H:Hp):Prop:=H T=some (.tbl #[])/\∀b,b=T\/H b=none\/∃o u,H b=some (.frz o u)
theorem Oe{P:Program}{w:World}{K:PySem.W.Frag}{mg mb:Str->Option Value}{k:Nat}{fa a c T:Addr}{fd:FuncData}{x xt:Str}{sp:gA}{s₁:Shared}{vs:List Value}{ns:List Int}{p:Program}{loose:List Str}{mean:ExcName->Option Value}
  (KX:K.In s₁.heap) (TT:Top p loose mean mg mb s₁.heap) (hg:s₁.gens=#[]) (hC:PySem.W.CodeHd s₁.heap c T/\s₁.heap.get? T=some (PySem.W.tabObj #[])) (ht:PySem.W.tabIn K xt=some (c,T)) (hbn:∃v,PySem.W.nsIn K mainGlobals "__builtins__" = some (some v)) (hnt:K.lookup T=none)
  (hbl:∀bm o,PySem.W.nsIn K mainGlobals "__builtins__" = some (some (.ref bm))->K.lookup bm=some o->False)
  (ha:s₁.heap.get? a=some { cls:=.type "list",data:=.seq vs.toArray }) (hi:IntsAre vs ns) (hl:ns.length<=sizeLine) (hr:fH k callerA)
  (F:∀base:Heap,K.In base->base.Ns mainGlobals mg->nO P w K mg base yR k fa fd [x] (o9 K sp)) (hbind:∀(s:Shared) (u:Value),BindsTo s fd ⟨[u],[]⟩ [(x,u)])
  (hsp:∀H:aC,H T=some (.tab xt)->sp [.fl (ns.map D.int)] H (fun d _=>d=.bl true)) :
  codeAny (model P w) callerA (.call (.ref fa) ⟨[.ref a],[]⟩) (fun r s'=>r=.ok (.ret (.bool true))/\OldK s₁.heap s'.heap/\s'.os=s₁.os/\AllBare s'.gens) s₁:=by
 have rv:=mG hi
 have lenV:=hi.length
 obtain⟨bm,ob,hbm,hb1,hb2,hb3,hb4,hb5⟩:=TT.bmain
 obtain⟨vb,hvb⟩:=hbn
 have evb:=PySem.W.mg_of KX TT.g hvb
 rw[hbm] at evb
 cases evb
 have nbT:bm≠T:=fun z=>by rw[z,hC.2] at hb2;cases hb2;cases hb3
 have naT:a≠T:=fun z=>by rw[z,hC.2] at ha;cases ha
 have nab:a≠bm:=fun z=>by
  rw[z,hb2] at ha
  cases ha
  injection hb3 with z2
  exact absurd z2 (by decide)
 have core:∀H:Hp,aan T H->Z9 K H a (ns.map V.int)->H bm=some (.frz ob (.own bm))->rK P w H s₁.heap->(∀b,H b≠none->b=a\/b=bm\/b=T)->(H a≠none->K.lookup a=none) ->
   codeAny (model P w) callerA (.call (.ref fa) ⟨[.ref a],[]⟩) (fun r s'=>r=.ok (.ret (.bool true))/\OldK s₁.heap s'.heap/\s'.os=s₁.os/\AllBare s'.gens) s₁:=by
  intro H hO hS hB hok hA hK
  have base_of:∀ {b:Addr} {o:Obj},s₁.heap.get? b=some o->H b=none->(Bx s₁.heap H).get? b=some o:=fun e n=>Sy e n
  have noA:∀ {b:Addr} {o:Obj} {es:Array DictEntry} {ep:Nat},s₁.heap.get? b=some o->o.data=.dict es ep->H b=none:=fun {b o es ep} e d=>by
   cases q:H b with
   |none=>rfl
   |some u=>
    rcases hA b (by rw[q];simp) with z | z | z
    ·rw[z,ha] at e;cases e;cases d
    ·rw[z,hb2] at e;cases e;rw[hb5] at d;cases d
    ·rw[z,hC.2] at e;cases e;cases d
  have nsK:∀ {b:Addr} {m:Str->Option Value},s₁.heap.Ns b m->(Bx s₁.heap H).Ns b m:=fun {b m} ⟨o,es,ep,e,d,r⟩=>⟨o,es,ep,base_of e (noA e d),d,r⟩
  have hKb:K.In (Bx s₁.heap H):=fun b o e=>base_of (KX b o e) (by
   cases q:H b with
   |none=>rfl
   |some u=>
    rcases hA b (by rw[q];simp) with z | z | z
    ·rw[z] at e q;rw[hK (by rw[q];simp)] at e;cases e
    ·rw[z] at e;exact (hbl _ _ hvb e).elim
    ·rw[z,hnt] at e;cases e)
  have hM:Mod K mg (Bx s₁.heap H):=⟨hKb,nsK TT.g,⟨mb,nsK TT.b,TT.builtins⟩,let ⟨mc,h1,h2⟩:=TT.nolimit;⟨mc,nsK h1,h2⟩⟩
  have e0:UL P w K mg (Bx s₁.heap H) callerA [] s₁ H:=⟨rfl,hM,fun b o e=>Vd e,Nat.le_of_eq (M6 _ _),trivial,fun b hb=>absurd (show b∈([]:List Addr) from hb) (by simp),hok,.of_eq hg⟩
  have tabK:CW K H xt c T:=⟨ht,fun h kh=>?_,bm,ob,hvb,hb1,hB,hb3,hb4,hb5⟩
  ·have hq:o9 K sp [.ref a] H (fun v _=>v=.bl true) fun _ _ _=>False:=by
    refine⟨[.fl (ns.map D.int)],fun b=>if b=T then some (.tab xt) else none,fun d _=>d=.bl true,fun b o e=>?_,.cons (.fl hS (bj.ints ns)) .nil,hsp _ (if_pos rfl),fun d v H3' H' tk hr rd q=>?_⟩
    ·have e':(if b=T then some (O3.tab xt) else none)=some o:=e
     by_cases hb:b=T
     ·rw[if_pos hb] at e'
      cases e'
      rw[hb]
      exact⟨hO.1,c,tabK⟩
     ·rw[if_neg hb] at e';cases e'
    ·subst q
     cases rd
     rfl
   refine codeAny_mono ((F _ hKb (nsK TT.g)).run callerA [] s₁ H ⟨[.ref a],[]⟩ [.ref a] [.ref a] _ _ hr e0 (hbind s₁ (.ref a)) (.cons rfl .nil) hq) fun r s' h=>?_
   cases r with
   |error e=>exact False.elim h
   |ok fl=>
    cases fl with
    |next=>exact False.elim h
    |brk=>exact False.elim h
    |cont=>exact False.elim h
    |ret u=>
     obtain⟨v,H',os,bare,un,hok',r',q⟩:=h
     have q':v=.bl true:=q
     subst q'
     obtain rfl:u=Value.bool true:=r'
     have keep:∀b o,b≠T->s₁.heap.get? b=some o->s'.heap.get? b=some o:=fun b o nb e=>by
      rcases hO.2 b with z | z | ⟨o2,u2,z⟩
      ·exact (nb z).elim
      ·exact un.keep b o e z (by intro z;exact absurd (show b∈([]:List Addr) from z) (by simp)) (by simp)
      ·have z2:=un.frzs b o2 _ z
       have e1:=(hok b _ z).1
       have e2:=(hok' b _ z2).1
       rw[e] at e1
       cases e1
       exact e2
     obtain⟨more,km⟩:=un.tbls T _ hO.1
     have eT:s'.heap.get? T=some (PySem.W.tabObj (#[]++more)):=hok' T _ km
     refine⟨rfl,⟨fun b o e=>?_,fun b o e=>?_⟩,os,bare⟩
     ·by_cases hb:b=T
      ·subst hb
       have e3:o=PySem.W.tabObj #[]:=Option.some.inj (e.symm.trans hC.2)
       subst e3
       exact .inr (.inl ⟨(hC.1.tab hC.2).isCodeTable,rfl,#[],more,rfl,eT⟩)
      ·exact .inl (keep b o hb e)
     ·by_cases hb:b=T
      ·exact⟨_,by rw[hb];exact eT⟩
      ·exact⟨o,keep b o hb e⟩
  ·have hkc:∃o,K.lookup c=some o:=by
    unfold PySem.W.tabIn at ht
    split at ht
    ·split at ht
     ·split at ht
      ·split at ht
       ·split at ht
        ·cases ht;exact⟨_,by assumption⟩
        ·cases ht
       ·cases ht
      ·cases ht
     ·cases ht
    ·cases ht
   obtain⟨o,hko⟩:=hkc
   obtain⟨o',r1,r2,r3,r4,r5,r6,r7,r8,e1,r9⟩:=hC.1
   rw[KX _ _ hko] at e1
   cases e1
   exact⟨_,r1,r2,r3,r4,r5,r6,r7,r8,kh _ _ hko,r9⟩
 have okB:cP P w (fun _=>none) s₁.heap bm (.frz ob (.own bm)):=⟨hb2,_,hb2⟩
 cases hk:K.lookup a with
 |some o=>
  have e:=KX a o hk
  rw[ha] at e
  cases e
  refine core (upd (upd (fun _=>none) bm (.frz ob (.own bm))) T (.tbl #[])) ⟨aR,fun b=>?_⟩ (.inr ⟨_,vs.toArray,_,hk,rfl,rfl,rfl,by rw[List.size_toArray,lenV];exact hl,by simpa using rv⟩) (by rw[aF nbT,aR]) (fun b u z=>?_) (fun b z=>?_) fun z=>absurd (by rw[aF naT,aF nab]) z
  ·by_cases h1:b=T
   ·exact .inl h1
   ·by_cases h2:b=bm
    ·exact .inr (.inr ⟨ob,.own bm,by rw[aF h1,h2,aR]⟩)
    ·exact .inr (.inl (by rw[aF h1,aF h2]))
  ·by_cases h1:b=T
   ·rw[h1,aR] at z;cases z;rw[h1];exact hC.2
   ·rw[aF h1] at z
    by_cases h2:b=bm
    ·rw[h2,aR] at z;cases z;rw[h2];exact⟨hb2,_,hb2⟩
    ·rw[aF h2] at z;cases z
  ·by_cases h1:b=T
   ·exact .inr (.inr h1)
   ·rw[aF h1] at z
    by_cases h2:b=bm
    ·exact .inr (.inl h2)
    ·rw[aF h2] at z;exact (z rfl).elim
 |none=>
  refine core (upd (upd (upd (fun _=>none) a (.frz { cls:=.type "list",data:=.seq vs.toArray } (.lst (ns.map V.int)))) bm (.frz ob (.own bm))) T (.tbl #[])) ⟨aR,fun b=>?_⟩ (.inl ⟨{ cls:=.type "list",data:=.seq vs.toArray },by rw[aF naT,aF nab,aR]⟩) (by rw[aF nbT,aR]) (fun b u z=>?_) (fun b z=>?_) fun _=>hk
  ·by_cases h1:b=T
   ·exact .inl h1
   ·by_cases h2:b=bm
    ·exact .inr (.inr ⟨ob,.own bm,by rw[aF h1,h2,aR]⟩)
    ·by_cases h3:b=a
     ·exact .inr (.inr ⟨_,_,by rw[aF h1,aF h2,h3,aR]⟩)
     ·exact .inr (.inl (by rw[aF h1,aF h2,aF h3]))
  ·by_cases h1:b=T
   ·rw[h1,aR] at z;cases z;rw[h1];exact hC.2
   ·rw[aF h1] at z
    by_cases h2:b=bm
    ·rw[h2,aR] at z;cases z;rw[h2];exact⟨hb2,_,hb2⟩
    ·rw[aF h2] at z
     by_cases h3:b=a
     ·rw[h3,aR] at z;cases z;rw[h3]
      exact⟨ha,by rw[List.length_map];exact hl,vs,_,rv,ha⟩
     ·rw[aF h3] at z;cases z
  ·by_cases h1:b=T
   ·exact .inr (.inr h1)
   ·rw[aF h1] at z
    by_cases h2:b=bm
    ·exact .inr (.inl h2)
    ·rw[aF h2] at z
     by_cases h3:b=a
     ·exact .inl h3
     ·rw[aF h3] at z;exact (z rfl).elim
theorem Tq{l:PySem.W.OpenLaw}{n k:Nat}{q:Program}{loose:List Str}{XP:(Str->Option Value)->Heap->Prop}{YP:World->Heap->Prop}{d dt:DefRec}{K:Params->PySem.W.Frag}{sp:gA}{x xt:Str}{c T bm:Addr}
  (hn:l.most=some n) (hn2:n<=sizeLine) (hdf:d.params.defaults=[]) (hr:fH k callerA)
  (hY:∀(w:World) (h:Heap),YP w h->(K w.params).In h)
  (hrec:(recsOf q).find? (fun e=>e.name==xt)=some dt) (ht:∀w:World,PySem.W.tabIn (K w.params) xt=some (c,T)) (hb:∀w:World,PySem.W.nsIn (K w.params) mainGlobals "__builtins__" = some (some (.ref bm))) (hnb:∀w:World,(K w.params).lookup bm=none) (hnt:∀w:World,(K w.params).lookup T=none)
  (F:∀ (w:World) (mg:Str→Option Value) (fa:Addr) (h:Heap),(K w.params).In h→h.Ns mainGlobals mg→mg d.name = some (.ref fa) →
   ∃fd:FuncData,(∀(s:Shared) (u:Value),BindsTo s fd ⟨[u],[]⟩ [(x,u)]) /\
    ∀base:Heap,(K w.params).In base->base.Ns mainGlobals mg->nO l.prog w (K w.params) mg base yR k fa fd [x] (o9 (K w.params) sp))
  (hsp:∀(H:aC) (ns:List Int),ns.length<=n->H T=some (.tab xt)->sp [.fl (ns.map D.int)] H (fun d _=>d=.bl true)) :
  PySem.W.WalkO q loose XP YP l.row.toRowW d [] (fun f vs=>PySem.call f vs):=by
 refine Att.Gv hn hdf fun w s₀ s₁ mg mb fa o pm cd doc a vs ns G Y ho hd hcd hmg hobj hints hlen hg=>?_
 have KX:=hY w _ Y
 obtain⟨fd,hbd,hF⟩:=F w mg fa _ KX G.T.g hmg
 exact Oe KX G.T hg (PySem.W.tab_of G.T KX hrec (ht w)) (ht w) ⟨_,hb w⟩ (hnt w) (fun b o e1 e2=>by rw[hb w] at e1;cases e1;rw[hnb w] at e2;cases e2) hobj hints (Nat.le_trans hlen hn2) hr hF hbd fun H h=>hsp H ns hlen h
end L3
namespace L3
open PySem PySem.Spec PyProof.Rows L2
end L3
namespace L3
open PySem PySem.Spec PyProof.Rows L2
end L3
namespace L3
open PySem PySem.Spec PyProof.Rows L2
theorem R4{K:PySem.W.Frag}{x:Str}{f c T:Addr}{oc oc':Value}{od od':Option Addr}{sl sl':Array (Option Value)}{fd:FuncData}{vs:Array Value}(h1:PySem.W.nsIn K mainGlobals x=some (some (.ref f)))(h2:K.lookup f=some ⟨oc,od,.func fd,sl⟩)(h3:fd.code=.ref c)
  (h4:K.lookup c=some ⟨oc',od',.fields vs,sl'⟩) (h5:vs[11]?=some (.ref T)):PySem.W.tabIn K x=some (c,T):=by
 unfold PySem.W.tabIn
 rw[h1]
 dsimp only
 rw[h2]
 dsimp only
 rw[h3]
 dsimp only
 rw[h4]
 dsimp only
 rw[h5]
end L3
namespace L3
open PySem PySem.Spec PyProof.Rows L2
def zTk(x y:D)(H:aC)(R:List D->(aC->Prop)->aC->Prop):Prop:=match x,y with
 | .ref a,.tup es => (match H a with
  |some (.lst ds)=>R (gG ds es) (fun H'=>H' a=some (.lst ds)) H
  |_=>False)
 |_,_=>False
def izT(ta tb:aZ):rA:=fun σ H R=>ta σ H fun x H1=>tb σ H1 fun y H2=>zTk x y H2 R
theorem ael{ta tb:aZ}{σ:bQ}{H:aC}{R:List D->(aC->Prop)->aC->Prop}(h:ta σ H fun x H1=>tb σ H1 fun y H2=>zTk x y H2 R):izT ta tb σ H R:=h
end L3
namespace L3
open PySem PySem.Spec PyProof.Rows L2
section
variable{X:Cx}{tg:Expr}
end
end L3
namespace L3
open PySem PySem.Spec PyProof.Rows L2
end L3
namespace L3
open PySem PySem.Spec PyProof.Rows L2
section
variable{X:Cx}
end
section
variable{X:Cx}
end
end L3
namespace L3
open PySem PySem.Spec PyProof.Rows L2
end L3
namespace L3
open PySem PySem.Spec PyProof.Rows L2
end L3
namespace L3
open PySem PySem.Spec PyProof.Rows L2
section
variable{prog:Program}{w:World}{A:Around}{E:Value->Shared->Prop}{s:Shared}
end
section
variable{X:Cx}
end
end L3
namespace L3
open PySem PySem.Spec PyProof.Rows L2
def ezk(x:D)(H:aC)(R:List D->(aC->Prop)->aC->Prop):Prop:=match x with
 |.str z=>z.cps.all (· < 128)=true/\R (gG (rO 0 (lets z).length) (lets z)) (fun _=>True) H
 |_=>False
def iez(te:aZ):rA:=fun σ H R=>te σ H fun x H1=>ezk x H1 R
theorem abo{te:aZ}{σ:bQ}{H:aC}{R:List D->(aC->Prop)->aC->Prop}(h:te σ H fun x H1=>ezk x H1 R):iez te σ H R:=h
theorem aaG{z:Str}{H:aC}{R:List D->(aC->Prop)->aC->Prop}(ha:z.cps.all (· < 128)=true)(q:R (gG (rO 0 (lets z).length) (lets z)) (fun _=>True) H):ezk (.str z) H R:=⟨ha,q⟩
end L3
namespace L3
open PySem PySem.Spec PyProof.Rows L2
def ZG(x:Str):It :=
 ⟨fun i _=>∃c,x.cps[i]?=some c,
   fun i H v H'=>∃T c,v=.ref T/\H T=none/\H'=upd H T (.tup [.int i,.str ⟨#[c]⟩])/\x.cps[i]?=some c,
   fun i _=>x.cps.size<=i⟩
theorem Ie{x:Str}{t:Tok}{P:Program}{w:World}{K:PySem.W.Frag}{elts:List Expr}{kt:Nat}{pt:Pos}(e it:Addr)(hne:e≠it) :
  Turn P w K (.Tuple elts kt pt) (ZG x) [e,it] e (fun i h=>i<=x.cps.size/\(∃old,IsEnum h e it i old)/\h.IsStrIter it "str_ascii_iterator" x t i) where
 mem:=by simp
 obj:=by
  rintro i h ⟨_,⟨old,h1⟩,⟨o4,h4,c4,d4⟩⟩ c hc
  simp only[List.mem_cons,List.not_mem_nil,or_false] at hc
  rcases hc with rfl | rfl
  ·exact⟨_,h1,fun v z=>nomatch z⟩
  ·exact⟨_,h4,fun v z=>by rw[d4] at z;cases z⟩
 keep:=by
  rintro i h h' ⟨hi,⟨old,h1⟩,⟨o4,h4,r4⟩⟩ k
  exact⟨hi,⟨old,k e (by simp) _ h1⟩,o4,k it (by simp) o4 h4,r4⟩
 item:=by
  intro X hP hw hK hc i pins s σ H E I hf st hg
  subst hP hw hK
  obtain⟨c,hx⟩:=hg
  obtain⟨_,⟨old,h1⟩,h4⟩:=st
  have hT:H s.heap.objs.size=none:=I.hok.fresh (Nat.le_refl _)
  have hlt:i<x.cps.size:=(Array.getElem?_eq_some_iff.mp hx).1
  refine wpAny_pyNext_enum_itemD (Draws.strAscii (prog:=X.prog) (w:=X.w) (A:=X.A.in1) (I.ok.hd hc) it x t) h1 h4 hlt hne (by simp[hne]) fun u h' tk p a1 a2 a3 a4 a5=>?_
  obtain⟨c',u',hc',rfl⟩:=p
  have ec:c'=c:=Option.some.inj (hc'.symm.trans hx)
  subst ec
  refine⟨_,rfl,?_⟩
  refine wpAny_letOwnedTupleGo_enum (s:={ s with heap:=h',toks:=tk+1 }) a1 fun h'' b1 b2=>?_
  have lt:∀ {c o},s.heap.get? c=some o->s.heap.objs.size≠c:=fun q=>Nat.ne_of_gt (Heap.lt_size q)
  have new:h''.get? s.heap.objs.size=some { cls:=.type "tuple",data:=.seq #[.int i tk,.str ⟨#[c']⟩ u'] }:=(b2.2 _ (lt h1)).trans a3
  have I1:L2.Inv X pins σ (upd H s.heap.objs.size (.tup [.int i,.str ⟨#[c']⟩])) { s with heap:=h'',toks:=tk+1 }:=by
   refine uJ (ch:=[e,it]) I (fun c o hcn q=>?_) hf (Nat.le_refl _) ⟨?_,[.int i tk,.str ⟨#[c']⟩ u'],.cons ⟨_,rfl⟩ (.cons ⟨_,rfl⟩ .nil),⟨_,new,rfl,_,rfl,rfl⟩⟩
   ·have n1:c≠e:=fun w=>hcn (by simp[w])
    exact (b2.2 c n1).trans (a5 c o n1 (fun w=>hcn (by simp[w])) q)
   ·show 2<=sizeLine;decide
  refine⟨.ref s.heap.objs.size,_,I1,rfl,⟨_,c',rfl,hT,rfl,hx⟩,⟨hlt,⟨_,b1⟩,?_⟩,fun d hcm=>?_⟩
  ·obtain⟨o,q,r⟩:=a2
   exact⟨o,(b2.2 it (Ne.symm hne)).trans q,r⟩
  have hcn:H d=none:=(hf d hcm).1
  have:d≠s.heap.objs.size:=by
   obtain⟨o,q,_⟩:∃o,s.heap.get? d=some o/\True:=by
    simp only[List.mem_cons,List.not_mem_nil,or_false] at hcm
    rcases hcm with rfl | rfl
    ·exact⟨_,h1,trivial⟩
    ·obtain⟨o,q,_⟩:=h4;exact⟨o,q,trivial⟩
   exact (lt q).symm
  rw[aF this];exact hcn
 done:=by
  intro X hP hw hK hc i pins s σ H E I hf st hg
  subst hP hw hK
  obtain⟨hi,⟨old,h1⟩,h4⟩:=st
  have e0:i=x.cps.size:=Nat.le_antisymm hi hg
  subst e0
  refine wpAny_pyNext_enum_endD (Draws.strAscii (prog:=X.prog) (w:=X.w) (A:=X.A.in1) (I.ok.hd hc) it x t) h1 h4 fun h' k=>⟨rfl,?_⟩
  exact Cw (t':=s.toks) (ch:=[e,it]) I (fun c o hcn q=>k c o (fun w=>hcn (by simp[w])) q) hf
 self:=fun A i s Q E st h=>by
  obtain⟨old,h1⟩:=st.2.1
  exact wpAny_pyIter_enum h1 h
section
variable{X:Cx}{tg:Expr}
theorem S8{x:Str}(ha:x.cps.all (· < 128)=true):strIterType x = "str_ascii_iterator":=by unfold strIterType;rw[if_pos ha]
def Zb(te:TA):L2.TI:=fun σ H R=>te σ H fun vs H1=>∃z:Str,vs=[.str z]/\z.cps.all (· < 128)=true/\R (ZG z) H1
theorem PQ{a:Expr}{ta:TA}{p pos pt:Pos}{elts:List Expr}{kt:Nat}(hg:Gl X "enumerate")(hm:X.mg "enumerate" = none)(ha:PA X [a] ta)(hs:starEach [a] X.env=[(false,eval a X.env)]:=by rfl) :
  PI X (.Tuple elts kt pt) (.Call (.Name "enumerate" p) [a] [] pos) (Zb ta):=by
 intro pins s σ H R I h
 refine Call_ (jd I hg hm Mh (PyProof.Rows.callWith_type1 (cQ (ha pos pins s σ H _ I h) fun us s1 ⟨vs,H1,I1,r1,z,e,hz,q⟩=>?_) (by rw[hs];rfl) (by rfl)))
 subst e
 obtain⟨u,rfl,e1⟩:=vals1 r1
 obtain⟨t,rfl⟩:=e1
 refine call_enumerate_str fun h' he hit hsz hk=>?_
 rw[S8 hz] at hit
 refine wpAny_pyIter_enum (s:={ s1 with heap:=h' }) he ?_
 have I2:L2.Inv X pins σ H1 { s1 with heap:=h',toks:=s1.toks }:=I1.kept (t':=s1.toks) hk
 refine⟨_,_,_,_,H1,rfl,I2,Ie (t:=t) _ _ (Nat.ne_of_gt (Nat.lt_succ_self _)),⟨Nat.zero_le _,⟨_,he⟩,hit⟩,fun b hb=>?_,q⟩
 simp only[List.mem_cons,List.not_mem_nil,or_false] at hb
 have hge:s1.heap.objs.size<=b:=by rcases hb with rfl | rfl <;> grind
 exact I1.uX (b:=b) (H':=H1) hge (I1.hok.fresh hge)
theorem Jy{K:PySem.W.Frag}{H:Hp}{z:Str}:vY K H (gG (rO 0 (lets z).length) (lets z)) (fun _=>True) (ZG z):=fun H3 H' _ hr _=>by
 have hz:(lets z).length=z.cps.size:=by unfold lets;rw[List.length_map,Array.length_toList]
 refine⟨fun i hi=>?_,?_⟩
 ·rw[R9,hz] at hi
  refine⟨⟨z.cps[i],by simp[hi]⟩,fun v H'' y=>?_⟩
  obtain⟨T,c,rfl,hT,rfl,hc⟩:=y
  have hc2:(lets z)[i]?=some (.str ⟨#[c]⟩):=by unfold lets;rw[List.getElem?_map,Array.getElem?_toList,hc];rfl
  refine⟨TK.fresh hT,hr.tup hT,.tup [.int i,.str ⟨#[c]⟩],?_,.tup aR (.cons (.int i) (.cons (.str _) .nil))⟩
  unfold gG
  rw[List.getElem?_zipWith,hc2,Bw (by rw[hz];exact hi)]
  simp only[Int.zero_add]
 ·rw[R9,hz];exact Nat.le_refl _
theorem Ub{a:Expr}{ta:aZ}{p pos pt:Pos}{elts:List Expr}{kt:Nat}(hm:X.mg "enumerate" = none)(ha:cF X a ta)(hg:Gl X "enumerate":=by rfl)(hs:starEach [a] X.env=[(false,eval a X.env)]:=by rfl)
  (hs1:starEach [a] X.env=(false,eval a X.env)::starEach [] X.env:=by rfl):Il X (.Tuple elts kt pt) (.Call (.Name "enumerate" p) [a] [] pos) (iez ta) :=
 j0 (PQ hg hm (aa ha aA hs1) hs) fun _ _ _ ⟨σ3,H3,R3,sr,hr,t,k⟩=>by
  refine⟨σ3,H3,fun ds H1=>(match ds with | [x]=>ezk x H1 R3 | _=>False),sr,hr,t,fun ds vs H3a Ha tka hra rs qa=>?_⟩
  cases rs with
  |nil=>exact qa.elim
  |cons r1 r2=>
   cases r2 with
   |cons _ _=>exact qa.elim
   |nil=>
    cases r1 with
    |str z=>exact⟨z,rfl,qa.1,k _ _ _ _ _ tka hra Jy qa.2⟩
    |_=>exact qa.elim
end
end L3
namespace L3
open PySem PySem.Spec PyProof.Rows L2
def dng(hi:Int)(n:Nat):List D:=(List.range n).map fun (i:Nat)=>D.int (hi-(i:Int))
def rgd(x y z:D)(H:aC)(R:List D->(aC->Prop)->aC->Prop):Prop:=∃a b:Int,x=.int a/\y=.int b/\z=.int (-1)/\R (dng a (a-b).toNat) (fun _=>True) H
def ird(ta tb tc:aZ):rA:=fun σ H R=>ta σ H fun x H1=>tb σ H1 fun y H2=>tc σ H2 fun z H3=>rgd x y z H3 R
theorem aew{ta tb tc:aZ}{σ:bQ}{H:aC}{R:List D->(aC->Prop)->aC->Prop}(h:ta σ H fun x H1=>tb σ H1 fun y H2=>tc σ H2 fun z H3=>rgd x y z H3 R):ird ta tb tc σ H R:=h
theorem aeN{a b:Int}{H:aC}{R:List D->(aC->Prop)->aC->Prop}(q:R (dng a (a-b).toNat) (fun _=>True) H):rgd (.int a) (.int b) (.int (-1)) H R:=⟨a,b,rfl,rfl,rfl,q⟩
def erk(x:D)(H:aC)(R:List D->(aC->Prop)->aC->Prop):Prop:=∃a ds,x=.ref a/\H a=some (.lst ds)/\R (gG (rO 0 ds.reverse.length) ds.reverse) (fun H'=>H' a=some (.lst ds)) H
def ier(te:aZ):rA:=fun σ H R=>te σ H fun x H1=>erk x H1 R
theorem aeA{te:aZ}{σ:bQ}{H:aC}{R:List D->(aC->Prop)->aC->Prop}(h:te σ H fun x H1=>erk x H1 R):ier te σ H R:=h
theorem aem{H:aC}{a:Addr}{ds:List D}{R:List D->(aC->Prop)->aC->Prop}(h:H a=some (.lst ds))(q:R (gG (rO 0 ds.reverse.length) ds.reverse) (fun H'=>H' a=some (.lst ds)) H):erk (.ref a) H R:=⟨a,ds,rfl,h,q⟩
end L3
namespace L3
open PySem PySem.Spec PyProof.Rows L2
section
variable{X:Cx}{tg:Expr}
end
end L3
namespace L3
open PySem PySem.Spec PyProof.Rows L2
section
variable{prog:Program}{w:World}{A:Around}{E:Value->Shared->Prop}{s:Shared}
end
end L3
namespace L3
open PySem PySem.Spec PyProof.Rows L2
section
variable{X:Cx}{tg:Expr}
end
end L3
namespace L3
open PySem L2
def chk(r':R3)(tc:aZ)(σ:bQ)(y z:D)(H:aC)(Q:aM):Prop:=match z with
 |.bl k=>if k=true then tc σ H fun w H4=>r' y w H4 Q else Q (.bl false) H
 |_=>False
def ch3(r r':R3)(ta tb tc:aZ):aZ:=fun σ H Q=>ta σ H fun x H1=>tb σ H1 fun y H2=>r x y H2 fun z H3=>chk r' tc σ y z H3 Q
theorem aa1{r r':R3}{ta tb tc:aZ}{σ:bQ}{H:aC}{Q:aM}(h:ta σ H fun x H1=>tb σ H1 fun y H2=>r x y H2 fun z H3=>chk r' tc σ y z H3 Q):ch3 r r' ta tb tc σ H Q:=h
theorem abZ{r':R3}{tc:aZ}{σ:bQ}{y:D}{k:Bool}{H:aC}{Q:aM}(h:if k=true then tc σ H fun w H4=>r' y w H4 Q else Q (.bl false) H):chk r' tc σ y (.bl k) H Q:=h
end L3
namespace L3
open PySem PySem.Spec PyProof.Rows L2
section
variable{X:Cx}{a b c:Expr}{ta tb tc:aZ}{pos:Pos}
theorem Uq{K:PySem.W.Frag}{r r':R3}{σ:St}{H:Hp}{Q:VK}(h:fB K (ch3 r r' ta tb tc) σ H Q):RZ (cz K r) (cz K r') (fB K ta) (fB K tb) (fB K tc) σ H Q:=by
 obtain⟨σ3,H3,Q3,sr,hr,t,k⟩:=h
 refine⟨σ3,H3,_,sr,hr,t,fun x v H3a Ha tka hra rx qa=>⟨σ3,H3a,_,sr.mono tka,hra,qa,fun y u H3b Hb tkb hrb ry qb=>
  ⟨x,y,H3b,fun z H4=>chk r' tc σ3 y z H4 Q3,hrb,rx.mono tkb,ry,qb,fun z w H3c Hc tkc hrc rz qc=>?_⟩⟩⟩
 have tk:=tka.trans (tkb.trans tkc)
 cases rz with
 |bl d=>
  refine⟨d,rfl,?_⟩
  cases d with
  |false=>rw[if_neg Bool.false_ne_true];exact k _ _ _ _ tk hrc (.bl false) qc
  |true=>
   rw[if_pos rfl]
   exact⟨σ3,H3c,_,sr.mono tk,hrc,qc,fun w' v' H3d Hd tkd hrd rw' qd=>⟨y,w',H3d,Q3,hrd,ry.mono (tkc.trans tkd),rw',qd,k.mono (tk.trans tkd)⟩⟩
 |_=>exact qc.elim
theorem Ai{op op':CmpOp}{r r':R3}(ho:jj X (compareOp op) (cz X.K r))(ho':jj X (compareOp op') (cz X.K r'))(ha:cF X a ta)(hb:cF X b tb)(hc:cF X c tc)
  (hm:lastMarks [op,op'] [b,c]=false:=by with_unfolding_all rfl):JT X (.Compare a [op,op'] [b,c] pos) (lJ (ch3 r r' ta tb tc)) :=
 yH (Tr ho ho' ha hb hc hm) fun _ _ _ zz=>zz.ex fun σ3 H3 Q3 sr hr t k=>Uq ⟨σ3,H3,_,sr,hr,t,wj k⟩
end
end L3
namespace L3
open PySem L2
def Yj(lo:Int)(n:Nat):List D:=(List.range n).map fun (i:Nat)=>D.int (lo+2*(i:Int))
theorem wN(lo:Int)(n:Nat):(Yj lo n).length=n:=by simp[Yj]
theorem Ld{lo:Int}{n i:Nat}(h:i<n):(Yj lo n)[i]?=some (.int (lo+2*i)):=by simp[Yj,h]
def rgu(x y z:D)(H:aC)(R:List D->(aC->Prop)->aC->Prop):Prop:=∃a b:Int,x=.int a/\y=.int b/\z=.int 2/\R (Yj a ((b-a+1) / 2).toNat) (fun _=>True) H
def iru(ta tb tc:aZ):rA:=fun σ H R=>ta σ H fun x H1=>tb σ H1 fun y H2=>tc σ H2 fun z H3=>rgu x y z H3 R
theorem abC{ta tb tc:aZ}{σ:bQ}{H:aC}{R:List D->(aC->Prop)->aC->Prop}(h:ta σ H fun x H1=>tb σ H1 fun y H2=>tc σ H2 fun z H3=>rgu x y z H3 R):iru ta tb tc σ H R:=h
theorem abK{a b:Int}{H:aC}{R:List D->(aC->Prop)->aC->Prop}(q:R (Yj a ((b-a+1) / 2).toNat) (fun _=>True) H):rgu (.int a) (.int b) (.int 2) H R:=⟨a,b,rfl,rfl,rfl,q⟩
end L3
namespace L3
open PySem PySem.Spec PyProof.Rows L2
def Itu(hi:Int)(n:Nat):It:=⟨fun i _=>i<n,fun i H x H'=>H'=H/\x=.int (hi+2*i),fun i _=>n<=i⟩
theorem Hr{P:Program}{w:World}{K:PySem.W.Frag}{tg:Expr}(it:Addr)(hi:Int)(n:Nat):Turn P w K tg (Itu hi n) [it] it (fun i h=>IsLongIter h it (hi+2*(i:Nat)) ((n:Int)-(i:Nat)) 2) where
 mem:=List.mem_singleton.mpr rfl
 obj:=fun i h st b hb=>by
  rw[List.mem_singleton.mp hb]
  exact⟨_,st,fun v z=>by have z':Data.fields _=Data.cell v:=z;cases z'⟩
 keep:=fun i h h' st k=>k it (List.mem_singleton.mpr rfl) _ st
 item:=by
  intro X hP hw hK hc i pins s σ H E I hf st hg
  subst hP hw hK
  obtain⟨f0,f1,f2,f3,f4,f5⟩:=hf it (List.mem_singleton.mpr rfl)
  have hlt:i<n:=hg
  refine wpAny_pyNext_long_item st (by grind) fun h' st' sb=>?_
  have I1:L2.Inv X pins σ H { s with heap:=h',toks:=s.toks+1 }:=I.turned (fun b o hb e=>(sb.2 b hb).trans e) f0 f1 f3 f4 f5
  have st2:IsLongIter h' it (hi+2*((i+1:Nat):Int)) ((n:Int)-((i+1:Nat):Int)) 2:=by
   have e1:hi+2*(i:Int)+2=hi+2*((i+1:Nat):Int):=by omega
   have e2:(n:Int)-(i:Int)-1=(n:Int)-((i+1:Nat):Int):=by grind
   rw[←e1,←e2];exact st'
  exact⟨_,rfl,tM (s:={ s with heap:=h',toks:=s.toks+1 }) (n := "longrange_iterator") st2 rfl rfl (by decide) ⟨.int (hi+2*i),H,I1,⟨s.toks,rfl⟩,⟨rfl,rfl⟩,st2,fun b hb=>(hf b hb).1⟩⟩
 done:=by
  intro X hP hw hK hc i pins s σ H E I hf st hg
  subst hP hw hK
  obtain⟨f0,f1,f2,f3,f4,f5⟩:=hf it (List.mem_singleton.mpr rfl)
  have hle:n<=i:=hg
  exact wpAny_pyNext_long_end (I.ok.hd hc) st (by grind) fun h' eb=>⟨rfl,I.turned (t':=s.toks) (fun b o hb e=>eb b o hb e) f0 f1 f3 f4 f5⟩
 self:=fun _ _ _ _ _ st h=>wpAny_pyIter_longiter st h
theorem GK{P:Program}{w:World}{K:PySem.W.Frag}{tg:Expr}(it:Addr)(hi:Int)(n:Nat):Turn P w K tg (Itu hi n) [it] it (fun i h=>IsRangeIter h it (hi+2*(i:Nat)) ((n:Int)-(i:Nat)) 2) where
 mem:=List.mem_singleton.mpr rfl
 obj:=fun i h st b hb=>by
  rw[List.mem_singleton.mp hb]
  exact⟨_,st,fun v z=>by have z':Data.fields _=Data.cell v:=z;cases z'⟩
 keep:=fun i h h' st k=>k it (List.mem_singleton.mpr rfl) _ st
 item:=by
  intro X hP hw hK hc i pins s σ H E I hf st hg
  subst hP hw hK
  obtain⟨f0,f1,f2,f3,f4,f5⟩:=hf it (List.mem_singleton.mpr rfl)
  have hlt:i<n:=hg
  refine wpAny_pyNext_range_item st (by grind) fun h' st' sb=>?_
  have I1:L2.Inv X pins σ H { s with heap:=h',toks:=s.toks+1 }:=I.turned (fun b o hb e=>(sb.2 b hb).trans e) f0 f1 f3 f4 f5
  have st2:IsRangeIter h' it (hi+2*((i+1:Nat):Int)) ((n:Int)-((i+1:Nat):Int)) 2:=by
   have e1:hi+2*(i:Int)+2=hi+2*((i+1:Nat):Int):=by omega
   have e2:(n:Int)-(i:Int)-1=(n:Int)-((i+1:Nat):Int):=by grind
   rw[←e1,←e2];exact st'
  exact⟨_,rfl,tM (s:={ s with heap:=h',toks:=s.toks+1 }) (n := "range_iterator") st2 rfl rfl (by decide) ⟨.int (hi+2*i),H,I1,⟨s.toks,rfl⟩,⟨rfl,rfl⟩,st2,fun b hb=>(hf b hb).1⟩⟩
 done:=by
  intro X hP hw hK hc i pins s σ H E I hf st hg
  subst hP hw hK
  obtain⟨f0,f1,f2,f3,f4,f5⟩:=hf it (List.mem_singleton.mpr rfl)
  have hle:n<=i:=hg
  exact wpAny_pyNext_range_end (I.ok.hd hc) st (by grind) fun h' eb=>⟨rfl,I.turned (t':=s.toks) (fun b o hb e=>eb b o hb e) f0 f1 f3 f4 f5⟩
 self:=fun _ _ _ _ _ st h=>wpAny_pyIter_rangeiter st h
theorem Ul(a b:Int):Builtin.Range.rangeSize a b 2=(((b-a+1) / 2).toNat:Int):=by
 delta Builtin.Range.rangeSize
 rw[if_pos (by decide)]
 split <;> omega
section
variable{X:Cx}{tg:Expr}
theorem G7{pins:List (Addr×Obj)}{σ:St}{H:Hp}{s:Shared}{R:It->Hp->Prop}{E:Value->Shared->Prop}{hi lo:Int}{t u v:Tok}{tk:Nat}(I:L2.Inv X pins σ H s)(q:R (Itu hi ((lo-hi+1) / 2).toNat) H) :
  wpAny (model X.prog X.w) X.A (pyIter (.ref s.heap.objs.size)) (PIE X pins σ tg R) E { s with heap:=s.heap.push { cls:=.type "range",data:=.fields #[.int hi t,.int lo u,.int 2 v] },toks:=tk }:=by
 have I1:L2.Inv X pins σ H { s with heap:=s.heap.push { cls:=.type "range",data:=.fields #[.int hi t,.int lo u,.int 2 v] },toks:=tk }:=I.kept fun b o e=>Heap.get?_push_of_some _ e
 have e2:((((lo-hi+1) / 2).toNat:Nat):Int)-((0:Nat):Int)=Builtin.Range.rangeSize hi lo 2:=by rw[Ul];exact Int.sub_zero _
 have e1:hi+2*((0:Nat):Int)=hi:=by omega
 have hf:∀b∈[(s.heap.push { cls:=.type "range",data:=.fields #[.int hi t,.int lo u,.int 2 v] }).objs.size],lW X pins H b:=fun b hb=>by
  rw[List.mem_singleton.mp hb]
  exact I1.uX (Nat.le_refl _) (I1.hok.fresh (Nat.le_refl _))
 cases hs:Builtin.Range.small hi lo 2 with
 |true=>
  refine wpAny_pyIter_range (IsRange.new ..) hs ⟨_,_,_,_,H,rfl,I1.kept (t':=tk) fun b o e=>Heap.get?_push_of_some _ e,GK _ hi ((lo-hi+1) / 2).toNat,?_,hf,q⟩
  show IsRangeIter _ _ (hi+2*((0:Nat):Int)) (((((lo-hi+1) / 2).toNat:Nat):Int)-((0:Nat):Int)) 2
  rw[e1,e2]
  exact Heap.get?_push_size _ rfl
 |false=>
  refine wpAny_pyIter_longrange (IsRange.new ..) hs ⟨_,_,_,_,H,rfl,I1.kept (t':=tk) fun b o e=>Heap.get?_push_of_some _ e,Hr _ hi ((lo-hi+1) / 2).toNat,?_,hf,q⟩
  show IsLongIter _ _ (hi+2*((0:Nat):Int)) (((((lo-hi+1) / 2).toNat:Nat):Int)-((0:Nat):Int)) 2
  rw[e1,e2]
  exact Heap.get?_push_size _ rfl
def aax(ta:TA):L2.TI:=fun σ H R=>ta σ H fun vs H1=>∃i j:Int,vs=[.int i,.int j,.int 2]/\R (Itu i ((j-i+1) / 2).toNat) H1
theorem MF{a b c:Expr}{ta:TA}{p pos:Pos}(hg:Gl X "range")(hm:X.mg "range" = none)(ha:PA X [a,b,c] ta)(hs:starEach [a,b,c] X.env=(false,eval a X.env)::starEach [b,c] X.env:=by rfl)
  (hs2:starEach [b,c] X.env=(false,eval b X.env)::starEach [c] X.env:=by rfl) (hs3:starEach [c] X.env=(false,eval c X.env)::starEach [] X.env:=by rfl):PI X tg (.Call (.Name "range" p) [a,b,c] [] pos) (aax ta):=by
 intro pins s σ H R I h
 refine Call_ (jd I hg hm boot_range (PyProof.Rows.callWith_type1 (cQ (ha pos pins s σ H _ I h) fun us s1 zz=>?_) hs (by rw[hs2,hs3];rfl)))
 obtain⟨vs,H1,I1,r1,i,j,e,q⟩:=zz
 subst e
 obtain⟨u,us1,rfl,⟨t,rfl⟩,r2⟩:∃u us1,us=u::us1/\RelV (.int i) u/\Vals [.int j,.int 2] us1:=by
  cases r1 with
  |cons r1 r2=>exact⟨_,_,rfl,r1,r2⟩
 obtain⟨u2,u3,rfl,⟨t2,rfl⟩,⟨t3,rfl⟩⟩:=vals2 r2
 exact call_range_3 (by decide) (G7 I1 q) (Or.inl (PyProof.noPylong_small (by decide)))
theorem Rp{K:PySem.W.Frag}{H:Hp}{hi:Int}{n:Nat}:vY K H (Yj hi n) (fun _=>True) (Itu hi n):=fun H3 H' tk hr _=>by
 refine⟨fun i hi=>?_,?_⟩
 ·rw[wN] at hi
  refine⟨hi,fun x H'' y=>?_⟩
  obtain⟨e,y⟩:=y
  subst y
  subst e
  exact⟨TK.refl,hr,_,Ld hi,.int _⟩
 ·rw[wN];exact Nat.le_refl _
theorem Wr{a b c:Expr}{ta tb tc:aZ}{p pos:Pos}(hm:X.mg "range" = none)(ha:cF X a ta)(hb:cF X b tb)(hc:cF X c tc)(hg:Gl X "range":=by rfl)
  (hs1:starEach [a,b,c] X.env=(false,eval a X.env)::starEach [b,c] X.env:=by rfl) (hs2:starEach [b,c] X.env=(false,eval b X.env)::starEach [c] X.env:=by rfl) (hs3:starEach [c] X.env=(false,eval c X.env)::starEach [] X.env:=by rfl) :
  Il X tg (.Call (.Name "range" p) [a,b,c] [] pos) (iru ta tb tc) :=
 j0 (MF hg hm (aa ha (aa hb (aa hc aA hs3) hs2) hs1) hs1 hs2 hs3) fun _ _ _ ⟨σ3,H3,R3,sr,hr,t,k⟩=>by
  refine⟨σ3,H3,fun ds H1=>(match ds with | [x,y,z]=>rgu x y z H1 R3 | _=>False),sr,hr,t,fun ds vs H3a Ha tka hra rs qa=>?_⟩
  cases rs with
  |nil=>exact qa.elim
  |cons r1 rs=>cases rs with
   |nil=>exact qa.elim
   |cons r2 rs=>cases rs with
    |nil=>exact qa.elim
    |cons r3 rs=>cases rs with
     |cons _ _=>exact qa.elim
     |nil=>
      obtain⟨i,j,rfl,rfl,rfl,q⟩:=qa
      cases r1;cases r2;cases r3
      exact⟨i,j,rfl,k _ _ _ _ _ tka hra Rp q⟩
end
end L3
namespace L3
open PySem PySem.Spec PyProof.Rows L2
section
variable{X:Cx}{pins:List (Addr×Obj)}{σ:St}{H:Hp}{s:Shared}{a:Addr}{kvs:List (Key×V)}{k:Key}{u:Value}{A:Around}{E:Value->Shared->Prop}
theorem Qm{v:V}{r:Value}{Q:Value->Shared->Prop}(I:L2.Inv X pins σ H s)(e:H a=some (.dK kvs))(ry:RelV (kV k) u)(rv:RelV v r)(hl:kvs.length<sizeLine)
  (h1:∀y,j7 kvs k=some y->∀w' s',L2.Inv X pins σ H s'->RelV y w'->Q w' s') (h2:j7 kvs k=none->∀s',L2.Inv X pins σ (upd H a (.dK (putK kvs k v))) s'->Q r s') :
  wpAny (model X.prog X.w) A (call (.builtin "dict.setdefault") [.ref a,u,r]) Q E s:=by
 obtain⟨z,hd,vs,rel,dd⟩:=PL I.hok e
 have hz:vs.length<=sizeLine:=by rw[←rel.length];exact z
 refine call_meetsIn PySem.F.slot_dict_setdefault dd.typeIs PySem.F.entry_dict_setdefault (PySem.F.args_dict_setdefault_3 _ _ _) (kt_meets_setdefault (bH X.prog X.w) a (vC ry) hd r) ⟨vs,dd,hz,fun w' hw=>?_,fun hn h' dd' hs=>?_⟩
 ·cases e2:j7 kvs k with
  |none=>
   have:=qm.none_of (o:=valueAt vs k) (by rw[←e2];exact rel.val k)
   rw[this] at hw;cases hw
  |some y=>
   obtain⟨w2,hw2,rw2⟩:=qm.some_of (v:=y) (o:=valueAt vs k) (by rw[←e2];exact rel.val k)
   rw[hw] at hw2
   cases hw2
   exact h1 y e2 w' _ (I.tok _) rw2
 ·have e2:j7 kvs k=none:=by
   cases e3:j7 kvs k with
   |none=>rfl
   |some y=>
    obtain⟨w2,hw2,_⟩:=qm.some_of (v:=y) (o:=valueAt vs k) (by rw[←e3];exact rel.val k)
    rw[hn] at hw2;cases hw2
  have hlen:(putK kvs k v).length<=sizeLine:=by have:=lF kvs k v;omega
  have he:∃q,h'.get? a=some q:=let ⟨q,_,_,hq,_⟩:=dd';⟨q,hq⟩
  exact h2 e2 _ (wG I (by rw[e];exact True.intro) hs he (QQ hlen hd (rel.put k rv) dd'))
end
def aah(td ty tx:TE):TE:=fun σ H Q=>td σ H fun x H1=>∃a,x=.ref a/\IsD H1 a/\ty σ H1 fun y H2=>tx σ H2 fun z H3=>∃kvs k,H3 a=some (.dK kvs)/\y=kV k/\kvs.length<sizeLine /\
 (∀v,j7 kvs k=some v->Q v H3)/\(j7 kvs k=none->Q z (upd H3 a (.dK (putK kvs k z))))
section
variable{X:Cx}{o e f:Expr}{apos cpos:Pos}{td ty tx:TE}
theorem Rv(ho:PE X o td)(he:PE X e ty)(hf:PE X f tx)(m:M2 X o "setdefault" apos e f cpos):PE X (.Call (.Attribute o "setdefault" apos) [e,f] [] cpos) (aah td ty tx):=by
 intro pins s σ H Q I h
 refine wpAny_Call_method m.base m.few m.line PySem.F.plainAttrs_dict PySem.F.slot_dict_setdefault PySem.F.type_dict_setdefault (cQ (ho pins s σ H _ I h) fun u s1 zz=>?_)
 obtain⟨x,H1,I1,rx,a,ex,d,q1⟩:=zz
 subst ex
 have eu:u=Value.ref a:=rx
 subst eu
 have hD:=Z2 I1 d
 refine⟨hD.1,hD.2.1,?_⟩
 rw[m.trees]
 refine Calls.callWith_builtin rfl (Calls.evalArgs_plain (Calls.spliced_cons (cQ (he pins s1 σ H1 _ I1 q1) fun iv s2 z2=>?_)))
 obtain⟨y,H2,I2,ry,q2⟩:=z2
 refine Calls.spliced_cons (cQ (hf pins s2 σ H2 _ I2 q2) fun fv s3 z3=>Calls.spliced_nil ?_)
 obtain⟨z,H3,I3,rz,kvs,k,ea,ey,hl,q3,q4⟩:=z3
 subst ey
 exact Qm I3 ea ry rz hl (fun v l w' s4 I4 rw'=>⟨v,H3,I4,rw',q3 v l⟩) fun l s4 I4=>⟨z,_,I4,rz,q4 l⟩
end
end L3
namespace L3
open PySem L2
abbrev n8:=List (Key×D)
def fj(kvs:n8)(k:Key):Option D:=(kvs.find? fun kv=>decide (kv.1=k)).map (·.2)
def Ma(kvs:n8)(k:Key)(d:D):n8:=if (kvs.any fun kv=>decide (kv.1=k))=true then kvs.map (fun kv=>if kv.1=k then (kv.1,d) else kv) else kvs++[(k,d)]
def dnI:aZ:=fun _ H Q=>∀p,H p=none->Q (.ref p) (aK H p (.dik []))
theorem aaA{σ:bQ}{H:aC}{Q:aM}(h:∀p,H p=none->Q (.ref p) (aK H p (.dik []))):dnI σ H Q:=h
def Ui(a:Addr)(y z:D)(H:aC)(Q:aM):Prop:=∃i kvs,y=.int i/\H a=some (.dik kvs)/\kvs.length<1000/\(∀d,fj kvs (.inl i)=some d->Q d H)/\(fj kvs (.inl i)=none->Q z (aK H a (.dik (Ma kvs (.inl i) z))))
def sdk(ty tx:aZ)(σ:bQ)(x:D)(H1:aC)(Q:aM):Prop:=∃a kvs,x=.ref a/\H1 a=some (.dik kvs)/\ty σ H1 fun y H2=>tx σ H2 fun z H3=>Ui a y z H3 Q
def sd3(td ty tx:aZ):aZ:=fun σ H Q=>td σ H fun x H1=>sdk ty tx σ x H1 Q
theorem aaC{td ty tx:aZ}{σ:bQ}{H:aC}{Q:aM}(h:td σ H fun x H1=>sdk ty tx σ x H1 Q):sd3 td ty tx σ H Q:=h
theorem WM{ty tx:aZ}{σ:bQ}{a:Addr}{kvs:n8}{H:aC}{Q:aM}(e:H a=some (.dik kvs))(h:ty σ H fun y H2=>tx σ H2 fun z H3=>Ui a y z H3 Q):sdk ty tx σ (.ref a) H Q:=⟨a,kvs,rfl,e,h⟩
theorem abk{a:Addr}{i:Int}{z:D}{kvs:n8}{H:aC}{Q:aM}(e:H a=some (.dik kvs))(hl:kvs.length<1000)(h1:∀d,fj kvs (.inl i)=some d->Q d H)(h2:fj kvs (.inl i)=none->Q z (aK H a (.dik (Ma kvs (.inl i) z)))):Ui a (.int i) z H Q:=⟨i,kvs,rfl,e,hl,h1,h2⟩
end L3
namespace L3
open PySem PySem.Spec PyProof.Rows L2
theorem TK.dK{H:Hp}{p:Addr}{o:HO}{xs:List (Key×V)}(n:H p=some (.dK xs)):TK H (upd H p o) :=
 ⟨fun a ys h=>by rw[aF (qF h n (by intro z;cases z))];exact h,fun a o' u h=>by rw[aF (qF h n (by intro z;cases z))];exact h⟩
abbrev xR(K:PySem.W.Frag)(H:Hp):n8->List (Key×V)->Prop:=Paired (fun (p:Key×D) (q:Key×V)=>p.1=q.1/\Rep K H p.2 q.2)
section
variable{K:PySem.W.Frag}{H:Hp}{k:Key}
theorem xR.look:∀ {kvs:n8} {ks:List (Key×V)},xR K H kvs ks->(j7 ks k).isSome=(fj kvs k).isSome/\∀d,fj kvs k=some d->∃v,j7 ks k=some v/\Rep K H d v
 |_,_,.nil=>⟨rfl,fun _ h=>nomatch h⟩
 |_,_,.cons (a:=p) (b:=q) r t=>by
  have ih:=xR.look t
  by_cases e:p.1=k
  ·have e':q.1=k:=r.1.symm.trans e
   have l1:∀rest:n8,fj (p::rest) k=some p.2:=fun rest=>by unfold fj;rw[List.find?_cons_of_pos (by simpa using e)];rfl
   rw[oJ e',l1]
   exact⟨rfl,fun d h=>⟨_,rfl,by cases h;exact r.2⟩⟩
  ·have e':¬q.1=k:=fun z=>e (r.1.trans z)
   have l1:∀rest:n8,fj (p::rest) k=fj rest k:=fun rest=>by unfold fj;rw[List.find?_cons_of_neg (by simpa using e)]
   rw[nZ e',l1]
   exact ih
theorem xR.any:∀ {kvs:n8} {ks:List (Key×V)},xR K H kvs ks->(kvs.any fun kv=>decide (kv.1=k))=ks.any fun kv=>decide (kv.1=k)
 |_,_,.nil=>rfl
 |_,_,.cons r t=>by rw[List.any_cons,List.any_cons,xR.any t,r.1]
theorem xR.repl{d:D}{v:V}(rd:Rep K H d v):∀ {kvs:n8} {ks:List (Key×V)},xR K H kvs ks->xR K H (kvs.map fun kv=>if kv.1=k then (kv.1,d) else kv) (ks.map fun kv=>if kv.1=k then (kv.1,v) else kv)
 |_,_,.nil=>.nil
 |_,_,.cons (a:=p) (b:=q) r t=>by
  refine .cons ?_ (xR.repl rd t)
  dsimp only
  by_cases e:p.1=k
  ·rw[if_pos e,if_pos (r.1.symm.trans e)];exact⟨r.1,rd⟩
  ·rw[if_neg e,if_neg (fun z=>e (r.1.trans z))];exact r
theorem xR.put{d:D}{v:V}{kvs:n8}{ks:List (Key×V)}(r:xR K H kvs ks)(rd:Rep K H d v):xR K H (Ma kvs k d) (putK ks k v):=by
 unfold Ma putK
 rw[←xR.any r]
 split
 ·exact xR.repl rd r
 ·exact Paired.snoc r ⟨rfl,rd⟩
theorem xR.mono{H':Hp}(t:TK H H'){kvs:n8}{ks:List (Key×V)}(r:xR K H kvs ks):xR K H' kvs ks:=Paired.yh r fun _ _ z=>⟨z.1,z.2.mono t⟩
theorem HR.aaL{H3:aC}(h:HR K H3 H){p:Addr}{ks:List (Key×V)}{kvs:n8}(t:TK H (upd H p (.dK ks)))(r:xR K (upd H p (.dK ks)) kvs ks):HR K (aK H3 p (.dik kvs)) (upd H p (.dK ks)):=h.set (o3:=.dik kvs) t ⟨ks,aR,r⟩
end
section
variable{X:Cx}
theorem ZS{pos:Pos}:cF X (.Dict [] [] pos) dnI:=bM QM fun _ _ _ ⟨_,_,_,_,hr,t,k⟩=>fun p n=>k _ _ _ _ (TK.fresh n) (hr.aaL (TK.fresh n) .nil) (.ref p) (t p (hr.fresh n))
theorem JG{o e f:Expr}{td ty tx:aZ}{apos cpos:Pos}(ho:cF X o td)(he:cF X e ty)(hf:cF X f tx)(m:M2 X o "setdefault" apos e f cpos):cF X (.Call (.Attribute o "setdefault" apos) [e,f] [] cpos) (sd3 td ty tx) :=
 bM (Rv ho he hf m) fun _ _ _ zz=>zz.ex fun σ3 H3 Q3 sr hr t k=>⟨σ3,H3,_,sr,hr,t,fun x v H3a Ha tka hra rx qa=>by
  obtain⟨a,kvs0,rfl,e0,qa⟩:=qa
  cases rx
  obtain⟨ks0,g0,r0⟩:=hra a _ e0
  refine⟨a,rfl,.inl ⟨ks0,.inl g0⟩,σ3,H3a,_,sr.mono tka,hra,qa,fun y u H3b Hb tkb hrb ry qb=>⟨σ3,H3b,_,(sr.mono tka).mono tkb,hrb,qb,fun z w H3c Hc tkc hrc rz qc=>?_⟩⟩
  obtain⟨i,kvs,rfl,ec,hl,q1,q2⟩:=qc
  cases ry
  obtain⟨ks,gd,rd⟩:=hrc a _ ec
  have tk:=tka.trans (tkb.trans tkc)
  have lk:=xR.look (k:=.inl i) rd
  refine⟨ks,.inl i,gd,rfl,by rw[←Paired.length rd];exact uP (Nat.le_of_lt hl),fun v' hv=>?_,fun hn=>?_⟩
  ·cases e2:fj kvs (.inl i) with
   |none=>have:=lk.1;rw[hv,e2] at this;cases this
   |some d=>
    obtain⟨v2,hv2,rep⟩:=lk.2 d e2
    rw[hv] at hv2
    cases hv2
    exact k _ _ _ _ tk hrc rep (q1 d e2)
  ·have e2:fj kvs (.inl i)=none:=by
    cases e3:fj kvs (.inl i) with
    |none=>rfl
    |some d=>have:=lk.1;rw[hn,e3] at this;cases this
   have tt:=TK.dK (o:=.dK (putK ks (.inl i) w)) gd
   exact k _ _ _ _ (tk.trans tt) (hrc.aaL tt (xR.put (xR.mono tt rd) (rz.mono tt))) (rz.mono tt) (q2 e2)⟩
end
end L3
namespace L3
open PySem L2
def gik(x y:D)(H:aC)(Q:aM):Prop:=∃a i kvs d,x=.ref a/\y=.int i/\H a=some (.dik kvs)/\fj kvs (.inl i)=some d/\Q d H
def gi3(ta tb:aZ):aZ:=fun σ H Q=>ta σ H fun x H1=>tb σ H1 fun y H2=>gik x y H2 Q
theorem abE{ta tb:aZ}{σ:bQ}{H:aC}{Q:aM}(h:ta σ H fun x H1=>tb σ H1 fun y H2=>gik x y H2 Q):gi3 ta tb σ H Q:=h
theorem aa5{a:Addr}{i:Int}{kvs:n8}{d:D}{H:aC}{Q:aM}(e:H a=some (.dik kvs))(l:fj kvs (.inl i)=some d)(q:Q d H):gik (.ref a) (.int i) H Q:=⟨a,i,kvs,d,rfl,rfl,e,l,q⟩
end L3
namespace L3
open PySem PySem.Spec PyProof.Rows L2
section
variable{X:Cx}{o i:Expr}{ta tb:aZ}{pos:Pos}
theorem Qt(hu:X.A.units+64<cLine)(ho:cF X o ta)(hi:cF X i tb)(hs:Ot i:=by exact fun _ _=>rfl):cF X (.Subscript o i pos) (gi3 ta tb) :=
 bM (Kz (Nat.lt_of_le_of_lt (Nat.add_le_add_left (by decide:1<=64) _) hu) ho hi hs) fun _ _ _ zz=>zz.ex fun σ3 H3 Q3 sr hr t k=>⟨σ3,H3,_,sr,hr,t,fun x v H3a Ha tka hra rx qa=>⟨σ3,H3a,_,sr.mono tka,hra,qa,fun y u H3b Hb tkb hrb ry qb=>by
  obtain⟨a,n,kvs,d,rfl,rfl,e,l,q⟩:=qb
  cases rx
  cases ry
  obtain⟨vs,gd,rd⟩:=hrb a _ e
  obtain⟨v,hv,rv⟩:=(xR.look (k:=.inl n) rd).2 d l
  exact⟨a,v,rfl,by rw[←hv];exact uF.k (k:=.inl n) gd,k _ _ _ _ (tka.trans tkb) hrb rv q⟩⟩⟩
end
end L3
namespace L3
open PySem L2
def Cv:List D->aC->aM->Prop:=fun ds H Q=>∃a ns kvs,ds=[.ref a]/\H a=some (.dik kvs)/\kvs.map (·.1)=ns.map Sum.inl/\ns.length<64/\∀(ms:List Int) (p:Addr),ms.Perm ns->ms.Pairwise (·<=·)->H p=none->Q (.ref p) (aK H p (.lst (ms.map D.int)))
theorem Vn{a:Addr}{ns:List Int}{kvs:n8}{H:aC}{Q:aM}(e:H a=some (.dik kvs))(en:kvs.map (·.1)=ns.map Sum.inl)(hl:ns.length<64)(h:∀(ms:List Int) (p:Addr),ms.Perm ns->ms.Pairwise (·<=·)->H p=none->Q (.ref p) (aK H p (.lst (ms.map D.int)))):Cv [.ref a] H Q:=⟨a,ns,kvs,rfl,e,en,hl,h⟩
def kik(kvs:List (Str×D))(neg:Bool)(x:D)(H:aC)(Q:aM):Prop:=∃z,x=.str z/\Q (.bl (neg != (kvs.lookup z).isSome)) H
def ki3(kvs:List (Str×D))(neg:Bool)(te:aZ):aZ:=fun σ H Q=>te σ H fun x H1=>kik kvs neg x H1 Q
theorem aa8{kvs:List (Str×D)}{neg:Bool}{te:aZ}{σ:bQ}{H:aC}{Q:aM}(h:te σ H fun x H1=>kik kvs neg x H1 Q):ki3 kvs neg te σ H Q:=h
theorem aaZ{kvs:List (Str×D)}{neg:Bool}{z:Str}{H:aC}{Q:aM}(h:Q (.bl (neg != (kvs.lookup z).isSome)) H):kik kvs neg (.str z) H Q:=⟨z,rfl,h⟩
end L3
namespace L3
open PySem PySem.Spec PyProof.Rows L2
section
variable{prog:Program}{w:World}{A:Around}{E:Value->Shared->Prop}{s:Shared}{T:String}{r d:Addr}{n:Nat}{P:Nat->Value->Prop}{OK:Heap->Prop}
theorem Dz{Q:List Value->Shared->Prop}(K:PySem.W.KdlSrc prog w T r d n P OK)(hh:A.handled=none)(hok:OK s.heap)(hn:n<=sizeLine)
  (hQ:∀h' tk (acc:Array Value),s.heap.objs.size<=h'.objs.size->(∀b o,s.heap.get? b=some o->h'.get? b=some o)->ItemsOf P acc n->Q acc.toList { s with heap:=h',toks:=tk }):wpAny (model prog w) A (collect (.ref r)) Q E s:=by
 have code:∀R:Result->Shared->Prop,(∀h' tk (acc:Array Value) c',s.heap.objs.size<=h'.objs.size->(∀b o,s.heap.get? b=some o->h'.get? b=some o)->h'.get? s.heap.objs.size=some { cls:=.type "list",dict:=none,data:=.seq acc c',slots:=#[] }->ItemsOf P acc n->R (.ok (.ret (.ref s.heap.objs.size))) { s with heap:=h',toks:=tk })->codeAny (model prog w) A (.builtin "proto.collect" ⟨[.ref r],[]⟩) R s:=by
  intro R hR
  refine codeAny_builtin PySem.F.entry_proto_collect ?_
  rw[Around.under_plainId PySem.F.plain_proto_collect _]
  show wpAny _ A.in1 (newList [] >>= fun l=>again (.builtin "list.__iadd__" ⟨[l,.ref r],[]⟩)) _ _ s
  refine wpAny_bind (wpAny_newObj_type (wpAny_pure ⟨plainId_quiet PySem.F.plain_list_iadd _,codeAny_builtin PySem.F.entry_list_iadd ?_⟩))
  rw[Around.under_plainId PySem.F.plain_list_iadd _]
  have hS:(s.heap.push { cls:=.type "list",data:=.seq ([]:List Value).toArray }).get? s.heap.objs.size=some { cls:=.type "list",data:=.seq #[] }:=Heap.get?_push_size _ rfl
  have hlt:=K.there _ hok
  show wpAny _ A.in1 (Builtin.List.listExtendWith (.ref s.heap.objs.size) (.ref r) (.ref s.heap.objs.size)) _ _ _
  exact PySem.W.kdl_extend (R:=R) (s:={ s with heap:=s.heap.push { cls:=.type "list",data:=.seq ([]:List Value).toArray } }) K hh (K.keep _ _ hok fun b _ o e=>Heap.get?_push_of_some _ e) _ (Nat.ne_of_gt hlt.1) (Nat.ne_of_gt hlt.2) _ _ hS (fun h' tk acc' c' hk hS' hacc=>hR h' tk acc' c' (Nat.le_of_lt (Heap.lt_size hS')) (fun b o e=>hk b o (Nat.ne_of_lt (Heap.lt_size e)) (Heap.get?_push_of_some _ e)) hS' hacc) hn
 unfold collect
 refine wpAny_bind (wpAny_runValue (code _ fun h' tk acc c' hz hk hS' hacc=>?_))
 show wpAny _ A (load s.heap.objs.size >>= _) _ _ _
 refine wpAny_bind (wpAny_load hS' ?_)
 exact wpAny_pure (hQ h' tk acc hz hk hacc)
theorem HN{ns:List Int}{Q:Value->Shared->Prop}(K:PySem.W.KdlSrc prog w T r d n P OK)(hh:A.in1.handled=none)(hok:OK s.heap)(hn:n<=sizeLine)(h64:n<64)(hi:∀acc:Array Value,ItemsOf P acc n->IntsAre acc.toList ns)
  (h:∀h' tk a (out:Array Value) (ms:List Int) e,s.heap.objs.size<=a->IntsAre out.toList ms->ms.Perm ns->ms.Pairwise (·<=·)->(∀b o,s.heap.get? b=some o->h'.get? b=some o)->h'.get? a=some (seqObj "list" out e)->Q (.ref a) { s with heap:=h',toks:=tk }) :
  wpAny (model prog w) A (call (.builtin "sorted") [.ref r]) Q E s:=by
 refine Calls.call_function_entry kind_sorted plain_sorted entry_sorted (args_sorted1 _) ?_
 unfold Builtin.«sorted»
 refine wpAny_bind (m:=checkCount "sorted" 1 1 _) (wpAny_pure (wpAny_bind (Dz K hh hok hn fun h' tk acc hz hk hacc=>?_)))
 have hI:=hi acc hacc
 have hl:acc.toList.length=n:=by rw[Array.length_toList];exact hacc.1
 refine wpAny_bind (wpAny_newList ?_ (by rw[hl];exact hn))
 have hoL:(h'.push (seqObj "list" acc.toList.toArray 0)).get? h'.objs.size=some (seqObj "list" acc.toList.toArray 0):=Heap.get?_push_size _ rfl
 show wpAny _ _ _ _ _ { s with heap:=h'.push (seqObj "list" acc.toList.toArray 0),toks:=tk }
 refine wpAny_bind (wpAny_holding (wpAny_call_entry slot_list_sort ⟨_,hoL,rfl⟩ entry_list_sort (list_sort_tree hoL hI (by rw[hl];exact h64) fun out ms a1 a2 a3=>⟨_,rfl,?_⟩) (args_list_sort _)))
 obtain⟨c,hc⟩:=sortedHeap_at (vs:=acc.toList) (out:=out) hoL
 refine wpAny_pure ⟨_,rfl,h _ tk h'.objs.size out ms c hz a1 a2 a3 (fun b o q=>?_) hc⟩
 have q':=hk b o q
 have lt:=Heap.lt_size q'
 exact (sortedHeap_old (Nat.ne_of_lt lt) (by rw[size_push'];exact Nat.lt_succ_of_lt lt)).trans (Heap.get?_push_of_some _ q')
end
theorem Paired.keys{κ α β:Type}{R:κ×α->κ×β->Prop}(h:∀p q,R p q->p.1=q.1):∀ {xs:List (κ×α)} {ys:List (κ×β)},Paired R xs ys->xs.map (·.1)=ys.map (·.1)
 |_,_,.nil=>rfl
 |_,_,.cons r t=>by rw[List.map_cons,List.map_cons,h _ _ r,Paired.keys h t]
theorem U0{P:Program}{w:World}{i:Int}{v:Value}(h:(bH P w).is (.inl i) v=true):∃t,v=.int i t:=Value.isInt_shape h
theorem N7{P:Program}{w:World}{vs:List (Key×Value)}{ns:List Int}(e:vs.map (·.1)=ns.map Sum.inl){acc:Array Value}(h:ItemsOf (fun i v=>∃k x,vs[i]?=some (k,x)/\(bH P w).is k v=true) acc vs.length):IntsAre acc.toList ns:=by
 obtain⟨hl,h⟩:=h
 have h':∀i v,acc.toList[i]?=some v->∃k x,vs[i]?=some (k,x)/\(bH P w).is k v=true:=fun i v hv=>h i v (by rw[←Array.getElem?_toList];exact hv)
 have hl':acc.toList.length=vs.length:=by rw[Array.length_toList];exact hl
 clear h hl
 generalize acc.toList=us at *
 induction us generalizing vs ns with
 |nil=>
  have:vs=[]:=List.length_eq_zero_iff.mp hl'.symm
  subst this
  obtain rfl:ns=[]:=List.map_eq_nil_iff.mp e.symm
  exact .nil
 |cons u us ih=>
  obtain⟨k,x,e1,e2⟩:=h' 0 u rfl
  cases vs with
  |nil=>cases e1
  |cons q vs=>
   cases e1
   cases ns with
   |nil=>cases e
   |cons m ns=>
    rw[List.map_cons,List.map_cons] at e
    obtain⟨e3,e4⟩:=List.cons.inj e
    dsimp only at e3
    subst e3
    obtain⟨t,rfl⟩:=U0 e2
    exact .cons m t (ih e4 (fun i v hv=>h' (i+1) v hv) (Nat.succ.inj hl'))
section
variable{X:Cx}
theorem N5(hc:X.calm=true):dZ X (.builtin "sorted") (jY X.K Cv):=by
 intro pins s σ H xs us Q I rs h
 obtain⟨ds,H3,Q3,hr,rd,t,k⟩:=h
 obtain⟨a,ns,kvs,rfl,ha,en,h64,t⟩:=t
 cases rd with
 |cons r1 r2=>
  cases r2
  cases r1
  obtain⟨ks,ga,ra⟩:=hr a _ ha
  obtain⟨hz,hS,vs,rv,hd⟩:=PL I.hok ga
  obtain⟨u,rfl,ru⟩:=Vals.one rs
  obtain rfl:u=Value.ref a:=ru
  have e1:ks.map (·.1)=ns.map Sum.inl:=by rw[←en];exact (Paired.keys (fun _ _ z=>z.1) ra).symm
  have e2:vs.map (·.1)=ns.map Sum.inl:=by rw[←e1];exact (Paired.keys (fun _ _ z=>z.1) rv).symm
  have hl:vs.length=ns.length:=by have:=congrArg List.length e2;rw[List.length_map,List.length_map] at this;exact this
  obtain⟨ep,hd⟩:=hd.dictAt
  refine HN (PySem.W.kdl_dict (ep:=ep) hS) (I.ok.hd hc) hd (by rw[hl];exact sY (by omega)) (by rw[hl];exact h64) (fun acc hacc=>N7 e2 hacc) fun h' tk a' out ms e za hI hp hw hk he=>?_
  have fr:H a'=none:=I.hok.fresh za
  refine⟨.ref a',_,I.laid (t':=tk) (a:=a') (o:=.lst (ms.map V.int)) hk za ⟨by rw[List.length_map,hp.length_eq];exact sY (by omega),out.toList,e,mG hI,?_⟩,rfl,?_⟩
  ·rw[Array.toArray_toList];exact he
  ·exact k _ _ _ _ (TK.fresh fr) (hr.ye (TK.fresh fr) (bj.ints ms)) (.ref _) (t ms _ hp hw (hr.fresh fr))
end
section
variable{X:Cx}{x:Str}{kvs:List (Str×D)}{e:Expr}{p pos:Pos}
theorem U5{a:Addr}{te:TE}(hg:Gl X x)(hm:X.mg x=some (.ref a))(c:DC X.K X.w a kvs)(he:PE X e te)(hd:(x==("__debug__" : Str))=false:=by decide):PC X .NotIn e (.Name x p) (adE kvs true te):=by
 intro pins s σ H Q I h
 refine cQ (he pins s σ H _ I h) fun iv s2 ⟨y,H2,I2,ry,z,ey,q2⟩=>sZ I2 hg hm ?_ hd
 subst ey
 obtain⟨vs,dd,hb⟩:=Z0 I2 c ry
 refine wpAny_notIn_of (vC (k:=.inr z) ry) c.ns dd.mapOf ?_
 rw[hb]
 exact⟨.bl _,H2,I2.tok _,rfl,by simpa using q2⟩
theorem Rz{te:aZ}(hg:Gl X x)(hm:∃a,X.mg x=some (.ref a)/\DC X.K X.w a kvs)(he:cF X e te)(hd:(x==("__debug__" : Str))=false:=by decide):JT X (.Compare e [.NotIn] [.Name x p] pos) (lJ (ki3 kvs true te)):=by
 obtain⟨a,hm,c⟩:=hm
 refine yH (Zu (U5 hg hm c he hd)) fun _ _ _ h=>?_
 obtain⟨σ3,H3,Q3,sr,hr,t,k⟩:=h
 refine⟨σ3,H3,_,sr,hr,t,fun x v H3a Ha tka hra rx qa=>?_⟩
 obtain⟨z,rfl,qa⟩:=qa
 cases rx
 exact⟨z,rfl,wj k _ _ _ _ tka hra (.bl _) qa⟩
end
end L3
namespace L3
open PySem PySem.Spec PyProof.Rows L2
def zUk(x y:D)(H:aC)(R:List D->(aC->Prop)->aC->Prop):Prop:=∃ds es,x=.tup ds/\y=.tup es/\R (gG ds es) (fun _=>True) H
def izU(ta tb:aZ):rA:=fun σ H R=>ta σ H fun x H1=>tb σ H1 fun y H2=>zUk x y H2 R
theorem abe{ta tb:aZ}{σ:bQ}{H:aC}{R:List D->(aC->Prop)->aC->Prop}(h:ta σ H fun x H1=>tb σ H1 fun y H2=>zUk x y H2 R):izU ta tb σ H R:=h
theorem aaX{ds es:List D}{H:aC}{R:List D->(aC->Prop)->aC->Prop}(h:R (gG ds es) (fun _=>True) H):zUk (.tup ds) (.tup es) H R:=⟨ds,es,rfl,rfl,h⟩
end L3
namespace L3
open PySem PySem.Spec PyProof.Rows L2
def Hk(K:PySem.W.Frag)(a b:Addr):It :=
 ⟨fun i H=>∃xs ys x y,iT K H a xs/\iT K H b ys/\xs[i]?=some x/\ys[i]?=some y,
   fun i H v H'=>∃T x y,v=.ref T/\H T=none/\H'=upd H T (.tup [x,y])/\∀xs ys,iT K H a xs->iT K H b ys->xs[i]?=some x/\ys[i]?=some y,
   fun i H=>∃xs ys,iT K H a xs/\iT K H b ys/\(xs.length<=i\/ys.length<=i)⟩
theorem Gp{P:Program}{w:World}{K:PySem.W.Frag}{elts:List Expr}{kt:Nat}{pt:Pos}(z TI TO i1 i2 a b:Addr)(D:ZAp z TI TO i1 i2 [i1,a] [i2,b])(hai:a≠i1)(hbi:b≠i2) :
  Turn P w K (.Tuple elts kt pt) (Hk K a b) [z,TI,TO,i1,i2] z (fun i h=>IsZip h z TI TO .none/\IsPair h TI (.ref i1) (.ref i2)/\(∃u v,IsPair h TO u v)/\h.IsTupleIter i1 a i/\h.IsTupleIter i2 b i) where
 mem:=by simp
 obj:=by
  rintro i h ⟨h1,h2,⟨u,v,h3⟩,⟨o4,h4,c4,d4⟩,⟨o5,h5,c5,d5⟩⟩ c hc
  simp only[List.mem_cons,List.not_mem_nil,or_false] at hc
  rcases hc with rfl | rfl | rfl | rfl | rfl
  ·exact⟨_,h1,fun v z=>nomatch z⟩
  ·exact⟨_,h2,fun v z=>nomatch z⟩
  ·exact⟨_,h3,fun v z=>nomatch z⟩
  ·first
   |exact⟨_,h4,fun v z=>by rw[d4] at z;cases z⟩
   |exact⟨_,h5,fun v z=>by rw[d5] at z;cases z⟩
  ·first
   |exact⟨_,h4,fun v z=>by rw[d4] at z;cases z⟩
   |exact⟨_,h5,fun v z=>by rw[d5] at z;cases z⟩
 keep:=by
  rintro i h h' ⟨h1,h2,⟨u,v,h3⟩,h4,h5⟩ k
  exact⟨k z (by simp) _ h1,k TI (by simp) _ h2,⟨u,v,k TO (by simp) _ h3⟩,h4.at fun o e=>k i1 (by simp) o e,h5.at fun o e=>k i2 (by simp) o e⟩
 item:=by
  intro X hP hw hK hc i pins s σ H E I hf st hg
  subst hP hw hK
  obtain⟨xs,ys,v,vy,hq,hq',hxv,hyv⟩:=hg
  obtain⟨h1,h2,⟨u0,v0,h3⟩,h4,h5⟩:=st
  obtain⟨its,rv,pl0,hz⟩:=I.tuple hq
  have pl:s.heap.IsTuple a its.toArray:=pl0
  obtain⟨jts,rv',pt,hz'⟩:=I.tuple hq'
  have pt':s.heap.IsTuple b jts.toArray:=pt
  obtain⟨u,hu,ru⟩:=rv.get hxv
  obtain⟨u2,hu2,ru2⟩:=rv'.get hyv
  have hh:=I.ok.hd hc
  have hlv:i<its.length:=(List.getElem?_eq_some_iff.mp hu).1
  have hlw:i<jts.length:=(List.getElem?_eq_some_iff.mp hu2).1
  have hT:H s.heap.objs.size=none:=I.hok.fresh (Nat.le_refl _)
  refine zR (k:=i) (f1:=[i1,a]) (f2:=[i2,b]) (S1:=fun i h=>h.IsTupleIter i1 a i/\h.IsTuple a its.toArray) (S2:=fun i h=>h.IsTupleIter i2 b i/\h.IsTuple b jts.toArray) D (De (prog:=X.prog) (w:=X.w) (A:=X.A.in1) hh i1 a hai its.toArray) (De (prog:=X.prog) (w:=X.w) (A:=X.A.in1) hh i2 b hbi jts.toArray) (by simp;grind) (by simp;grind) h1 h2 h3 ⟨h4,pl⟩ ⟨h5,pt'⟩ fun h' tk y1 y2 hy1 hy2 a1 a2 sa sb a5 a7=>?_
  refine⟨_,rfl,?_⟩
  refine wpAny_letOwnedTupleGo_zip (s:={ s with heap:=h',toks:=tk }) a1 fun h'' b1 b2=>?_
  have lt:∀ {c o},s.heap.get? c=some o->s.heap.objs.size≠c:=fun e=>Nat.ne_of_gt (Heap.lt_size e)
  have eu:y1=u:=by
   have q:=hy1
   simp only[List.getElem?_toArray] at q
   exact Option.some.inj (q.symm.trans hu)
  subst eu
  have eu2:y2=u2:=by
   have q:=hy2
   simp only[List.getElem?_toArray] at q
   exact Option.some.inj (q.symm.trans hu2)
  subst eu2
  have new:h''.get? s.heap.objs.size=some { cls:=.type "tuple",data:=.seq #[y1,y2] }:=(b2.2 _ (lt h1)).trans a5
  have I1:L2.Inv X pins σ (upd H s.heap.objs.size (.tup [v,vy])) { s with heap:=h'',toks:=tk }:=by
   refine uJ (ch:=[z,TI,TO,i1,i2]) I (fun c o hcn e=>?_) hf (Nat.le_refl _) ⟨?_,[y1,y2],.cons ru (.cons ru2 .nil),⟨_,new,rfl,_,rfl,rfl⟩⟩
   ·have n1:c≠z:=fun w=>hcn (by simp[w])
    exact (b2.2 c n1).trans (a7 c o n1 (fun w=>hcn (by simp[w])) (fun w=>hcn (by simp[w])) (fun w=>hcn (by simp[w])) e)
   ·show 2<=sizeLine;decide
  refine⟨.ref s.heap.objs.size,_,I1,rfl,⟨_,v,vy,rfl,hT,rfl,fun xs' ys' q1 q2=>⟨by rw[I.uU q1 hq];exact hxv,by rw[I.uU q2 hq'];exact hyv⟩⟩,⟨b1,?_,⟨_,_,(b2.2 TO D.TOz).trans a2⟩,?_,?_⟩,fun d hdm=>?_⟩
  ·exact (b2.2 TI D.TIz).trans (a7 TI _ D.TIz D.TITO D.TIi1 D.TIi2 h2)
  ·exact (sa).1.at fun o e=>(b2.2 i1 D.i1z).trans e
  ·exact (sb).1.at fun o e=>(b2.2 i2 D.i2z).trans e
  ·have hcn:H d=none:=(hf d hdm).1
   have:d≠s.heap.objs.size:=by
    obtain⟨o,e,_⟩:∃o,s.heap.get? d=some o/\True:=by
     simp only[List.mem_cons,List.not_mem_nil,or_false] at hdm
     obtain⟨o4,e4,_⟩:=h4
     obtain⟨o5,e5,_⟩:=h5
     rcases hdm with rfl | rfl | rfl | rfl | rfl
     ·exact⟨_,h1,trivial⟩
     ·exact⟨_,h2,trivial⟩
     ·exact⟨_,h3,trivial⟩
     ·first | exact⟨_,e4,trivial⟩ | exact⟨_,e5,trivial⟩
     ·first | exact⟨_,e4,trivial⟩ | exact⟨_,e5,trivial⟩
    exact (lt e).symm
   rw[aF this];exact hcn
 done:=by
  intro X hP hw hK hc i pins s σ H E I hf st hg
  subst hP hw hK
  obtain⟨xs,ys,hq,hq',hx⟩:=hg
  obtain⟨h1,h2,⟨u0,v0,h3⟩,h4,h5⟩:=st
  obtain⟨its,rv,pl0,hz⟩:=I.tuple hq
  have pl:s.heap.IsTuple a its.toArray:=pl0
  obtain⟨jts,rv',pt,hz'⟩:=I.tuple hq'
  have pt':s.heap.IsTuple b jts.toArray:=pt
  have hl:=rv.length
  have hl':=rv'.length
  have hh:=I.ok.hd hc
  have DL:=De (prog:=X.prog) (w:=X.w) (A:=X.A.in1) hh i1 a hai its.toArray
  have DT:=De (prog:=X.prog) (w:=X.w) (A:=X.A.in1) hh i2 b hbi jts.toArray
  have endL:its.length<=i->MP X.prog X.w X.A.in1 i1 ((fun i h=>h.IsTupleIter i1 a i/\h.IsTuple a its.toArray) i):=fun hle s' Q E' st' hE=>jO hh st'.1 st'.2 (by simp;grind) hE
  have Dy:jts.length<=i->MP X.prog X.w X.A.in1 i2 ((fun i h=>h.IsTupleIter i2 b i/\h.IsTuple b jts.toArray) i):=fun hle s' Q E' st' hE=>jO hh st'.1 st'.2 (by simp;grind) hE
  refine GJ (k:=i) (P1:=fun i v=>its.toArray[i]?=some v) (f1:=[i1,a]) (f2:=[i2,b]) (n1:=its.toArray.size) (S1:=fun i h=>h.IsTupleIter i1 a i/\h.IsTuple a its.toArray) (S2:=fun i h=>h.IsTupleIter i2 b i/\h.IsTuple b jts.toArray) D (fun _ _ q k=>DL.frame i _ _ q k) (fun _ _ q k=>DT.frame i _ _ q k) ?_ h1 h2 h3 ⟨h4,pl⟩ ⟨h5,pt'⟩ fun h' tk k=>⟨rfl,?_⟩
  ·by_cases hle:its.length<=i
   ·exact .inl (endL hle)
   ·exact .inr ⟨⟨by simp;grind,DL⟩,Dy (by grind)⟩
  ·exact Cw (t':=tk) (ch:=[z,TI,TO,i1,i2]) I (fun c o hcn e=>k c o (fun w=>hcn (by simp[w])) (fun w=>hcn (by simp[w])) (fun w=>hcn (by simp[w])) (fun w=>hcn (by simp[w])) e) hf
 self:=fun A i s Q E st h=>wpAny_pyIter_zip st.1 h
set_option maxHeartbeats 4000000 in
theorem Ce(l t:Addr)(xs ys:Array Value) :
  Meets (Builtin.«zip.__new__» ⟨[.type "zip",.ref l,.ref t],[]⟩) (fun _ R s=>(s.heap.IsTuple l xs/\s.heap.IsTuple t ys)/\R (.ok (.ret (.ref (zh4 s.heap (JK l) (JK t)).objs.size))) { s with heap:=Bl s.heap (JK l) (JK t) }) :=
 .of_wp fun prog w A R s h=>by
  obtain⟨hp,g,d,tk,os⟩:=s
  obtain⟨⟨hl,ht⟩,h⟩:=h
  have hsub:=sub_zip
  have hL:Heap.IsTuple (Shared.heap ⟨hp,g,d,tk,os⟩) l xs:=hl
  have hT:Heap.IsTuple (Shared.heap ⟨hp.push { cls:=.type "tuple_iterator",data:=.fields #[.ref l,.int 0 0] },g,d,tk,os⟩) t ys:=Heap.IsTuple.push ht _
  wp_walk using wpAny_pyIter_tuple hL,wpAny_pyIter_tuple hT
  exact⟨_,rfl,h⟩
section
variable{X:Cx}{tg:Expr}
theorem Gn{prog:Program}{w:World}{A:Around}{E:Value->Shared->Prop}{s:Shared}{l t:Addr}{xs ys:Array Value}{Q:Value->Shared->Prop}(hl:s.heap.IsTuple l xs)(ht:s.heap.IsTuple t ys)
  (h:Q (.ref (s.heap.objs.size+4)) { s with heap:=Bl s.heap (JK l) (JK t) }):wpAny (model prog w) A (call (.type "zip") [.ref l,.ref t]) Q E s:=by
 refine callType_new F.called_zip (by decide) (F.typeCall_zip_2 _ _) (F.newCall_zip_2 _ _) (fun obj=>F.args_object_init_3 obj _ _) F.entry_zip_new (Ce l t xs ys) ⟨⟨hl,ht⟩,?_⟩
 obtain⟨z4,g5,_⟩:=Kd s.heap (JK l) (JK t) rfl rfl
 show _/\_
 rw[z4]
 exact⟨⟨_,g5,rfl⟩,h⟩
def VR(K:PySem.W.Frag)(ta:TA):L2.TI:=fun σ H R=>ta σ H fun vs H1=>∃l x,vs=[.ref l,.ref x]/\(∃xs,iT K H1 l xs)/\(∃ys,iT K H1 x ys)/\R (Hk K l x) H1
theorem O5{a b:Expr}{ta:TA}{p pos pt:Pos}{elts:List Expr}{kt:Nat}(hg:Gl X "zip")(hm:X.mg "zip" = none)(ha:PA X [a,b] ta)(hs:starEach [a,b] X.env=[(false,eval a X.env),(false,eval b X.env)]:=by rfl)(hs2:starEach [b] X.env=[(false,eval b X.env)]:=by rfl) :
  PI X (.Tuple elts kt pt) (.Call (.Name "zip" p) [a,b] [] pos) (VR X.K ta):=by
 intro pins s σ H R I h
 refine Call_ (jd I hg hm boot_zip (PyProof.Rows.callWith_type1 (cQ (ha pos pins s σ H _ I h) fun us s1 ⟨vs,H1,I1,r1,l,x,e,⟨xs,hq⟩,⟨ys,hq'⟩,q⟩=>?_) (by rw[hs,hs2]) (by rw[hs2];rfl)))
 subst e
 obtain⟨u,u',rfl,e1,e2⟩:=vals2 r1
 cases e1
 cases e2
 obtain⟨its,rv,pl0,hz⟩:=I1.tuple hq
 have pl:s1.heap.IsTuple l its.toArray:=pl0
 obtain⟨jts,rv',pt,hz'⟩:=I1.tuple hq'
 have pt':s1.heap.IsTuple x jts.toArray:=pt
 have a2:x<s1.heap.objs.size:=by obtain⟨_,e,_⟩:=pt';exact Heap.lt_size e
 have a1:l<s1.heap.objs.size:=by obtain⟨_,e,_⟩:=pl;exact Heap.lt_size e
 refine Gn pl pt' ?_
 obtain⟨z4,g5,g3,g4,g1,g2,hk⟩:=Kd s1.heap (JK l) (JK x) rfl rfl
 generalize hn:s1.heap.objs.size=n at *
 refine wpAny_pyIter_zip (s:={ s1 with heap:=Bl s1.heap (JK l) (JK x) }) g5 ?_
 have I2:L2.Inv X pins σ H1 { s1 with heap:=Bl s1.heap (JK l) (JK x),toks:=s1.toks }:=I1.kept (t':=s1.toks) hk
 have D:ZAp (n+4) (n+2) (n+3) n (n+1) [n,l] [n+1,x]:=by
  exact⟨(show (n+2:Nat)≠n+4 from by grind),(show (n+3:Nat)≠n+4 from by grind),(show (n:Nat)≠n+4 from by grind),(show (n+1:Nat)≠n+4 from by grind),(show (n+2:Nat)≠n+3 from by grind),(show (n+2:Nat)≠n from by grind),(show (n+2:Nat)≠n+1 from by grind),(show (n+3:Nat)≠n from by grind),(show (n+3:Nat)≠n+1 from by grind),(show (n:Nat)≠n+1 from by grind),⟨Vj (show (n+4:Nat)≠n from by grind) (Pk a1).1,Vj (show (n+3:Nat)≠n from by grind) (Pk a1).2.1,Vj (show (n+1:Nat)≠n from by grind) (Pk a1).2.2.1⟩,⟨Vj (show (n+4:Nat)≠n+1 from by grind) (Pk a2).1,Vj (show (n+3:Nat)≠n+1 from by grind) (Pk a2).2.1,Vj (show (n:Nat)≠n+1 from by grind) (Pk a2).2.2.2⟩⟩
 refine⟨_,_,_,_,H1,rfl,I2,Gp _ _ _ _ _ l x D (Ne.symm (Pk a1).2.2.2) (Ne.symm (Pk a2).2.2.1),⟨g5,g3,⟨_,_,g4⟩,⟨_,g1,rfl,rfl⟩,⟨_,g2,rfl,rfl⟩⟩,fun b hb=>?_,q⟩
 simp only[List.mem_cons,List.not_mem_nil,or_false] at hb
 have hge:s1.heap.objs.size<=b:=by rw[hn];rcases hb with rfl | rfl | rfl | rfl | rfl <;> grind
 exact I1.uX (b:=b) (H':=H1) hge (I1.hok.fresh hge)
theorem Ed{K:PySem.W.Frag}{H:Hp}{a b:Addr}{ds es:List D}{vs us:List V}(ga0:H a=some (.tup vs))(ra0:bj K H ds vs)(gb:H b=some (.tup us))(rb:bj K H es us):vY K H (gG ds es) (fun _=>True) (Hk K a b):=fun H3 H' tk hr hk=>by
 have ga:=tk.tup _ _ ga0
 have ra:=ra0.mono tk
 have gb':=tk.tup _ _ gb
 have rb':=rb.mono tk
 have hl:(gG ds es).length=min ds.length es.length:=by unfold gG;rw[List.length_zipWith]
 refine⟨fun i hi=>?_,?_⟩
 ·rw[hl] at hi
  have h1:i<vs.length:=by rw[←ra.length];grind
  have h2:i<us.length:=by rw[←rb.length];grind
  refine⟨⟨vs,us,vs[i],us[i],iT.of ga,iT.of gb',by simp,by simp⟩,fun v H'' y=>?_⟩
  obtain⟨T,x,y,rfl,hT,rfl,hxy⟩:=y
  obtain⟨hx,hy⟩:=hxy vs us (iT.of ga) (iT.of gb')
  obtain⟨d,e,hde,rd,re⟩:=bj.zip ra rb' hx hy
  exact⟨TK.fresh hT,hr.tup hT,_,hde,.tup aR (.cons (rd.mono (TK.fresh hT)) (.cons (re.mono (TK.fresh hT)) .nil))⟩
 ·rw[hl]
  refine⟨vs,us,iT.of ga,iT.of gb',?_⟩
  rw[←ra.length,←rb.length]
  grind
theorem Ol{a b:Expr}{ta tb:aZ}{p pos pt:Pos}{elts:List Expr}{kt:Nat}(hm:X.mg "zip" = none)(ha:cF X a ta)(hb:cF X b tb)(hg:Gl X "zip":=by rfl)(hs:starEach [a,b] X.env=[(false,eval a X.env),(false,eval b X.env)]:=by rfl)
  (hs1:starEach [a,b] X.env=(false,eval a X.env)::starEach [b] X.env:=by rfl) (hs2:starEach [b] X.env=(false,eval b X.env)::starEach [] X.env:=by rfl) (hs3:starEach [b] X.env=[(false,eval b X.env)]:=by rfl):Il X (.Tuple elts kt pt) (.Call (.Name "zip" p) [a,b] [] pos) (izU ta tb) :=
 j0 (O5 hg hm (aa ha (aa hb aA hs2) hs1) hs hs3) fun _ _ _ ⟨σ3,H3,R3,sr,hr,t,k⟩=>by
  refine⟨σ3,H3,fun ds H1=>(match ds with | [x,y]=>zUk x y H1 R3 | _=>False),sr,hr,t,fun ds vs H3a Ha tka hra rs qa=>?_⟩
  cases rs with
  |nil=>exact qa.elim
  |cons r1 r2=>
   cases r2 with
   |nil=>exact qa.elim
   |cons r2 r3=>
    cases r3 with
    |cons _ _=>exact qa.elim
    |nil=>
     obtain⟨ds,es,rfl,rfl,qa⟩:=qa
     cases r1 with
     |tup ga ra=>
      cases r2 with
      |tup gb rb=>exact⟨_,_,rfl,⟨_,iT.of ga⟩,⟨_,iT.of gb⟩,k _ _ _ _ _ tka hra (Ed ga ra gb rb) qa⟩
end
end L3
namespace L3
open PySem L2
def JR:D->List D->aC->aM->Prop:=fun x xs H Q=>∃a y ds ps p q,∃j:Nat,(x=.ref a/\xs=[y]/\H a=some (.lst ds)/\rF 4 y=some p/\jf (rF 4) ds=some ps/\ds.length<=10000)/\(ps[j]?=some q/\PyData.eqv q p=true)/\(∀m q,m<j->ps[m]?=some q->PyData.eqv q p=false)/\Q (.int j) H
theorem KD:∀ps:List Pt,jf (rF 4) (ps.map bN)=some (ps.map fun c=>PyData.tuple [.int c.1,.int c.2])
 |[]=>rfl
 |c::ps=>by
  have e:rF 4 (bN c)=some (PyData.tuple [.int c.1,.int c.2]):=rfl
  rw[List.map_cons]
  unfold jf
  rw[e,KD ps]
  rfl
theorem TQ(a b:Pt):PyData.eqv (.tuple [.int a.1,.int a.2]) (.tuple [.int b.1,.int b.2])=decide (a=b):=by
 obtain⟨a1,a2⟩:=a
 obtain⟨b1,b2⟩:=b
 simp only[PyData.eqv,PyData.eqvAll,Prod.mk.injEq,Bool.and_true,Bool.decide_and]
 rfl
theorem abG{a:Addr}{ps:List Pt}{c:Pt}{j:Nat}{H:aC}{Q:aM}(ha:H a=some (.lst (ps.map bN)))(hl:ps.length<=10000)(hj:ps[j]?=some c)(hn:∀m,m<j->ps[m]?≠some c)(q:Q (.int j) H):JR (.ref a) [.tup [.int c.1,.int c.2]] H Q:=by
 refine⟨a,_,_,_,PyData.tuple [.int c.1,.int c.2],PyData.tuple [.int c.1,.int c.2],j,⟨rfl,rfl,ha,rfl,KD ps,by rw[List.length_map];exact hl⟩,⟨by rw[List.getElem?_map,hj];rfl,by rw[TQ];exact decide_eq_true rfl⟩,fun m r hm hr=>?_,q⟩
 rw[List.getElem?_map] at hr
 obtain⟨d,hd,rfl⟩:=Option.map_eq_some_iff.mp hr
 rw[TQ]
 exact decide_eq_false fun e=>hn m hm (e▸hd)
end L3
namespace L3
open PySem PySem.Spec PyProof.Rows L2
section
variable{X:Cx}{pins:List (Addr×Obj)}{σ:St}{H:Hp}{s:Shared}
theorem Mi(I:Inv X pins σ H s)(p:PyData):∀ {ds:List D} {vs:List V} {us:List Value} {ps:List PyData},bj X.K H ds vs->Vals vs us->jf (rF 4) ds=some ps->ps.length=us.length/\∀(m:Nat) u,us[m]?=some u->∃q,ps[m]?=some q/\v9 s.heap p u=PyData.eqv q p:=by
 intro ds vs us ps hr hv h
 induction hv generalizing ds ps with
 |nil=>
  cases hr
  cases h
  exact⟨rfl,fun _ _ z=>nomatch z⟩
 |cons q qs ih=>
  cases hr with
  |cons r rs=>
   obtain⟨p',ps',e1,e2,rfl⟩:=uB h
   obtain⟨⟨as,h1⟩,h2,h3⟩:=dF I 4 r q e1
   obtain⟨g1,g2⟩:=ih rs e2
   refine⟨by rw[List.length_cons,List.length_cons,g1],fun m u hu=>?_⟩
   cases m with
   |zero=>cases hu;exact⟨p',rfl,Hv h1 h2⟩
   |succ m=>exact g2 m u hu
theorem V4(hu:X.A.units+64<cLine):Kq X "list.index" (liftM X.K JR):=by
 intro pins s σ H x xs v us Q I rx rs h
 obtain⟨d,es,H3,Q3,hr,rd,rds,⟨a,y,ds,ps,p,q,j,⟨rfl,rfl,ha,ey,eds,hdl⟩,⟨hj,hq⟩,hno,t⟩,k⟩:=h
 cases rds with
 |cons r1 r2=>
  cases r2
  cases rd
  obtain⟨u,rfl,ru⟩:=Vals.one rs
  cases rx
  obtain⟨vs,ga,ra⟩:=hr a _ ha
  obtain⟨its,rv,pl,_⟩:=I.list (jm.of ga)
  obtain⟨_,g2⟩:=jH I p ra rv eds
  obtain⟨i1,i2⟩:=Mi I p ra rv eds
  have hjl:j<its.length:=by rw[←i1];exact (List.getElem?_eq_some_iff.mp hj).1
  have hil:its.length<=10000:=by rw[←rv.length,←ra.length];exact hdl
  obtain⟨⟨cls,dd,data,sl⟩,ho,hc,n,hd⟩:=id pl.isList
  simp only at hc hd
  subst hc hd
  refine call_meets PySem.F.slot_list_index ⟨_,ho,rfl⟩ PySem.F.entry_list_index (PySem.F.args_list_index_2 _ _) (SeqAt.list_indexAt a its.toArray n dd sl u (v9 s.heap p) j (by simpa using hjl) (by omega) ?_ ?_) ⟨ho,yt I (in1_units hu) r1 ru ey g2,.int j,H,I.tok _,⟨_,rfl⟩,k _ _ _ _ TK.refl hr (.int _) t⟩
  ·obtain⟨q',e1,e2⟩:=i2 j its[j] (List.getElem?_eq_getElem hjl)
   rw[hj] at e1
   cases e1
   simpa [e2] using hq
  ·intro m hm hmj
   have hm':m<its.length:=by simpa using hm
   obtain⟨q',e1,e2⟩:=i2 m its[m] (List.getElem?_eq_getElem hm')
   simpa [e2] using hno m q' hmj e1
end
end L3
namespace L3
open PySem L2
def muk(r:D->List D->aC->aM->Prop)(t:lN)(σ:bQ)(x:D)(H1:aC)(Q:aM):Prop:=match x with
 |.tup _=>t σ H1 fun xs H2=>r x xs H2 Q
 |_=>False
def mu3(r:D->List D->aC->aM->Prop)(to:aZ)(t:lN):aZ:=fun σ H Q=>to σ H fun x H1=>muk r t σ x H1 Q
theorem aeZ{r:D->List D->aC->aM->Prop}{to:aZ}{t:lN}{σ:bQ}{H:aC}{Q:aM}(h:to σ H fun x H1=>muk r t σ x H1 Q):mu3 r to t σ H Q:=h
theorem aeK{r:D->List D->aC->aM->Prop}{t:lN}{σ:bQ}{ds:List D}{H:aC}{Q:aM}(h:t σ H fun xs H2=>r (.tup ds) xs H2 Q):muk r t σ (.tup ds) H Q:=h
end L3
namespace L3
open PySem PySem.Spec PyProof.Rows L2
section
variable{X:Cx}{e:Expr}{es:List Expr}{o:Expr}{to:aZ}{t:lN}{name:Str}{apos cpos:Pos}{id:String}{r:D->List D->aC->aM->Prop}
end
end L3
namespace L3
open PySem L2
end L3
namespace L3
open PySem PySem.Spec PyProof.Rows L2
section
variable{X:Cx}
end
end L3
namespace L3
open PySem L2
end L3
namespace L3
open PySem PySem.Spec PyProof.Rows L2
section
variable{prog:Program}{w:World}{A:Around}{E:Value->Shared->Prop}{s:Shared}
end
section
variable{X:Cx}
end
section
variable{X:Cx}{e:Expr}{es:List Expr}{o:Expr}{to:aZ}{t:lN}{name:Str}{apos cpos:Pos}{id:String}{r:D->List D->aC->aM->Prop}
end
end L3
namespace L3
open PySem PySem.Spec PyProof.Rows L2
section
variable{prog:Program}{w:World}{A:Around}{E:Value->Shared->Prop}{s:Shared}{d it:Addr}{es:Array DictEntry}{ep i:Nat}
end
section
variable{X:Cx}
end
end L3
namespace L3
open PySem PySem.Spec PyProof.Rows L2
def Own(x0:Value):Prop:=x0=.none\/∃a:Nat,x0=rawInt a
section
variable{prog:Program}{w:World}{A:Around}{E:Value->Shared->Prop}{s:Shared}{d it:Addr}{es:Array DictEntry}{ep i n:Nat}{x0 x1 ok ov k v:Value}
end
end L3
namespace L3
open PySem PySem.Spec PyProof.Rows L2
section
variable{X:Cx}{pins:List (Addr×Obj)}{σ:L2.St}{H:Hp}{s:Shared}
structure ae8(X:Cx)(i:Nat)(x:Str)(p2 ap cp:Pos):Prop where
 n:X.N[i]?=some x
 v:Vis X.env.scope x
 d:(x==("__debug__" : Str))=false
 c:(x==("__classdict__" : Str))=false
 s:starEach [.Call (.Attribute (.Name x p2) "items" ap) [] [] cp] X.env=[(false,eval (.Call (.Attribute (.Name x p2) "items" ap) [] [] cp) X.env)]
 b:attributeBase (.Name x p2) "items" X.env (eval (.Name x p2) X.env)=eval (.Name x p2) X.env
 l:(ap.endLine==cp.line)=true
end
end L3
namespace L3
open PySem PySem.Spec PyProof.Rows L2
end L3
namespace L3
open PySem L2
end L3
namespace L3
open PySem PySem.Spec PyProof.Rows L2
section
variable{prog:Program}{w:World}{A:Around}{E:Value->Shared->Prop}{s:Shared}{d n:Addr}{es:Array DictEntry}{ep:Nat}
end
section
variable{X:Cx}
end
end L3
namespace L3
open PySem PySem.Spec PyProof.Rows L2
def Vec:Nat->(List Value->Prop)->Prop
 |0,P=>P []
 |n+1,P=>∀u,Vec n fun us=>P (u::us)
theorem Vec.row{P:List Value->Prop}:∀ {us:List Value},Vec us.length P->P us
 |[],h=>h
 |u::_,h=>Vec.row (P:=fun us=>P (u::us)) (h u)
def pO(x qual:Str)(st:Stmt)(ps:List Str):Prop:=∀(kV doc pm:Value) (an:Option Addr) (cdv ct:Value),
 Vec ps.length fun us=>bindArgs (PySem.W.fnOf x qual (aQ st) (aN st) (az st) .none kV doc pm an cdv ct) ⟨us,[]⟩=pure (ps.zip us)
theorem pO.of{K:PySem.W.Frag}{x qual:Str}{st:Stmt}{f:Addr}{fd:FuncData}{ps:List Str}(b:pO x qual st ps)(F:KY K x qual st f fd):Binds K fd ps [] :=
 F.binds fun kV doc pm an cdv ct _ e=>Vec.row (e▸b kV doc pm an cdv ct)
inductive bG(K:PySem.W.Frag)(mg:Str->Option Value)(x:Str)(st:Stmt)(ps:List Str):Prop
 |mk {f:Addr} {fd:FuncData} (F:KY K x x st f fd) (hm:mg x=some (.ref f)) (hb:Binds K fd ps [])
inductive aeQ(K:PySem.W.Frag)(c m qual:Str)(st:Stmt)(ps:List Str):Prop
 |mk {C f:Addr} {fd:FuncData} (hC:PySem.W.nsIn K mainGlobals c=some (some (.ref C))) (cl:Cls K C) (hm:Meth K C m f) (F:KY K m qual st f fd) (hb:Binds K fd ps [])
inductive aeU(K:PySem.W.Frag)(mg:Str->Option Value)(c qual:Str)(st:Stmt)(ps:List Str):Prop
 |mk {C f:Addr} {fd:FuncData} (hC:PySem.W.nsIn K mainGlobals c=some (some (.ref C))) (hg:mg c=some (.ref C)) (hm:Mk K C f) (F:KY K "__init__" qual st f fd) (hb:Binds K fd ps [])
inductive aeX(K:PySem.W.Frag)(mg:Str->Option Value)(c m qual:Str)(st:Stmt)(ps:List Str):Prop
 |mk {C f:Addr} {fd:FuncData} {mc:Value} (h1:mg c=some (.ref C)) (h2:PySem.W.specialIn K (.ref C) "__getattribute__" = some (some (.builtin "type.__getattribute__"))) (h3:PySem.W.readsIn K C mc=true)
  (h4:PySem.W.findCls K (.ref C) mc m=some (.val (.ref f))) (h5:PySem.W.handedIn (.ref f)=true) (F:KY K m qual st f fd) (hb:Binds K fd ps [])
section
variable{P:Program}{w:World}{K:PySem.W.Frag}{mg:Str->Option Value}{base h:Heap}{x qual c m:Str}{st:Stmt}{f C:Addr}{fd:FuncData}{N ps:List Str}{k:Nat}{sp:gA}{se:Ga}{t:cO}{te:ur->cO}
theorem cJ{oc:Value}{od an:Option Addr}{osl:Array (Option Value)}{kV doc pm cdv ct:Value}(X:K.In h)(G:h.Ns mainGlobals mg)(a:PySem.W.nsIn K mainGlobals x=some (some (.ref f)))
  (l:K.lookup f=some ⟨oc,od,.func (PySem.W.fnOf x x (aQ st) (aN st) (az st) .none kV doc pm an cdv ct),osl⟩) (d:PySem.W.codeIn K cdv x=true) (q:PySem.W.keepIn K (.ref f)=true) (b:pO x x st ps):bG K mg x st ps :=
 ⟨Jp l d q,PySem.W.mg_of X G a,b.of (Jp l d q)⟩
theorem gr(q:bG K mg x st ps)(S:aU N ps (az st))(len:∀ds H Q,sp ds H Q->ds.length=ps.length)
  (hbody:∀(f:Addr) (cdv:Value) (A:Around) (outer:List Env) (s:Shared) (H:Hp) (E:XK),fH k (A.deeper (envOfC x (az st) s.heap.objs.size f cdv))->v8 (uY yR P w K mg base N x (az st) f cdv A outer s H E).Pj (aN st) t)
  (rd:∀ds H3 Q3,sp ds H3 Q3->t (dJ Q3) (aH N ds) H3):Fn P w K mg base (k+1) x ps sp:=by
 cases q with
 |mk F hm hb=>exact fn3 F S hm hb len fun cdv A outer s H E hr=>⟨t,hbody _ cdv A outer s H E hr,rd⟩
end
end L3
namespace L3
open PySem PySem.W PySem.Spec PyProof.Rows
end L3
namespace L3
open PySem PySem.W PySem.Spec PyProof.Rows
end L3
namespace Law
open PySem PySem.Spec PyProof.Rows L2 L3
set_option maxHeartbeats 8000000
abbrev uL:List Str:=["cell"]
abbrev jD:List Str:=["cell"]
abbrev rD:List Str:=["some"]
abbrev iw:List Str:=["some"]
abbrev wI:List Str:=["one", "other"]
abbrev pX:List Str:=["one", "other"]
abbrev xr:List Str:=["pair", "k", "x", "y", "quarters"]
abbrev lO:List Str:=["pair", "k"]
abbrev gR:List Str:=["piece", "k"]
abbrev dw:List Str:=["piece", "k"]
abbrev mW:List Str:=["corner", "word", "corners", "letter"]
abbrev eQ:List Str:=["corner", "word"]
abbrev yg:List Str:=["word"]
abbrev lQ:List Str:=["word"]
abbrev lD:List Str:=["word"]
abbrev gm:List Str:=["word"]
abbrev fO:List Str:=["letter", "k", "step"]
abbrev cX:List Str:=["letter", "k"]
abbrev iJ:List Str:=["word", "k"]
abbrev dW:List Str:=["word", "k"]
abbrev rB:List Str:=["word", "place"]
abbrev il:List Str:=["word", "place"]
abbrev uE:List Str:=["word", "area", "corner", "letter"]
abbrev jC:List Str:=["word"]
abbrev qK:List Str:=["cell", "x", "y"]
abbrev iy:List Str:=["cell"]
abbrev eZ:List Str:=["piece", "letters", "cell", "side"]
abbrev bO:List Str:=["piece"]
abbrev oU:List Str:=["piece", "letters", "start", "word", "corner", "letter"]
abbrev gf:List Str:=["piece"]
abbrev iZ:List Str:=["word", "place", "letter"]
abbrev cY:List Str:=["word"]
abbrev gK:List Str:=["word", "corners", "seen", "place", "corner"]
abbrev bY:List Str:=["word"]
abbrev jc:List Str:=["corner", "word", "rows", "here", "letter"]
abbrev cV:List Str:=["corner", "word"]
abbrev gD:List Str:=["corner", "word", "rows", "cells", "y", "xs", "k"]
abbrev dH:List Str:=["corner", "word"]
abbrev pJ:List Str:=["corner", "word", "way", "area"]
abbrev gj:List Str:=["corner", "word"]
abbrev ph:List Str:=["_law_script", "_law_k"]
abbrev gn:List Str:=["_law_script", "_law_k"]
abbrev rG:List Str:=["_law_cell", "_law_other"]
abbrev ir:List Str:=["_law_cell", "_law_other"]
abbrev yc:List Str:=["_law_letter"]
abbrev lX:List Str:=["_law_letter"]
abbrev vh:List Str:=["_law_found"]
abbrev jA:List Str:=["_law_found"]
abbrev xP:List Str:=["_law_found", "_law_due"]
abbrev lZ:List Str:=["_law_found", "_law_due"]
abbrev iz:List Str:=["_law_cells", "_law_east", "_law_west", "_law_north", "_law_south", "_law_met", "_law_known", "_law_cell", "_law_at", "_law_step_here", "_law_new"]
abbrev jE:List Str:=["_law_cells"]
abbrev vp:List Str:=["_law_script", "_law_at", "_law_many", "_law_cells", "_law_k", "_law_cell", "_law_x", "_law_y", "_law_turn", "_law_step_here", "_law_new"]
abbrev jz:List Str:=["_law_script", "_law_at", "_law_many"]
abbrev pW:List Str:=["_law_cells", "_law_shift", "_law_moved_cells"]
abbrev jF:List Str:=["_law_cells", "_law_shift"]
abbrev jn:List Str:=["_law_found", "_law_due"]
abbrev eN:List Str:=["_law_found", "_law_due"]
abbrev qZ:List Str:=["_law_pair_here", "_law_k", "_law_x", "_law_y"]
abbrev ig:List Str:=["_law_pair_here", "_law_k"]
abbrev b8:List Str:=["_law_corner_here", "_law_k", "_law_x", "_law_y", "_law_square"]
abbrev bZ:List Str:=["_law_corner_here", "_law_k"]
abbrev Ke:List Str:=["_law_script", "_law_cells", "_law_piece_here", "_law_k", "_law_corner_here", "_law_word", "_law_other", "_law_first", "_law_found", "_law_corners"]
abbrev Q0:List Str:=["_law_script"]
def gC:List (Str×D):=[("e",.ktup (([1,0]:List Int).map D.int)),("n",.ktup (([0,1]:List Int).map D.int)),("w",.ktup (([-1,0]:List Int).map D.int)),("s",.ktup (([0,-1]:List Int).map D.int))]
def o6:List (Str×D):=[("e",.str "w"),("n",.str "s"),("w",.str "e"),("s",.str "n")]
local macro_rules | `(tactic| walk_at "l3h")=>`(tactic| first
 |with_reducible exact aB
 |assumption
 |exact aX (by walk_at "l3h") (by assumption))
local macro_rules | `(tactic| walk_at "l3a")=>`(tactic| first
 |with_reducible assumption
 |decide
 |omega
 |exact⟨by decide,by decide⟩
 |exact Or.inl ⟨by decide,by decide⟩
 |exact Or.inr ⟨by decide,by decide⟩
 |exact⟨by decide,by decide,by decide⟩
 |exact Or.inl ⟨by omega,by omega⟩
 |exact Or.inr ⟨by omega,by omega⟩
 |exact⟨by omega,by omega⟩)
local macro_rules | `(tactic| walk_at "l3b")=>`(tactic| first
 |with_reducible assumption
 |((with_reducible show Bt _ (_+_));exact Bt.add (by walk_at "l3b") (by walk_at "l3b"))
 |((with_reducible show Bt _ (_-_));exact Bt.sub (by walk_at "l3b") (by walk_at "l3b"))
 |((with_reducible show Bt _ (_*_));exact Bt.mul (by walk_at "l3b") (by walk_at "l3b"))
 |((with_reducible show Bt _ (-_));exact Bt.neg (by walk_at "l3b"))
 |((with_reducible show Bt _ (_ / _));exact Bt.div (by walk_at "l3b"))
 |exact Bt.lit (n:=64) (by decide)
 |exact Bt.lit (n:=256) (by decide))
local macro_rules | `(tactic| walk_at "l3w")=>`(tactic| first
 |((with_reducible show TV _ _);exact And.intro (by walk_at "l3a") (Bt.mono (by walk_at "l3b") (by decide)))
 |exact Or.inl (by walk_at "l3a")
 |exact vI.of (by walk_at "l3b") (by walk_at "l3b") (by decide))
local macro_rules | `(tactic| walk_at "l3s")=>`(tactic| first
 |with_reducible refine adA ?_
 |((with_reducible show v3 _ _ _ _);refine ZD rfl ?_)
 |(with_reducible first | refine aad ?_ | refine Yo ?_ | refine adu ?_)
 |((fail_if_success (with_reducible show dj.nx (dJ _) _ _));(with_reducible refine ad0 ?_);(try dsimp only[List.set_cons_zero,List.set_cons_succ]))
 |(with_reducible first | refine acp ?_ | refine I9 ?_ | refine Xj ?_ | refine acw ?_ | refine acB ?_ | refine acS ?_ | refine aam ?_)
 |with_reducible refine aaQ ?_
 |((with_reducible show List.length _<=1000/\_);refine aaz rfl ?_)
 |(with_reducible first | refine abO ?_ | refine aaD ?_ | refine abN ?_ | refine abw ?_ | refine abI ?_ | refine ab0 ?_ | refine adm ?_ | refine adS ?_ | refine ad8 ?_ | refine adb ?_ | refine ab1 ?_ | refine adx ?_)
 |((with_reducible show pH _ _ _ _);refine Sh (by walk_at "l3w") ?_)
 |((with_reducible show pI _ _ _ _);refine ZF (by walk_at "l3w") ?_)
 |((with_reducible show jL _ _ _ _);refine Xa (by walk_at "l3a") ?_)
 |((with_reducible show Av _ _ _ _);refine aaq (by walk_at "l3a") ?_)
 |((with_reducible show bB (D.tup _) (D.int _) _ _);refine Kf rfl ?_)
 |(with_reducible first | refine acU ?_ | refine adZ ?_ | refine acT ?_ | refine ad7 ?_ | refine abi ?_ | refine aef ?_ | refine aaW ?_ | refine adX ?_ | refine ZJ ?_ | refine Yi ?_)
 |((with_reducible show g8 [D.ref _] _ _);refine Yb (by walk_at "l3h") ?_)
 |((with_reducible show jq [D.ref _] _ _);refine YW (by walk_at "l3h") ?_)
 |(with_reducible first | refine ac4 ?_ | refine adz ?_ | refine ad4 ?_ | refine abQ ?_)
 |((with_reducible show Et (D.ref _) _ _ _ _);refine aba (by walk_at "l3h") ?_)
 |(with_reducible first | refine aby ?_ | refine abz ?_ | refine acZ ?_ | refine adT ?_)
 |((with_reducible refine acC ?_);(try dsimp only[List.set_cons_zero,List.set_cons_succ]))
 |((with_reducible refine acV ?_);(try dsimp only[List.set_cons_zero,List.set_cons_succ]))
 |(with_reducible first | refine adR ?_ | refine ac3 ?_ | refine aaN ?_ | refine abf ?_ | refine abC ?_ | refine abK ?_ | refine abo ?_ | refine aau ?_ | refine abn ?_ | refine acI ?_)
 |((with_reducible show ilk (D.ref _) _ _);refine Xf (by walk_at "l3h") ?_)
 |(with_reducible first | refine ach ?_ | refine aaY ?_)
 |((with_reducible show Xi _ _ _ _ _ _);refine adD rfl ?_)
 |(with_reducible first | refine Yr ?_ | refine YS ?_ | refine abV ?_ | refine abt ?_ | refine acD ?_ | refine aa1 ?_ | refine abZ ?_)
 |((with_reducible show bB (D.ktup _) (D.int _) _ _);refine aaR rfl ?_)
 |(with_reducible first | refine abe ?_ | refine aaX ?_)
 |(with_reducible first | refine aaB ?_ | refine ad6 ?_ | refine aaM ?_ | refine acz ?_ | refine aaj ?_ | refine adh ?_)
 |((with_reducible show mtk _ _ _ (D.ref _) _ _);refine Ka (by walk_at "l3h") ?_)
 |(with_reducible first | refine ad1 ?_ | refine ado ?_ | refine adO ?_ | refine aaA ?_ | refine aaC ?_ | refine abE ?_ | refine aa8 ?_ | refine aaZ ?_ | refine aeb ?_ | refine aec ?_ | refine aav ?_ | refine adC ?_)
 |((with_reducible show qC [_,D.ty _] _ _);refine ab4 rfl (by simp[kinds]) ?_)
 |walk_at "l3c")
local macro_rules | `(tactic| walk_at "l3")=>`(tactic| repeat walk_at "l3s")
abbrev Lt:=Fin 4
def cp(l:Lt):Nat:=match l with
 |0=>101
 |1=>110
 |2=>119
 |3=>115
def step(l:Lt):Pt:=match l with
 |0=>(1,0)
 |1=>(0,1)
 |2=>(-1,0)
 |3=>(0,-1)
def nQ(l:Lt):Str:=⟨#[cp l]⟩
def bw(ls:List Lt):Str:=⟨(ls.map cp).toArray⟩
theorem uv(ls:List Lt):lets (bw ls)=ls.map fun l=>D.str (nQ l):=by
 unfold lets bw nQ;rw[List.toList_toArray,List.map_map];rfl
theorem fG(ls:List Lt):(bw ls).length=ls.length:=by
 show (ls.map cp).toArray.size=_;rw[List.size_toArray,List.length_map]
theorem ZX:∀ {a b:Lt},cp a=cp b->a=b:=by decide
theorem Qg{as bs:List Lt}(h:bw as=bw bs):as=bs:=by
 have e:as.map cp=bs.map cp:=by
  have:=congrArg (fun z:Str=>z.cps.toList) h
  simpa [bw] using this
 exact (List.map_inj_right fun a b hab=>ZX hab).mp e
def rQ(s p:Pt):Pt:=(p.1+s.1,p.2+s.2)
def cM(c:Pt)(ls:List Lt):Pt:=ls.foldl (fun p l=>rQ (step l) p) c
def path(c:Pt)(ls:List Lt):List Pt:=(List.range (ls.length+1)).map fun i=>cM c (ls.take i)
theorem Ag(c:Pt)(ls:List Lt)(l:Lt):cM c (ls++[l])=rQ (step l) (cM c ls):=by unfold cM;rw[List.foldl_append];rfl
theorem t8(c:Pt)(ls:List Lt):(path c ls).length=ls.length+1:=by unfold path;simp
theorem M5(c:Pt)(ls:List Lt)(l:Lt):path c (ls++[l])=path c ls++[rQ (step l) (cM c ls)]:=by
 unfold path
 rw[List.length_append,List.length_singleton,List.range_succ (n:=ls.length+1),List.map_append]
 congr 1
 ·refine List.map_congr_left fun i hi=>?_
  rw[List.mem_range] at hi
  rw[List.take_append_of_le_length (by omega)]
 ·rw[List.map_singleton,List.take_of_length_le (by simp),Ag]
theorem yj(c:Pt)(ls:List Lt)(i:Nat):(path c ls)[i]?=if i<=ls.length then some (cM c (ls.take i)) else none:=by
 unfold path
 rw[List.getElem?_map]
 split
 ·rw[List.getElem?_range (by omega)];rfl
 ·rw[List.getElem?_eq_none (by rw[List.length_range];omega)];rfl
theorem zW(c:Pt)(ls:List Lt):pU ((path c ls).map bN) (-1)=some (.tup [.int (cM c ls).1,.int (cM c ls).2]):=by
 unfold pU Pq
 rw[List.length_map,t8,if_neg (by omega),if_pos (by omega),Option.bind_some,List.getElem?_map,show (-1+((ls.length+1:Nat):Int)).toNat=ls.length from by omega,yj,if_pos (Nat.le_refl _),List.take_length]
 rfl
theorem oG(as bs:List Lt):bw as++bw bs=bw (as++bs):=by
 show (⟨(as.map cp).toArray++(bs.map cp).toArray⟩:Str)=⟨_⟩
 congr 1
 rw[List.map_append];simp
theorem Yp{y z:Str}{H:aC}{Q:aM}(hl:y.length+z.length<=sizeLine)(q:Q (.str (y++z)) H):cu (.str y) (.str z) H Q:=⟨hl,q⟩
theorem abW{z:Str}{i:Int}{c:Nat}{H:aC}{Q:aM}(hz:z.length<=sizeLine)(h:pU z.cps.toList i=some c)(q:Q (.str ⟨#[c]⟩) H):bB (.str z) (.int i) H Q:=by
 simp only[bB,h];exact⟨hz,q⟩
theorem Ry(l:Lt):cp l<0x110000:=by revert l;decide
theorem VL(ls:List Lt):PyData.strOk (bw ls)=true:=by
 show (ls.map cp).toArray.all (· < 0x110000)=true
 rw[List.all_toArray,List.all_map,List.all_eq_true]
 intro l _
 exact decide_eq_true (Ry l)
theorem aap(H:aC)(ls:List Lt):Iz H (.str (bw ls))=some (.str (bw ls)):=by
 show (if PyData.strOk (bw ls)=true then some (PyData.str (bw ls)) else none)=_
 rw[if_pos (VL ls)]
theorem abD(as bs:List Lt):PyData.eqv (.str (bw as)) (.str (bw bs))=decide (as=bs):=by
 simp only[PyData.eqv]
 by_cases h:as=bs
 ·subst h;simp
 ·rw[decide_eq_false h]
  exact beq_eq_false_iff_ne.mpr fun z=>h (Qg z)
theorem Gk{as bs:List Lt}{H:aC}{Q:aM}(q:Q (.bl (decide (as=bs))) H):fL (.str (bw as)) (.str (bw bs)) H Q:=by
 simp only[fL,aap,abD];exact q
def opp(l:Lt):Lt:=match l with
 |0=>2
 |1=>3
 |2=>0
 |3=>1
def bk(ls:List Lt):List Lt:=(ls.map opp).reverse
theorem Q9(ls:List Lt):(bk ls).length=ls.length:=by unfold bk;rw[List.length_reverse,List.length_map]
theorem PN{ls:List Lt}{a:Addr}{H:aC}{Q:aM}(ha:H a=some (.lst (ls.map fun l=>D.str (nQ l))))(hl:ls.length<=1000)(q:Q (.str (bw ls)) H):qO (.str (Str.ofString "")) [.ref a] H Q:=by
 have ej:vJ (Str.ofString "") (ls.map nQ)=bw ls:=by
  have:=HY (z:=Str.ofString "") rfl (ls.map cp)
  rw[List.map_map] at this
  exact this
 refine Zh (ys:=ls.map nQ) (by rw[ha,List.map_map];rfl) ?_ (by rw[ej];exact q)
 rw[List.map_map,List.length_map]
 have:(ls.map ((fun y:Str=>y.cps.size)∘nQ)).sum=ls.length:=by
  rw[show ((fun y:Str=>y.cps.size)∘nQ)=fun _=>1 from rfl,List.map_const',List.sum_replicate_nat];omega
 rw[this,show (Str.ofString "").cps.size=0 from rfl]
 omega
theorem wu(ls:List Lt)(h:ls.length<=1000):(bw ls).length<=sizeLine:=by rw[fG,cL];omega
theorem Ah{α β:Type}(xs:List α)(f:α->β)(lo hi:Option Int):p8 (xs.map f) lo hi=(p8 xs lo hi).map f:=by
 unfold p8
 rw[List.length_map,←List.map_drop,←List.map_take]
theorem Ri(ls:List Lt)(n:Nat):zK (bw ls) none (some (n:Int))=bw (ls.take n):=by
 unfold zK bw
 rw[List.toList_toArray,Ah]
 congr 2
 unfold p8 HT.uH
 simp only[]
 rw[if_neg (by omega),Int.toNat_natCast,List.drop_zero,Nat.sub_zero]
 by_cases h:n<=ls.length
 ·rw[Nat.min_eq_left h]
 ·rw[Nat.min_eq_right (by omega),List.take_length,List.take_of_length_le (by omega)]
theorem RJ(ls:List Lt)(n:Nat):zK (bw ls) (some (n:Int)) none=bw (ls.drop n):=by
 unfold zK bw
 rw[List.toList_toArray,Ah]
 congr 2
 unfold p8 HT.uH
 simp only[]
 rw[if_neg (by omega),Int.toNat_natCast]
 by_cases h:n<=ls.length
 ·rw[Nat.min_eq_left h,List.take_of_length_le (by rw[List.length_drop];exact Nat.le_refl _)]
 ·rw[Nat.min_eq_right (by omega),List.drop_length,List.drop_of_length_le (by omega)];simp
def jw(k:Int)(p:Pt):Pt :=
 let x':=if 4<=k then -p.1 else p.1
 if k%4=1 then (-p.2,x') else if k%4=2 then (-x',-p.2) else if k%4=3 then (p.2,-x') else (x',p.2)
def rot(q:Nat)(l:Lt):Lt:=match q with
 |0=>l
 |1=>l+1
 |2=>l+2
 |_=>l+3
def mir(l:Lt):Lt:=match l with
 |0=>2
 |1=>1
 |2=>0
 |3=>3
def tl(k:Int)(l:Lt):Lt:=rot (k%4).toNat (if 4<=k then mir l else l)
theorem k8{k:Int}(h0:0<=k)(h1:k<8):k=0\/k=1\/k=2\/k=3\/k=4\/k=5\/k=6\/k=7:=by
 obtain⟨n,rfl⟩:=Int.eq_ofNat_of_zero_le h0
 have:∀n:Fin 8,((n.val:Nat):Int)=0\/((n.val:Nat):Int)=1\/((n.val:Nat):Int)=2\/((n.val:Nat):Int)=3\/((n.val:Nat):Int)=4\/((n.val:Nat):Int)=5\/((n.val:Nat):Int)=6\/((n.val:Nat):Int)=7:=by decide
 exact this ⟨n,Int.ofNat_lt.mp h1⟩
theorem UG{k:Int}(h0:0<=k)(h1:k<8)(l:Lt):step (tl k l)=jw k (step l):=by
 rcases k8 h0 h1 with rfl | rfl | rfl | rfl | rfl | rfl | rfl | rfl <;> (match l with | 0=>rfl | 1=>rfl | 2=>rfl | 3=>rfl)
theorem Ng(m:Lt):(([0,1,2,3]:List Lt).filter fun a=>decide (step a=step m))=[m]:=by
 match m with
 |0=>rfl
 |1=>rfl
 |2=>rfl
 |3=>rfl
theorem Yc{a b c d:Int}{H:aC}{Q:aM}(q:Q (.bl (decide ((a,b)=(c,d)))) H):fL (.ktup [.int a,.int b]) (.tup [.int c,.int d]) H Q:=by
 have e:(PyData.eqvAll [.int a,.int b] [.int c,.int d])=decide ((a,b)=(c,d)):=by
  simp only[PyData.eqvAll,PyData.eqv,Bool.and_true,Prod.mk.injEq,Bool.decide_and];rfl
 simp only[fL,Iz,rF,jf,Option.map_some,PyData.eqv,e];exact q
def beg(ls:List Lt)(n:Nat):List Lt:=ls.drop n++ls.take n
theorem Yd{ls:List Lt}{H:aC}{Q:aM}(hl:ls.length<=1000)(q:Q (.int ls.length) H):g8 [.str (bw ls)] H Q:=⟨wu ls hl,by rw[fG];exact q⟩
def stp:Nat->Pt
 |0=>(1,0)
 |1=>(0,1)
 |2=>(-1,0)
 |_=>(0,-1)
def rT(p:Pt):Nat->Pt
 |0=>(p.1,p.2)
 |1=>(p.1-1,p.2)
 |2=>(p.1-1,p.2-1)
 |_=>(p.1,p.2-1)
def qu(p:Pt):Nat->Pt
 |0=>(p.1,p.2-1)
 |1=>(p.1,p.2)
 |2=>(p.1-1,p.2)
 |_=>(p.1-1,p.2-1)
def oA(p:Pt)(d:Nat):Pt:=(p.1+(stp d).1,p.2+(stp d).2)
structure gY(S:List Pt)(p:Pt)(d:Nat):Prop where
 lt:d<4
 l:rT p d∈S
 r:qu p d∉S
inductive kY(R:Pt->Pt->Prop)(p:Pt):Pt->Prop where
 |refl:kY R p p
 |step {q r:Pt}:kY R p q->R q r->kY R p r
theorem kY.trans{R:Pt->Pt->Prop}{p q r:Pt}(h:kY R p q)(g:kY R q r):kY R p r:=by
 induction g with
 |refl=>exact h
 |step _ s ih=>exact .step ih s
theorem kY.one{R:Pt->Pt->Prop}{p q:Pt}(h:R p q):kY R p q:=.step .refl h
def RS(S:List Pt)(p q:Pt):Prop:=∃d,gY S p d/\q=oA p d
def kW(S:List Pt)(p:Pt):Prop:=∃d,gY S p d
theorem swap{R R':Pt->Pt->Prop}{C C' I:Pt->Prop}{a b:Pt}(h1:kY R' a b)(h2:∀p q,R p q->(R' p q/\¬I p/\¬I q)\/((p=a\/I p)/\(q=b\/I q)))(ha:¬I a)(hb:¬I b)
  (h4:∀q,C' q->¬I q/\(C q\/(kY R' a q/\kY R' q b))) (ca:C a) (cb:C b) (hS:∀p q,C p->C q->kY R p q):∀p q,C' p->C' q->kY R' p q:=by
 have A:∀p q,¬I p->kY R p q->(¬I q/\kY R' p q)\/(I q/\kY R' p a):=by
  intro p q hp h
  induction h with
  |refl=>exact .inl ⟨hp,.refl⟩
  |@step q r _ s ih=>
   rcases h2 q r s with ⟨s1,s2,s3⟩ | ⟨s1,s2⟩
   ·rcases ih with ⟨_,i⟩ | ⟨i,_⟩
    ·exact .inl ⟨s3,.step i s1⟩
    ·exact absurd i s2
   ·have pa:kY R' p a:=by
     rcases ih with ⟨i1,i2⟩ | ⟨_,i⟩
     ·rcases s1 with rfl | s1
      ·exact i2
      ·exact absurd s1 i1
     ·exact i
    rcases s2 with rfl | s2
    ·exact .inl ⟨hb,pa.trans h1⟩
    ·exact .inr ⟨s2,pa⟩
 have B:∀p q,C p->C q->¬I p->¬I q->kY R' p q:=fun p q cp cq np nq=>by
  rcases A p q np (hS p q cp cq) with z | z
  ·exact z.2
  ·exact absurd z.1 nq
 intro p q cp cq
 obtain⟨np,zp⟩:=h4 p cp
 obtain⟨nq,zq⟩:=h4 q cq
 have D:∀p,C p->¬I p->kY R' p q:=fun p cp np=>by
  rcases zq with zq | zq
  ·exact B p q cp zq np nq
  ·exact (B p a cp ca np ha).trans zq.1
 rcases zp with zp | zp
 ·exact D p zp np
 ·exact zp.2.trans (D b cb hb)
def bz:Nat->Nat
 |0=>1
 |1=>2
 |2=>3
 |_=>0
def nb(c:Pt)(j:Nat):Pt:=(c.1+(stp j).1,c.2+(stp j).2)
def bU(c:Pt):Nat->Pt
 |0=>(c.1+1,c.2)
 |1=>(c.1+1,c.2+1)
 |2=>(c.1,c.2+1)
 |_=>(c.1,c.2)
def Fv(c:Pt):Nat->Pt
 |0=>(c.1+1,c.2+1)
 |1=>(c.1-1,c.2+1)
 |2=>(c.1-1,c.2-1)
 |_=>(c.1+1,c.2-1)
theorem Ci:stp 0=(1,0):=rfl
theorem BZ:stp 1=(0,1):=rfl
theorem Bp:stp 2=(-1,0):=rfl
theorem zH:stp 3=(0,-1):=rfl
theorem FT:bz 0=1:=rfl
theorem Ei:bz 1=2:=rfl
theorem Ej:bz 2=3:=rfl
theorem Ex:bz 3=0:=rfl
theorem CJ(p:Pt):rT p 0=(p.1,p.2):=rfl
theorem zF(p:Pt):rT p 1=(p.1-1,p.2):=rfl
theorem Df(p:Pt):rT p 2=(p.1-1,p.2-1):=rfl
theorem zx(p:Pt):rT p 3=(p.1,p.2-1):=rfl
theorem yl(p:Pt):qu p 0=(p.1,p.2-1):=rfl
theorem BL(p:Pt):qu p 1=(p.1,p.2):=rfl
theorem Ey(p:Pt):qu p 2=(p.1-1,p.2):=rfl
theorem Cg(p:Pt):qu p 3=(p.1-1,p.2-1):=rfl
theorem Xp(p:Pt):bU p 0=(p.1+1,p.2):=rfl
theorem Zi(p:Pt):bU p 1=(p.1+1,p.2+1):=rfl
theorem YX(p:Pt):bU p 2=(p.1,p.2+1):=rfl
theorem ZQ(p:Pt):bU p 3=(p.1,p.2):=rfl
theorem Xr(p:Pt):Fv p 0=(p.1+1,p.2+1):=rfl
theorem XC(p:Pt):Fv p 1=(p.1-1,p.2+1):=rfl
theorem Z6(p:Pt):Fv p 2=(p.1-1,p.2-1):=rfl
theorem Xx(p:Pt):Fv p 3=(p.1+1,p.2-1):=rfl
local macro_rules | `(tactic| walk_at "pp")=>`(tactic| (refine Prod.ext ?_ ?_;all_goals (simp only[Ci,BZ,Bp,zH,FT,Ei,Ej,Ex,CJ,zF,Df,zx,yl,BL,Ey,Cg,Xp,Zi,YX,ZQ,Xr,XC,Z6,Xx,nb,oA];try omega)))
theorem c4{j:Nat}(h:j<4):j=0\/j=1\/j=2\/j=3:=(by decide:∀j:Fin 4,j.val=0\/j.val=1\/j.val=2\/j.val=3) ⟨j,h⟩
section
variable{S T:List Pt}{c p:Pt}{d j:Nat}
theorem dN:bz j<4:=by unfold bz;split <;> omega
theorem abR(hd:d<4)(h:qu p d=c):∃j,j<4/\p=bU c (bz j)/\oA p d=bU c j/\rT p d=nb c j:=by
 subst h
 rcases c4 hd with rfl | rfl | rfl | rfl
 ·exact⟨1,by omega,by walk_at "pp",by walk_at "pp",by walk_at "pp"⟩
 ·exact⟨2,by omega,by walk_at "pp",by walk_at "pp",by walk_at "pp"⟩
 ·exact⟨3,by omega,by walk_at "pp",by walk_at "pp",by walk_at "pp"⟩
 ·exact⟨0,by omega,by walk_at "pp",by walk_at "pp",by walk_at "pp"⟩
theorem abh(hd:d<4)(h:rT p d=c):∃j,j<4/\p=bU c j/\oA p d=bU c (bz j)/\qu p d=nb c j:=by
 subst h
 rcases c4 hd with rfl | rfl | rfl | rfl
 ·exact⟨3,by omega,by walk_at "pp",by walk_at "pp",by walk_at "pp"⟩
 ·exact⟨0,by omega,by walk_at "pp",by walk_at "pp",by walk_at "pp"⟩
 ·exact⟨1,by omega,by walk_at "pp",by walk_at "pp",by walk_at "pp"⟩
 ·exact⟨2,by omega,by walk_at "pp",by walk_at "pp",by walk_at "pp"⟩
theorem Wk(hj:j<4):∃d,d<4/\rT (bU c j) d=c/\qu (bU c j) d=nb c j/\oA (bU c j) d=bU c (bz j):=by
 rcases c4 hj with rfl | rfl | rfl | rfl
 ·exact⟨1,by omega,by walk_at "pp",by walk_at "pp",by walk_at "pp"⟩
 ·exact⟨2,by omega,by walk_at "pp",by walk_at "pp",by walk_at "pp"⟩
 ·exact⟨3,by omega,by walk_at "pp",by walk_at "pp",by walk_at "pp"⟩
 ·exact⟨0,by omega,by walk_at "pp",by walk_at "pp",by walk_at "pp"⟩
theorem Tz(hj:j<4):∃d,d<4/\rT (bU c (bz j)) d=nb c j/\qu (bU c (bz j)) d=c/\oA (bU c (bz j)) d=bU c j:=by
 rcases c4 hj with rfl | rfl | rfl | rfl
 ·exact⟨3,by omega,by walk_at "pp",by walk_at "pp",by walk_at "pp"⟩
 ·exact⟨0,by omega,by walk_at "pp",by walk_at "pp",by walk_at "pp"⟩
 ·exact⟨1,by omega,by walk_at "pp",by walk_at "pp",by walk_at "pp"⟩
 ·exact⟨2,by omega,by walk_at "pp",by walk_at "pp",by walk_at "pp"⟩
def Meet(p q:Pt):Prop:=q=(p.1,p.2)\/q=(p.1-1,p.2)\/q=(p.1-1,p.2-1)\/q=(p.1,p.2-1)
theorem Gx(hd:d<4):Meet p (qu p d):=by
 rcases c4 hd with rfl | rfl | rfl | rfl
 ·exact .inr (.inr (.inr rfl))
 ·exact .inl rfl
 ·exact .inr (.inl rfl)
 ·exact .inr (.inr (.inl rfl))
theorem Kc(hd:d<4):Meet (oA p d) (qu p d):=by
 rcases c4 hd with rfl | rfl | rfl | rfl
 ·exact .inr (.inr (.inl (by walk_at "pp")))
 ·exact .inr (.inr (.inr (by walk_at "pp")))
 ·exact .inl (by walk_at "pp")
 ·exact .inr (.inl (by walk_at "pp"))
theorem Rc(hj:j<4){q:Pt}(h:Meet (bU c (bz j)) q):q=c\/q=nb c j\/q=nb c (bz j)\/q=Fv c j:=by
 rcases c4 hj with rfl | rfl | rfl | rfl
 ·rcases h with rfl | rfl | rfl | rfl
  ·exact .inr (.inr (.inr (by walk_at "pp")))
  ·exact .inr (.inr (.inl (by walk_at "pp")))
  ·exact .inl (by walk_at "pp")
  ·exact .inr (.inl (by walk_at "pp"))
 ·rcases h with rfl | rfl | rfl | rfl
  ·exact .inr (.inl (by walk_at "pp"))
  ·exact .inr (.inr (.inr (by walk_at "pp")))
  ·exact .inr (.inr (.inl (by walk_at "pp")))
  ·exact .inl (by walk_at "pp")
 ·rcases h with rfl | rfl | rfl | rfl
  ·exact .inl (by walk_at "pp")
  ·exact .inr (.inl (by walk_at "pp"))
  ·exact .inr (.inr (.inr (by walk_at "pp")))
  ·exact .inr (.inr (.inl (by walk_at "pp")))
 ·rcases h with rfl | rfl | rfl | rfl
  ·exact .inr (.inr (.inl (by walk_at "pp")))
  ·exact .inl (by walk_at "pp")
  ·exact .inr (.inl (by walk_at "pp"))
  ·exact .inr (.inr (.inr (by walk_at "pp")))
theorem LK{i:Nat}(hi:i<4)(hj:j<4)(h:bU c i=bU c j):i=j:=by
 have h1:=congrArg Prod.fst h
 have h2:=congrArg Prod.snd h
 rcases c4 hi with rfl | rfl | rfl | rfl <;> rcases c4 hj with rfl | rfl | rfl | rfl <;> simp only[Xp,Zi,YX,ZQ] at h1 h2 <;> omega
end
section
variable{S T:List Pt}{c p:Pt}{d j:Nat}
theorem pY{u v:Pt}(hu:Meet p u)(hv:Meet p v)(iu:u∈S)(iv:v∉S):kW S p:=by
 refine Classical.byContradiction fun h=>?_
 have e0:(p.1,p.2)∈S->(p.1,p.2-1)∈S:=fun z=>Classical.byContradiction fun y=>h ⟨0,by omega,z,y⟩
 have e1:(p.1-1,p.2)∈S->(p.1,p.2)∈S:=fun z=>Classical.byContradiction fun y=>h ⟨1,by omega,z,y⟩
 have e2:(p.1-1,p.2-1)∈S->(p.1-1,p.2)∈S:=fun z=>Classical.byContradiction fun y=>h ⟨2,by omega,z,y⟩
 have e3:(p.1,p.2-1)∈S->(p.1-1,p.2-1)∈S:=fun z=>Classical.byContradiction fun y=>h ⟨3,by omega,z,y⟩
 have all:(p.1,p.2)∈S:=by
  rcases hu with rfl | rfl | rfl | rfl
  ·exact iu
  ·exact e1 iu
  ·exact e1 (e2 iu)
  ·exact e1 (e2 (e3 iu))
 rcases hv with rfl | rfl | rfl | rfl
 ·exact iv all
 ·exact iv (e2 (e3 (e0 all)))
 ·exact iv (e3 (e0 all))
 ·exact iv (e0 all)
def Dg(S:List Pt):Prop:=∀p:Pt,¬((p.1,p.2)∈S/\(p.1-1,p.2-1)∈S/\(p.1-1,p.2)∉S/\(p.1,p.2-1)∉S)/\¬((p.1-1,p.2)∈S/\(p.1,p.2-1)∈S/\(p.1,p.2)∉S/\(p.1-1,p.2-1)∉S)
theorem fu(h:Dg S){e:Nat}(a:gY S p d)(b:gY S p e):d=e:=by
 obtain⟨h1,h2⟩:=h p
 obtain⟨a0,a1,a2⟩:=a
 obtain⟨b0,b1,b2⟩:=b
 rcases c4 a0 with rfl | rfl | rfl | rfl <;> rcases c4 b0 with rfl | rfl | rfl | rfl
 ·rfl
 ·exact absurd a1 b2
 ·exact absurd ⟨a1,b1,b2,a2⟩ h1
 ·exact absurd b1 a2
 ·exact absurd b1 a2
 ·rfl
 ·exact absurd a1 b2
 ·exact absurd ⟨a1,b1,a2,b2⟩ h2
 ·exact absurd ⟨b1,a1,a2,b2⟩ h1
 ·exact absurd b1 a2
 ·rfl
 ·exact absurd a1 b2
 ·exact absurd a1 b2
 ·exact absurd ⟨b1,a1,b2,a2⟩ h2
 ·exact absurd b1 a2
 ·rfl
theorem RC(e:gY S p d):kW S (oA p d):=by
 refine pY (u:=rT p d) (v:=qu p d) ?_ (Kc e.lt) e.l e.r
 rcases c4 e.lt with rfl | rfl | rfl | rfl
 ·exact .inr (.inl (by walk_at "pp"))
 ·exact .inr (.inr (.inl (by walk_at "pp")))
 ·exact .inr (.inr (.inr (by walk_at "pp")))
 ·exact .inl (by walk_at "pp")
theorem Ip(hj:j<4):Meet (bU c j) c:=by
 rcases c4 hj with rfl | rfl | rfl | rfl
 ·exact .inr (.inl (by walk_at "pp"))
 ·exact .inr (.inr (.inl (by walk_at "pp")))
 ·exact .inr (.inr (.inr (by walk_at "pp")))
 ·exact .inl (by walk_at "pp")
theorem Lz(hj:j<4):Meet (bU c (bz j)) (nb c j):=by
 rcases c4 hj with rfl | rfl | rfl | rfl
 ·exact .inr (.inr (.inr (by walk_at "pp")))
 ·exact .inl (by walk_at "pp")
 ·exact .inr (.inl (by walk_at "pp"))
 ·exact .inr (.inr (.inl (by walk_at "pp")))
theorem RN(hj:j<4):Meet (bU c (bz j)) (nb c (bz j)):=by
 rcases c4 hj with rfl | rfl | rfl | rfl
 ·exact .inr (.inl (by walk_at "pp"))
 ·exact .inr (.inr (.inl (by walk_at "pp")))
 ·exact .inr (.inr (.inr (by walk_at "pp")))
 ·exact .inl (by walk_at "pp")
theorem V6(h:Dg S)(hj:j<4)(h1:nb c j∈S)(h2:nb c (bz j)∈S)(hc:c∉S):Fv c j∈S:=by
 refine Classical.byContradiction fun z=>?_
 obtain⟨g1,g2⟩:=h (bU c (bz j))
 rcases c4 hj with rfl | rfl | rfl | rfl
 ·refine g2 ⟨?_,?_,?_,?_⟩
  ·rw[show ((bU c (bz 0)).1-1,(bU c (bz 0)).2)=nb c (bz 0) from by walk_at "pp"];exact h2
  ·rw[show ((bU c (bz 0)).1,(bU c (bz 0)).2-1)=nb c 0 from by walk_at "pp"];exact h1
  ·rw[show ((bU c (bz 0)).1,(bU c (bz 0)).2)=Fv c 0 from by walk_at "pp"];exact z
  ·rw[show ((bU c (bz 0)).1-1,(bU c (bz 0)).2-1)=c from by walk_at "pp"];exact hc
 ·refine g1 ⟨?_,?_,?_,?_⟩
  ·rw[show ((bU c (bz 1)).1,(bU c (bz 1)).2)=nb c 1 from by walk_at "pp"];exact h1
  ·rw[show ((bU c (bz 1)).1-1,(bU c (bz 1)).2-1)=nb c (bz 1) from by walk_at "pp"];exact h2
  ·rw[show ((bU c (bz 1)).1-1,(bU c (bz 1)).2)=Fv c 1 from by walk_at "pp"];exact z
  ·rw[show ((bU c (bz 1)).1,(bU c (bz 1)).2-1)=c from by walk_at "pp"];exact hc
 ·refine g2 ⟨?_,?_,?_,?_⟩
  ·rw[show ((bU c (bz 2)).1-1,(bU c (bz 2)).2)=nb c 2 from by walk_at "pp"];exact h1
  ·rw[show ((bU c (bz 2)).1,(bU c (bz 2)).2-1)=nb c (bz 2) from by walk_at "pp"];exact h2
  ·rw[show ((bU c (bz 2)).1,(bU c (bz 2)).2)=c from by walk_at "pp"];exact hc
  ·rw[show ((bU c (bz 2)).1-1,(bU c (bz 2)).2-1)=Fv c 2 from by walk_at "pp"];exact z
 ·refine g1 ⟨?_,?_,?_,?_⟩
  ·rw[show ((bU c (bz 3)).1,(bU c (bz 3)).2)=nb c (bz 3) from by walk_at "pp"];exact h2
  ·rw[show ((bU c (bz 3)).1-1,(bU c (bz 3)).2-1)=nb c 3 from by walk_at "pp"];exact h1
  ·rw[show ((bU c (bz 3)).1-1,(bU c (bz 3)).2)=c from by walk_at "pp"];exact hc
  ·rw[show ((bU c (bz 3)).1,(bU c (bz 3)).2-1)=Fv c 3 from by walk_at "pp"];exact z
theorem K5{i:Nat}(hi:i<4)(hj:j<4)(h:bz i=bz j):i=j:=by
 rcases c4 hi with rfl | rfl | rfl | rfl <;> rcases c4 hj with rfl | rfl | rfl | rfl <;> first | rfl | cases h
theorem Q4(hj:j<4):bz (bz (bz (bz j)))=j:=by
 rcases c4 hj with rfl | rfl | rfl | rfl <;> rfl
end
structure One(S:List Pt):Prop where
 dg:Dg S
 all:∀p q,kW S p->kW S q->kY (RS S) p q
section
variable{S T:List Pt}{c:Pt}{ja jb:Nat}
theorem Qs(h:One S)(hT:∀x,x∈T↔x∈S\/x=c)(hc:c∉S)(hja:ja<4)(hjb:jb<4)(a1:nb c ja∈S)(a2:nb c (bz ja)∉S)(b1:nb c jb∉S)(b2:nb c (bz jb)∈S)
  (ua:∀j,j<4->nb c j∈S->nb c (bz j)∉S->j=ja) (ub:∀j,j<4->nb c j∉S->nb c (bz j)∈S->j=jb):∀p q,kW T p->kW T q->kY (RS T) p q:=by
 have pred:∀j,j<4->∃i,i<4/\bz i=j:=fun j hj=>⟨bz (bz (bz j)),dN,Q4 hj⟩
 have cT:c∈T:=(hT c).mpr (.inr rfl)
 have full:∀j,j<4->nb c j∈S->nb c (bz j)∈S->∀q,Meet (bU c (bz j)) q->q∈T:=by
  intro j hj h1 h2 q hq
  rcases Rc hj hq with rfl | rfl | rfl | rfl
  ·exact cT
  ·exact (hT _).mpr (.inl h1)
  ·exact (hT _).mpr (.inl h2)
  ·exact (hT _).mpr (.inl (V6 h.dg hj h1 h2 hc))
 have nne:∀j,j<4->nb c j≠c:=by
  intro j hj e
  have e1:=congrArg Prod.fst e
  have e2:=congrArg Prod.snd e
  rcases c4 hj with rfl | rfl | rfl | rfl <;> simp only[nb,Ci,BZ,Bp,zH] at e1 e2 <;> omega
 have new:∀j,j<4->nb c j∉S->RS T (bU c j) (bU c (bz j)):=by
  intro j hj h1
  obtain⟨d,hd,e1,e2,e3⟩:=Wk (c:=c) hj
  refine⟨d,⟨hd,by rw[e1];exact cT,?_⟩,e3.symm⟩
  rw[e2]
  intro z
  rcases (hT _).mp z with z | z
  ·exact h1 z
  ·exact nne j hj z
 have fwd:∀j,j<4->nb c j∉S->kY (RS T) (bU c j) (bU c (bz jb)):=by
  intro j hj h1
  have r1:=new j hj h1
  by_cases g1:nb c (bz j)∈S
  ·have:=ub j hj h1 g1;subst this;exact .one r1
  have r2:=new _ dN g1
  by_cases g2:nb c (bz (bz j))∈S
  ·have:=ub _ dN g1 g2;subst this;exact .step (.one r1) r2
  have r3:=new _ dN g2
  by_cases g3:nb c (bz (bz (bz j)))∈S
  ·have:=ub _ dN g2 g3;subst this;exact .step (.step (.one r1) r2) r3
  exfalso
  have:ja=j\/ja=bz j\/ja=bz (bz j)\/ja=bz (bz (bz j)):=by
   rcases c4 hj with rfl | rfl | rfl | rfl <;> rcases c4 hja with rfl | rfl | rfl | rfl <;> decide
  rcases this with z | z | z | z <;> rw[z] at a1
  ·exact h1 a1
  ·exact g1 a1
  ·exact g2 a1
  ·exact g3 a1
 have bwd:∀j,j<4->nb c j∉S->kY (RS T) (bU c (bz ja)) (bU c j):=by
  intro j hj h1
  obtain⟨i1,l1,rfl⟩:=pred j hj
  by_cases g1:nb c i1∈S
  ·have:=ua i1 l1 g1 h1;subst this;exact .refl
  have r1:=new i1 l1 g1
  obtain⟨i2,l2,rfl⟩:=pred i1 l1
  by_cases g2:nb c i2∈S
  ·have:=ua i2 l2 g2 g1;subst this;exact .one r1
  have r2:=new i2 l2 g2
  obtain⟨i3,l3,rfl⟩:=pred i2 l2
  by_cases g3:nb c i3∈S
  ·have:=ua i3 l3 g3 g2;subst this;exact .step (.one r2) r1
  exfalso
  have:ja=i3\/ja=bz i3\/ja=bz (bz i3)\/ja=bz (bz (bz i3)):=by
   rcases c4 l3 with rfl | rfl | rfl | rfl <;> rcases c4 hja with rfl | rfl | rfl | rfl <;> decide
  rcases this with z | z | z | z <;> rw[z] at a1
  ·exact g3 a1
  ·exact g2 a1
  ·exact g1 a1
  ·exact h1 a1
 refine swap (R:=RS S) (C:=kW S) (I:=fun q=>∃j,j<4/\q=bU c (bz j)/\nb c j∈S/\nb c (bz j)∈S) (a:=bU c (bz ja)) (b:=bU c (bz jb)) (fwd _ dN a2) ?_ ?_ ?_ ?_ ?_ ?_ h.all
 ·rintro p q ⟨d,e,rfl⟩
  by_cases hr:qu p d=c
  ·refine .inr ?_
   obtain⟨j,hj,h1,h2,h3⟩:=abR e.lt hr
   have hjS:nb c j∈S:=by rw[←h3];exact e.l
   constructor
   ·by_cases g:nb c (bz j)∈S
    ·exact .inr ⟨j,hj,h1,hjS,g⟩
    ·have:=ua j hj hjS g;subst this;exact .inl h1
   ·obtain⟨i,hi,rfl⟩:=pred j hj
    by_cases g:nb c i∈S
    ·exact .inr ⟨i,hi,h2,g,hjS⟩
    ·have:=ub i hi g hjS;subst this;exact .inl h2
  ·have nT:qu p d∉T:=fun z=>by
    rcases (hT _).mp z with z | z
    ·exact e.r z
    ·exact hr z
   refine .inl ⟨⟨d,⟨e.lt,(hT _).mpr (.inl e.l),nT⟩,rfl⟩,?_,?_⟩
   ·rintro⟨j,hj,rfl,h1,h2⟩
    exact nT (full j hj h1 h2 _ (Gx e.lt))
   ·rintro⟨j,hj,e1,h1,h2⟩
    exact nT (full j hj h1 h2 _ (by rw[←e1];exact Kc e.lt))
 ·rintro⟨j,hj,e,h1,h2⟩
  have:=K5 hja hj (LK dN dN e);subst this
  exact a2 h2
 ·rintro⟨j,hj,e,h1,h2⟩
  have:=K5 hjb hj (LK dN dN e);subst this
  exact b1 h1
 ·rintro q ⟨d,e⟩
  refine⟨?_,?_⟩
  ·rintro⟨j,hj,rfl,h1,h2⟩
   exact e.r (full j hj h1 h2 _ (Gx e.lt))
  ·rcases (hT _).mp e.l with z | z
   ·exact .inl ⟨d,e.lt,z,fun y=>e.r ((hT _).mpr (.inl y))⟩
   ·obtain⟨j,hj,rfl,h2,h3⟩:=abh e.lt z
    have g:nb c j∉S:=fun y=>e.r (by rw[h3];exact (hT _).mpr (.inl y))
    exact .inr ⟨bwd j hj g,fwd j hj g⟩
 ·exact pY (Lz hja) (Ip dN) a1 hc
 ·exact pY (RN hjb) (Ip dN) b2 hc
end
section
variable{S T:List Pt}{p q:Pt}{d:Nat}
theorem gY.congr(h:∀x,x∈S↔x∈T)(e:gY S p d):gY T p d:=⟨e.lt,(h _).mp e.l,fun z=>e.r ((h _).mpr z)⟩
theorem kY.mono{R R':Pt->Pt->Prop}(h:∀p q,R p q->R' p q)(r:kY R p q):kY R' p q:=by
 induction r with
 |refl=>exact .refl
 |step _ s ih=>exact .step ih (h _ _ s)
theorem One.congr(h:∀x,x∈S↔x∈T)(o:One S):One T:=by
 refine⟨fun p=>?_,fun p q ⟨d,e⟩ ⟨d',e'⟩=>?_⟩
 ·obtain⟨g1,g2⟩:=o.dg p
  rw[h,h,h,h] at g1 g2
  exact⟨g1,g2⟩
 ·exact (o.all p q ⟨d,e.congr fun x=>(h x).symm⟩ ⟨d',e'.congr fun x=>(h x).symm⟩).mono fun a b ⟨d,e,z⟩=>⟨d,e.congr h,z⟩
theorem Vx:One [((0,0):Pt)]:=by
 have e0:gY [((0,0):Pt)] (0,0) 0:=⟨by omega,by simp[CJ],by simp[yl]⟩
 have e1:gY [((0,0):Pt)] (1,0) 1:=⟨by omega,by simp[zF],by simp[BL]⟩
 have e2:gY [((0,0):Pt)] (1,1) 2:=⟨by omega,by simp[Df],by simp[Ey]⟩
 have e3:gY [((0,0):Pt)] (0,1) 3:=⟨by omega,by simp[zx],by simp[Cg]⟩
 have s0:RS [((0,0):Pt)] (0,0) (1,0):=⟨0,e0,rfl⟩
 have s1:RS [((0,0):Pt)] (1,0) (1,1):=⟨1,e1,rfl⟩
 have s2:RS [((0,0):Pt)] (1,1) (0,1):=⟨2,e2,rfl⟩
 have s3:RS [((0,0):Pt)] (0,1) (0,0):=⟨3,e3,rfl⟩
 have four:∀p,kW [((0,0):Pt)] p->kY (RS [((0,0):Pt)]) p (0,0)/\kY (RS [((0,0):Pt)]) (0,0) p:=by
  rintro p ⟨d,e⟩
  have el:=List.mem_singleton.mp e.l
  obtain⟨p1,p2⟩:=p
  rcases c4 e.lt with rfl | rfl | rfl | rfl
  ·simp only[CJ,Prod.mk.injEq] at el
   obtain⟨rfl,rfl⟩:=el
   exact⟨.refl,.refl⟩
  ·simp only[zF,Prod.mk.injEq] at el
   have:p1=1:=by omega
   subst this
   obtain⟨_,rfl⟩:=el
   exact⟨.step (.step (.one s1) s2) s3,.one s0⟩
  ·simp only[Df,Prod.mk.injEq] at el
   have a1:p1=1:=by omega
   have a2:p2=1:=by omega
   subst a1 a2
   exact⟨.step (.one s2) s3,.step (.one s0) s1⟩
  ·simp only[zx,Prod.mk.injEq] at el
   have a2:p2=1:=by omega
   subst a2
   obtain⟨rfl,_⟩:=el
   exact⟨.one s3,.step (.step (.one s0) s1) s2⟩
 refine⟨fun p=>?_,fun p q hp hq=>(four p hp).1.trans (four q hq).2⟩
 simp only[List.mem_singleton,Prod.mk.injEq]
 constructor
 ·rintro⟨h1,h2,_⟩;omega
 ·rintro⟨h1,h2,_⟩;omega
theorem Hm(s:Pt)(hd:d<4):rT (p.1+s.1,p.2+s.2) d=((rT p d).1+s.1,(rT p d).2+s.2):=by
 rcases c4 hd with rfl | rfl | rfl | rfl <;> walk_at "pp"
theorem JB(s:Pt)(hd:d<4):qu (p.1+s.1,p.2+s.2) d=((qu p d).1+s.1,(qu p d).2+s.2):=by
 rcases c4 hd with rfl | rfl | rfl | rfl <;> walk_at "pp"
theorem abm(s:Pt):oA (p.1+s.1,p.2+s.2) d=((oA p d).1+s.1,(oA p d).2+s.2):=by
 refine Prod.ext ?_ ?_ <;> simp only[oA] <;> omega
theorem tQ{s:Pt}{x:Pt}:(x.1+s.1,x.2+s.2)∈S.map (fun q=>(q.1+s.1,q.2+s.2))↔x∈S:=by
 rw[List.mem_map]
 constructor
 ·rintro⟨y,hy,e⟩
  have e1:=congrArg Prod.fst e
  have e2:=congrArg Prod.snd e
  have:y=x:=Prod.ext (by dsimp only at e1;omega) (by dsimp only at e2;omega)
  rw[←this];exact hy
 ·exact fun h=>⟨x,h,rfl⟩
theorem Dm(s:Pt):gY (S.map (fun q=>(q.1+s.1,q.2+s.2))) (p.1+s.1,p.2+s.2) d↔gY S p d:=by
 constructor
 ·rintro⟨h1,h2,h3⟩
  rw[Hm s h1,tQ] at h2
  rw[JB s h1,tQ] at h3
  exact⟨h1,h2,h3⟩
 ·rintro⟨h1,h2,h3⟩
  refine⟨h1,?_,?_⟩
  ·rw[Hm s h1,tQ];exact h2
  ·rw[JB s h1,tQ];exact h3
theorem One.mv(s:Pt)(o:One S):One (S.map (fun q=>(q.1+s.1,q.2+s.2))):=by
 have bk:∀p:Pt,p=((p.1-s.1)+s.1,(p.2-s.2)+s.2):=fun p=>Prod.ext (by dsimp only;omega) (by dsimp only;omega)
 refine⟨fun p=>?_,fun p q ⟨d,e⟩ ⟨d',e'⟩=>?_⟩
 ·obtain⟨g1,g2⟩:=o.dg (p.1-s.1,p.2-s.2)
  have m:∀a b:Int,(a,b)∈S.map (fun q=>(q.1+s.1,q.2+s.2))↔(a-s.1,b-s.2)∈S:=fun a b=>by rw[←tQ (S:=S) (s:=s) (x:=(a-s.1,b-s.2)),show ((a-s.1,b-s.2).1+s.1,(a-s.1,b-s.2).2+s.2)=(a,b) from Prod.ext (by dsimp only;omega) (by dsimp only;omega)]
  rw[m,m,m,m]
  dsimp only at g1 g2
  rw[show p.1-1-s.1=p.1-s.1-1 from by omega,show p.2-1-s.2=p.2-s.2-1 from by omega]
  exact⟨g1,g2⟩
 ·rw[bk p] at e ⊢
  rw[bk q] at e' ⊢
  have r:=o.all _ _ ⟨d,(Dm s (p:=(p.1-s.1,p.2-s.2))).mp e⟩ ⟨d',(Dm s (p:=(q.1-s.1,q.2-s.2))).mp e'⟩
  have mvR:∀a b,kY (RS S) a b->kY (RS (S.map (fun q=>(q.1+s.1,q.2+s.2)))) (a.1+s.1,a.2+s.2) (b.1+s.1,b.2+s.2):=by
   intro a b h
   induction h with
   |refl=>exact .refl
   |step _ t ih=>
    obtain⟨d,e,rfl⟩:=t
    exact .step ih ⟨d,(Dm s).mpr e,(abm s).symm⟩
  exact mvR _ _ r
def outD(S:List Pt)(p:Pt):Nat:=if rT p 0∈S/\qu p 0∉S then 0 else if rT p 1∈S/\qu p 1∉S then 1 else if rT p 2∈S/\qu p 2∉S then 2 else 3
theorem cG(h:kW S p):gY S p (outD S p):=by
 obtain⟨d,e⟩:=h
 unfold outD
 by_cases h0:rT p 0∈S/\qu p 0∉S
 ·rw[if_pos h0];exact⟨by omega,h0.1,h0.2⟩
 rw[if_neg h0]
 by_cases h1:rT p 1∈S/\qu p 1∉S
 ·rw[if_pos h1];exact⟨by omega,h1.1,h1.2⟩
 rw[if_neg h1]
 by_cases h2:rT p 2∈S/\qu p 2∉S
 ·rw[if_pos h2];exact⟨by omega,h2.1,h2.2⟩
 rw[if_neg h2]
 rcases c4 e.lt with rfl | rfl | rfl | rfl
 ·exact absurd ⟨e.l,e.r⟩ h0
 ·exact absurd ⟨e.l,e.r⟩ h1
 ·exact absurd ⟨e.l,e.r⟩ h2
 ·exact e
def dm(S:List Pt)(p:Pt):Nat->Pt
 |0=>p
 |n+1=>oA (dm S p n) (outD S (dm S p n))
theorem eO(h:kW S p):∀n,kW S (dm S p n)
 |0=>h
 |n+1=>RC (cG (eO h n))
theorem K1(g:Dg S)(h:kY (RS S) p q):∃n,q=dm S p n:=by
 induction h with
 |refl=>exact⟨0,rfl⟩
 |step _ t ih=>
  obtain⟨n,rfl⟩:=ih
  obtain⟨d,e,rfl⟩:=t
  refine⟨n+1,?_⟩
  show oA _ d=oA _ _
  rw[fu g e (cG ⟨d,e⟩)]
theorem jo(m:Nat):∀n,dm S p (m+n)=dm S (dm S p m) n
 |0=>rfl
 |n+1=>by
  show oA (dm S p (m+n)) (outD S (dm S p (m+n)))=_
  rw[jo m n];rfl
theorem least{P:Nat->Prop}(h:∃n,P n):∃n,P n/\∀m,m<n->¬P m:=by
 obtain⟨n,hn⟩:=h
 have:∀k n,n<=k->P n->∃n,P n/\∀m,m<n->¬P m:=by
  intro k
  induction k with
  |zero=>intro n hk hP;exact⟨n,hP,fun m hm=>by omega⟩
  |succ k ih=>
   intro n hk hP
   by_cases z:∃m,m<n/\P m
   ·obtain⟨m,hm,hPm⟩:=z
    exact ih m (by omega) hPm
   ·exact⟨n,hP,fun m hm hPm=>z ⟨m,hm,hPm⟩⟩
 exact this n n (Nat.le_refl _) hn
structure Dp(S:List Pt)(p:Pt)(t:Nat):Prop where
 pos:0<t
 back:dm S p t=p
 not:∀m,0<m->m<t->dm S p m≠p
 all:∀q,kW S q->∃m,m<t/\q=dm S p m
 inj:∀i j,i<j->j<t->dm S p i≠dm S p j
theorem One.Es(o:One S)(hp:kW S p):∃t,Dp S p t:=by
 have back:∃n,dm S p (n+1)=p:=by
  obtain⟨n,hn⟩:=K1 o.dg (o.all (dm S p 1) p (eO hp 1) hp)
  exact⟨n,by rw[Nat.add_comm,jo];exact hn.symm⟩
 obtain⟨n,hn,hm⟩:=least back
 have nret:∀m,0<m->m<n+1->dm S p m≠p:=fun m h0 h1 e=>hm (m-1) (by omega) (by rw[Nat.sub_add_cancel h0];exact e)
 have per:∀k m,dm S p (k*(n+1)+m)=dm S p m:=by
  intro k
  induction k with
  |zero=>intro m;rw[Nat.zero_mul,Nat.zero_add]
  |succ k ih=>
   intro m
   rw[show (k+1)*(n+1)+m=(n+1)+(k*(n+1)+m) from by rw[Nat.add_mul];omega,jo,hn]
   exact ih m
 refine⟨n+1,by omega,hn,nret,fun q hq=>?_,fun i j hij hj e=>?_⟩
 ·obtain⟨m,rfl⟩:=K1 o.dg (o.all p q hp hq)
  refine⟨m%(n+1),Nat.mod_lt _ (by omega),?_⟩
  have:=per (m / (n+1)) (m%(n+1))
  rw[Nat.mul_comm,Nat.div_add_mod] at this
  exact this
 ·have h1:dm S p (j+(n+1-j))=p:=by rw[show j+(n+1-j)=n+1 from by omega];exact hn
  rw[jo,←e,←jo] at h1
  exact nret (i+(n+1-j)) (by omega) (by omega) h1
theorem sub_len{α:Type}[DecidableEq α]:∀ {xs ys:List α},xs.Nodup->(∀x∈xs,x∈ys)->xs.length<=ys.length
 |[],_,_,_=>Nat.zero_le _
 |x::xs,ys,nd,h=>by
  have nd':=List.nodup_cons.mp nd
  have hx:=h x List.mem_cons_self
  have:=sub_len (xs:=xs) (ys:=ys.erase x) nd'.2 fun y hy=>(List.mem_erase_of_ne (fun e:y=x=>nd'.1 (e▸hy))).mpr (h y (List.mem_cons_of_mem _ hy))
  rw[List.length_erase_of_mem hx] at this
  have hpos:=List.length_pos_of_mem hx
  show xs.length+1<=_
  omega
theorem Dp.len{t:Nat}(r:Dp S p t)(hp:kW S p){K:List Pt}(nd:K.Nodup)(hK:∀q,q∈K↔kW S q):K.length=t:=by
 have e:((List.range t).map (dm S p)).length=t:=by rw[List.length_map,List.length_range]
 have n2:((List.range t).map (dm S p)).Nodup:=by
  rw[List.Nodup,List.pairwise_iff_getElem]
  intro i j hi hj hij
  rw[List.length_map,List.length_range] at hi hj
  simp only[List.getElem_map,List.getElem_range]
  exact r.inj i j hij hj
 apply Nat.le_antisymm
 ·have:=sub_len nd (ys:=(List.range t).map (dm S p)) fun q hq=>by
   obtain⟨m,hm,rfl⟩:=r.all q ((hK q).mp hq)
   exact List.mem_map.mpr ⟨m,List.mem_range.mpr hm,rfl⟩
  rw[e] at this;exact this
 ·have:=sub_len n2 (ys:=K) fun q hq=>by
   obtain⟨m,_,rfl⟩:=List.mem_map.mp hq
   exact (hK _).mpr (eO hp m)
  rw[e] at this;exact this
end
def bA(p:Pt):List Pt:=[(p.1+1,p.2),(p.1,p.2+1),(p.1-1,p.2),(p.1,p.2-1)]
inductive cU(S:List Pt)(s:Pt):Pt->Prop
 |refl:cU S s s
 |step {c n:Pt}:cU S s c->n∈bA c->n∈S->cU S s n
theorem RP{c n:Pt}:n∈bA c↔n=(c.1+1,c.2)\/n=(c.1,c.2+1)\/n=(c.1-1,c.2)\/n=(c.1,c.2-1):=by simp[bA]
theorem Lh{a b:Pt}:a=b↔a.1=b.1/\a.2=b.2:=Prod.ext_iff
theorem jX{c n:Pt}:n∈bA c↔(n.1=c.1+1/\n.2=c.2)\/(n.1=c.1/\n.2=c.2+1)\/(n.1=c.1-1/\n.2=c.2)\/(n.1=c.1/\n.2=c.2-1):=by
 rw[RP,Lh,Lh,Lh,Lh]
theorem Jg{c n:Pt}(h:n∈bA c):c∈bA n:=by
 rcases RP.mp h with rfl | rfl | rfl | rfl
 ·exact jX.mpr (.inr (.inr (.inl ⟨(Int.add_sub_cancel c.1 1).symm,rfl⟩)))
 ·exact jX.mpr (.inr (.inr (.inr ⟨rfl,(Int.add_sub_cancel c.2 1).symm⟩)))
 ·exact jX.mpr (.inl ⟨(Int.sub_add_cancel c.1 1).symm,rfl⟩)
 ·exact jX.mpr (.inr (.inl ⟨rfl,(Int.sub_add_cancel c.2 1).symm⟩))
theorem cU.mem{S:List Pt}{s c:Pt}(hs:s∈S)(h:cU S s c):c∈S:=by
 induction h with
 |refl=>exact hs
 |step _ _ h _=>exact h
theorem cU.trans{S:List Pt}{a b c:Pt}(h1:cU S a b)(h2:cU S b c):cU S a c:=by
 induction h2 with
 |refl=>exact h1
 |step _ h h' ih=>exact .step ih h h'
theorem cU.symm{S:List Pt}{a b:Pt}(ha:a∈S)(h:cU S a b):cU S b a:=by
 induction h with
 |refl=>exact .refl
 |step k h h' ih=>exact cU.trans (.step .refl (Jg h) (k.mem ha)) ih
theorem cU.mono{S T:List Pt}{a b:Pt}(hs:∀x∈S,x∈T)(h:cU S a b):cU T a b:=by
 induction h with
 |refl=>exact .refl
 |step _ h h' ih=>exact .step ih h (hs _ h')
inductive Way(S:List Pt)(a:Pt):Pt->Prop
 |refl:Way S a a
 |step {b n:Pt}:Way S a b->n∈bA b->n∉S->Way S a n
theorem Way.off{S:List Pt}{a b:Pt}(ha:a∉S)(h:Way S a b):b∉S:=by
 cases h with
 |refl=>exact ha
 |step _ _ h=>exact h
theorem Way.trans{S:List Pt}{a b c:Pt}(h1:Way S a b)(h2:Way S b c):Way S a c:=by
 induction h2 with
 |refl=>exact h1
 |step _ h h' ih=>exact .step ih h h'
theorem Way.congr{S T:List Pt}{a b:Pt}(hs:∀x,x∈T->x∈S)(h:Way S a b):Way T a b:=by
 induction h with
 |refl=>exact .refl
 |step _ h h' ih=>exact .step ih h fun z=>h' (hs _ z)
def Esc(S:List Pt)(a:Pt):Prop:=∃b,Way S a b/\∀c∈S,c.2<b.2
def hp(p a b:Pt):Bool:=decide ((a.1=p.1/\b.1=p.1+1/\p.2<a.2)\/(b.1=p.1/\a.1=p.1+1/\p.2<b.2))
def par(h:Pt->Pt->Bool):Pt->List Pt->Bool
 |_,[]=>false
 |a,b::l=>h a b ^^ par h b l
def endL:Pt->List Pt->Pt
 |a,[]=>a
 |_,b::l=>endL b l
def Kg(a b:Pt):Prop:=a.1<=b.1+1/\b.1<=a.1+1/\a.2<=b.2+1/\b.2<=a.2+1
theorem kg4{a b:Pt}(h:b∈bA a):Kg a b:=by
 have u:∀x:Int,x<=x+1+1:=fun x=>by omega
 have d:∀x:Int,x<=x-1+1/\x-1<=x+1:=fun x=>by omega
 have o:∀x:Int,x<=x+1:=fun x=>by omega
 rcases RP.mp h with rfl | rfl | rfl | rfl
 ·exact⟨u _,Int.le_refl _,o _,o _⟩
 ·exact⟨o _,o _,u _,Int.le_refl _⟩
 ·exact⟨(d _).1,(d _).2,o _,o _⟩
 ·exact⟨o _,o _,(d _).1,(d _).2⟩
def Lf(S:List Pt):Pt->List Pt->Prop
 |_,[]=>True
 |a,b::l=>b∈bA a/\b∈S/\Lf S b l
theorem o8{S:List Pt}{n:Pt}:∀ {a:Pt} {l:List Pt},Lf S a l->n∈bA (endL a l)->n∈S->Lf S a (l++[n])/\endL a (l++[n])=n
 |_,[],_,h1,h2=>⟨⟨h1,h2,trivial⟩,rfl⟩
 |_,_::_,h,h1,h2=>⟨⟨h.1,h.2.1,(o8 h.2.2 h1 h2).1⟩,(o8 h.2.2 h1 h2).2⟩
theorem cU.walk{S:List Pt}{a b:Pt}(h:cU S a b):∃l,Lf S a l/\endL a l=b:=by
 induction h with
 |refl=>exact⟨[],trivial,rfl⟩
 |step _ h h' ih=>
  obtain⟨l,w,rfl⟩:=ih
  exact⟨_,o8 w h h'⟩
theorem yK{S:List Pt}:∀ {a:Pt} {l:List Pt},a∈S->Lf S a l->endL a l∈S
 |_,[],h,_=>h
 |_,b::l,_,w=>yK (a:=b) (l:=l) w.2.1 w.2.2
theorem lG{S:List Pt}{h h':Pt->Pt->Bool}{g:Pt->Bool}(hs:∀a b,a∈S->b∈S->b∈bA a->(h a b ^^ h' a b)=(g a ^^ g b)):∀ {a:Pt} {l:List Pt},a∈S->Lf S a l->(par h a l ^^ par h' a l)=(g a ^^ g (endL a l))
 |a,[],_,_=>by show (false ^^ false)=(g a ^^ g a);simp
 |a,b::l,ha,w=>by
  have ih:=lG hs w.2.1 w.2.2
  have h1:=hs a b ha w.2.1 w.1
  show ((h a b ^^ par h b l) ^^ (h' a b ^^ par h' b l))=(g a ^^ g (endL b l))
  revert ih h1
  generalize h a b=x1;generalize h' a b=x2;generalize par h b l=x3;generalize par h' b l=x4;generalize g a=x5;generalize g b=x6;generalize g (endL b l)=x7
  revert x1 x2 x3 x4 x5 x6 x7
  decide
theorem XF{A B C D:Prop}[Decidable A][Decidable B][Decidable C][Decidable D](h1:A->B->(C↔D))(h2:¬A->¬B->(C↔D))(h3:A->¬B->(C↔¬D))(h4:¬A->B->(C↔¬D)):(decide A ^^ decide B)=(decide C ^^ decide D):=by
 by_cases a:A <;> by_cases b:B
 ·have:=h1 a b;by_cases c:C
  ·simp[a,b,c,this.mp c]
  ·have d:¬D:=fun z=>c (this.mpr z)
   simp[a,b,c,d]
 ·have:=h3 a b;by_cases c:C
  ·simp[a,b,c,this.mp c]
  ·have d:D:=Classical.byContradiction fun z=>c (this.mpr z)
   simp[a,b,c,d]
 ·have:=h4 a b;by_cases c:C
  ·simp[a,b,c,this.mp c]
  ·have d:D:=Classical.byContradiction fun z=>c (this.mpr z)
   simp[a,b,c,d]
 ·have:=h2 a b;by_cases c:C
  ·simp[a,b,c,this.mp c]
  ·have d:¬D:=fun z=>c (this.mpr z)
   simp[a,b,c,d]
theorem tH{a p:Pt}{S:List Pt}(ha:a∈S)(hp:p∉S):¬(a.1=p.1/\a.2=p.2):=fun z=>hp (by rw[←Prod.ext_iff.mpr z];exact ha)
theorem Rr(p a b:Pt):hp p a b=hp p b a:=by unfold hp;exact decide_eq_decide.mpr ⟨Or.symm,Or.symm⟩
theorem uQ{p a b:Pt}(h:a.1=b.1):hp p a b=false:=by unfold hp;refine decide_eq_false ?_;omega
theorem wy(p:Pt)(x y:Int):hp p (x,y) (x+1,y)=decide (x=p.1/\p.2<y):=by
 unfold hp
 refine decide_eq_decide.mpr ⟨fun z=>z.elim (fun ⟨e,_,l⟩=>⟨e,l⟩) fun ⟨e1,e2,_⟩=>?_,fun ⟨e,l⟩=>.inl ⟨e,by dsimp only;rw[e],l⟩⟩
 dsimp only at e1 e2
 omega
theorem V5{S:List Pt}{p q:Pt}{g:Pt->Bool}(hv:∀x y,(x,y)∈S->(x,y+1)∈S->g (x,y)=g (x,y+1))(hh:∀x y,(x,y)∈S->(x+1,y)∈S->(decide (x=p.1/\p.2<y) ^^ decide (x=q.1/\q.2<y))=(g (x,y) ^^ g (x+1,y)))
  (a b:Pt) (ha:a∈S) (hb:b∈S) (hab:b∈bA a):(hp p a b ^^ hp q a b)=(g a ^^ g b):=by
 obtain⟨x,y⟩:=a
 rw[RP] at hab
 rcases hab with rfl | rfl | rfl | rfl <;> dsimp only at hb ⊢
 ·rw[wy,wy];exact hh x y ha hb
 ·rw[uQ (p:=p) (a:=(x,y)) (b:=(x,y+1)) rfl,uQ (p:=q) (a:=(x,y)) (b:=(x,y+1)) rfl,hv x y ha hb];simp
 ·have:=hh (x-1) y hb (by rw[Int.sub_add_cancel];exact ha)
  rw[Int.sub_add_cancel] at this
  rw[Rr p,Rr q,show hp p (x-1,y) (x,y)=hp p (x-1,y) (x-1+1,y) by rw[Int.sub_add_cancel],show hp q (x-1,y) (x,y)=hp q (x-1,y) (x-1+1,y) by rw[Int.sub_add_cancel],wy,wy,this,Bool.xor_comm]
 ·have:=hv x (y-1) hb (by rw[Int.sub_add_cancel];exact ha)
  rw[Int.sub_add_cancel] at this
  rw[uQ (p:=p) (a:=(x,y)) (b:=(x,y-1)) rfl,uQ (p:=q) (a:=(x,y)) (b:=(x,y-1)) rfl,show g (x,y-1)=g (x,y) from this];simp
theorem aa2{S:List Pt}{p q a b:Pt}(e1:q.1=p.1)(e2:q.2=p.2+1)(hq:q∉S)(ha:a∈S)(hb:b∈S):hp p a b=hp q a b:=by
 have up:∀c∈S,c.1=p.1->(p.2<c.2↔p.2+1<c.2):=fun c hc e=>by
  have:c.2≠p.2+1:=fun z=>tH hc hq ⟨e.trans e1.symm,z.trans e2.symm⟩
  clear e e1 e2;omega
 unfold hp
 rw[e1,e2]
 exact decide_eq_decide.mpr (or_congr (and_congr_right fun x=>and_congr_right fun _=>up a ha x) (and_congr_right fun x=>and_congr_right fun _=>up b hb x))
def gE(p a:Pt):Bool:=decide (a.1=p.1+1/\p.2<a.2)
theorem aaw{S:List Pt}{p q a b:Pt}(e1:q.1=p.1+1)(e2:q.2=p.2)(hp':p∉S)(hq:q∉S)(ha:a∈S)(hb:b∈S)(k:Kg a b):(hp p a b ^^ hp q a b)=(gE p a ^^ gE p b):=by
 have n1:∀c∈S,c.1=p.1+1\/c.1=p.1->c.2≠p.2:=fun c hc z y=>z.elim (fun z=>tH hc hq ⟨z.trans e1.symm,y.trans e2.symm⟩) fun z=>tH hc hp' ⟨z,y⟩
 obtain⟨k1,k2,k3,k4⟩:=k
 have u:a.1=p.1+1\/a.1=p.1->b.1=p.1+1\/b.1=p.1->(p.2<a.2↔p.2<b.2):=fun x y=>by
  have x:=n1 a ha x
  have y:=n1 b hb y
  clear e1 e2 k1 k2;omega
 have m:p.1≠p.1+1:=by omega
 have m2:p.1+1≠p.1+1+1:=by omega
 unfold hp gE
 rw[e1,e2]
 by_cases ca:a.1=p.1+1 <;> by_cases cb:b.1=p.1+1
 ·have:=u (.inl ca) (.inl cb)
  simp[ca,cb,m,Ne.symm m,m2,this]
 ·by_cases cc:b.1=p.1
  ·simp[ca,cb,cc,u,m,m2,Ne.symm m,show p.1≠p.1+1+1 by omega]
  ·simp[ca,cb,cc,m,m2,Ne.symm m,show b.1=p.1+1+1 by omega,show p.1+1+1≠p.1 by omega]
 ·by_cases cc:a.1=p.1
  ·simp[ca,cb,cc,←u,m,m2,Ne.symm m,show p.1≠p.1+1+1 by omega]
  ·simp[ca,cb,cc,m,m2,Ne.symm m,show a.1=p.1+1+1 by omega,show p.1+1+1≠p.1 by omega]
 ·simp[ca,cb]
def cnt(p a:Pt)(l:List Pt):Bool:=par (hp p) a l ^^ hp p (endL a l) a
theorem RT{S:List Pt}{a p q:Pt}{l:List Pt}(ha:a∈S)(w:Lf S a l)(k:Kg (endL a l) a)(hp':p∉S)(hq:q∉S)(h:q∈bA p):cnt p a l=cnt q a l:=by
 have he:=yK ha w
 have E:∀ {p q:Pt},p∉S->q∉S->q.1=p.1+1->q.2=p.2->cnt p a l=cnt q a l:=fun {p q} hp' hq e1 e2=>by
  have h1:=lG (S:=S) (h:=hp p) (h':=hp q) (g:=gE p) (fun x y hx hy hxy=>aaw e1 e2 hp' hq hx hy (kg4 hxy)) ha w
  have h2:=aaw e1 e2 hp' hq he ha k
  unfold cnt
  revert h1 h2
  generalize par (hp p) a l=x1;generalize par (hp q) a l=x2;generalize hp p (endL a l) a=x3;generalize hp q (endL a l) a=x4;generalize gE p a=x5;generalize gE p (endL a l)=x6
  revert x1 x2 x3 x4 x5 x6
  decide
 have N:∀ {p q:Pt},q∉S->q.1=p.1->q.2=p.2+1->cnt p a l=cnt q a l:=fun {p q} hq e1 e2=>by
  have h1:=lG (S:=S) (h:=hp p) (h':=hp q) (g:=fun _=>false) (fun x y hx hy hxy=>by rw[aa2 e1 e2 hq hx hy];simp) ha w
  have h2:=aa2 e1 e2 hq he ha
  unfold cnt
  rw[h2]
  revert h1
  generalize par (hp p) a l=x1;generalize par (hp q) a l=x2;generalize hp q (endL a l) a=x4
  revert x1 x2 x4
  decide
 rw[jX] at h
 rcases h with h | h | h | h
 ·exact E hp' hq h.1 h.2
 ·exact N hq h.1 h.2
 ·exact (E hq hp' (by omega) (by omega)).symm
 ·exact (N hp' (by omega) (by omega)).symm
theorem lr{S:List Pt}{a p:Pt}{l:List Pt}(ha:a∈S)(w:Lf S a l)(k:Kg (endL a l) a)(hp':p∉S)(e:Esc S p):cnt p a l=false:=by
 obtain⟨q,hw,hq⟩:=e
 have e1:cnt p a l=cnt q a l:=by
  clear hq
  induction hw with
  |refl=>rfl
  |step w' h h' ih=>exact ih.trans (RT ha w k (w'.off hp') h' h)
 rw[e1]
 have z:∀x y,x∈S->y∈S->hp q x y=false:=fun x y hx hy=>by
  have:=hq x hx
  have:=hq y hy
  unfold hp
  refine decide_eq_false ?_
  omega
 have h1:=lG (S:=S) (h:=hp q) (h':=fun _ _=>false) (g:=fun _=>false) (fun x y hx hy _=>by rw[z x y hx hy]) ha w
 have h2:∀(a:Pt) (l:List Pt),par (fun _ _=>false) a l=false:=by
  intro a l
  induction l generalizing a with
  |nil=>rfl
  |cons b l ih=>show (false ^^ _)=false;rw[ih];rfl
 unfold cnt
 rw[z _ _ (yK ha w) ha]
 rw[h2] at h1
 simpa using h1
structure Sc(S:List Pt):Prop where
 con:∀a∈S,∀b∈S,cU S a b
 esc:∀a,a∉S->Esc S a
section
variable{S:List Pt}
theorem Xb{y v:Int}(h:y≠v):v<=y↔v<y:=by omega
theorem Sc.dg(s:Sc S):Dg S:=by
 have one:∀ {x v:Int},x=v-1↔x+1=v:=fun {x v}=>by omega
 have lel:∀ {y v:Int},v-1<y↔v<=y:=fun {y v}=>by omega
 intro p
 refine⟨fun ⟨h1,h2,h3,h4⟩=>?_,fun ⟨h1,h2,h3,h4⟩=>?_⟩
 ·obtain⟨l,w,e⟩:=(s.con _ h2 _ h1).walk
  have k:Kg (endL (p.1-1,p.2-1) l) (p.1-1,p.2-1):=by rw[e];unfold Kg;dsimp only;omega
  have c1:=lr h2 w k h3 (s.esc _ h3)
  have c2:=lr h2 w k h4 (s.esc _ h4)
  have pp:=lG (S:=S) (h:=hp (p.1-1,p.2)) (h':=hp (p.1,p.2-1)) (g:=fun a=>decide (a.1=p.1/\p.2<=a.2)) (V5 (fun x y ha hb=>decide_eq_decide.mpr (and_congr_right fun e=>by
   have n1:y≠p.2-1:=fun z=>tH ha h4 ⟨e,z⟩
   dsimp only
   clear e
   omega)) (fun x y ha hb=>by
   dsimp only
   have e1:decide (x=p.1-1/\p.2<y)=decide (x=p.1-1/\p.2<=y):=decide_eq_decide.mpr (and_congr_right fun e=>(Xb fun z=>tH ha h3 ⟨e,z⟩).symm)
   rw[e1,Bool.xor_comm]
   simp only[lel,one])) h2 w
  unfold cnt at c1 c2
  rw[e] at c1 c2 pp
  have f1:hp (p.1-1,p.2) (p.1,p.2) (p.1-1,p.2-1)=false:=by unfold hp;refine decide_eq_false ?_;dsimp only;omega
  have f2:hp (p.1,p.2-1) (p.1,p.2) (p.1-1,p.2-1)=false:=by unfold hp;refine decide_eq_false ?_;dsimp only;omega
  rw[f1,Bool.xor_false] at c1
  rw[f2,Bool.xor_false] at c2
  rw[c1,c2] at pp
  have g1:decide (p.1-1=p.1/\p.2<=p.2-1)=false:=decide_eq_false fun z=>by have:=z.1;omega
  have g2:decide (p.1=p.1/\p.2<=p.2)=true:=decide_eq_true ⟨rfl,Int.le_refl _⟩
  dsimp only at pp
  rw[g1,g2] at pp
  cases pp
 ·obtain⟨l,w,e⟩:=(s.con _ h2 _ h1).walk
  have k:Kg (endL (p.1,p.2-1) l) (p.1,p.2-1):=by rw[e];unfold Kg;dsimp only;omega
  have c1:=lr h2 w k h4 (s.esc _ h4)
  have c2:=lr h2 w k h3 (s.esc _ h3)
  have pp:=lG (S:=S) (h:=hp (p.1-1,p.2-1)) (h':=hp (p.1,p.2)) (g:=fun a=>decide (a.1=p.1/\p.2<a.2)) (V5 (fun x y ha hb=>decide_eq_decide.mpr (and_congr_right fun e=>by
   have n1:y≠p.2:=fun z=>tH ha h3 ⟨e,z⟩
   dsimp only
   clear e
   omega)) (fun x y ha hb=>by
   dsimp only
   simp only[lel,one]
   have e1:decide (x+1=p.1/\p.2<=y)=decide (x+1=p.1/\p.2<y):=decide_eq_decide.mpr (and_congr_right fun e=>Xb fun z=>tH hb h3 ⟨e,z⟩)
   rw[e1,Bool.xor_comm])) h2 w
  unfold cnt at c1 c2
  rw[e] at c1 c2 pp
  have f1:hp (p.1-1,p.2-1) (p.1-1,p.2) (p.1,p.2-1)=true:=by unfold hp;refine decide_eq_true (.inl ⟨rfl,?_,?_⟩) <;> dsimp only <;> omega
  have f2:hp (p.1,p.2) (p.1-1,p.2) (p.1,p.2-1)=false:=by unfold hp;refine decide_eq_false ?_;dsimp only;omega
  rw[f1] at c1
  rw[f2,Bool.xor_false] at c2
  rw[c2] at pp
  have g1:decide (p.1=p.1/\p.2<p.2-1)=false:=decide_eq_false fun z=>by have:=z.2;omega
  have g2:decide (p.1-1=p.1/\p.2<p.2)=false:=decide_eq_false fun z=>by have:=z.1;omega
  dsimp only at pp
  rw[g1,g2] at pp
  rw[Bool.xor_false] at pp
  rw[pp] at c1
  cases c1
def rem(S:List Pt)(c:Pt):List Pt:=S.filter fun q=>decide (q≠c)
theorem aY{c x:Pt}:x∈rem S c↔x∈S/\x≠c:=by unfold rem;rw[List.mem_filter,decide_eq_true_iff]
theorem Sc.we(s:Sc S){c:Pt}(hc:c∈S)(hn:(c.1,c.2+1)∈S)(hs:(c.1,c.2-1)∈S)(he:(c.1+1,c.2)∉S)(hw:(c.1-1,c.2)∉S)(k:cU (rem S c) (c.1,c.2+1) (c.1,c.2-1)):False:=by
 obtain⟨l,w,e⟩:=k.walk
 have hnr:(c.1,c.2+1)∈rem S c:=aY.mpr ⟨hn,fun z=>by have:=congrArg Prod.snd z;dsimp only at this;omega⟩
 have w1:Lf S (c.1,c.2+1) l:=by
  clear e k
  have:∀ {a:Pt} {l:List Pt},Lf (rem S c) a l->Lf S a l:=by
   intro a l
   induction l generalizing a with
   |nil=>exact fun z=>z
   |cons b l ih=>exact fun z=>⟨z.1,(aY.mp z.2.1).1,ih z.2.2⟩
  exact this w
 obtain⟨w2,e2⟩:=o8 w1 (n:=c) (by rw[e,jX];dsimp only;omega) hc
 have kk:Kg (endL (c.1,c.2+1) (l++[c])) (c.1,c.2+1):=by rw[e2];unfold Kg;dsimp only;omega
 have c1:=lr hn w2 kk he (s.esc _ he)
 have c2:=lr hn w2 kk hw (s.esc _ hw)
 have pp:=lG (S:=rem S c) (h:=hp (c.1+1,c.2)) (h':=hp (c.1-1,c.2)) (g:=fun a=>decide ((a.1=c.1\/a.1=c.1+1)/\c.2<a.2)) (V5 (fun x y ha hb=>decide_eq_decide.mpr (by
  have n1:=tH (aY.mp ha).1 he
  have n5:¬(x=c.1/\y=c.2):=fun z=>(aY.mp ha).2 (Prod.ext_iff.mpr z)
  dsimp only at n1 ⊢
  omega)) (fun x y ha hb=>by
  dsimp only
  refine XF ?_ ?_ ?_ ?_ <;> intros <;> omega)) hnr w
 have ps:∀(h:Pt->Pt->Bool) (a:Pt) (l:List Pt),par h a (l++[c])=(par h a l ^^ h (endL a l) c):=by
  intro h a l
  induction l generalizing a with
  |nil=>show (h a c ^^ false)=(false ^^ h a c);simp
  |cons b l ih=>show (h a b ^^ par h b (l++[c]))=((h a b ^^ par h b l) ^^ _);rw[ih,Bool.xor_assoc];rfl
 unfold cnt at c1 c2
 rw[e2,ps,e,uQ (a:=(c.1,c.2-1)) (b:=c) rfl,uQ (a:=c) (b:=(c.1,c.2+1)) rfl,Bool.xor_false,Bool.xor_false] at c1 c2
 rw[c1,c2,e] at pp
 have g1:decide (((c.1,c.2+1).1=c.1\/(c.1,c.2+1).1=c.1+1)/\c.2<(c.1,c.2+1).2)=true:=decide_eq_true (by dsimp only;omega)
 have g2:decide (((c.1,c.2-1).1=c.1\/(c.1,c.2-1).1=c.1+1)/\c.2<(c.1,c.2-1).2)=false:=decide_eq_false (by dsimp only;omega)
 rw[g1,g2] at pp
 cases pp
theorem Sc.ns(s:Sc S){c:Pt}(hc:c∈S)(he:(c.1+1,c.2)∈S)(hw:(c.1-1,c.2)∈S)(hn:(c.1,c.2+1)∉S)(hs:(c.1,c.2-1)∉S)(k:cU (rem S c) (c.1+1,c.2) (c.1-1,c.2)):False:=by
 obtain⟨l,w,e⟩:=k.walk
 have hnr:(c.1+1,c.2)∈rem S c:=aY.mpr ⟨he,fun z=>by have:=congrArg Prod.fst z;dsimp only at this;omega⟩
 have w1:Lf S (c.1+1,c.2) l:=by
  clear e k
  have:∀ {a:Pt} {l:List Pt},Lf (rem S c) a l->Lf S a l:=by
   intro a l
   induction l generalizing a with
   |nil=>exact fun z=>z
   |cons b l ih=>exact fun z=>⟨z.1,(aY.mp z.2.1).1,ih z.2.2⟩
  exact this w
 obtain⟨w2,e2⟩:=o8 w1 (n:=c) (by rw[e,jX];dsimp only;omega) hc
 have kk:Kg (endL (c.1+1,c.2) (l++[c])) (c.1+1,c.2):=by rw[e2];unfold Kg;dsimp only;omega
 have c1:=lr he w2 kk hn (s.esc _ hn)
 have c2:=lr he w2 kk hs (s.esc _ hs)
 have pp:=lG (S:=rem S c) (h:=hp (c.1,c.2+1)) (h':=hp (c.1,c.2-1)) (g:=fun _=>false) (V5 (fun _ _ _ _=>rfl) (fun x y ha hb=>by
  have n1:=tH (aY.mp ha).1 hn
  have n5:¬(x=c.1/\y=c.2):=fun z=>(aY.mp ha).2 (Prod.ext_iff.mpr z)
  have:decide (x=c.1/\c.2+1<y)=decide (x=c.1/\c.2-1<y):=decide_eq_decide.mpr (by dsimp only at n1;omega)
  dsimp only
  rw[this];simp)) hnr w
 have ps:∀(h:Pt->Pt->Bool) (a:Pt) (l:List Pt),par h a (l++[c])=(par h a l ^^ h (endL a l) c):=by
  intro h a l
  induction l generalizing a with
  |nil=>show (h a c ^^ false)=(false ^^ h a c);simp
  |cons b l ih=>show (h a b ^^ par h b (l++[c]))=((h a b ^^ par h b l) ^^ _);rw[ih,Bool.xor_assoc];rfl
 have f1:hp (c.1,c.2+1) (c.1-1,c.2) c=false:=by unfold hp;refine decide_eq_false ?_;dsimp only;omega
 have f2:hp (c.1,c.2+1) c (c.1+1,c.2)=false:=by unfold hp;refine decide_eq_false ?_;dsimp only;omega
 have f3:hp (c.1,c.2-1) (c.1-1,c.2) c=false:=by unfold hp;refine decide_eq_false ?_;dsimp only;omega
 have f4:hp (c.1,c.2-1) c (c.1+1,c.2)=true:=by unfold hp;refine decide_eq_true ?_;dsimp only;omega
 unfold cnt at c1 c2
 rw[e2,ps,e,f1,f2,Bool.xor_false,Bool.xor_false] at c1
 rw[e2,ps,e,f3,f4,Bool.xor_false] at c2
 rw[c1] at pp
 simp only[Bool.false_xor,Bool.xor_false] at pp
 rw[pp] at c2
 cases c2
end
section
variable{S T:List Pt}{c:Pt}
theorem Ec:∀ {S:List Pt},S≠[]->∃m∈S,∀q∈S,m.2<=q.2
 |[],h=>absurd rfl h
 |a::S,_=>by
  by_cases hS:S=[]
  ·subst hS;exact⟨a,List.mem_cons_self,fun q hq=>by rw[List.mem_singleton.mp hq];exact Int.le_refl _⟩
  ·obtain⟨m,hm,h⟩:=Ec hS
   by_cases g:a.2<=m.2
   ·refine⟨a,List.mem_cons_self,fun q hq=>?_⟩
    rcases List.mem_cons.mp hq with rfl | hq
    ·exact Int.le_refl _
    ·exact Int.le_trans g (h q hq)
   ·refine⟨m,List.mem_cons_of_mem _ hm,fun q hq=>?_⟩
    rcases List.mem_cons.mp hq with rfl | hq
    ·omega
    ·exact h q hq
theorem Tc(h:One S)(hc:c∉S)(h0:nb c 0∈S)(h1:nb c 1∈S)(h2:nb c 2∈S)(h3:nb c 3∈S):False:=by
 have all:∀j,j<4->nb c j∈S:=fun j hj=>by rcases c4 hj with rfl | rfl | rfl | rfl <;> assumption
 have clo:∀q,kY (RS S) (bU c 3) q->∃j,j<4/\q=bU c j:=by
  intro q hq
  induction hq with
  |refl=>exact⟨3,by omega,rfl⟩
  |@step q r _ s ih=>
   obtain⟨j,hj,rfl⟩:=ih
   obtain⟨d,e,rfl⟩:=s
   have hj':bz (bz (bz (bz j)))=j:=Q4 hj
   obtain⟨d',hd',e1,e2,e3⟩:=Tz (c:=c) (j:=bz (bz (bz j))) dN
   rw[hj'] at e1 e2 e3
   have:gY S (bU c j) d':=⟨hd',by rw[e1];exact all _ dN,by rw[e2];exact hc⟩
   have ed:=fu h.dg e this
   subst ed
   exact⟨_,dN,e3⟩
 obtain⟨m,hm,hl⟩:=Ec (List.ne_nil_of_mem h0)
 have em:gY S (m.1,m.2) 0:=⟨by omega,hm,fun z=>by have:=hl _ z;simp only[yl] at this;omega⟩
 have c3:kW S (bU c 3):=by
  have:=pY (S:=S) (p:=bU c (bz 2)) (Lz (c:=c) (j:=2) (by omega)) (Ip (c:=c) dN) h2 hc
  exact this
 obtain⟨j,hj,e⟩:=clo _ (h.all _ _ c3 ⟨0,em⟩)
 have e2:=congrArg Prod.snd e
 have l3:=hl _ h3
 rcases c4 hj with rfl | rfl | rfl | rfl <;> simp only[Xp,Zi,YX,ZQ,nb,zH] at e2 l3 <;> omega
theorem QZ(h:One S)(hT:∀x,x∈T↔x∈S\/x=c)(hc:c∉S)(alt1:¬(nb c 0∈S/\nb c 2∈S/\nb c 1∉S/\nb c 3∉S))(alt2:¬(nb c 1∈S/\nb c 3∈S/\nb c 0∉S/\nb c 2∉S))(dge:∀j,j<4->nb c j∉S->nb c (bz j)∉S->Fv c j∉S){i:Nat}(hi:i<4)(ha:nb c i∈S):One T:=by
 have cT:c∈T:=(hT c).mpr (.inr rfl)
 have same:∀q,q≠c->(q∈T↔q∈S):=fun q hq=>by rw[hT];exact⟨fun z=>z.resolve_right hq,.inl⟩
 have meet4:∀p,Meet p c->∃j,j<4/\p=bU c (bz j):=by
  intro p hp
  obtain⟨p1,p2⟩:=p
  rcases hp with e | e | e | e <;> subst e
  ·exact⟨2,by omega,by walk_at "pp"⟩
  ·exact⟨3,by omega,by walk_at "pp"⟩
  ·exact⟨0,by omega,by walk_at "pp"⟩
  ·exact⟨1,by omega,by walk_at "pp"⟩
 have nne:∀j,j<4->nb c j≠c:=by
  intro j hj e
  have e1:=congrArg Prod.fst e
  have e2:=congrArg Prod.snd e
  rcases c4 hj with rfl | rfl | rfl | rfl <;> simp only[nb,Ci,BZ,Bp,zH] at e1 e2 <;> omega
 have dne:∀j,j<4->Fv c j≠c:=by
  intro j hj e
  have e1:=congrArg Prod.fst e
  rcases c4 hj with rfl | rfl | rfl | rfl <;> simp only[Xr,XC,Z6,Xx] at e1 <;> omega
 have dgT:Dg T:=by
  intro p
  by_cases hp:Meet p c
  ·obtain⟨j,hj,rfl⟩:=meet4 p hp
   have k:=dge j hj
   have n1:=same _ (nne j hj)
   have n2:=same _ (nne (bz j) dN)
   have n3:=same _ (dne j hj)
   rw[←n1,←n2,←n3] at k
   rcases c4 hj with rfl | rfl | rfl | rfl
   ·rw[show ((bU c (bz 0)).1,(bU c (bz 0)).2)=Fv c 0 from by walk_at "pp",show ((bU c (bz 0)).1-1,(bU c (bz 0)).2-1)=c from by walk_at "pp",show ((bU c (bz 0)).1-1,(bU c (bz 0)).2)=nb c (bz 0) from by walk_at "pp",show ((bU c (bz 0)).1,(bU c (bz 0)).2-1)=nb c 0 from by walk_at "pp"]
    exact⟨fun ⟨z1,_,z3,z4⟩=>k z4 z3 z1,fun ⟨_,_,_,z4⟩=>z4 cT⟩
   ·rw[show ((bU c (bz 1)).1,(bU c (bz 1)).2)=nb c 1 from by walk_at "pp",show ((bU c (bz 1)).1-1,(bU c (bz 1)).2-1)=nb c (bz 1) from by walk_at "pp",show ((bU c (bz 1)).1-1,(bU c (bz 1)).2)=Fv c 1 from by walk_at "pp",show ((bU c (bz 1)).1,(bU c (bz 1)).2-1)=c from by walk_at "pp"]
    exact⟨fun ⟨_,_,_,z4⟩=>z4 cT,fun ⟨z1,_,z3,z4⟩=>k z3 z4 z1⟩
   ·rw[show ((bU c (bz 2)).1,(bU c (bz 2)).2)=c from by walk_at "pp",show ((bU c (bz 2)).1-1,(bU c (bz 2)).2-1)=Fv c 2 from by walk_at "pp",show ((bU c (bz 2)).1-1,(bU c (bz 2)).2)=nb c 2 from by walk_at "pp",show ((bU c (bz 2)).1,(bU c (bz 2)).2-1)=nb c (bz 2) from by walk_at "pp"]
    exact⟨fun ⟨_,z2,z3,z4⟩=>k z3 z4 z2,fun ⟨_,_,z3,_⟩=>z3 cT⟩
   ·rw[show ((bU c (bz 3)).1,(bU c (bz 3)).2)=nb c (bz 3) from by walk_at "pp",show ((bU c (bz 3)).1-1,(bU c (bz 3)).2-1)=nb c 3 from by walk_at "pp",show ((bU c (bz 3)).1-1,(bU c (bz 3)).2)=c from by walk_at "pp",show ((bU c (bz 3)).1,(bU c (bz 3)).2-1)=Fv c 3 from by walk_at "pp"]
    exact⟨fun ⟨_,_,z3,_⟩=>z3 cT,fun ⟨_,z2,z3,z4⟩=>k z4 z3 z2⟩
  ·obtain⟨g1,g2⟩:=h.dg p
   have m:∀q,Meet p q->(q∈T↔q∈S):=fun q hq=>same q fun e=>hp (e▸hq)
   rw[m (p.1,p.2) (.inl rfl),m (p.1-1,p.2) (.inr (.inl rfl)),m (p.1-1,p.2-1) (.inr (.inr (.inl rfl))),m (p.1,p.2-1) (.inr (.inr (.inr rfl)))]
   exact⟨g1,g2⟩
 refine⟨dgT,?_⟩
 have nf:=Tc h hc
 have go:∀ja jb,ja<4->jb<4->nb c ja∈S->nb c (bz ja)∉S->nb c jb∉S->nb c (bz jb)∈S->(∀j,j<4->nb c j∈S->nb c (bz j)∉S->j=ja)->(∀j,j<4->nb c j∉S->nb c (bz j)∈S->j=jb)->∀p q,kW T p->kW T q->kY (RS T) p q :=
  fun ja jb hja hjb a1 a2 b1 b2 ua ub=>Qs h hT hc hja hjb a1 a2 b1 b2 ua ub
 by_cases z0:nb c 0∈S <;> by_cases z1:nb c 1∈S <;> by_cases z2:nb c 2∈S <;> by_cases z3:nb c 3∈S
 ·exact (nf z0 z1 z2 z3).elim
 ·exact go 2 3 (by omega) (by omega) z2 z3 z3 z0 (fun j hj y1 y2=>by rcases c4 hj with rfl | rfl | rfl | rfl <;> first | rfl | exact absurd y1 (by assumption) | exact absurd (by assumption) y2) (fun j hj y1 y2=>by rcases c4 hj with rfl | rfl | rfl | rfl <;> first | rfl | exact absurd (by assumption) y1 | exact absurd y2 (by assumption))
 ·exact go 1 2 (by omega) (by omega) z1 z2 z2 z3 (fun j hj y1 y2=>by rcases c4 hj with rfl | rfl | rfl | rfl <;> first | rfl | exact absurd y1 (by assumption) | exact absurd (by assumption) y2) (fun j hj y1 y2=>by rcases c4 hj with rfl | rfl | rfl | rfl <;> first | rfl | exact absurd (by assumption) y1 | exact absurd y2 (by assumption))
 ·exact go 1 3 (by omega) (by omega) z1 z2 z3 z0 (fun j hj y1 y2=>by rcases c4 hj with rfl | rfl | rfl | rfl <;> first | rfl | exact absurd y1 (by assumption) | exact absurd (by assumption) y2) (fun j hj y1 y2=>by rcases c4 hj with rfl | rfl | rfl | rfl <;> first | rfl | exact absurd (by assumption) y1 | exact absurd y2 (by assumption))
 ·exact go 0 1 (by omega) (by omega) z0 z1 z1 z2 (fun j hj y1 y2=>by rcases c4 hj with rfl | rfl | rfl | rfl <;> first | rfl | exact absurd y1 (by assumption) | exact absurd (by assumption) y2) (fun j hj y1 y2=>by rcases c4 hj with rfl | rfl | rfl | rfl <;> first | rfl | exact absurd (by assumption) y1 | exact absurd y2 (by assumption))
 ·exact (alt1 ⟨z0,z2,z1,z3⟩).elim
 ·exact go 0 2 (by omega) (by omega) z0 z1 z2 z3 (fun j hj y1 y2=>by rcases c4 hj with rfl | rfl | rfl | rfl <;> first | rfl | exact absurd y1 (by assumption) | exact absurd (by assumption) y2) (fun j hj y1 y2=>by rcases c4 hj with rfl | rfl | rfl | rfl <;> first | rfl | exact absurd (by assumption) y1 | exact absurd y2 (by assumption))
 ·exact go 0 3 (by omega) (by omega) z0 z1 z3 z0 (fun j hj y1 y2=>by rcases c4 hj with rfl | rfl | rfl | rfl <;> first | rfl | exact absurd y1 (by assumption) | exact absurd (by assumption) y2) (fun j hj y1 y2=>by rcases c4 hj with rfl | rfl | rfl | rfl <;> first | rfl | exact absurd (by assumption) y1 | exact absurd y2 (by assumption))
 ·exact go 3 0 (by omega) (by omega) z3 z0 z0 z1 (fun j hj y1 y2=>by rcases c4 hj with rfl | rfl | rfl | rfl <;> first | rfl | exact absurd y1 (by assumption) | exact absurd (by assumption) y2) (fun j hj y1 y2=>by rcases c4 hj with rfl | rfl | rfl | rfl <;> first | rfl | exact absurd (by assumption) y1 | exact absurd y2 (by assumption))
 ·exact go 2 0 (by omega) (by omega) z2 z3 z0 z1 (fun j hj y1 y2=>by rcases c4 hj with rfl | rfl | rfl | rfl <;> first | rfl | exact absurd y1 (by assumption) | exact absurd (by assumption) y2) (fun j hj y1 y2=>by rcases c4 hj with rfl | rfl | rfl | rfl <;> first | rfl | exact absurd (by assumption) y1 | exact absurd y2 (by assumption))
 ·exact (alt2 ⟨z1,z3,z0,z2⟩).elim
 ·exact go 1 0 (by omega) (by omega) z1 z2 z0 z1 (fun j hj y1 y2=>by rcases c4 hj with rfl | rfl | rfl | rfl <;> first | rfl | exact absurd y1 (by assumption) | exact absurd (by assumption) y2) (fun j hj y1 y2=>by rcases c4 hj with rfl | rfl | rfl | rfl <;> first | rfl | exact absurd (by assumption) y1 | exact absurd y2 (by assumption))
 ·exact go 3 1 (by omega) (by omega) z3 z0 z1 z2 (fun j hj y1 y2=>by rcases c4 hj with rfl | rfl | rfl | rfl <;> first | rfl | exact absurd y1 (by assumption) | exact absurd (by assumption) y2) (fun j hj y1 y2=>by rcases c4 hj with rfl | rfl | rfl | rfl <;> first | rfl | exact absurd (by assumption) y1 | exact absurd y2 (by assumption))
 ·exact go 2 1 (by omega) (by omega) z2 z3 z1 z2 (fun j hj y1 y2=>by rcases c4 hj with rfl | rfl | rfl | rfl <;> first | rfl | exact absurd y1 (by assumption) | exact absurd (by assumption) y2) (fun j hj y1 y2=>by rcases c4 hj with rfl | rfl | rfl | rfl <;> first | rfl | exact absurd (by assumption) y1 | exact absurd y2 (by assumption))
 ·exact go 3 2 (by omega) (by omega) z3 z0 z2 z3 (fun j hj y1 y2=>by rcases c4 hj with rfl | rfl | rfl | rfl <;> first | rfl | exact absurd y1 (by assumption) | exact absurd (by assumption) y2) (fun j hj y1 y2=>by rcases c4 hj with rfl | rfl | rfl | rfl <;> first | rfl | exact absurd (by assumption) y1 | exact absurd y2 (by assumption))
 ·exfalso
  rcases c4 hi with rfl | rfl | rfl | rfl <;> contradiction
end
section
variable{S T:List Pt}
theorem cU.into{P:Pt->Prop}{a b:Pt}(h:cU S a b)(ha:a∈S)(pa:P a)(cl:∀x n,x∈S->P x->n∈bA x->n∈S->P n)(hs:∀x∈S,P x->x∈T):cU T a b/\P b:=by
 induction h with
 |refl=>exact⟨.refl,pa⟩
 |step k h h' ih=>exact⟨.step ih.1 h (hs _ h' (cl _ _ (k.mem ha) ih.2 h h')),cl _ _ (k.mem ha) ih.2 h h'⟩
theorem cU.hit{a c:Pt}(h:cU S a c)(ha:a∈S)(hac:a≠c):∃w,w∈bA c/\w∈rem S c/\cU (rem S c) a w:=by
 have har:a∈rem S c:=aY.mpr ⟨ha,hac⟩
 have:∀b,cU S a b->(cU (rem S c) a b/\b≠c)\/∃w,w∈bA c/\w∈rem S c/\cU (rem S c) a w:=by
  intro b hb
  induction hb with
  |refl=>exact .inl ⟨.refl,hac⟩
  |step _ k k' ih=>
   rename_i b n _
   rcases ih with ⟨i1,i2⟩ | ih
   ·by_cases e:n=c
    ·exact .inr ⟨b,by rw[←e];exact Jg k,i1.mem har,i1⟩
    ·exact .inl ⟨.step i1 k (aY.mpr ⟨k',e⟩),e⟩
   ·exact .inr ih
 rcases this c h with ⟨_,z⟩ | z
 ·exact absurd rfl z
 ·exact z
theorem DQ:∀ {S:List Pt},S≠[]->∃m∈S,∀q∈S,q.2<m.2\/(q.2=m.2/\m.1<=q.1)
 |[a],_=>⟨a,by simp,fun q hq=>by rw[List.mem_singleton.mp hq];omega⟩
 |a::b::l,_=>by
  obtain⟨m,hm,h⟩:=DQ (S:=b::l) (by simp)
  by_cases z:a.2<m.2\/(a.2=m.2/\m.1<=a.1)
  ·refine⟨m,List.mem_cons_of_mem _ hm,fun q hq=>?_⟩
   rcases List.mem_cons.mp hq with rfl | hq
   ·exact z
   ·exact h q hq
  ·refine⟨a,List.mem_cons_self,fun q hq=>?_⟩
   rcases List.mem_cons.mp hq with rfl | hq
   ·omega
   ·have:=h q hq;omega
theorem Aw:∀ {S:List Pt},S≠[]->∃m∈S,∀q∈S,m.2<q.2\/(q.2=m.2/\q.1<=m.1)
 |[a],_=>⟨a,by simp,fun q hq=>by rw[List.mem_singleton.mp hq];omega⟩
 |a::b::l,_=>by
  obtain⟨m,hm,h⟩:=Aw (S:=b::l) (by simp)
  by_cases z:m.2<a.2\/(a.2=m.2/\a.1<=m.1)
  ·refine⟨m,List.mem_cons_of_mem _ hm,fun q hq=>?_⟩
   rcases List.mem_cons.mp hq with rfl | hq
   ·exact z
   ·exact h q hq
  ·refine⟨a,List.mem_cons_self,fun q hq=>?_⟩
   rcases List.mem_cons.mp hq with rfl | hq
   ·omega
   ·have:=h q hq;omega
theorem abd{r:Pt}(hr:r∈S)(hq:∃q∈S,q≠r):∃c∈S,c≠r/\∃e∈bA c,e∉S:=by
 have hne:S≠[]:=List.ne_nil_of_mem hr
 obtain⟨t,ht,h1⟩:=DQ hne
 obtain⟨b,hb,h2⟩:=Aw hne
 by_cases e:t=r
 ·have eb:b≠r:=fun z=>by
   obtain⟨q,hq,hn⟩:=hq
   have a1:=h1 q hq
   have a2:=h2 q hq
   rw[e] at a1
   rw[z] at a2
   exact hn (Prod.ext (by omega) (by omega))
  exact⟨b,hb,eb,(b.1+1,b.2),by rw[jX];dsimp only;omega,fun z=>by have:=h2 _ z;dsimp only at this;omega⟩
 ·exact⟨t,ht,e,(t.1-1,t.2),by rw[jX];dsimp only;omega,fun z=>by have:=h1 _ z;dsimp only at this;omega⟩
theorem JN:∀(n:Nat) {S:List Pt} {r:Pt},S.length<=n->(∀a∈S,∀b∈S,cU S a b)->r∈S->(∃q∈S,q≠r)->∃c∈S,c≠r/\(∀a∈rem S c,∀b∈rem S c,cU (rem S c) a b)/\∃e∈bA c,e∉S
 |0,S,r,hn,_,hr,_=>by
  have:S=[]:=List.eq_nil_of_length_eq_zero (by omega)
  rw[this] at hr;cases hr
 |n+1,S,r,hn,con,hr,hq=>by
  obtain⟨c0,hc0,hcr,e,he,heS⟩:=abd hr hq
  by_cases all:∀a∈rem S c0,∀b∈rem S c0,cU (rem S c0) a b
  ·exact⟨c0,hc0,hcr,all,e,he,heS⟩
  have hrr:r∈rem S c0:=aY.mpr ⟨hr,fun z=>hcr z.symm⟩
  have ex:∃q∈rem S c0,¬cU (rem S c0) r q:=by
   refine Classical.byContradiction fun z=>all fun a ha b hb=>?_
   have k:∀q∈rem S c0,cU (rem S c0) r q:=fun q hq=>Classical.byContradiction fun y=>z ⟨q,hq,y⟩
   exact ((k a ha).symm hrr).trans (k b hb)
  obtain⟨q,hq1,hq2⟩:=ex
  have dec:∃A:List Pt,(∀x,x∈A↔x∈S/\(x=c0\/¬cU (rem S c0) r x))/\A.length<S.length:=by
   refine⟨S.filter fun x=>@decide (x=c0\/¬cU (rem S c0) r x) (Classical.propDecidable _),fun x=>?_,?_⟩
   ·rw[List.mem_filter,@decide_eq_true_iff _ (Classical.propDecidable _)]
   ·refine List.length_filter_lt_length_iff_exists.mpr ⟨r,hr,?_⟩
    rw[@decide_eq_true_iff _ (Classical.propDecidable _)]
    rintro (z | z)
    ·exact hcr z.symm
    ·exact z .refl
  obtain⟨A,hA,hAl⟩:=dec
  have hcA:c0∈A:=(hA c0).mpr ⟨hc0,.inl rfl⟩
  have toC:∀a∈A,cU A a c0:=fun a ha=>by
   obtain⟨haS,haa⟩:=(hA a).mp ha
   by_cases z:a=c0
   ·subst z;exact .refl
   have haa:=haa.resolve_left z
   obtain⟨w,w1,w2,w3⟩:=(con a haS c0 hc0).hit haS z
   have k:=w3.into (T:=A) (P:=fun x=>¬cU (rem S c0) r x) (aY.mpr ⟨haS,z⟩) haa (fun x m hxm hx hm hmr y=>hx (.step y (Jg hm) hxm)) (fun x hx px=>(hA x).mpr ⟨(aY.mp hx).1,.inr px⟩)
   exact .step k.1 (Jg w1) hcA
  obtain⟨c,hcA',hcc,hcon,e',he',heA⟩:=JN n (S:=A) (r:=c0) (by omega) (fun a ha b hb=>(toC a ha).trans ((toC b hb).symm hb)) hcA ⟨q,(hA q).mpr ⟨(aY.mp hq1).1,.inr hq2⟩,(aY.mp hq1).2⟩
  obtain⟨hcS,hcn⟩:=(hA c).mp hcA'
  have hcn:=hcn.resolve_left hcc
  have hcR:c∈rem S c0:=aY.mpr ⟨hcS,hcc⟩
  refine⟨c,hcS,fun z=>hcn (by rw[z];exact .refl),?_,e',he',fun z=>heA ((hA e').mpr ⟨z,.inr fun y=>?_⟩)⟩
  ·have h0:c0∈rem S c:=aY.mpr ⟨hc0,fun z=>hcc z.symm⟩
   have to0:∀a∈rem S c,cU (rem S c) a c0:=fun a ha=>by
    obtain⟨haS,hac⟩:=aY.mp ha
    by_cases z:a∈A
    ·exact (hcon a (aY.mpr ⟨z,hac⟩) c0 (aY.mpr ⟨hcA,fun z=>hcc z.symm⟩)).mono fun x hx=>aY.mpr ⟨((hA x).mp (aY.mp hx).1).1,(aY.mp hx).2⟩
    ·have ha0:a≠c0:=fun y=>z (by rw[y];exact hcA)
     have hra:cU (rem S c0) r a:=Classical.byContradiction fun y=>z ((hA a).mpr ⟨haS,.inr y⟩)
     obtain⟨w,w1,w2,w3⟩:=(con a haS c0 hc0).hit haS ha0
     have k:=w3.into (T:=rem S c) (P:=fun x=>cU (rem S c0) r x) (aY.mpr ⟨haS,ha0⟩) hra (fun x m _ hx hm hmr=>.step hx hm hmr) (fun x hx px=>aY.mpr ⟨(aY.mp hx).1,fun y=>hcn (by rw[←y];exact px)⟩)
     exact .step k.1 (Jg w1) h0
   exact fun a ha b hb=>(to0 a ha).trans ((to0 b hb).symm hb)
  ·refine hcn (.step y (Jg he') hcR)
theorem Ar{c:Pt}{w:Pt}(h:w∈bA c):∃i,i<4/\nb c i=w:=by
 rw[RP] at h
 rcases h with rfl | rfl | rfl | rfl
 ·exact⟨0,by omega,Prod.ext rfl (by show c.2+0=c.2;omega)⟩
 ·exact⟨1,by omega,Prod.ext (by show c.1+0=c.1;omega) rfl⟩
 ·exact⟨2,by omega,Prod.ext rfl (by show c.2+0=c.2;omega)⟩
 ·exact⟨3,by omega,Prod.ext (by show c.1+0=c.1;omega) rfl⟩
theorem nbs(c:Pt):nb c 0=(c.1+1,c.2)/\nb c 1=(c.1,c.2+1)/\nb c 2=(c.1-1,c.2)/\nb c 3=(c.1,c.2-1) :=
 ⟨Prod.ext rfl (by show c.2+0=c.2;omega),Prod.ext (by show c.1+0=c.1;omega) rfl,Prod.ext rfl (by show c.2+0=c.2;omega),Prod.ext (by show c.1+0=c.1;omega) rfl⟩
theorem Sc.round(s:Sc S){c:Pt}(hc:c∈S)(con:∀a∈rem S c,∀b∈rem S c,cU (rem S c) a b) :
  ¬(nb c 0∈rem S c/\nb c 2∈rem S c/\nb c 1∉rem S c/\nb c 3∉rem S c)/\¬(nb c 1∈rem S c/\nb c 3∈rem S c/\nb c 0∉rem S c/\nb c 2∉rem S c)/\∀j,j<4->nb c j∉rem S c->nb c (bz j)∉rem S c->Fv c j∉rem S c:=by
 have dg:=s.dg
 obtain⟨n0,n1,n2,n3⟩:=nbs c
 have q0:(c.1+1,c.2)≠c:=fun z=>by have:=congrArg Prod.fst z;dsimp only at this;omega
 have q1:(c.1,c.2+1)≠c:=fun z=>by have:=congrArg Prod.snd z;dsimp only at this;omega
 have q2:(c.1-1,c.2)≠c:=fun z=>by have:=congrArg Prod.fst z;dsimp only at this;omega
 have q3:(c.1,c.2-1)≠c:=fun z=>by have:=congrArg Prod.snd z;dsimp only at this;omega
 have off:∀ {q:Pt},q≠c->q∉rem S c->q∉S:=fun hq h z=>h (aY.mpr ⟨z,hq⟩)
 rw[n0,n1,n2,n3]
 refine⟨fun ⟨a,b,d,e⟩=>s.ns hc (aY.mp a).1 (aY.mp b).1 (off q1 d) (off q3 e) (con _ a _ b),fun ⟨a,b,d,e⟩=>s.we hc (aY.mp a).1 (aY.mp b).1 (off q0 d) (off q2 e) (con _ a _ b),fun j hj a b z=>?_⟩
 have z:=(aY.mp z).1
 rcases c4 hj with rfl | rfl | rfl | rfl <;> simp only[FT,Ei,Ej,Ex] at b
 ·rw[n0] at a;rw[n1] at b;rw[Xr] at z
  refine (dg (c.1+1,c.2+1)).1 ⟨z,?_,?_,?_⟩ <;> dsimp only <;> try simp only[Int.add_sub_cancel]
  ·exact hc
  ·exact off q1 b
  ·exact off q0 a
 ·rw[n1] at a;rw[n2] at b;rw[XC] at z
  refine (dg (c.1,c.2+1)).2 ⟨z,?_,?_,?_⟩ <;> dsimp only <;> try simp only[Int.add_sub_cancel]
  ·exact hc
  ·exact off q1 a
  ·exact off q2 b
 ·rw[n2] at a;rw[n3] at b;rw[Z6] at z
  exact (dg (c.1,c.2)).1 ⟨hc,z,off q2 a,off q3 b⟩
 ·rw[n3] at a;rw[n0] at b;rw[Xx] at z
  refine (dg (c.1+1,c.2)).2 ⟨?_,z,off q0 b,?_⟩ <;> dsimp only <;> try simp only[Int.add_sub_cancel]
  ·exact hc
  ·exact off q3 a
theorem Sc.one:∀(n:Nat) {S:List Pt},S.length<=n->S≠[]->Sc S->One S
 |0,S,hn,h0,_=>absurd (List.eq_nil_of_length_eq_zero (by omega)) h0
 |n+1,S,hn,h0,s=>by
  obtain⟨r,hr⟩:=List.exists_mem_of_ne_nil _ h0
  by_cases hq:∃q∈S,q≠r
  ·obtain⟨c,hc,hcr,con,e,he,heS⟩:=JN S.length (Nat.le_refl _) s.con hr hq
   have hlt:(rem S c).length<S.length:=List.length_filter_lt_length_iff_exists.mpr ⟨c,hc,by rw[decide_eq_true_iff];exact fun z=>z rfl⟩
   have sub:∀x,x∈rem S c->x∈S:=fun x hx=>(aY.mp hx).1
   have esc:∀a,a∉S->Esc (rem S c) a:=fun a ha=>by
    obtain⟨b,w,hb⟩:=s.esc a ha
    exact⟨b,w.congr sub,fun x hx=>hb x (sub x hx)⟩
   have sT:Sc (rem S c):=⟨con,fun a ha=>by
    by_cases z:a=c
    ·subst z
     obtain⟨b,w,hb⟩:=esc e heS
     exact⟨b,Way.trans (.step .refl he fun y=>heS (sub _ y)) w,hb⟩
    ·exact esc a fun y=>ha (aY.mpr ⟨y,z⟩)⟩
   have hrT:r∈rem S c:=aY.mpr ⟨hr,fun z=>hcr z.symm⟩
   obtain⟨w,w1,w2,_⟩:=(s.con r hr c hc).hit hr fun z=>hcr z.symm
   obtain⟨i,hi,ew⟩:=Ar w1
   obtain⟨k1,k2,k3⟩:=s.round hc con
   refine QZ (S:=rem S c) (T:=S) (c:=c) (Sc.one n (by omega) (List.ne_nil_of_mem hrT) sT) (fun x=>?_) (fun z=>(aY.mp z).2 rfl) k1 k2 k3 hi (by rw[ew];exact w2)
   rw[aY]
   constructor
   ·intro h
    by_cases z:x=c
    ·exact .inr z
    ·exact .inl ⟨h,z⟩
   ·rintro (h | h)
    ·exact h.1
    ·rw[h];exact hc
  ·have e1:=Vx.mv r
   refine e1.congr fun x=>?_
   simp only[List.map_cons,List.map_nil,List.mem_singleton]
   rw[show ((0:Int)+r.1,(0:Int)+r.2)=r from Prod.ext (by dsimp only;omega) (by dsimp only;omega)]
   constructor
   ·intro h;rw[h];exact hr
   ·intro h;exact Classical.byContradiction fun z=>hq ⟨x,h,z⟩
end
def ltN(d:Nat):Lt:=match d with
 |0=>0
 |1=>1
 |2=>2
 |_=>3
theorem tW{d:Nat}(h:d<4):step (ltN d)=stp d:=by
 rcases c4 h with rfl | rfl | rfl | rfl <;> rfl
def yS(c:Pt)(d:Nat):Pt:=match d with
 |0=>(c.1,c.2)
 |1=>(c.1+1,c.2)
 |2=>(c.1+1,c.2+1)
 |_=>(c.1,c.2+1)
def Dq(c:Pt)(d:Nat):Pt:=match d with
 |0=>(c.1,c.2-1)
 |1=>(c.1+1,c.2)
 |2=>(c.1,c.2+1)
 |_=>(c.1-1,c.2)
theorem Ux{c:Pt}{d:Nat}(h:d<4):rT (yS c d) d=c:=by
 rcases c4 h with rfl | rfl | rfl | rfl
 ·rfl
 ·exact Prod.ext (by show c.1+1-1=c.1;omega) rfl
 ·exact Prod.ext (by show c.1+1-1=c.1;omega) (by show c.2+1-1=c.2;omega)
 ·exact Prod.ext rfl (by show c.2+1-1=c.2;omega)
theorem Qu{c:Pt}{d:Nat}(h:d<4):qu (yS c d) d=Dq c d:=by
 rcases c4 h with rfl | rfl | rfl | rfl
 ·rfl
 ·rfl
 ·exact Prod.ext (by show c.1+1-1=c.1;omega) rfl
 ·exact Prod.ext rfl (by show c.2+1-1=c.2;omega)
theorem Ao{p:Pt}{d:Nat}(h:d<4):p=yS (rT p d) d:=by
 rcases c4 h with rfl | rfl | rfl | rfl
 ·rfl
 ·exact Prod.ext (by show p.1=p.1-1+1;omega) rfl
 ·exact Prod.ext (by show p.1=p.1-1+1;omega) (by show p.2=p.2-1+1;omega)
 ·exact Prod.ext rfl (by show p.2=p.2-1+1;omega)
structure Lb(S:List Pt)(val:Pt->Nat->D)(i k:Nat)(kvs:List (Pt×D)):Prop where
 nd:(kvs.map (·.1)).Nodup
 sub:∀q∈kvs.map (·.1),kW S q
 has:∀(j d:Nat) (c:Pt),S[j]?=some c->d<4->(j<i\/(j=i/\d<k))->Dq c d∉S->yS c d∈kvs.map (·.1)
 look:∀q∈kvs.map (·.1),j9 kvs q=some (val q (outD S q))
 len:kvs.length<=4*i+k
section
variable{S:List Pt}{val:Pt->Nat->D}{i k:Nat}{kvs:List (Pt×D)}{c:Pt}
theorem Lb.nil:Lb S val 0 0 []:=⟨by simp,by simp,fun j d c _ _ h=>by omega,by simp,by simp⟩
theorem Lb.skip(h:Lb S val i k kvs)(hc:S[i]?=some c)(hin:Dq c k∈S):Lb S val i (k+1) kvs :=
 ⟨h.nd,h.sub,fun j d c' hj hd hjk ho=>by
  by_cases e:j=i/\d=k
  ·obtain⟨rfl,rfl⟩:=e
   rw[hc] at hj;cases hj
   exact absurd hin ho
  ·exact h.has j d c' hj hd (hjk.imp_right fun ⟨a,b⟩=>⟨a,Nat.lt_of_le_of_ne (Nat.lt_succ_iff.mp b) fun z=>e ⟨a,z⟩⟩) ho,h.look,Nat.le_succ_of_le h.len⟩
theorem Lb.put(g:Dg S)(h:Lb S val i k kvs)(hc:S[i]?=some c)(hk:k<4)(hin:Dq c k∉S):Lb S val i (k+1) (wV kvs (yS c k) (val (yS c k) k)):=by
 have hcS:c∈S:=List.mem_of_getElem? hc
 have ed:gY S (yS c k) k:=⟨hk,by rw[Ux hk];exact hcS,by rw[Qu hk];exact hin⟩
 have eo:outD S (yS c k)=k:=fu g (cG ⟨k,ed⟩) ed
 refine⟨G3 h.nd,fun q hq=>?_,fun j d c' hj hd hjk ho=>?_,fun q hq=>?_,?_⟩
 ·rcases tZ.mp hq with hq | rfl
  ·exact h.sub q hq
  ·exact⟨k,ed⟩
 ·by_cases e:j=i/\d=k
  ·obtain⟨rfl,rfl⟩:=e
   rw[hc] at hj;cases hj
   exact tZ.mpr (.inr rfl)
  ·exact tZ.mpr (.inl (h.has j d c' hj hd (hjk.imp_right fun ⟨a,b⟩=>⟨a,Nat.lt_of_le_of_ne (Nat.lt_succ_iff.mp b) fun z=>e ⟨a,z⟩⟩) ho))
 ·rw[Oj]
  by_cases e:q=yS c k
  ·subst e;rw[if_pos rfl,eo]
  ·rw[if_neg e]
   exact h.look q ((tZ.mp hq).resolve_right e)
 ·have hl:=h.len
  unfold wV
  split
  ·rw[List.length_map];omega
  ·rw[List.length_append,List.length_singleton];omega
theorem Lb.next(h:Lb S val i 4 kvs):Lb S val (i+1) 0 kvs :=
 ⟨h.nd,h.sub,fun j d c hj hd hjk ho=>h.has j d c hj hd (by omega) ho,h.look,by have:=h.len;omega⟩
theorem Lb.all(h:Lb S val S.length 0 kvs)(q:Pt):q∈kvs.map (·.1)↔kW S q:=by
 refine⟨h.sub q,fun ⟨d,e⟩=>?_⟩
 obtain⟨j,hj⟩:=List.mem_iff_getElem?.mp e.l
 have:=h.has j d _ hj e.lt (.inl (List.getElem?_eq_some_iff.mp hj).1) (by rw[←Qu e.lt,←Ao e.lt];exact e.r)
 rw[←Ao e.lt] at this
 exact this
theorem Lb.at(h:Lb S val S.length 0 kvs){q:Pt}(hq:kW S q):j9 kvs q=some (val q (outD S q)):=h.look q ((h.all q).mpr hq)
end
theorem QJ{S:List Pt}{s:Pt}(h:S[0]?=some s):pU (S.map bN) 0=some (.tup [.int s.1,.int s.2]):=by
 have:=(List.getElem?_eq_some_iff.mp h).1
 unfold pU Pq
 rw[List.length_map,if_pos (by omega),if_pos (by omega),Option.bind_some,List.getElem?_map]
 show (S[0]?).map bN=_
 rw[h];rfl
theorem jy{S:List Pt}{p:Pt}:outD S p<4:=by unfold outD;repeat (first | omega | split)
def wd(S:List Pt)(p:Pt)(t:Nat):List Lt:=(List.range t).map fun i=>ltN (outD S (dm S p i))
theorem d7(S:List Pt)(p:Pt)(t:Nat):(wd S p t).length=t:=by unfold wd;rw[List.length_map,List.length_range]
theorem lE(S:List Pt)(p:Pt)(t:Nat):wd S p (t+1)=wd S p t++[ltN (outD S (dm S p t))]:=by unfold wd;rw[List.range_succ,List.map_append];rfl
theorem wC(S:List Pt)(p:Pt){t i:Nat}(h:i<=t):(wd S p t).take i=wd S p i:=by unfold wd;rw[←List.map_take,List.take_range,Nat.min_eq_left h]
theorem nA(S:List Pt)(p:Pt):∀t,cM p (wd S p t)=dm S p t
 |0=>rfl
 |t+1=>by
  rw[lE,Ag,nA S p t,tW jy]
  exact Prod.ext rfl rfl
def Mz(S cs:List Pt):Nat:=(cs.map fun c=>((bA c).filter fun q=>!decide (q∈S)).length).sum
theorem T6(c:Pt):((List.range 4).map (Dq c)).Perm (bA c):=by
 show [(c.1,c.2-1),(c.1+1,c.2),(c.1,c.2+1),(c.1-1,c.2)].Perm [(c.1+1,c.2),(c.1,c.2+1),(c.1-1,c.2),(c.1,c.2-1)]
 exact List.perm_append_comm (l₁:=[(c.1,c.2-1)]) (l₂:=[(c.1+1,c.2),(c.1,c.2+1),(c.1-1,c.2)])
def um(S cs:List Pt):List Pt:=(cs.map fun c=>((List.range 4).filter fun d=>!decide (Dq c d∈S)).map (yS c)).flatten
theorem Qz(S:List Pt)(cs:List Pt):(um S cs).length=Mz S cs:=by
 unfold um Mz
 rw[List.length_flatten,List.map_map]
 congr 1
 refine List.map_congr_left fun c _=>?_
 show (((List.range 4).filter fun d=>!decide (Dq c d∈S)).map (yS c)).length=_
 rw[List.length_map,←((T6 c).filter _).length_eq,List.filter_map,List.length_map]
 rfl
theorem wQ{S cs:List Pt}{q:Pt}:q∈um S cs↔∃c∈cs,∃d,d<4/\Dq c d∉S/\q=yS c d:=by
 unfold um
 simp only[List.mem_flatten,List.mem_map,List.mem_filter,List.mem_range,Bool.not_eq_true',decide_eq_false_iff_not]
 constructor
 ·rintro⟨_,⟨c,hc,rfl⟩,h⟩
  obtain⟨d,hd,rfl⟩:=List.mem_map.mp h
  have:=List.mem_filter.mp hd
  exact⟨c,hc,d,List.mem_range.mp this.1,by simpa using this.2,rfl⟩
 ·rintro⟨c,hc,d,h1,h2,rfl⟩
  exact⟨_,⟨c,hc,rfl⟩,List.mem_map.mpr ⟨d,List.mem_filter.mpr ⟨List.mem_range.mpr h1,by simpa using h2⟩,rfl⟩⟩
theorem nu{S:List Pt}{c:Pt}{d:Nat}(hc:c∈S)(hd:d<4)(ho:Dq c d∉S):gY S (yS c d) d:=⟨hd,by rw[Ux hd];exact hc,by rw[Qu hd];exact ho⟩
theorem BP{S:List Pt}(g:Dg S):∀ {cs:List Pt},cs.Nodup->(∀c∈cs,c∈S)->(um S cs).Nodup
 |[],_,_=>by simp[um]
 |c::cs,nd,sub=>by
  have h1:=List.nodup_cons.mp nd
  have e:um S (c::cs)=((List.range 4).filter fun d=>!decide (Dq c d∈S)).map (yS c)++um S cs:=by simp[um]
  have hc:=sub c (by simp)
  rw[e,List.nodup_append]
  refine⟨?_,BP g h1.2 fun x hx=>sub x (by simp[hx]),fun a ha b hb z=>?_⟩
  ·rw[List.nodup_iff_pairwise_ne,List.pairwise_map]
   refine List.Pairwise.imp_of_mem (fun {a b} ha hb hne z=>?_) (List.nodup_iff_pairwise_ne.mp (List.nodup_range.filter _))
   have ka:=List.mem_filter.mp ha
   have kb:=List.mem_filter.mp hb
   have ea:=nu hc (List.mem_range.mp ka.1) (by simpa using ka.2)
   have eb:=nu hc (List.mem_range.mp kb.1) (by simpa using kb.2)
   rw[←z] at eb
   exact hne (fu g ea eb)
  ·subst z
   obtain⟨d,hd,rfl⟩:=List.mem_map.mp ha
   have kd:=List.mem_filter.mp hd
   obtain⟨c',hc',d',h1',h2',e'⟩:=wQ.mp hb
   have ea:=nu hc (List.mem_range.mp kd.1) (by simpa using kd.2)
   have eb:=nu (sub c' (by simp[hc'])) h1' h2'
   have e2:=e'
   rw[←e'] at eb
   have ed:=fu g ea eb
   subst ed
   have:c=c':=by rw[←Ux (c:=c) ea.lt,e',Ux ea.lt]
   exact h1.1 (this▸hc')
theorem CG{S:List Pt}{s0:Pt}{t:Nat}(g:Dg S)(nd:S.Nodup)(hcr:kW S s0)(r:Dp S s0 t):Mz S S=t:=by
 rw[←Qz]
 refine r.len hcr (BP g nd fun _ h=>h) fun q=>?_
 rw[wQ]
 constructor
 ·rintro⟨c,hc,d,h1,h2,rfl⟩;exact⟨d,nu hc h1 h2⟩
 ·rintro⟨d,e⟩
  exact⟨_,e.l,d,e.lt,by rw[←Qu e.lt,←Ao e.lt];exact e.r,Ao e.lt⟩
def ar(c:Pt):List Lt->Int
 |[]=>0
 |l::ls=>c.1*(step l).2+ar (rQ (step l) c) ls
theorem XJ(c:Pt)(as bs:List Lt):ar c (as++bs)=ar c as+ar (cM c as) bs:=by
 induction as generalizing c with
 |nil=>show ar c bs=0+ar c bs;omega
 |cons l as ih=>
  show c.1*(step l).2+ar (rQ (step l) c) (as++bs)=c.1*(step l).2+ar (rQ (step l) c) as+ar (cM (rQ (step l) c) as) bs
  rw[ih];omega
theorem K4(c:Pt)(ls:List Lt)(l:Lt):ar c (ls++[l])=ar c ls+(cM c ls).1*(step l).2:=by
 rw[XJ]
 show _+((cM c ls).1*(step l).2+0)=_
 omega
theorem U8(c:Pt)(ls:List Lt):ar c ls=ar (0,0) ls+c.1*(cM (0,0) ls).2:=by
 have key:∀(ls:List Lt) (c d:Pt),ar (rQ d c) ls=ar c ls+d.1*((cM c ls).2-c.2):=by
  intro ls
  induction ls with
  |nil=>intro c d;show (0:Int)=0+d.1*(c.2-c.2);rw[Int.sub_self,Int.mul_zero];rfl
  |cons l ls ih=>
   intro c d
   have e:rQ (step l) (rQ d c)=rQ d (rQ (step l) c):=Prod.ext (by show c.1+d.1+(step l).1=c.1+(step l).1+d.1;omega) (by show c.2+d.2+(step l).2=c.2+(step l).2+d.2;omega)
   show (rQ d c).1*(step l).2+ar (rQ (step l) (rQ d c)) ls=c.1*(step l).2+ar (rQ (step l) c) ls+d.1*((cM (rQ (step l) c) ls).2-c.2)
   rw[e,ih (rQ (step l) c) d]
   have e2:(rQ d c).1*(step l).2=c.1*(step l).2+d.1*(step l).2:=by show (c.1+d.1)*_=_;rw[Int.add_mul]
   have e3:d.1*((cM (rQ (step l) c) ls).2-(rQ (step l) c).2)=d.1*(cM (rQ (step l) c) ls).2-d.1*c.2-d.1*(step l).2:=by
    show d.1*(_-(c.2+(step l).2))=_
    rw[Int.mul_sub,Int.mul_add];omega
   rw[e2,e3,Int.mul_sub];omega
 have:=key ls (0,0) c
 rw[show rQ c (0,0)=c from Prod.ext (by show 0+c.1=c.1;omega) (by show 0+c.2=c.2;omega)] at this
 rw[this]
 show _+c.1*(_-0)=_
 rw[Int.sub_zero]
theorem S5(ls:List Lt):asc (bw ls):=by
 show (ls.map cp).toArray.all (· < 128)=true
 rw[List.all_toArray,List.all_map,List.all_eq_true]
 intro l _
 have:∀l:Lt,cp l<128:=by decide
 exact decide_eq_true (this l)
theorem WR{l:Lt}{H:aC}{Q:aM}(q:Q (.bl (decide (l=1))) H):fL (.str (nQ l)) (.str (Str.ofString "n")) H Q:=by
 have:=Gk (as:=[l]) (bs:=[1]) (H:=H) (Q:=Q) (by rw[show decide ([l]=[(1:Lt)])=decide (l=1) from by simp];exact q)
 exact this
theorem Kl{l:Lt}{H:aC}{Q:aM}(q:Q (.bl (decide (l=3))) H):fL (.str (nQ l)) (.str (Str.ofString "s")) H Q:=by
 have:=Gk (as:=[l]) (bs:=[3]) (H:=H) (Q:=Q) (by rw[show decide ([l]=[(3:Lt)])=decide (l=3) from by simp];exact q)
 exact this
theorem Sw{c:Pt}{ls:List Lt}{i:Nat}{p:Pt×Lt}(h:((path c ls).zip ls)[i]?=some p):p.1=cM c (ls.take i)/\ls[i]?=some p.2:=by
 rw[List.getElem?_zip_eq_some] at h
 refine⟨?_,h.2⟩
 have h1:=h.1
 rw[yj] at h1
 split at h1
 ·exact (Option.some.inj h1).symm
 ·cases h1
theorem Ls(c:Pt)(ls:List Lt):((path c ls).zip ls).length=ls.length:=by rw[List.length_zip,t8];omega
theorem adk{l:Lt}{x:Int}(h:l=1):x*(step l).2=x:=by subst h;show x*1=x;omega
theorem acy{l:Lt}{x:Int}(h:l=3):x*(step l).2 = -x:=by subst h;show x * -1 = -x;omega
theorem ac2{l:Lt}{x:Int}(h:¬l=1)(g:¬l=3):x*(step l).2=0:=by
 match l with
 |0=>exact Int.mul_zero x
 |1=>exact absurd rfl h
 |2=>exact Int.mul_zero x
 |3=>exact absurd rfl g
def GZ(a b:Int):List Int:=(List.range (b-a).toNat).map fun i:Nat=>a+(i:Int)
theorem KH{a b x:Int}:x∈GZ a b↔a<=x/\x<b:=by
 unfold GZ
 rw[List.mem_map]
 constructor
 ·rintro⟨i,hi,rfl⟩
  have:=List.mem_range.mp hi
  omega
 ·rintro⟨h1,h2⟩
  exact⟨(x-a).toNat,List.mem_range.mpr (by omega),by omega⟩
theorem RB(a b:Int):(GZ a b).Pairwise (· < ·):=by
 unfold GZ
 rw[List.pairwise_map]
 exact List.pairwise_lt_range.imp fun h=>by omega
def fill:List Int->List Int
 |a::b::r=>GZ a b++fill r
 |_=>[]
theorem yQ{f:Int->Bool}{m:Int}{v:Bool}(h0:f (m-1)=v):∀n:Nat,(∀x,m<=x->x<m+(n:Int)->f x=f (x-1))->∀x,m-1<=x->x<m+(n:Int)->f x=v
 |0,_,x,h1,h2=>by rw[show x=m-1 by omega];exact h0
 |n+1,h,x,h1,h2=>by
  by_cases e:x=m+(n:Int)
  ·rw[h x (by omega) (by omega)]
   exact yQ h0 n (fun y a b=>h y a (by omega)) (x-1) (by omega) (by omega)
  ·exact yQ h0 n (fun y a b=>h y a (by omega)) x h1 (by omega)
theorem o7{f:Int->Bool}{m k:Int}{v:Bool}(h0:f (m-1)=v)(h:∀x,m<=x->x<k->f x=f (x-1))(x:Int)(h1:m-1<=x)(h2:x<k):f x=v :=
 yQ h0 (k-m).toNat (fun y a b=>h y a (by omega)) x h1 (by omega)
theorem Ku:∀(n:Nat) (L:List Int) (f:Int->Bool) (m k:Int),L.length<=n->L.Pairwise (· < ·)->(∀x,x<m->f x=false)->(∀x,k<=x->f x=false)->(∀x,x∈L↔m<=x/\f x≠f (x-1)) ->
  L.length%2=0/\(∀x,x∈fill L↔f x=true)/\(fill L).Pairwise (· < ·)
 |n,[],f,m,k,_,_,hm,hk,hL=>by
  have z:∀x,f x=false:=fun x=>by
   by_cases h:x<m
   ·exact hm x h
   ·refine o7 (m:=m) (k:=x+1) (hm (m-1) (by omega)) (fun y a b=>?_) x (by omega) (by omega)
    exact Classical.byContradiction fun q=>absurd ((hL y).mpr ⟨a,q⟩) (by simp)
  refine⟨rfl,fun x=>?_,List.Pairwise.nil⟩
  rw[z x]
  simp[fill]
 |n,[a],f,m,k,_,_,hm,hk,hL=>by
  exfalso
  have ha:=(hL a).mp (by simp)
  have fa:f (a-1)=false:=o7 (m:=m) (k:=a) (hm (m-1) (by omega)) (fun y p q=>Classical.byContradiction fun r=>by
   have:=(hL y).mpr ⟨p,r⟩
   rw[List.mem_singleton] at this
   omega) (a-1) (by omega) (by omega)
  have fa1:f a=true:=by
   cases e:f a with
   |true=>rfl
   |false=>rw[e,fa] at ha;exact absurd rfl ha.2
  have big:f (max a k)=true:=o7 (m:=a+1) (k:=max a k+1) (by rw[Int.add_sub_cancel];exact fa1) (fun y p q=>Classical.byContradiction fun r=>by
   have:=(hL y).mpr ⟨by omega,r⟩
   rw[List.mem_singleton] at this
   omega) (max a k) (by omega) (by omega)
  rw[hk (max a k) (by omega)] at big
  cases big
 |0,a::b::r,_,_,_,h,_,_,_,_=>by simp at h
 |n+1,a::b::r,f,m,k,hn,hp,hm,hk,hL=>by
  have hp1:=List.pairwise_cons.mp hp
  have hp2:=List.pairwise_cons.mp hp1.2
  have hab:=hp1.1 b (by simp)
  have ha:=(hL a).mp (by simp)
  have hb:=(hL b).mp (by simp)
  have nol:∀y,m<=y->y<b->y≠a->f y=f (y-1):=fun y p q ne=>Classical.byContradiction fun z=>by
   have:=(hL y).mpr ⟨p,z⟩
   rcases List.mem_cons.mp this with e | e
   ·exact ne e
   ·rcases List.mem_cons.mp e with e | e
    ·omega
    ·have:=hp2.1 y e;omega
  have lowf:∀x,x<a->f x=false:=fun x hx=>by
   by_cases h:x<m
   ·exact hm x h
   ·exact o7 (m:=m) (k:=a) (hm (m-1) (by omega)) (fun y p q=>nol y p (by omega) (by omega)) x (by omega) hx
  have fa1:f a=true:=by
   cases e:f a with
   |true=>rfl
   |false=>rw[e,lowf (a-1) (by omega)] at ha;exact absurd rfl ha.2
  have mid:∀x,a<=x->x<b->f x=true:=fun x h1 h2=>o7 (m:=a+1) (k:=b) (by rw[Int.add_sub_cancel];exact fa1) (fun y p q=>nol y (by omega) q (by omega)) x (by omega) h2
  have fb:f b=false:=by
   cases e:f b with
   |false=>rfl
   |true=>rw[e,mid (b-1) (by omega) (by omega)] at hb;exact absurd rfl hb.2
  obtain⟨k1,k2,k3⟩:=Ku n r (fun x=>if x<b then false else f x) b k (by simp at hn;omega) hp2.2 (fun x hx=>if_pos hx) (fun x hx=>by
   show (if x<b then false else f x)=false
   split
   ·rfl
   ·exact hk x hx) (fun x=>by
   show x∈r↔b<=x/\(if x<b then false else f x)≠(if x-1<b then false else f (x-1))
   constructor
   ·intro hx
    have h1:=hp2.1 x hx
    have h2:=(hL x).mp (by simp[hx])
    rw[if_neg (by omega),if_neg (by omega)]
    exact⟨by omega,h2.2⟩
   ·rintro⟨h1,h2⟩
    rw[if_neg (by omega)] at h2
    by_cases e:x=b
    ·subst e
     rw[if_pos (by omega),fb] at h2
     exact absurd rfl h2
    ·rw[if_neg (by omega)] at h2
     have:=(hL x).mpr ⟨by omega,h2⟩
     rcases List.mem_cons.mp this with z | z
     ·omega
     ·rcases List.mem_cons.mp z with z | z
      ·exact absurd z e
      ·exact z)
  refine⟨by simp only[List.length_cons];omega,fun x=>?_,?_⟩
  ·show x∈GZ a b++fill r↔_
   rw[List.mem_append,KH,k2]
   constructor
   ·rintro (h | h)
    ·exact mid x h.1 h.2
    ·split at h
     ·cases h
     ·exact h
   ·intro h
    by_cases h1:x<b
    ·refine .inl ⟨Classical.byContradiction fun z=>?_,h1⟩
     rw[lowf x (by omega)] at h
     cases h
    ·exact .inr (by rw[if_neg h1];exact h)
  ·show (GZ a b++fill r).Pairwise (· < ·)
   refine List.pairwise_append.mpr ⟨RB a b,k3,fun x hx y hy=>?_⟩
   have h1:=KH.mp hx
   have h2:=(k2 y).mp hy
   split at h2
   ·cases h2
   ·omega
theorem aal{as bs:List Int}(h:as.Perm bs):as.sum=bs.sum:=by
 induction h with
 |nil=>rfl
 |cons x _ ih=>rw[List.sum_cons,List.sum_cons,ih]
 |swap x y l=>rw[List.sum_cons,List.sum_cons,List.sum_cons,List.sum_cons];omega
 |trans _ _ i1 i2=>exact i1.trans i2
theorem tu{α:Type}(p:α->Bool)(g:α->Int):∀l:List α,((l.filter p).map g).sum=(l.map fun c=>if p c=true then g c else 0).sum
 |[]=>rfl
 |c::l=>by
  have ih:=tu p g l
  rw[List.map_cons,List.sum_cons,←ih]
  by_cases h:p c=true
  ·rw[List.filter_cons_of_pos h,List.map_cons,List.sum_cons,if_pos h]
  ·rw[List.filter_cons_of_neg h,if_neg h];omega
theorem sum_add{α:Type}(f g:α->Int):∀l:List α,(l.map fun c=>f c+g c).sum=(l.map f).sum+(l.map g).sum
 |[]=>rfl
 |c::l=>by rw[List.map_cons,List.map_cons,List.map_cons,List.sum_cons,List.sum_cons,List.sum_cons,sum_add f g l];omega
section
variable{S:List Pt}
theorem Tj(nd:S.Nodup):(S.map fun c=>if decide ((c.1+1,c.2)∈S)=true then c.1+1 else 0).sum=(S.map fun c=>if decide ((c.1-1,c.2)∈S)=true then c.1 else 0).sum:=by
 rw[←tu (fun c:Pt=>decide ((c.1+1,c.2)∈S)) (fun c=>c.1+1),←tu (fun c:Pt=>decide ((c.1-1,c.2)∈S)) (fun c=>c.1)]
 have hp:((S.filter fun c=>decide ((c.1+1,c.2)∈S)).map fun c=>(c.1+1,c.2)).Perm (S.filter fun c=>decide ((c.1-1,c.2)∈S)):=by
  refine (List.perm_ext_iff_of_nodup ?_ (nd.filter _)).mpr fun q=>?_
  ·rw[List.nodup_iff_pairwise_ne,List.pairwise_map]
   refine (List.nodup_iff_pairwise_ne.mp (nd.filter _)).imp fun {a b} hne z=>hne ?_
   have z1:a.1+1=b.1+1:=(Prod.mk.inj z).1
   exact Prod.ext (by omega) (Prod.mk.inj z).2
  ·rw[List.mem_map,List.mem_filter,decide_eq_true_iff]
   constructor
   ·rintro⟨c,hc,rfl⟩
    have:=List.mem_filter.mp hc
    refine⟨by simpa using this.2,?_⟩
    show (c.1+1-1,c.2)∈S
    rw[Int.add_sub_cancel];exact this.1
   ·rintro⟨h1,h2⟩
    refine⟨(q.1-1,q.2),List.mem_filter.mpr ⟨h2,?_⟩,Prod.ext (by show q.1-1+1=q.1;omega) rfl⟩
    rw[decide_eq_true_iff]
    show (q.1-1+1,q.2)∈S
    rw[Int.sub_add_cancel];exact h1
 have:=aal (hp.map Prod.fst)
 rw[List.map_map] at this
 exact this
def gq(S:List Pt)(q:Pt):Int:=q.1*(stp (outD S q)).2
theorem Xh(q:Pt):∀n,ar q (wd S q n)=((List.range n).map fun i=>gq S (dm S q i)).sum
 |0=>rfl
 |n+1=>by
  rw[lE,K4,Xh q n,nA,List.range_succ,List.map_append,List.sum_append,tW jy]
  simp[gq]
theorem RW(g:Dg S){c:Pt}(hc:c∈S):((((List.range 4).filter fun d=>!decide (Dq c d∈S)).map (yS c)).map (gq S)).sum=(if decide ((c.1+1,c.2)∈S)=true then 0 else c.1+1)+(if decide ((c.1-1,c.2)∈S)=true then 0 else -c.1):=by
 rw[List.map_map]
 have e:(((List.range 4).filter fun d=>!decide (Dq c d∈S)).map (gq S∘yS c))=(((List.range 4).filter fun d=>!decide (Dq c d∈S)).map fun d=>(yS c d).1*(stp d).2):=by
  refine List.map_congr_left fun d hd=>?_
  have k:=List.mem_filter.mp hd
  have ed:=nu hc (List.mem_range.mp k.1) (by simpa using k.2)
  show (yS c d).1*(stp (outD S (yS c d))).2=_
  rw[fu g (cG ⟨d,ed⟩) ed]
 rw[e,tu (fun d=>!decide (Dq c d∈S)) (fun d=>(yS c d).1*(stp d).2)]
 show (if (!decide (Dq c 0∈S))=true then (c.1*0:Int) else 0)+((if (!decide ((c.1+1,c.2)∈S))=true then ((c.1+1)*1:Int) else 0)+((if (!decide (Dq c 2∈S))=true then ((c.1+1)*0:Int) else 0)+((if (!decide ((c.1-1,c.2)∈S))=true then (c.1 * -1:Int) else 0)+0)))=_
 rw[Int.mul_zero,Int.mul_zero,Int.mul_one]
 cases decide ((c.1+1,c.2)∈S) <;> cases decide ((c.1-1,c.2)∈S) <;> simp <;> omega
theorem DX(g:Dg S):∀ {cs:List Pt},(∀c∈cs,c∈S)->((um S cs).map (gq S)).sum=(cs.map fun c=>(if decide ((c.1+1,c.2)∈S)=true then 0 else c.1+1)+(if decide ((c.1-1,c.2)∈S)=true then 0 else -c.1)).sum
 |[],_=>rfl
 |c::cs,h=>by
  have e:um S (c::cs)=((List.range 4).filter fun d=>!decide (Dq c d∈S)).map (yS c)++um S cs:=by simp[um]
  rw[e,List.map_append,List.sum_append,RW g (h c (by simp)),DX g fun x hx=>h x (by simp[hx]),List.map_cons,List.sum_cons]
theorem SN(g:Dg S)(nd:S.Nodup){q:Pt}{t:Nat}(hq:kW S q)(r:Dp S q t):ar q (wd S q t)=S.length:=by
 have hp:((List.range t).map (dm S q)).Perm (um S S):=by
  refine (List.perm_ext_iff_of_nodup ?_ (BP g nd fun _ h=>h)).mpr fun p=>?_
  ·rw[List.nodup_iff_pairwise_ne,List.pairwise_map]
   refine List.Pairwise.imp_of_mem (fun {a b} _ hb hlt=>r.inj a b hlt (List.mem_range.mp hb)) List.pairwise_lt_range
  ·rw[wQ,List.mem_map]
   constructor
   ·rintro⟨i,_,rfl⟩
    obtain⟨d,e⟩:=eO hq i
    exact⟨_,e.l,d,e.lt,by rw[←Qu e.lt,←Ao e.lt];exact e.r,Ao e.lt⟩
   ·rintro⟨c,hc,d,h1,h2,rfl⟩
    obtain⟨m,hm,e⟩:=r.all _ ⟨d,nu hc h1 h2⟩
    exact⟨m,List.mem_range.mpr hm,e.symm⟩
 have e1:=aal (hp.map (gq S))
 rw[List.map_map] at e1
 rw[Xh]
 show ((List.range t).map (gq S∘dm S q)).sum=_
 rw[e1,DX g fun _ h=>h]
 have e2:=Tj nd
 have e3:(S.map fun c:Pt=>(if decide ((c.1+1,c.2)∈S)=true then 0 else c.1+1)+(if decide ((c.1-1,c.2)∈S)=true then 0 else -c.1)).sum+(S.map fun c:Pt=>if decide ((c.1+1,c.2)∈S)=true then c.1+1 else 0).sum=(S.map fun c:Pt=>(1:Int)+if decide ((c.1-1,c.2)∈S)=true then c.1 else 0).sum:=by
  rw[←sum_add]
  congr 1
  refine List.map_congr_left fun c _=>?_
  cases decide ((c.1+1,c.2)∈S) <;> cases decide ((c.1-1,c.2)∈S) <;> simp <;> omega
 rw[sum_add (fun _=>(1:Int)) (fun c:Pt=>if decide ((c.1-1,c.2)∈S)=true then c.1 else 0),e2] at e3
 have e4:∀l:List Pt,(l.map fun _=>(1:Int)).sum=l.length:=by
  intro l
  induction l with
  |nil=>rfl
  |cons c l ih=>rw[List.map_cons,List.sum_cons,ih,List.length_cons];omega
 rw[e4] at e3
 omega
end
section
variable{S:List Pt}
def O7(S:List Pt)(x y:Int):Prop:=decide ((x,y)∈S)≠decide ((x-1,y)∈S)
def yV(S:List Pt)(p:Pt):Option Pt:=if outD S p=1 then some (p.1,p.2) else if outD S p=3 then some (p.1,p.2-1) else none
theorem Py{p c:Pt}(hp:kW S p)(h:yV S p=some c):O7 S c.1 c.2:=by
 have e:=cG hp
 unfold yV at h
 split at h
 ·rename_i z
  cases h
  rw[z] at e
  have l:(p.1-1,p.2)∈S:=e.l
  have r:(p.1,p.2)∉S:=e.r
  unfold O7
  rw[decide_eq_true l,decide_eq_false r];decide
 ·split at h
  ·rename_i z
   cases h
   rw[z] at e
   have l:(p.1,p.2-1)∈S:=e.l
   have r:(p.1-1,p.2-1)∉S:=e.r
   unfold O7
   rw[decide_eq_true l,decide_eq_false r];decide
  ·cases h
theorem Az{p c:Pt}(hp:kW S p)(h:yV S p=some c):(c∈S->p=(c.1,c.2+1))/\(c∉S->p=c):=by
 have e:=cG hp
 unfold yV at h
 split at h
 ·rename_i z
  cases h
  rw[z] at e
  exact⟨fun k=>absurd k e.r,fun _=>rfl⟩
 ·split at h
  ·rename_i z
   cases h
   rw[z] at e
   exact⟨fun _=>Prod.ext rfl (by show p.2=p.2-1+1;omega),fun k=>absurd e.l k⟩
  ·cases h
theorem X3(g:Dg S){x y:Int}(h:O7 S x y):∃p,kW S p/\yV S p=some (x,y):=by
 unfold O7 at h
 by_cases c:(x,y)∈S
 ·have d:(x-1,y)∉S:=fun z=>h (by rw[decide_eq_true c,decide_eq_true z])
  have e:gY S (x,y+1) 3:=⟨by omega,by rw[zx];show (x,y+1-1)∈S;rw[Int.add_sub_cancel];exact c,by rw[Cg];show (x-1,y+1-1)∉S;rw[Int.add_sub_cancel];exact d⟩
  refine⟨(x,y+1),⟨3,e⟩,?_⟩
  unfold yV
  rw[fu g (cG ⟨3,e⟩) e,if_neg (by omega),if_pos rfl]
  show some (x,y+1-1)=_
  rw[Int.add_sub_cancel]
 ·have d:(x-1,y)∈S:=Classical.byContradiction fun z=>h (by rw[decide_eq_false c,decide_eq_false z])
  have e:gY S (x,y) 1:=⟨by omega,by rw[zF];exact d,by rw[BL];exact c⟩
  refine⟨(x,y),⟨1,e⟩,?_⟩
  unfold yV
  rw[fu g (cG ⟨1,e⟩) e,if_pos rfl]
def qe(S:List Pt)(q:Pt)(n:Nat):List Pt:=(List.range n).filterMap fun i=>yV S (dm S q i)
theorem PJ(g:Dg S){q:Pt}{t:Nat}(hq:kW S q)(r:Dp S q t){c:Pt}:c∈qe S q t↔O7 S c.1 c.2:=by
 unfold qe
 rw[List.mem_filterMap]
 constructor
 ·rintro⟨i,_,e⟩;exact Py (eO hq i) e
 ·intro h
  obtain⟨p,hp,e⟩:=X3 g h
  obtain⟨m,hm,rfl⟩:=r.all p hp
  exact⟨m,List.mem_range.mpr hm,e⟩
theorem Vh{q:Pt}{t:Nat}(hq:kW S q)(r:Dp S q t):(qe S q t).Nodup:=by
 unfold qe
 rw[List.nodup_iff_pairwise_ne,List.pairwise_filterMap]
 refine List.Pairwise.imp_of_mem (fun {i j} _ hj hlt a ha b hb z=>?_) List.pairwise_lt_range
 subst z
 have k1:=Az (eO hq i) ha
 have k2:=Az (eO hq j) hb
 have hjt:=List.mem_range.mp hj
 by_cases c:a∈S
 ·exact r.inj i j hlt hjt ((k1.1 c).trans (k2.1 c).symm)
 ·exact r.inj i j hlt hjt ((k1.2 c).trans (k2.2 c).symm)
structure aaE(S:List Pt)(rws:List (Int×List Int)):Prop where
 ys:rws.Pairwise (fun a b=>a.1<b.1)
 xs:∀w∈rws,w.2.Pairwise (· < ·)
 mem:∀w∈rws,∀x,x∈w.2↔O7 S x w.1
 all:∀x y,O7 S x y->∃w∈rws,w.1=y
theorem DK{S:List Pt}{y:Int}{xs:List Int}(hs:xs.Pairwise (· < ·))(hm:∀x,x∈xs↔O7 S x y):xs.length%2=0/\(∀x,x∈fill xs↔(x,y)∈S)/\(fill xs).Pairwise (· < ·):=by
 obtain⟨M,m0,hM⟩:=sJ S
 have key:=Ku xs.length xs (fun x=>decide ((x,y)∈S)) (-M) (M+1) (Nat.le_refl _) hs (fun x hx=>decide_eq_false fun z=>by have:=hM _ z;dsimp only at this;omega) (fun x hx=>decide_eq_false fun z=>by have:=hM _ z;dsimp only at this;omega) (fun x=>by
  rw[hm x]
  constructor
  ·intro h
   refine⟨Classical.byContradiction fun z=>h ?_,h⟩
   rw[decide_eq_false fun k=>by have:=hM _ k;dsimp only at this;omega,decide_eq_false fun k=>by have:=hM _ k;dsimp only at this;omega]
  ·exact fun h=>h.2)
 refine⟨key.1,fun x=>?_,key.2.2⟩
 rw[key.2.1 x,decide_eq_true_iff]
def Nj(w:Int×List Int):List Pt:=(fill w.2).map fun x=>(x,w.1)
theorem Hi(nd:S.Nodup){rws:List (Int×List Int)}(h:aaE S rws):(rws.map Nj).flatten=cD S:=by
 have ok:=fun w hw=>DK (h.xs w hw) (h.mem w hw)
 have mr:∀ {c:Pt} {w:Int×List Int},c∈Nj w↔c.2=w.1/\c.1∈fill w.2:=fun {c w}=>by
  unfold Nj
  rw[List.mem_map]
  constructor
  ·rintro⟨x,hx,rfl⟩;exact⟨rfl,hx⟩
  ·rintro⟨h1,h2⟩;exact⟨c.1,h2,Prod.ext rfl h1.symm⟩
 have lt:((rws.map Nj).flatten).Pairwise fun a b=>a.2<b.2\/(a.2=b.2/\a.1<b.1):=by
  have go:∀ {l:List (Int×List Int)},l.Pairwise (fun a b=>a.1<b.1)->(∀w∈l,w∈rws)->((l.map Nj).flatten).Pairwise fun a b=>a.2<b.2\/(a.2=b.2/\a.1<b.1):=by
   intro l
   induction l with
   |nil=>intro _ _;exact List.Pairwise.nil
   |cons w l ih=>
    intro hp hsub
    have hp':=List.pairwise_cons.mp hp
    rw[List.map_cons,List.flatten_cons]
    refine List.pairwise_append.mpr ⟨?_,ih hp'.2 fun v hv=>hsub v (by simp[hv]),fun a ha b hb=>.inl ?_⟩
    ·unfold Nj
     rw[List.pairwise_map]
     exact (ok w (hsub w (by simp))).2.2.imp fun k=>.inr ⟨rfl,k⟩
    ·obtain⟨k,hk,hbk⟩:=List.mem_flatten.mp hb
     obtain⟨v,hv,rfl⟩:=List.mem_map.mp hk
     rw[(mr.mp ha).1,(mr.mp hbk).1]
     exact hp'.1 v hv
  exact go h.ys fun _ z=>z
 refine (wX ?_ ?_).symm
 ·refine (List.perm_ext_iff_of_nodup ?_ nd).mpr fun c=>?_
  ·rw[List.nodup_iff_pairwise_ne]
   refine lt.imp fun {a b} k z=>?_
   subst z
   omega
  ·rw[List.mem_flatten]
   constructor
   ·rintro⟨k,hk,hc⟩
    obtain⟨w,hw,rfl⟩:=List.mem_map.mp hk
    have:=mr.mp hc
    have k2:=((ok w hw).2.1 c.1).mp this.2
    rw[←this.1] at k2
    exact k2
   ·intro hc
    have ex:∃x,O7 S x c.2:=Classical.byContradiction fun z=>by
     have e:∀n:Nat,(c.1-(n:Int),c.2)∈S:=fun n=>by
      induction n with
      |zero=>rw[show c.1-((0:Nat):Int)=c.1 by omega];exact hc
      |succ n ih=>
       refine Classical.byContradiction fun k=>z ⟨c.1-(n:Int),?_⟩
       unfold O7
       rw[decide_eq_true ih,decide_eq_false (by rw[show c.1-(n:Int)-1=c.1-((n+1:Nat):Int) by omega];exact k)]
       decide
     obtain⟨M,m0,hM⟩:=sJ S
     have:=hM _ (e (c.1+M+1).toNat)
     have h0:=hM _ hc
     dsimp only at this
     omega
    obtain⟨x,hx⟩:=ex
    obtain⟨w,hw,ew⟩:=h.all x c.2 hx
    refine⟨Nj w,List.mem_map.mpr ⟨w,hw,rfl⟩,mr.mpr ⟨ew.symm,?_⟩⟩
    rw[(ok w hw).2.1,ew]
    exact hc
 ·refine lt.imp fun {a b} k=>?_
  unfold wg
  rw[jG]
  omega
end
section
variable{S T:List Pt}{p:Pt}
theorem JF(S:List Pt)(p:Pt)(a:Nat):∀b,wd S p (a+b)=wd S p a++wd S (dm S p a) b
 |0=>(List.append_nil _).symm
 |b+1=>by rw[←Nat.add_assoc,lE,lE,JF S p a b,jo,List.append_assoc]
theorem Yw{t i:Nat}(hb:dm S p t=p)(h:i<=t):(wd S p t).drop i++(wd S p t).take i=wd S (dm S p i) t:=by
 obtain⟨k,rfl⟩:=Nat.exists_eq_add_of_le h
 have e:=JF S p i k
 have l:=d7 S p i
 rw[e,List.drop_left' l,List.take_left' l,Nat.add_comm i k,JF S (dm S p i) k i,←jo,hb]
theorem V2(S:List Pt)(cs:List Pt):Mz S cs<=4*cs.length:=by
 induction cs with
 |nil=>exact Nat.le_refl _
 |cons c cs ih=>
  have e:Mz S (c::cs)=((bA c).filter fun q=>!decide (q∈S)).length+Mz S cs:=rfl
  have:=List.length_filter_le (fun q=>!decide (q∈S)) (bA c)
  have h4:(bA c).length=4:=rfl
  rw[e,List.length_cons];omega
theorem Dp.few{t:Nat}(g:Dg S)(nd:S.Nodup)(hp:kW S p)(r:Dp S p t):t<=4*S.length:=by rw[←CG g nd hp r];exact V2 S S
def xH(v p:Pt):Pt:=(p.1+v.1,p.2+v.2)
variable{v:Pt}(h:∀c:Pt,xH v c∈T↔c∈S)
theorem Js{d:Nat}(hd:d<4):rT (xH v p) d=xH v (rT p d):=Hm v hd
theorem Hl{d:Nat}(hd:d<4):qu (xH v p) d=xH v (qu p d):=JB v hd
include h
theorem KZ{d:Nat}:gY T (xH v p) d↔gY S p d :=
 ⟨fun e=>⟨e.lt,(h _).mp (by rw[←Js e.lt];exact e.l),fun z=>e.r (by rw[Hl e.lt];exact (h _).mpr z)⟩,fun e=>⟨e.lt,by rw[Js e.lt];exact (h _).mpr e.l,fun z=>e.r (by rw[Hl e.lt] at z;exact (h _).mp z)⟩⟩
theorem Tn:kW T (xH v p)↔kW S p:=⟨fun ⟨d,e⟩=>⟨d,(KZ h).mp e⟩,fun ⟨d,e⟩=>⟨d,(KZ h).mpr e⟩⟩
theorem Ly:outD T (xH v p)=outD S p:=by
 have key:∀d,d<4->(rT (xH v p) d∈T/\qu (xH v p) d∉T↔rT p d∈S/\qu p d∉S):=fun d hd=>by rw[Js hd,Hl hd,h,h]
 unfold outD
 simp only[key 0 (by omega),key 1 (by omega),key 2 (by omega)]
theorem rn:∀n,dm T (xH v p) n=xH v (dm S p n)
 |0=>rfl
 |n+1=>by
  show oA (dm T (xH v p) n) (outD T (dm T (xH v p) n))=xH v (oA (dm S p n) (outD S (dm S p n)))
  rw[rn n,Ly h]
  exact Prod.ext (by show (dm S p n).1+v.1+_=(dm S p n).1+_+v.1;omega) (by show (dm S p n).2+v.2+_=(dm S p n).2+_+v.2;omega)
theorem abb(n:Nat):wd T (xH v p) n=wd S p n:=by
 unfold wd
 exact List.map_congr_left fun i _=>by rw[rn h,Ly h]
theorem aaa{t:Nat}(r:Dp S p t):Dp T (xH v p) t:=by
 have inj:∀ {a b:Pt},xH v a=xH v b->a=b:=fun e=>Prod.ext (by have:_+v.1=_+v.1:=congrArg Prod.fst e;omega) (by have:_+v.2=_+v.2:=congrArg Prod.snd e;omega)
 refine⟨r.pos,by rw[rn h,r.back],fun m h0 h1 e=>r.not m h0 h1 (inj (by rw[←rn h];exact e)),fun q hq=>?_,fun i j hij hj e=>r.inj i j hij hj (inj (by rw[←rn h,←rn h];exact e))⟩
 have e:q=xH v (q.1-v.1,q.2-v.2):=Prod.ext (by show q.1=q.1-v.1+v.1;omega) (by show q.2=q.2-v.2+v.2;omega)
 rw[e] at hq
 obtain⟨m,hm,e2⟩:=r.all _ ((Tn h).mp hq)
 exact⟨m,hm,by rw[rn h,←e2];exact e⟩
end
structure Bd(S:List Pt)(p:Pt)(t:Nat)(w:List Lt):Prop where
 one:One S
 bU:kW S p
 Es:Dp S p t
 wrd:wd S p t=w
def rC(c:Pt):Pt:=(-c.2,c.1)
def rP(p:Pt):Pt:=(1-p.2,p.1)
def mC(c:Pt):Pt:=(-c.1,c.2)
def mP(p:Pt):Pt:=(1-p.1,p.2)
def mi:Nat->Nat
 |0=>0
 |1=>3
 |2=>2
 |_=>1
theorem mi0:mi 0=0:=rfl
theorem mi1:mi 1=3:=rfl
theorem mi2:mi 2=2:=rfl
theorem mi3:mi 3=1:=rfl
theorem WN{d:Nat}:mi d<4:=by unfold mi;split <;> decide
theorem abX{d:Nat}(h:d<4):mi (mi d)=d:=by rcases c4 h with rfl | rfl | rfl | rfl <;> rfl
theorem W4{a b c d:Int}(h1:a=c)(h2:b=d):((a,b):Pt)=(c,d):=by rw[h1,h2]
theorem CT(q:Pt):rP (q.2,1-q.1)=q:=Prod.ext (by show 1-(1-q.1)=q.1;omega) rfl
theorem yO(q:Pt):mP (mP q)=q:=Prod.ext (by show 1-(1-q.1)=q.1;omega) rfl
theorem R7{a b:Pt}(h:rP a=rP b):a=b:=by
 have h1:1-a.2=1-b.2:=congrArg Prod.fst h
 exact Prod.ext (congrArg Prod.snd h) (by omega)
theorem QV{a b:Pt}(h:mP a=mP b):a=b:=by rw[←yO a,h,yO]
theorem YL(c:Pt):rC (c.2,-c.1)=c:=Prod.ext (by show - -c.1=c.1;omega) rfl
theorem Kw(c:Pt):mC (mC c)=c:=Prod.ext (by show - -c.1=c.1;omega) rfl
section
variable{p:Pt}{d:Nat}
theorem RX(h:d<4):rT (rP p) (bz d)=rC (rT p d):=by
 rcases c4 h with rfl | rfl | rfl | rfl <;> (refine Prod.ext ?_ ?_ <;> simp only[rP,rC,mP,mC,oA,FT,Ei,Ej,Ex,mi0,mi1,mi2,mi3,CJ,zF,Df,zx,yl,BL,Ey,Cg,Ci,BZ,Bp,zH] <;> omega)
theorem T5(h:d<4):qu (rP p) (bz d)=rC (qu p d):=by
 rcases c4 h with rfl | rfl | rfl | rfl <;> (refine Prod.ext ?_ ?_ <;> simp only[rP,rC,mP,mC,oA,FT,Ei,Ej,Ex,mi0,mi1,mi2,mi3,CJ,zF,Df,zx,yl,BL,Ey,Cg,Ci,BZ,Bp,zH] <;> omega)
theorem WD(h:d<4):oA (rP p) (bz d)=rP (oA p d):=by
 rcases c4 h with rfl | rfl | rfl | rfl <;> (refine Prod.ext ?_ ?_ <;> simp only[rP,rC,mP,mC,oA,FT,Ei,Ej,Ex,mi0,mi1,mi2,mi3,CJ,zF,Df,zx,yl,BL,Ey,Cg,Ci,BZ,Bp,zH] <;> omega)
theorem Sv(h:d<4):rT (mP (oA p d)) (mi d)=mC (rT p d):=by
 rcases c4 h with rfl | rfl | rfl | rfl <;> (refine Prod.ext ?_ ?_ <;> simp only[rP,rC,mP,mC,oA,FT,Ei,Ej,Ex,mi0,mi1,mi2,mi3,CJ,zF,Df,zx,yl,BL,Ey,Cg,Ci,BZ,Bp,zH] <;> omega)
theorem Qi(h:d<4):qu (mP (oA p d)) (mi d)=mC (qu p d):=by
 rcases c4 h with rfl | rfl | rfl | rfl <;> (refine Prod.ext ?_ ?_ <;> simp only[rP,rC,mP,mC,oA,FT,Ei,Ej,Ex,mi0,mi1,mi2,mi3,CJ,zF,Df,zx,yl,BL,Ey,Cg,Ci,BZ,Bp,zH] <;> omega)
theorem WQ(h:d<4):oA (mP (oA p d)) (mi d)=mP p:=by
 rcases c4 h with rfl | rfl | rfl | rfl <;> (refine Prod.ext ?_ ?_ <;> simp only[rP,rC,mP,mC,oA,FT,Ei,Ej,Ex,mi0,mi1,mi2,mi3,CJ,zF,Df,zx,yl,BL,Ey,Cg,Ci,BZ,Bp,zH] <;> omega)
end
section
variable{S T:List Pt}{p q:Pt}{d t:Nat}{w:List Lt}
section
variable(h:∀c,rC c∈T↔c∈S)
include h
theorem wz:gY T (rP p) (bz d)/\d<4↔gY S p d:=by
 constructor
 ·rintro⟨e,hd⟩
  exact⟨hd,(h _).mp (by rw[←RX hd];exact e.l),fun z=>e.r (by rw[T5 hd];exact (h _).mpr z)⟩
 ·intro e
  exact⟨⟨dN,by rw[RX e.lt];exact (h _).mpr e.l,fun z=>e.r ((h _).mp (by rw[←T5 e.lt];exact z))⟩,e.lt⟩
theorem yD:kW T (rP p)↔kW S p:=by
 constructor
 ·rintro⟨e,he⟩
  have e4:=Q4 he.lt
  exact⟨bz (bz (bz e)),(wz h).mp ⟨by rw[e4];exact he,dN⟩⟩
 ·rintro⟨d,hd⟩
  exact⟨_,((wz h).mpr hd).1⟩
theorem Wv(g:Dg S):Dg T:=by
 intro q
 obtain⟨g1,g2⟩:=g (q.2,1-q.1)
 have m:∀a b:Int,(a,b)∈T↔(b,-a)∈S:=fun a b=>by rw[←h];exact iff_of_eq (congrArg (·∈T) (W4 (by dsimp only;omega) rfl))
 simp only[m] at g1 g2 ⊢
 rw[show -q.1=1-q.1-1 by omega,show -(q.1-1)=1-q.1 by omega]
 exact⟨fun ⟨z1,z2,z3,z4⟩=>g2 ⟨z2,z1,z3,z4⟩,fun ⟨z1,z2,z3,z4⟩=>g1 ⟨z1,z2,z4,z3⟩⟩
theorem Rt(g:Dg S)(hp:kW S p):outD T (rP p)=bz (outD S p):=fu (Wv h g) (cG ((yD h).mpr hp)) ((wz h).mpr (cG hp)).1
theorem QF(g:Dg S)(hp:kW S p):∀n,dm T (rP p) n=rP (dm S p n)
 |0=>rfl
 |n+1=>by
  show oA (dm T (rP p) n) (outD T (dm T (rP p) n))=_
  rw[QF g hp n,Rt h g (eO hp n),WD jy];rfl
theorem Bd.turn(b:Bd S p t w):Bd T (rP p) t (w.map (tl 1)):=by
 have it:=QF h b.one.dg b.bU
 refine⟨⟨Wv h b.one.dg,fun x y hx hy=>?_⟩,(yD h).mpr b.bU,⟨b.Es.pos,by rw[it,b.Es.back],fun m h0 h1 e=>b.Es.not m h0 h1 (R7 (by rw[←it];exact e)),fun x hx=>?_,fun i j hij hj e=>b.Es.inj i j hij hj (R7 (by rw[←it,←it];exact e))⟩,?_⟩
 ·rw[←CT x] at hx ⊢
  rw[←CT y] at hy ⊢
  have go:∀ {u v},kY (RS S) u v->kY (RS T) (rP u) (rP v):=fun r=>by
   induction r with
   |refl=>exact .refl
   |step _ r ih=>
    obtain⟨d,e,rfl⟩:=r
    exact .step ih ⟨_,((wz h).mpr e).1,(WD e.lt).symm⟩
  exact go (b.one.all _ _ ((yD h).mp hx) ((yD h).mp hy))
 ·rw[←CT x] at hx
  obtain⟨m,hm,e⟩:=b.Es.all _ ((yD h).mp hx)
  exact⟨m,hm,by rw[it,←e];exact (CT x).symm⟩
 ·rw[←b.wrd]
  unfold wd
  rw[List.map_map]
  refine List.map_congr_left fun i _=>?_
  show ltN (outD T (dm T (rP p) i))=tl 1 (ltN (outD S (dm S p i)))
  rw[it,Rt h b.one.dg (eO b.bU i)]
  rcases c4 (jy (S:=S) (p:=dm S p i)) with e | e | e | e <;> rw[e] <;> rfl
end
section
variable(h:∀c,mC c∈T↔c∈S)
include h
theorem wL:gY T (mP (oA p d)) (mi d)/\d<4↔gY S p d:=by
 constructor
 ·rintro⟨e,hd⟩
  exact⟨hd,(h _).mp (by rw[←Sv hd];exact e.l),fun z=>e.r (by rw[Qi hd];exact (h _).mpr z)⟩
 ·intro e
  exact⟨⟨WN,by rw[Sv e.lt];exact (h _).mpr e.l,fun z=>e.r ((h _).mp (by rw[←Qi e.lt];exact z))⟩,e.lt⟩
theorem Bm(o:One S):kW T (mP q)↔kW S q:=by
 constructor
 ·rintro⟨e,he⟩
  have hq:oA (q.1-(stp (mi e)).1,q.2-(stp (mi e)).2) (mi e)=q:=Prod.ext (Int.sub_add_cancel ..) (Int.sub_add_cancel ..)
  have:=(wL h (p:=(q.1-(stp (mi e)).1,q.2-(stp (mi e)).2)) (d:=mi e)).mp ⟨by rw[hq,abX he.lt];exact he,WN⟩
  rw[←hq]
  exact RC this
 ·intro hq
  obtain⟨t,r⟩:=o.Es hq
  obtain⟨n,rfl⟩:∃n,t=n+1:=⟨t-1,by have:=r.pos;omega⟩
  have e:=cG (eO hq n)
  have:=((wL h).mpr e).1
  rw[show oA (dm S q n) (outD S (dm S q n))=q from r.back] at this
  exact⟨_,this⟩
theorem ab3(g:Dg S):Dg T:=by
 intro q
 obtain⟨g1,g2⟩:=g (1-q.1,q.2)
 have m:∀a b:Int,(a,b)∈T↔(-a,b)∈S:=fun a b=>by rw[←h];exact iff_of_eq (congrArg (·∈T) (W4 (by dsimp only;omega) rfl))
 simp only[m] at g1 g2 ⊢
 rw[show -q.1=1-q.1-1 by omega,show -(q.1-1)=1-q.1 by omega]
 exact⟨fun ⟨z1,z2,z3,z4⟩=>g2 ⟨z1,z2,z3,z4⟩,fun ⟨z1,z2,z3,z4⟩=>g1 ⟨z1,z2,z3,z4⟩⟩
theorem Bd.acE(b:Bd S p t w):Bd T (mP p) t (bk (w.map (tl 4))):=by
 have dT:=ab3 h b.one.dg
 have ed:∀n,n<t->gY T (mP (dm S p (n+1))) (mi (outD S (dm S p n))):=fun n _=>((wL h).mpr (cG (eO b.bU n))).1
 have ou:∀n,n<t->outD T (mP (dm S p (n+1)))=mi (outD S (dm S p n)):=fun n hn=>fu dT (cG ⟨_,ed n hn⟩) (ed n hn)
 have it:∀n,n<=t->dm T (mP p) n=mP (dm S p (t-n)):=fun n=>by
  induction n with
  |zero=>intro _;rw[Nat.sub_zero,b.Es.back];rfl
  |succ n ih=>
   intro hn
   show oA (dm T (mP p) n) (outD T (dm T (mP p) n))=_
   obtain⟨k,hk⟩:∃k,t-n=k+1:=⟨t-n-1,by omega⟩
   rw[ih (by omega),hk,ou k (by omega),show t-(n+1)=k by omega]
   exact WQ jy
 refine⟨⟨dT,fun x y hx hy=>?_⟩,(Bm h b.one).mpr b.bU,⟨b.Es.pos,by rw[it t (Nat.le_refl _),Nat.sub_self];rfl,fun m h0 h1 e=>?_,fun x hx=>?_,fun i j hij hj e=>?_⟩,?_⟩
 ·rw[←yO x] at hx ⊢
  rw[←yO y] at hy ⊢
  have go:∀ {u v},kY (RS S) u v->kY (RS T) (mP v) (mP u):=fun r=>by
   induction r with
   |refl=>exact .refl
   |step _ r ih=>
    obtain⟨d,e,rfl⟩:=r
    exact kY.trans (.step .refl ⟨_,((wL h).mpr e).1,(WQ e.lt).symm⟩) ih
  exact go (b.one.all _ _ ((Bm h b.one).mp hy) ((Bm h b.one).mp hx))
 ·rw[it m (by omega)] at e
  exact b.Es.not (t-m) (by omega) (by omega) (QV e)
 ·rw[←yO x] at hx
  obtain⟨m,hm,e⟩:=b.Es.all _ ((Bm h b.one).mp hx)
  by_cases z:m=0
  ·subst z
   exact⟨0,b.Es.pos,by rw[←yO x,e];rfl⟩
  ·exact⟨t-m,by omega,by rw[it _ (by omega),show t-(t-m)=m by omega,←e,yO]⟩
 ·rw[it i (by omega),it j (by omega)] at e
  have e:=QV e
  by_cases z:i=0
  ·subst z
   rw[Nat.sub_zero,b.Es.back] at e
   exact b.Es.not (t-j) (by omega) (by omega) e.symm
  ·exact b.Es.inj (t-j) (t-i) (by omega) (by omega) e.symm
 ·rw[←b.wrd]
  refine List.ext_getElem? fun n=>?_
  by_cases hn:n<t
  ·obtain⟨k,hk⟩:∃k,t-n=k+1:=⟨t-n-1,by omega⟩
   unfold bk wd
   rw[List.getElem?_map,List.getElem?_range hn,List.getElem?_reverse (by simpa using hn)]
   simp only[List.length_map,List.length_range,List.getElem?_map]
   rw[List.getElem?_range (by omega)]
   simp only[Option.map_some]
   rw[it n (by omega),hk,ou k (by omega),show t-1-n=k by omega]
   rcases c4 (jy (S:=S) (p:=dm S p k)) with e | e | e | e <;> rw[e] <;> rfl
  ·rw[List.getElem?_eq_none (by rw[d7];omega),List.getElem?_eq_none (by rw[Q9,List.length_map,d7];omega)]
end
theorem Bd.same(h:∀c,c∈T↔c∈S)(b:Bd S p t w):Bd T p t w:=by
 have hm:∀c,xH (0,0) c∈T↔c∈S:=fun c=>by rw[show xH (0,0) c=c from Prod.ext (Int.add_zero _) (Int.add_zero _)];exact h c
 have ep:xH (0,0) p=p:=Prod.ext (Int.add_zero _) (Int.add_zero _)
 have r:=aaa hm b.Es
 have c:=(Tn hm).mpr b.bU
 have w':=abb hm (p:=p) t
 rw[ep] at r c w'
 exact⟨b.one.congr fun x=>(h x).symm,c,r,w'.trans b.wrd⟩
end
theorem Yv(l:Lt):opp (tl 1 l)=tl 1 (opp l):=by revert l;decide
def S7:Nat->Pt->Pt
 |0,c=>c
 |j+1,c=>rC (S7 j c)
def rPn:Nat->Pt->Pt
 |0,c=>c
 |j+1,c=>rP (rPn j c)
def Rk:Nat->Lt->Lt
 |0,l=>l
 |j+1,l=>tl 1 (Rk j l)
theorem Z8{a b:Pt}(h:rC a=rC b):a=b:=by
 have h1 : -a.2 = -b.2:=congrArg Prod.fst h
 exact Prod.ext (congrArg Prod.snd h) (by omega)
theorem Tu{a b:Pt}(h:mC a=mC b):a=b:=by rw[←Kw a,h,Kw]
theorem Dl{a b:Pt}:∀(j:Nat),S7 j a=S7 j b->a=b
 |0,h=>h
 |j+1,h=>Dl j (Z8 h)
theorem K9:∀(j:Nat) (c:Pt),∃d,S7 j d=c
 |0,c=>⟨c,rfl⟩
 |j+1,c=>by
  obtain⟨d,hd⟩:=K9 j (c.2,-c.1)
  exact⟨d,by show rC (S7 j d)=c;rw[hd];exact YL c⟩
theorem iW{f:Pt->Pt}(hf:∀ {a b},f a=f b->a=b){S:List Pt}{c:Pt}:f c∈S.map f↔c∈S:=by
 rw[List.mem_map]
 exact⟨fun ⟨d,hd,e⟩=>hf e▸hd,fun h=>⟨c,h,rfl⟩⟩
section
variable{S:List Pt}{p:Pt}{t:Nat}{w:List Lt}
theorem Bd.Y6(b:Bd S p t w):∀(j:Nat) {T:List Pt},(∀c,S7 j c∈T↔c∈S)->Bd T (rPn j p) t (w.map (Rk j))
 |0,T,h=>by
  have:=b.same h
  rw[show w.map (Rk 0)=w from (List.map_congr_left fun _ _=>rfl).trans (List.map_id w)]
  exact this
 |j+1,T,h=>by
  have b1:=b.Y6 j (T:=S.map (S7 j)) fun c=>iW (Dl j)
  have b2:=b1.turn (T:=T) fun c=>by
   obtain⟨d,rfl⟩:=K9 j c
   rw[iW (Dl j)]
   exact h d
  rw[List.map_map] at b2
  exact b2
theorem RL(w:List Lt):∀j,bk (w.map (Rk j))=(bk w).map (Rk j)
 |0=>by rw[show Rk 0=id from rfl,List.map_id,List.map_id]
 |j+1=>by
  have e:∀v:List Lt,v.map (Rk (j+1))=(v.map (Rk j)).map (tl 1):=fun v=>by rw[List.map_map];rfl
  rw[e,e,←RL w j]
  generalize w.map (Rk j)=v
  unfold bk
  rw[List.map_map,List.map_reverse,List.map_map]
  congr 1
  exact List.map_congr_left fun l _=>Yv l
def gk(k:Int)(p:Pt):Pt:=if k>3 then rPn (k-4).toNat (mP p) else rPn k.toNat p
theorem Bd.turned{T:List Pt}{k:Int}(h0:0<=k)(h1:k<8)(h:∀c,jw k c∈T↔c∈S)(b:Bd S p t w):Bd T (gk k p) t (if k>3 then bk (w.map (tl k)) else w.map (tl k)):=by
 unfold gk
 by_cases hk:k>3
 ·rw[if_pos hk,if_pos hk]
  have e1:∀c,jw k c=S7 (k-4).toNat (mC c):=fun c=>by
   rcases k8 h0 h1 with rfl | rfl | rfl | rfl | rfl | rfl | rfl | rfl <;> first | omega | (refine Prod.ext ?_ ?_ <;> simp[jw,S7,rC,mC])
  have e2:tl k=Rk (k-4).toNat∘tl 4:=by
   funext l
   rcases k8 h0 h1 with rfl | rfl | rfl | rfl | rfl | rfl | rfl | rfl <;> first | omega | (revert l;decide)
  have b1:=b.acE (T:=S.map mC) fun c=>iW Tu
  have b2:=b1.Y6 (k-4).toNat (T:=T) fun c=>by
   rw[←Kw c,iW (f:=mC) Tu,←h (mC c),e1,Kw]
  rw[e2,←List.map_map,RL]
  exact b2
 ·rw[if_neg hk,if_neg hk]
  have e1:∀c,jw k c=S7 k.toNat c:=fun c=>by
   rcases k8 h0 h1 with rfl | rfl | rfl | rfl | rfl | rfl | rfl | rfl <;> first | omega | (refine Prod.ext ?_ ?_ <;> simp[jw,S7,rC])
  have e2:tl k=Rk k.toNat:=by
   funext l
   rcases k8 h0 h1 with rfl | rfl | rfl | rfl | rfl | rfl | rfl | rfl <;> first | omega | (revert l;decide)
  rw[e2]
  exact b.Y6 k.toNat fun c=>by rw[←e1];exact h c
end
theorem Vw{k:Int}(h0:0<=k)(h1:k<8){a b:Pt}(e:jw k a=jw k b):a=b:=by
 have e1:=congrArg Prod.fst e
 have e2:=congrArg Prod.snd e
 rcases k8 h0 h1 with rfl | rfl | rfl | rfl | rfl | rfl | rfl | rfl <;> simp[jw] at e1 e2 <;> exact Prod.ext (by assumption) (by assumption)
theorem Vq(S:List Pt)(q:Pt)(t:Nat):path q (wd S q t)=(List.range (t+1)).map (dm S q):=by
 unfold path
 rw[d7]
 refine List.map_congr_left fun i hi=>?_
 rw[wC S q (by have:=List.mem_range.mp hi;omega),nA]
def iC:gA:=fun ds H Q=>∃x y,ds=[.tup [.int x,.int y]]/\(Q (.tup [.int y,.int x]) H)
theorem Ak{x y:Int}{H:aC}{Q:aM}(h:Q (.tup [.int y,.int x]) H):iC [.tup [.int x,.int y]] H Q:=⟨_,_,rfl,h⟩
theorem Rx:Le iC:=fun _ _ _ h=>Ak h
local macro_rules | `(tactic| walk_at "l3c")=>`(tactic| (with_reducible refine Ak ?_))
theorem Fb:∀(ds:List D) (H:aC) (Q:aM),iC ds H Q->ds.length=jD.length:=by
 intro ds H Q h
 obtain⟨_,_,rfl,_⟩:=h
 rfl
def uy:cO:=(kO (iY (aq (o3 bB (v3 0) (c3 (.int 1))) (aq (o3 bB (v3 0) (c3 (.int 0))) aG))))
theorem Ia:∀(ds:List D) (H:aC) (Q:aM),iC ds H Q->uy (dJ Q) (aH uL ds) H:=by
 intro ds H Q h
 obtain⟨_,_,rfl,h⟩:=h
 simp only[uy,aH,uL,List.map_cons,List.map_nil,List.length_cons,List.length_nil,Nat.reduceAdd,Nat.reduceSub,Nat.zero_add,List.replicate,List.cons_append,List.nil_append]
 walk_at "l3"
 exact bI h aL.refl
def mF:gA:=fun ds H Q=>∃a b c d x,ds=[.tup [.int a,.int b],x]/\(x=.tup [.int c,.int d]\/x=.ktup [.int c,.int d])/\Q (.tup [.int (a+c),.int (b+d)]) H
theorem S6{a b c d:Int}{H:aC}{Q:aM}(h:Q (.tup [.int (a+c),.int (b+d)]) H):mF [.tup [.int a,.int b],.ktup [.int c,.int d]] H Q:=⟨a,b,c,d,_,rfl,.inr rfl,h⟩
local macro_rules | `(tactic| walk_at "l3c")=>`(tactic| first | (with_reducible refine u_added ?_) | (with_reducible refine S6 ?_))
theorem Od:∀(ds:List D) (H:aC) (Q:aM),mF ds H Q->ds.length=pX.length:=by
 intro ds H Q h
 obtain⟨_,_,_,_,_,rfl,_⟩:=h
 rfl
def wF:cO:=(kO (iY (aq (o3 cu (o3 bB (v3 0) (c3 (.int 0))) (o3 bB (v3 1) (c3 (.int 0)))) (aq (o3 cu (o3 bB (v3 0) (c3 (.int 1))) (o3 bB (v3 1) (c3 (.int 1)))) aG))))
theorem RQ:∀(ds:List D) (H:aC) (Q:aM),mF ds H Q->wF (dJ Q) (aH wI ds) H:=by
 intro ds H Q h
 obtain⟨a,b,c,d,x,rfl,hx,h⟩:=h
 rcases hx with rfl | rfl
 ·simp only[wF,aH,wI,List.map_cons,List.map_nil,List.length_cons,List.length_nil,Nat.reduceAdd,Nat.reduceSub,Nat.zero_add,List.replicate,List.cons_append,List.nil_append]
  walk_at "l3"
  exact bI h aL.refl
 ·simp only[wF,aH,wI,List.map_cons,List.map_nil,List.length_cons,List.length_nil,Nat.reduceAdd,Nat.reduceSub,Nat.zero_add,List.replicate,List.cons_append,List.nil_append]
  walk_at "l3"
  exact bI h aL.refl
def eV:gA:=fun ds H Q=>match ds with
 |[.tup [.int x,.int y],.int k]=>Q (.tup [.int (jw k (x,y)).1,.int (jw k (x,y)).2]) H
 |[.ktup [.int x,.int y],.int k]=>Q (.tup [.int (jw k (x,y)).1,.int (jw k (x,y)).2]) H
 |_=>False
theorem SQ{x y k:Int}{H:aC}{Q:aM}(h:Q (.tup [.int (jw k (x,y)).1,.int (jw k (x,y)).2]) H):eV [.tup [.int x,.int y],.int k] H Q:=h
theorem Nx{x y k:Int}{H:aC}{Q:aM}(h:Q (.tup [.int (jw k (x,y)).1,.int (jw k (x,y)).2]) H):eV [.ktup [.int x,.int y],.int k] H Q:=h
local macro_rules | `(tactic| walk_at "l3c")=>`(tactic| first | (with_reducible refine SQ ?_) | (with_reducible refine Nx ?_))
theorem Iw:∀(ds:List D) (H:aC) (Q:aM),eV ds H Q->ds.length=lO.length:=by
 intro ds H Q h
 unfold eV at h
 split at h
 ·rfl
 ·rfl
 ·exact h.elim
def yM:cO:=(cR (st3 2 (o3 bB (v3 0) (c3 (.int 0))))
  (cR (st3 3 (o3 bB (v3 0) (c3 (.int 1))))
  (cR (qR (lJ (o3 aaT (v3 1) (c3 (.int 4)))) (st3 2 (u3 jU (v3 2))) rM)
  (cR (st3 4 (o3 jL (v3 1) (c3 (.int 4))))
  (cR (qR (lJ (o3 fL (v3 4) (c3 (.int 1)))) (kO (iY (aq (u3 jU (v3 3)) (aq (v3 2) aG)))) rM)
  (cR (qR (lJ (o3 fL (v3 4) (c3 (.int 2)))) (kO (iY (aq (u3 jU (v3 2)) (aq (u3 jU (v3 3)) aG)))) rM)
  (cR (qR (lJ (o3 fL (v3 4) (c3 (.int 3)))) (kO (iY (aq (v3 3) (aq (u3 jU (v3 2)) aG)))) rM)
  (kO (iY (aq (v3 2) (aq (v3 3) aG)))))))))))
theorem M9:∀(ds:List D) (H:aC) (Q:aM),eV ds H Q->yM (dJ Q) (aH xr ds) H:=by
 intro ds H Q h
 unfold eV at h
 split at h
 case h_3=>exact h.elim
 all_goals
  rename_i x y k
  simp only[yM,aH,xr,List.map_cons,List.map_nil,List.length_cons,List.length_nil,Nat.reduceAdd,Nat.reduceSub,Nat.zero_add,List.replicate,List.cons_append,List.nil_append]
  unfold jw at h
  walk_at "l3"
  refine tX (fun hk=>?_) fun hk=>?_ <;> walk_at "l3" <;> refine tX (fun h1=>?_) fun h1=>?_ <;> walk_at "l3"
  ·simp only[hk,h1,if_true] at h
   exact bI h aL.refl
  ·refine tX (fun h2=>?_) fun h2=>?_ <;> walk_at "l3"
   ·simp only[hk,h1,h2,if_true,if_false] at h
    exact bI h aL.refl
   ·refine tX (fun h3=>?_) fun h3=>?_ <;> walk_at "l3"
    ·simp only[hk,h1,h2,h3,if_true,if_false] at h
     exact bI h aL.refl
    ·simp only[hk,h1,h2,h3,if_true,if_false] at h
     exact bI h aL.refl
  ·simp only[hk,h1,if_true,if_false] at h
   exact bI h aL.refl
  ·refine tX (fun h2=>?_) fun h2=>?_ <;> walk_at "l3"
   ·simp only[hk,h1,h2,if_true,if_false] at h
    exact bI h aL.refl
   ·refine tX (fun h3=>?_) fun h3=>?_ <;> walk_at "l3"
    ·simp only[hk,h1,h2,h3,if_true,if_false] at h
     exact bI h aL.refl
    ·simp only[hk,h1,h2,h3,if_true,if_false] at h
     exact bI h aL.refl
def gQ:gA:=fun ds H Q=>∃z,ds=[.str z]/\(∃ls:List Lt,(z=bw ls/\ls.length<=500)/\Q (.str (bw (bk ls))) H)
theorem GF(ls:List Lt){H:aC}{Q:aM}(hl:ls.length<=500)(h:Q (.str (bw (bk ls))) H):gQ [.str (bw ls)] H Q:=⟨_,rfl,⟨ls,⟨rfl,hl⟩,h⟩⟩
theorem X6(l:Lt):o6.lookup (nQ l)=some (.str (nQ (opp l))):=by
 match l with
 |0=>rfl
 |1=>rfl
 |2=>rfl
 |3=>rfl
theorem zA:∀(ds:List D) (H:aC) (Q:aM),gQ ds H Q->ds.length=gm.length:=by
 intro ds H Q h
 obtain⟨_,rfl,_⟩:=h
 rfl
def pq:cO:=(kO (mz3 qO (c3 (.str "")) (aq (Bb (irv (v3 0)) (rR 0) nG (kd3 o6 (v3 0)) ["letter"] []) aG)))
theorem BJ:∀(ds:List D) (H:aC) (Q:aM),gQ ds H Q->pq (dJ Q) (aH lD ds) H:=by
 intro ds H Q h
 obtain⟨z,rfl,h⟩:=h
 obtain⟨ls,⟨rfl,hl⟩,h⟩:=h
 simp only[pq,aH,lD,List.map_cons,List.map_nil,List.length_cons,List.length_nil,Nat.reduceAdd,Nat.reduceSub,Nat.zero_add,List.replicate,List.cons_append,List.nil_append]
 walk_at "l3"
 refine aai (wu _ (by omega)) ?_
 rw[uv,←List.map_reverse]
 refine Cp.map (fun l=>.str (nQ (opp l))) (fun _ _=>trivial) (by rw[List.length_reverse];omega) ?_ ?_
 ·intro i l hl2 R H2 hs hR
  walk_at "l3"
  refine Am (X6 l) ?_
  exact hR H2 aL.refl
 intro p hp
 walk_at "l3"
 refine PN (ls:=bk ls) (by rw[aB];unfold bk;rw[←List.map_reverse,List.map_map];rfl) (by rw[Q9];omega) ?_
 exact bI h (aL.fresh hp)
def fZ:gA:=fun ds H Q=>∃z n,ds=[.str z,.int n]/\(∃ls:List Lt,(z=bw ls/\ls.length<=500/\0<=n/\n<=ls.length)/\Q (.str (bw (beg ls n.toNat))) H)
theorem HH(ls:List Lt){n:Int}{H:aC}{Q:aM}(hl:ls.length<=500)(h0:0<=n)(h1:n<=ls.length)(h:Q (.str (bw (beg ls n.toNat))) H):fZ [.str (bw ls),.int n] H Q:=⟨_,_,rfl,⟨ls,⟨rfl,hl,h0,h1⟩,h⟩⟩
theorem Dn:∀(ds:List D) (H:aC) (Q:aM),fZ ds H Q->ds.length=il.length:=by
 intro ds H Q h
 obtain⟨_,_,rfl,_⟩:=h
 rfl
def qY:cO:=(kO (o3 cu (sl3 KC (v3 0) (pt3 (v3 1)) U3) (sl3 KC (v3 0) U3 (pt3 (v3 1)))))
theorem DY:∀(ds:List D) (H:aC) (Q:aM),fZ ds H Q->qY (dJ Q) (aH rB ds) H:=by
 intro ds H Q h
 obtain⟨z,n,rfl,h⟩:=h
 obtain⟨ls,⟨rfl,hl,h0,h1⟩,h⟩:=h
 obtain⟨m,rfl⟩:=Int.eq_ofNat_of_zero_le h0
 rw[Int.toNat_natCast] at h
 simp only[qY,aH,rB,List.map_cons,List.map_nil,List.length_cons,List.length_nil,Nat.reduceAdd,Nat.reduceSub,Nat.zero_add,List.replicate,List.cons_append,List.nil_append]
 walk_at "l3"
 refine W5 (wu _ (by omega)) ?_
 rw[RJ]
 walk_at "l3"
 refine W5 (wu _ (by omega)) ?_
 rw[Ri]
 walk_at "l3"
 refine Yp (by rw[fG,fG,List.length_drop,List.length_take,cL];omega) ?_
 rw[oG]
 exact bI h aL.refl
def sdD(c:Pt)(d:Nat):D:=.tup [bN (yS c d),.str (nQ (ltN d)),bN (Dq c d)]
def iR:gA:=fun ds H Q=>∃x y,ds=[.tup [.int x,.int y]]/\(∀p,H p=none->Q (.ref p) (aK H p (.lst ((List.range 4).map (sdD (x,y))))))
theorem Iv{x y:Int}{H:aC}{Q:aM}(h:∀p,H p=none->Q (.ref p) (aK H p (.lst ((List.range 4).map (sdD (x,y)))))):iR [.tup [.int x,.int y]] H Q:=⟨_,_,rfl,h⟩
theorem CZ:∀(ds:List D) (H:aC) (Q:aM),iR ds H Q->ds.length=iy.length:=by
 intro ds H Q h
 obtain⟨_,_,rfl,_⟩:=h
 rfl
def qW:cO:=(cR (st3 1 (o3 bB (v3 0) (c3 (.int 0))))
  (cR (st3 2 (o3 bB (v3 0) (c3 (.int 1))))
  (kO (Og (aq (iY (aq (iY (aq (v3 1) (aq (v3 2) aG))) (aq (c3 (.str "e")) (aq (iY (aq (v3 1) (aq (o3 fJ (v3 2) (c3 (.int 1))) aG))) aG)))) (aq (iY (aq (iY (aq (o3 cu (v3 1) (c3 (.int 1))) (aq (v3 2) aG))) (aq (c3 (.str "n")) (aq (iY (aq (o3 cu (v3 1) (c3 (.int 1))) (aq (v3 2) aG))) aG)))) (aq (iY (aq (iY (aq (o3 cu (v3 1) (c3 (.int 1))) (aq (o3 cu (v3 2) (c3 (.int 1))) aG))) (aq (c3 (.str "w")) (aq (iY (aq (v3 1) (aq (o3 cu (v3 2) (c3 (.int 1))) aG))) aG)))) (aq (iY (aq (iY (aq (v3 1) (aq (o3 cu (v3 2) (c3 (.int 1))) aG))) (aq (c3 (.str "s")) (aq (iY (aq (o3 fJ (v3 1) (c3 (.int 1))) (aq (v3 2) aG))) aG)))) aG))))))))
theorem Ew:∀(ds:List D) (H:aC) (Q:aM),iR ds H Q->qW (dJ Q) (aH qK ds) H:=by
 intro ds H Q h
 obtain⟨x,y,rfl,h⟩:=h
 simp only[qW,aH,qK,List.map_cons,List.map_nil,List.length_cons,List.length_nil,Nat.reduceAdd,Nat.reduceSub,Nat.zero_add,List.replicate,List.cons_append,List.nil_append]
 walk_at "l3"
 intro p hp
 exact bI (h p hp) aL.refl
def dI:gA:=fun ds H Q=>∃z,ds=[.str z]/\(∃ls:List Lt,(z=bw ls/\ls≠[]/\ls.length<=500)/\Q .non H)
theorem vP{ls:List Lt}{H:aC}{Q:aM}(hn:ls≠[])(hl:ls.length<=500)(h:Q .non H):dI [.str (bw ls)] H Q:=⟨_,rfl,⟨ls,⟨rfl,hn,hl⟩,h⟩⟩
theorem Qw(l:Lt):(gC.lookup (nQ l)).isSome=true:=by
 revert l;intro l;match l with
 |0=>rfl
 |1=>rfl
 |2=>rfl
 |3=>rfl
theorem rY:∀(ds:List D) (H:aC) (Q:aM),dI ds H Q->ds.length=cY.length:=by
 intro ds H Q h
 obtain⟨_,rfl,_⟩:=h
 rfl
def jN:cO:=G4 (iez (v3 0)) (sI 1 2) (qR (lJ (ki3 gC true (v3 2))) Zw rM)
def je:cO:=(cR (qR (lJ (o3 fL (v3 0) (c3 (.str "")))) Zw rM)
  jN)
theorem uD:∀(ds:List D) (H:aC) (Q:aM),dI ds H Q->je (dJ Q) (aH iZ ds) H:=by
 intro ds H Q h
 obtain⟨_,rfl,h⟩:=h
 obtain⟨ls,⟨rfl,hn,hl⟩,h⟩:=h
 simp only[je,aH,iZ,List.map_cons,List.map_nil,List.length_cons,List.length_nil,Nat.reduceAdd,Nat.reduceSub,Nat.zero_add,List.replicate,List.cons_append,List.nil_append]
 walk_at "l3"
 refine Gk (bs:=[]) ?_
 walk_at "l3"
 refine tX (fun z=>absurd z hn) fun _=>?_
 walk_at "l3"
 unfold jN
 walk_at "l3"
 refine aaG (S5 ls) ?_
 rw[uv]
 refine Lp.by (fun i σ H2=>H2=H/\∃a b,σ=[some (.str (bw ls)),a,b]) ⟨rfl,_,_,rfl⟩ (fun _ _ _ _ _=>trivial) ?_ ?_
 ·rintro i d σ H2 hd ⟨rfl,a,b,rfl⟩
  obtain⟨n,l,rfl⟩:∃(n:Int) (l:Lt),d=.tup [.int n,.str (nQ l)]:=by
   unfold rO at hd
   rw[pF,List.getElem?_map] at hd
   obtain⟨⟨n,l⟩,_,rfl⟩:=Option.map_eq_some_iff.mp hd
   exact⟨_,l,rfl⟩
  walk_at "l3"
  rw[Qw l]
  walk_at "l3"
  exact⟨rfl,_,_,rfl⟩
 ·rintro σ H2 ⟨rfl,a,b,rfl⟩
  walk_at "l3"
  exact R5 h aL.refl
def cat(ns:List Int)(k:Nat):Int:=if k<ns.length then ns.getD k 0 else if ns.length=0 then 0 else ns.getD (k%ns.length) 0*(48271+(k:Int)*(k:Int))%1000003
def bV:gA:=fun ds H Q=>∃xs k,ds=[.fl xs,.int k]/\((match intsOf xs with
  |some ns=>(0<=k/\k<100000/\ns.length<=63)/\Q (.int (cat ns k.toNat)) H
  |none=>False))
theorem DW{ns:List Int}{k:Int}{H:aC}{Q:aM}(hk:0<=k)(hk1:k<100000)(hl:ns.length<=63)(h:Q (.int (cat ns k.toNat)) H):bV [.fl (ns.map D.int),.int k] H Q:=by
 refine⟨_,_,rfl,?_⟩
 simp only[iD];exact⟨⟨hk,hk1,hl⟩,h⟩
local macro_rules | `(tactic| walk_at "l3c")=>`(tactic| ((with_reducible show bV _ _ _);refine DW (by walk_at "l3a") (by walk_at "l3a") (by assumption) ?_))
theorem zg:∀(ds:List D) (H:aC) (Q:aM),bV ds H Q->ds.length=gn.length:=by
 intro ds H Q h
 obtain⟨_,_,rfl,_⟩:=h
 rfl
def oH:cO:=(cR (qR (lJ (o3 Jf (v3 1) (dC g8 (aq (v3 0) aG)))) (kO (o3 bB (v3 0) (v3 1))) rM)
  (cR (qR (lJ (o3 fL (dC g8 (aq (v3 0) aG)) (c3 (.int 0)))) (kO (c3 (.int 0))) rM)
  (kO (o3 jL (o3 pH (o3 bB (v3 0) (o3 jL (v3 1) (dC g8 (aq (v3 0) aG)))) (o3 cu (c3 (.int 48271)) (o3 pH (v3 1) (v3 1)))) (c3 (.int 1000003))))))
theorem Ca:∀(ds:List D) (H:aC) (Q:aM),bV ds H Q->oH (dJ Q) (aH ph ds) H:=by
 intro ds H Q h
 obtain⟨xs,k,rfl,h⟩:=h
 split at h
 case h_2=>exact h.elim
 rename_i ns e
 have e':=fW e
 subst e'
 obtain⟨⟨hk,hk1,hns⟩,h⟩:=h
 obtain⟨n,rfl⟩:=Int.eq_ofNat_of_zero_le hk
 rw[Int.toNat_natCast] at h
 simp only[oH,aH,ph,List.map_cons,List.map_nil,List.length_cons,List.length_nil,Nat.reduceAdd,Nat.reduceSub,Nat.zero_add,List.replicate,List.cons_append,List.nil_append]
 unfold cat at h
 walk_at "l3"
 rw[List.length_map]
 refine tX (fun hlt=>?_) fun hlt=>?_
 ·have hl:n<ns.length:=by omega
  rw[if_pos hl] at h
  have ha:pU (ns.map D.int) (n:Int)=some (.int (ns.getD n 0)):=by
   rw[BV (by omega) (by rw[Int.toNat_natCast];exact hl)]
   simp only[Int.toNat_natCast,List.getD_eq_getElem?_getD,List.getElem?_eq_getElem hl];rfl
  walk_at "l3"
  refine W6 ha ?_
  walk_at "l3"
  exact bI h aL.refl
 ·have hl:¬n<ns.length:=by omega
  rw[if_neg hl] at h
  walk_at "l3"
  rw[List.length_map]
  refine tX (fun h0=>?_) fun h0=>?_
  ·walk_at "l3"
   rw[if_pos (by omega)] at h
   exact bI h aL.refl
  ·rw[if_neg (by omega)] at h
   have hp:(0:Int)<ns.length:=by omega
   have hm:n%ns.length<ns.length:=Nat.mod_lt _ (by omega)
   walk_at "l3"
   rw[List.length_map]
   refine Xa hp ?_
   have ha:pU (ns.map D.int) ((n:Int)%(ns.length:Int))=some (.int (ns.getD (n%ns.length) 0)):=by
    rw[←Int.natCast_emod,BV (by omega) (by rw[Int.toNat_natCast];exact hm)]
    simp only[Int.toNat_natCast,List.getD_eq_getElem?_getD,List.getElem?_eq_getElem hm];rfl
   refine W6 ha ?_
   walk_at "l3"
   have hq:(n:Int)*(n:Int)<=100000*100000:=Int.mul_le_mul (by omega) (by omega) (by omega) (by omega)
   have hq0:0<=(n:Int)*(n:Int):=Int.mul_nonneg (by omega) (by omega)
   refine Sh (.inl (.inr ⟨by omega,by omega⟩)) ?_
   walk_at "l3"
   exact bI h aL.refl
def iV:gA:=fun ds H Q=>∃w0_ w1_,ds=[.int w0_,.int w1_]/\(∀x y,Q (.tup [.int x,.int y]) H)
theorem Hg{c d:Int}{H:aC}{Q:aM}(h:∀x y,Q (.tup [.int x,.int y]) H):iV [.int c,.int d] H Q:=⟨_,_,rfl,h⟩
theorem Bu:∀(ds:List D) (H:aC) (Q:aM),iV ds H Q->ds.length=ir.length:=by
 intro ds H Q h
 obtain⟨_,_,rfl,_⟩:=h
 rfl
def qN:cO:=(cR (qR (lJ (o3 fL (o3 jL (v3 0) (c3 (.int 3))) (c3 (.int 0)))) (kO (iY (aq (o3 fJ (o3 jL (o3 pI (v3 0) (c3 (.int 3))) (c3 (.int 41))) (c3 (.int 20))) (aq (o3 fJ (o3 jL (o3 pI (v3 1) (c3 (.int 3))) (c3 (.int 41))) (c3 (.int 20))) aG)))) rM)
  (kO (iY (aq (o3 fJ (o3 jL (o3 pI (v3 0) (c3 (.int 3))) (o3 cu (o3 pH (c3 (.int 2)) (o3 Av (c3 (.int 10)) (c3 (.int 40)))) (c3 (.int 1)))) (o3 Av (c3 (.int 10)) (c3 (.int 40)))) (aq (o3 fJ (o3 jL (v3 1) (o3 cu (o3 pH (c3 (.int 2)) (o3 Av (c3 (.int 10)) (c3 (.int 40)))) (c3 (.int 1)))) (o3 Av (c3 (.int 10)) (c3 (.int 40)))) aG)))))
theorem Gf:∀(ds:List D) (H:aC) (Q:aM),iV ds H Q->qN (dJ Q) (aH rG ds) H:=by
 intro ds H Q h
 obtain⟨_,_,rfl,h⟩:=h
 simp only[qN,aH,rG,List.map_cons,List.map_nil,List.length_cons,List.length_nil,Nat.reduceAdd,Nat.reduceSub,Nat.zero_add,List.replicate,List.cons_append,List.nil_append]
 walk_at "l3"
 refine tX (fun hc=>?_) fun hc=>?_
 ·walk_at "l3"
  exact bI (h _ _) aL.refl
 ·walk_at "l3"
  exact bI (h _ _) aL.refl
def lU:gA:=fun ds H Q=>∃z,ds=[.str z]/\(∃l:Lt,z=nQ l/\Q (.tup [.int (step l).1,.int (step l).2]) H)
theorem Rg(l:Lt){H:aC}{Q:aM}(h:Q (.tup [.int (step l).1,.int (step l).2]) H):lU [.str (nQ l)] H Q:=⟨_,rfl,⟨l,rfl,h⟩⟩
theorem Wn(l:Lt):sW "enws" (nQ l)=some l.val:=by
 match l with
 |0=>rfl
 |1=>rfl
 |2=>rfl
 |3=>rfl
theorem step_at(l:Lt):pU [D.tup [.int 1,.int 0],.tup [.int 0,.int 1],.tup [.int (-1),.int 0],.tup [.int 0,.int (-1)]] (l.val:Int)=some (.tup [.int (step l).1,.int (step l).2]):=by
 match l with
 |0=>rfl
 |1=>rfl
 |2=>rfl
 |3=>rfl
theorem Jo:∀(ds:List D) (H:aC) (Q:aM),lU ds H Q->ds.length=lX.length:=by
 intro ds H Q h
 obtain⟨_,rfl,_⟩:=h
 rfl
def yL:cO:=(kO (o3 bB (Og (aq (iY (aq (c3 (.int 1)) (aq (c3 (.int 0)) aG))) (aq (iY (aq (c3 (.int 0)) (aq (c3 (.int 1)) aG))) (aq (iY (aq (u3 jU (c3 (.int 1))) (aq (c3 (.int 0)) aG))) (aq (iY (aq (c3 (.int 0)) (aq (u3 jU (c3 (.int 1))) aG))) aG))))) (mz3 uo (c3 (.str "enws")) (aq (v3 0) aG))))
theorem OD:∀(ds:List D) (H:aC) (Q:aM),lU ds H Q->yL (dJ Q) (aH yc ds) H:=by
 intro ds H Q h
 obtain⟨z,rfl,h⟩:=h
 obtain⟨l,rfl,h⟩:=h
 simp only[yL,aH,yc,List.map_cons,List.map_nil,List.length_cons,List.length_nil,Nat.reduceAdd,Nat.reduceSub,Nat.zero_add,List.replicate,List.cons_append,List.nil_append]
 walk_at "l3"
 intro p hp
 walk_at "l3"
 refine Ve (Wn l) ?_
 walk_at "l3"
 refine mH aB (step_at l) ?_
 walk_at "l3"
 exact bI h (aL.fresh hp)
def iB:gA:=fun ds H Q=>∃w0_,ds=[.int w0_]/\(Q (.bl true) H)
theorem Ms{i:Int}{H:aC}{Q:aM}(h:Q (.bl true) H):iB [.int i] H Q:=⟨_,rfl,h⟩
local macro_rules | `(tactic| walk_at "l3c")=>`(tactic| (with_reducible refine Ms ?_))
theorem GR:∀(ds:List D) (H:aC) (Q:aM),iB ds H Q->ds.length=jA.length:=by
 intro ds H Q h
 obtain⟨_,rfl,_⟩:=h
 rfl
def vf:cO:=(kO (av3 (dC qC (aq (v3 0) (aq (c3 (.ty "int")) aG))) (nv3 (dC qC (aq (v3 0) (aq (c3 (.ty "bool")) aG))))))
theorem IK:∀(ds:List D) (H:aC) (Q:aM),iB ds H Q->vf (dJ Q) (aH vh ds) H:=by
 intro ds H Q h
 obtain⟨_,rfl,h⟩:=h
 simp only[vf,aH,vh,List.map_cons,List.map_nil,List.length_cons,List.length_nil,Nat.reduceAdd,Nat.reduceSub,Nat.zero_add,List.replicate,List.cons_append,List.nil_append]
 walk_at "l3"
 refine ifY rfl ?_
 walk_at "l3"
 exact bI h aL.refl
def Aj(w s:Int)(nx ny:Nat)(c:Pt):Prop:=(w<=c.1/\c.1<w+(nx:Int))/\s<=c.2/\c.2<s+(ny:Int)
def bxR(w y:Int)(nx:Nat):List Pt:=(List.range nx).map fun i:Nat=>(w+(i:Int),y)
def SJ(w s:Int)(nx:Nat):Nat->List Pt
 |0=>[]
 |n+1=>SJ w s nx n++bxR w (s+(n:Int)) nx
theorem wH(w s:Int)(nx:Nat):∀ny,(SJ w s nx ny).length=ny*nx
 |0=>by simp[SJ]
 |n+1=>by rw[SJ,List.length_append,wH,Nat.succ_mul];simp[bxR]
theorem JM{w y:Int}{nx:Nat}{c:Pt}:c∈bxR w y nx↔(w<=c.1/\c.1<w+(nx:Int))/\c.2=y:=by
 unfold bxR
 rw[List.mem_map]
 constructor
 ·rintro⟨i,hi,rfl⟩
  have:=List.mem_range.mp hi
  exact⟨⟨by dsimp only;omega,by dsimp only;omega⟩,rfl⟩
 ·rintro⟨⟨h1,h2⟩,h3⟩
  exact⟨(c.1-w).toNat,List.mem_range.mpr (by omega),Prod.ext (by dsimp only;omega) h3.symm⟩
theorem ud{w s:Int}{nx:Nat}{c:Pt}:∀ {ny:Nat},c∈SJ w s nx ny↔Aj w s nx ny c
 |0=>by
  unfold Aj
  constructor
  ·intro h;cases h
  ·intro h;omega
 |n+1=>by
  rw[SJ,List.mem_append,ud,JM]
  unfold Aj
  omega
theorem QW(w s:Int)(nx:Nat):∀ny,(SJ w s nx ny).Nodup
 |0=>by simp[SJ]
 |n+1=>by
  rw[SJ,List.nodup_append]
  refine⟨QW w s nx n,?_,fun a ha b hb z=>?_⟩
  ·unfold bxR
   refine List.nodup_range.map _ ?_
   intro a b hab z
   exact hab (by have:=congrArg Prod.fst z;dsimp only at this;omega)
  ·subst z
   have h1:=ud.mp ha
   have h2:=(JM.mp hb).2
   unfold Aj at h1
   omega
structure Bf(ps:List Pt)(w s:Int)(nx ny:Nat)(met kn:List Pt)(at0:Nat):Prop where
 st:(w,s)∈met
 nd:kn.Nodup
 iff:∀c,c∈kn↔c∈ps\/c∈met
 bx:∀c∈met,Aj w s nx ny c/\c∉ps/\Way ps (w,s) c
 ml:met.length<=kn.length
 al:at0<=met.length
 cl:∀i,i<at0->∀c,met[i]?=some c->∀n∈bA c,Aj w s nx ny n->n∈kn
section
variable{ps met kn:List Pt}{w s:Int}{nx ny at0:Nat}
theorem Bf.len(h:Bf ps w s nx ny met kn at0)(hb:∀c∈ps,Aj w s nx ny c):kn.length<=ny*nx:=by
 rw[←wH w s nx ny]
 refine sub_len h.nd fun c hc=>ud.mpr ?_
 rcases (h.iff c).mp hc with z | z
 ·exact hb c z
 ·exact (h.bx c z).1
theorem Bf.grow{c n:Pt}(h:Bf ps w s nx ny met kn at0)(hc:c∈met)(hn:n∈bA c)(hb:Aj w s nx ny n)(hk:n∉kn):Bf ps w s nx ny (met++[n]) (kn++[n]) at0:=by
 have hnp:n∉ps:=fun z=>hk ((h.iff n).mpr (.inl z))
 refine⟨List.mem_append_left _ h.st,?_,fun d=>?_,fun d hd=>?_,by have:=h.ml;simp;exact this,by have:=h.al;simp;omega,fun i hi d hd m hm hmb=>?_⟩
 ·rw[List.nodup_append]
  exact⟨h.nd,by simp,fun a ha b hb=>by rw[List.mem_singleton.mp hb];exact fun z=>hk (z▸ha)⟩
 ·rw[List.mem_append,List.mem_append,h.iff]
  exact or_assoc
 ·rcases List.mem_append.mp hd with hd | hd
  ·exact h.bx d hd
  ·rw[List.mem_singleton.mp hd]
   exact⟨hb,hnp,.step (h.bx c hc).2.2 hn hnp⟩
 ·have hl:=h.al
  rw[List.getElem?_append_left (by omega)] at hd
  exact List.mem_append_left _ (h.cl i hi d hd m hm hmb)
theorem Bf.next{c:Pt}(h:Bf ps w s nx ny met kn at0)(hc:met[at0]?=some c)(hn:∀n∈bA c,Aj w s nx ny n->n∈kn):Bf ps w s nx ny met kn (at0+1):=by
 have:=(List.getElem?_eq_some_iff.mp hc).1
 refine⟨h.st,h.nd,h.iff,h.bx,h.ml,by omega,fun i hi d hd m hm hmb=>?_⟩
 by_cases e:i=at0
 ·subst e
  rw[hc] at hd
  cases hd
  exact hn m hm hmb
 ·exact h.cl i (by omega) d hd m hm hmb
def Rim(ps:List Pt)(w s:Int)(nx ny:Nat):Prop:=∀c∈ps,(w<c.1/\c.1+1<w+(nx:Int))/\s<c.2/\c.2+1<s+(ny:Int)
theorem Qk{x:Int}(hx:∀c∈ps,c.1≠x)(y:Int):∀n:Nat,Way ps (x,y) (x,y+(n:Int))
 |0=>by rw[show (x,y+((0:Nat):Int))=(x,y) from Prod.ext rfl (by dsimp only;omega)];exact .refl
 |n+1=>.step (Qk hx y n) (by rw[jX];dsimp only;omega) fun z=>hx _ z rfl
theorem Gr{y:Int}(hy:∀c∈ps,c.2≠y)(x:Int):∀n:Nat,Way ps (x,y) (x-(n:Int),y)
 |0=>by rw[show (x-((0:Nat):Int),y)=(x,y) from Prod.ext (by dsimp only;omega) rfl];exact .refl
 |n+1=>.step (Gr hy x n) (by rw[jX];dsimp only;omega) fun z=>hy _ z rfl
theorem Way.symm{a b:Pt}(ha:a∉ps)(h:Way ps a b):Way ps b a:=by
 induction h with
 |refl=>exact .refl
 |step k h h' ih=>exact Way.trans (.step .refl (Jg h) (k.off ha)) ih
theorem Wm(hr:Rim ps w s nx ny)(hw:∀z,Aj w s nx ny z->z∉ps->Way ps (w,s) z)(z:Pt)(hz:z∉ps):Esc ps z:=by
 have col:∀ {x:Int} (y:Int),(x<=w\/w+(nx:Int)<=x+1)->Esc ps (x,y):=fun {x} y hx=>
  ⟨(x,y+((s+(ny:Int)-y).toNat:Int)),Qk (fun c hc e=>by have:=hr c hc;omega) y _,fun c hc=>by have:=hr c hc;dsimp only;omega⟩
 have hws:(w,s)∉ps:=fun y=>by have:=hr _ y;dsimp only at this;omega
 by_cases c1:z.1<=w\/w+(nx:Int)<=z.1+1
 ·exact col z.2 c1
 by_cases c2:s+(ny:Int)<=z.2+1
 ·exact⟨z,.refl,fun c hc=>by have:=hr c hc;omega⟩
 by_cases c3:z.2<=s
 ·obtain⟨b,k,hb⟩:=col (x:=w) z.2 (.inl (Int.le_refl _))
  have:=Gr (ps:=ps) (y:=z.2) (fun c hc e=>by have:=hr c hc;omega) z.1 (z.1-w).toNat
  rw[show z.1-((z.1-w).toNat:Int)=w by omega] at this
  exact⟨b,this.trans k,hb⟩
 ·obtain⟨b,k,hb⟩:=col (x:=w) s (.inl (Int.le_refl _))
  exact⟨b,((hw z ⟨by omega,by omega⟩ hz).symm hws).trans k,hb⟩
theorem Bf.full(h:Bf ps w s nx ny met kn met.length)(hb:∀c∈ps,Aj w s nx ny c)(hr:Rim ps w s nx ny)(hl:ny*nx<=kn.length)(z:Pt)(hz:z∉ps):Esc ps z:=by
 refine Wm hr (fun z hb' hz'=>?_) z hz
 have:z∈kn:=Classical.byContradiction fun k=>by
  have:=sub_len (xs:=z::kn) (ys:=SJ w s nx ny) (List.nodup_cons.mpr ⟨k,h.nd⟩) fun c hc=>ud.mpr (by
   rcases List.mem_cons.mp hc with rfl | hc
   ·exact hb'
   ·rcases (h.iff c).mp hc with y | y
    ·exact hb c y
    ·exact (h.bx c y).1)
  rw[wH,List.length_cons] at this
  omega
 exact (h.bx z (((h.iff z).mp this).resolve_left hz')).2.2
theorem Bf.lone{c:Pt}(h:Bf [c] (c.1-1) (c.2-1) 3 3 met kn met.length):9<=kn.length:=by
 have st:∀x y x' y':Int,(c.1+x,c.2+y)∈met->((x'=x+1/\y'=y)\/(x'=x/\y'=y+1)\/(x'=x-1/\y'=y)\/(x'=x/\y'=y-1))->(-1<=x'/\x'<=1)->(-1<=y'/\y'<=1)->¬(x'=0/\y'=0)->(c.1+x',c.2+y')∈met:=fun x y x' y' ha hn bx yb hne=>by
  obtain⟨i,hi⟩:=List.mem_iff_getElem?.mp ha
  have:=h.cl i (List.getElem?_eq_some_iff.mp hi).1 _ hi (c.1+x',c.2+y') (by
   rw[jX]
   rcases hn with ⟨rfl,rfl⟩ | ⟨rfl,rfl⟩ | ⟨rfl,rfl⟩ | ⟨rfl,rfl⟩
   ·exact .inl ⟨(Int.add_assoc ..).symm,rfl⟩
   ·exact .inr (.inl ⟨rfl,(Int.add_assoc ..).symm⟩)
   ·exact .inr (.inr (.inl ⟨(Int.add_sub_assoc ..).symm,rfl⟩))
   ·exact .inr (.inr (.inr ⟨rfl,(Int.add_sub_assoc ..).symm⟩)))
   ⟨by clear hn yb hne;dsimp only;omega,by clear hn bx hne;dsimp only;omega⟩
  exact ((h.iff _).mp this).resolve_left fun z=>hne (by
   have z:=List.mem_singleton.mp z
   exact⟨Int.add_left_cancel ((congrArg Prod.fst z).trans (Int.add_zero _).symm),Int.add_left_cancel ((congrArg Prod.snd z).trans (Int.add_zero _).symm)⟩)
 have m0:(c.1 + -1,c.2 + -1)∈met:=by have:=h.st;rw[Int.sub_eq_add_neg,Int.sub_eq_add_neg] at this;exact this
 have m1:=st (-1) (-1) 0 (-1) m0 (by decide) (by decide) (by decide) (by decide)
 have m2:=st 0 (-1) 1 (-1) m1 (by decide) (by decide) (by decide) (by decide)
 have m3:=st 1 (-1) 1 0 m2 (by decide) (by decide) (by decide) (by decide)
 have m4:=st 1 0 1 1 m3 (by decide) (by decide) (by decide) (by decide)
 have m5:=st 1 1 0 1 m4 (by decide) (by decide) (by decide) (by decide)
 have m6:=st 0 1 (-1) 1 m5 (by decide) (by decide) (by decide) (by decide)
 have m7:=st (-1) 1 (-1) 0 m6 (by decide) (by decide) (by decide) (by decide)
 have:=sub_len (xs:=SJ (c.1-1) (c.2-1) 3 3) (ys:=kn) (QW _ _ _ _) fun p hp=>(h.iff p).mpr (by
  have key:∀x y:Int,p.1=c.1+x->p.2=c.2+y->(c.1+x,c.2+y)∈met->p∈met:=fun x y h1 h2 hm=>by rw[show p=(c.1+x,c.2+y) from Prod.ext h1 h2];exact hm
  have one:∀ {u v:Int},v-1<=u/\u<v-1+(3:Nat)->u=v + -1\/u=v+0\/u=v+1:=fun z=>by omega
  have hp:=ud.mp hp
  rcases one hp.1 with hx | hx | hx <;> rcases one hp.2 with hy | hy | hy
  ·exact .inr (key _ _ hx hy m0)
  ·exact .inr (key _ _ hx hy m7)
  ·exact .inr (key _ _ hx hy m6)
  ·exact .inr (key _ _ hx hy m1)
  ·exact .inl (List.mem_singleton.mpr (Prod.ext (hx.trans (Int.add_zero _)) (hy.trans (Int.add_zero _))))
  ·exact .inr (key _ _ hx hy m5)
  ·exact .inr (key _ _ hx hy m2)
  ·exact .inr (key _ _ hx hy m3)
  ·exact .inr (key _ _ hx hy m4))
 rw[wH] at this
 exact this
end
theorem Ze{j:Nat}{d:D}(h:[D.tup [.int 1,.int 0],.tup [.int 0,.int 1],.tup [.int (-1),.int 0],.tup [.int 0,.int (-1)]][j]?=some d):j<4/\d=.tup [.int (stp j).1,.int (stp j).2]:=by
 match j with
 |0=>cases h;exact⟨by omega,rfl⟩
 |1=>cases h;exact⟨by omega,rfl⟩
 |2=>cases h;exact⟨by omega,rfl⟩
 |3=>cases h;exact⟨by omega,rfl⟩
 |j+4=>simp at h
theorem nb4{c:Pt}{j:Nat}(h:j<4):nb c j∈bA c:=by
 rw[jX]
 rcases c4 h with rfl | rfl | rfl | rfl
 ·exact .inl ⟨rfl,Int.add_zero _⟩
 ·exact .inr (.inl ⟨Int.add_zero _,rfl⟩)
 ·exact .inr (.inr (.inl ⟨rfl,Int.add_zero _⟩))
 ·exact .inr (.inr (.inr ⟨Int.add_zero _,rfl⟩))
def atN(n i:Nat)(σ:bQ):Nat:=match σ[i]? with
 |some (some (.int k))=>n-k.toNat
 |_=>0
section
variable(H:aC)(ps:List Pt)(a p5 p6:Addr)(xm xn ym yn:Int)
inductive HoA(i:Nat):bQ->aC->Prop
 |mk {H2:aC} (cc:Option D) (sb:aL H H2) (k5:H2 p5=some (.lst [.tup [.int (xn-1),.int (yn-1)]])) (k6:H2 p6=some (.dic (gM ((ps.take i).foldl lL [(xn-1,yn-1)])))):HoA i [some (.ref a),some (.int (xm+1)),some (.int (xn-1)),some (.int (ym+1)),some (.int (yn-1)),some (.ref p5),some (.ref p6),cc,none,none,none] H2
inductive HoB(nx ny:Nat):bQ->aC->Prop
 |mk {H3:aC} (met kn:List Pt) (at0:Nat) (cc dd ee:Option D) (sb:aL H H3) (j5:H3 p5=some (.lst (met.map bN))) (j6:H3 p6=some (.dic (gM kn))) (bf:Bf ps (xn-1) (yn-1) nx ny met kn at0):HoB nx ny [some (.ref a),some (.int (xm+1)),some (.int (xn-1)),some (.int (ym+1)),some (.int (yn-1)),some (.ref p5),some (.ref p6),cc,some (.int (at0:Nat)),dd,ee] H3
inductive HoC(nx ny:Nat)(p7:Addr)(c:Pt)(at0:Nat)(cc:Option D)(j:Nat):bQ->aC->Prop
 |mk {H4:aC} (met kn:List Pt) (dd ee:Option D) (sb:aL H H4) (i7:H4 p7=some (.lst [.tup [.int 1,.int 0],.tup [.int 0,.int 1],.tup [.int (-1),.int 0],.tup [.int 0,.int (-1)]])) (j5:H4 p5=some (.lst (met.map bN))) (j6:H4 p6=some (.dic (gM kn))) (bf:Bf ps (xn-1) (yn-1) nx ny met kn at0) (hc:met[at0]?=some c) (hk:∀k,k<j->Aj (xn-1) (yn-1) nx ny (nb c k)->nb c k∈kn):HoC nx ny p7 c at0 cc j [some (.ref a),some (.int (xm+1)),some (.int (xn-1)),some (.int (ym+1)),some (.int (yn-1)),some (.ref p5),some (.ref p6),cc,some (.int (at0:Nat)),dd,ee] H4
end
def jZ:gA:=fun ds H Q=>∃a,ds=[.ref a]/\(∃ps:List Pt,(H a=some (.lst (ps.map bN))/\ps≠[]/\ps.length<=100/\∀x∈ps,∀y∈ps,x.1-y.1<=18/\x.2-y.2<=18)/\∀b:Bool,(b=false->∀z,z∉ps->Esc ps z)->(ps.length=1->b=false)->Q (.bl b) H)
theorem Mr{ps:List Pt}{a:Addr}{H:aC}{Q:aM}(ha:H a=some (.lst (ps.map bN)))(hn:ps≠[])(hl:ps.length<=100)(hb:∀x∈ps,∀y∈ps,x.1-y.1<=18/\x.2-y.2<=18)(h:∀b:Bool,(b=false->∀z,z∉ps->Esc ps z)->(ps.length=1->b=false)->Q (.bl b) H):jZ [.ref a] H Q:=⟨_,rfl,⟨ps,⟨ha,hn,hl,hb⟩,h⟩⟩
theorem Ez:∀(ds:List D) (H:aC) (Q:aM),jZ ds H Q->ds.length=jE.length:=by
 intro ds H Q h
 obtain⟨_,rfl,_⟩:=h
 rfl
def sG:cO:=G4 (LC (v3 0)) (rR 7) (dp3 (v3 6) (v3 7) (c3 (.bl true)))
def tY:cO:=G4 (LC (Og (aq (iY (aq (c3 (.int 1)) (aq (c3 (.int 0)) aG))) (aq (iY (aq (c3 (.int 0)) (aq (c3 (.int 1)) aG))) (aq (iY (aq (u3 jU (c3 (.int 1))) (aq (c3 (.int 0)) aG))) (aq (iY (aq (c3 (.int 0)) (aq (u3 jU (c3 (.int 1))) aG))) aG)))))) (rR 9) (cR (st3 10 (iY (aq (o3 cu (o3 bB (o3 bB (v3 5) (v3 8)) (c3 (.int 0))) (o3 bB (v3 9) (c3 (.int 0)))) (aq (o3 cu (o3 bB (o3 bB (v3 5) (v3 8)) (c3 (.int 1))) (o3 bB (v3 9) (c3 (.int 1)))) aG))))
  (qR (an3 (lJ (ch3 Nu Nu (v3 2) (o3 bB (v3 10) (c3 (.int 0))) (v3 1))) (an3 (lJ (ch3 Nu Nu (v3 4) (o3 bB (v3 10) (c3 (.int 1))) (v3 3))) (lJ (o3 (oh true) (v3 10) (v3 6))))) (cR (dp3 (v3 6) (v3 10) (c3 (.bl true)))
  (T4 (m3 qH (v3 5) (aq (v3 10) aG)))) rM))
def tU:cO:=wh3 (lJ (o3 Jf (v3 8) (dC g8 (aq (v3 5) aG)))) (cR tY
  (st3 8 (o3 cu (v3 8) (c3 (.int 1)))))
def u6:cO:=(cR (st3 1 (o3 cu (dC Eo (aq (Bb (LC (v3 0)) (rR 0) nG (o3 bB (v3 0) (c3 (.int 0))) ["_law_cell"] []) aG)) (c3 (.int 1))))
  (cR (st3 2 (o3 fJ (dC yC (aq (Bb (LC (v3 0)) (rR 0) nG (o3 bB (v3 0) (c3 (.int 0))) ["_law_cell"] []) aG)) (c3 (.int 1))))
  (cR (st3 3 (o3 cu (dC Eo (aq (Bb (LC (v3 0)) (rR 0) nG (o3 bB (v3 0) (c3 (.int 1))) ["_law_cell"] []) aG)) (c3 (.int 1))))
  (cR (st3 4 (o3 fJ (dC yC (aq (Bb (LC (v3 0)) (rR 0) nG (o3 bB (v3 0) (c3 (.int 1))) ["_law_cell"] []) aG)) (c3 (.int 1))))
  (cR (st3 5 (Og (aq (iY (aq (v3 2) (aq (v3 4) aG))) aG)))
  (cR (st3 6 (dd3 (iY (aq (v3 2) (aq (v3 4) aG))) (c3 (.bl true))))
  (cR sG
  (cR (st3 8 (c3 (.int 0)))
  (cR tU
  (kO (o3 Jf (dC xf (aq (v3 6) aG)) (o3 pH (o3 cu (o3 fJ (v3 1) (v3 2)) (c3 (.int 1))) (o3 cu (o3 fJ (v3 3) (v3 4)) (c3 (.int 1)))))))))))))))
theorem HS:∀(ds:List D) (H:aC) (Q:aM),jZ ds H Q->u6 (dJ Q) (aH iz ds) H:=by
 intro ds H Q h
 obtain⟨a,rfl,h⟩:=h
 obtain⟨ps,⟨ha,hn,hl,hbd⟩,h⟩:=h
 have hne1:ps.map Prod.fst≠[]:=by simpa using hn
 have hne2:ps.map Prod.snd≠[]:=by simpa using hn
 obtain⟨e1,he1,ee1⟩:=List.mem_map.mp (mK hne1)
 obtain⟨e2,he2,ee2⟩:=List.mem_map.mp (vg hne1)
 obtain⟨e3,he3,ee3⟩:=List.mem_map.mp (mK hne2)
 obtain⟨e4,he4,ee4⟩:=List.mem_map.mp (vg hne2)
 have b1:=(hbd e1 he1 e2 he2).1
 have b2:=(hbd e3 he3 e4 he4).2
 rw[ee1,ee2] at b1
 rw[ee3,ee4] at b2
 have b3:=oR (mK hne1)
 have b4:=oR (mK hne2)
 have cmn:∀c∈ps,(jx (ps.map Prod.fst)<=c.1/\c.1<=kZ (ps.map Prod.fst))/\jx (ps.map Prod.snd)<=c.2/\c.2<=kZ (ps.map Prod.snd):=fun c hc=>⟨⟨oR (List.mem_map.mpr ⟨c,hc,rfl⟩),yd (List.mem_map.mpr ⟨c,hc,rfl⟩)⟩,oR (List.mem_map.mpr ⟨c,hc,rfl⟩),yd (List.mem_map.mpr ⟨c,hc,rfl⟩)⟩
 have lone:∀c:Pt,ps=[c]->jx (ps.map Prod.fst)=c.1/\kZ (ps.map Prod.fst)=c.1/\jx (ps.map Prod.snd)=c.2/\kZ (ps.map Prod.snd)=c.2:=fun c e=>by subst e;exact⟨rfl,rfl,rfl,rfl⟩
 simp only[u6,aH,iz,List.map_cons,List.map_nil,List.length_cons,List.length_nil,Nat.reduceAdd,Nat.reduceSub,Nat.zero_add,List.replicate,List.cons_append,List.nil_append]
 walk_at "l3"
 refine Cp.map (fun p=>D.int p.1) (fun H2 hs=>hs _ _ ha) (by omega) ?_ ?_
 ·intro i p hp R H2 hs hR
  unfold bN
  walk_at "l3"
  exact hR H2 aL.refl
 intro p1 hp1
 walk_at "l3"
 refine Ws (ns:=ps.map Prod.fst) (by rw[aB,List.map_map];rfl) hne1 ?_
 walk_at "l3"
 refine Cp.map (fun p=>D.int p.1) (fun H2 hs=>hs _ _ (aX ha hp1)) (by omega) ?_ ?_
 ·intro i p hp R H2 hs hR
  unfold bN
  walk_at "l3"
  exact hR H2 aL.refl
 intro p2 hp2
 walk_at "l3"
 refine Kv (ns:=ps.map Prod.fst) (by rw[aB,List.map_map];rfl) hne1 ?_
 walk_at "l3"
 refine Cp.map (fun p=>D.int p.2) (fun H2 hs=>hs _ _ (by walk_at "l3h")) (by omega) ?_ ?_
 ·intro i p hp R H2 hs hR
  unfold bN
  walk_at "l3"
  exact hR H2 aL.refl
 intro p3 hp3
 walk_at "l3"
 refine Ws (ns:=ps.map Prod.snd) (by rw[aB,List.map_map];rfl) hne2 ?_
 walk_at "l3"
 refine Cp.map (fun p=>D.int p.2) (fun H2 hs=>hs _ _ (by walk_at "l3h")) (by omega) ?_ ?_
 ·intro i p hp R H2 hs hR
  unfold bN
  walk_at "l3"
  exact hR H2 aL.refl
 intro p4 hp4
 walk_at "l3"
 refine Kv (ns:=ps.map Prod.snd) (by rw[aB,List.map_map];rfl) hne2 ?_
 have hs:aL H (aK (aK (aK (aK H p1 (.lst (ps.map fun p=>D.int p.1))) p2 (.lst (ps.map fun p=>D.int p.1))) p3 (.lst (ps.map fun p=>D.int p.2))) p4 (.lst (ps.map fun p=>D.int p.2))):=(((aL.fresh hp1).trans (aL.fresh hp2)).trans (aL.fresh hp3)).trans (aL.fresh hp4)
 revert hs
 generalize aK (aK (aK (aK H p1 (.lst (ps.map fun p=>D.int p.1))) p2 (.lst (ps.map fun p=>D.int p.1))) p3 (.lst (ps.map fun p=>D.int p.2))) p4 (.lst (ps.map fun p=>D.int p.2))=H0
 intro hs
 clear hp1 hp2 hp3 hp4 he1 he2 he3 he4 ee1 ee2 ee3 ee4 hbd hne1 hne2
 generalize kZ (ps.map Prod.fst)=xm at *
 generalize jx (ps.map Prod.fst)=xn at *
 generalize kZ (ps.map Prod.snd)=ym at *
 generalize jx (ps.map Prod.snd)=yn at *
 have enx:((xm-xn+3).toNat:Int)=xm-xn+3:=Int.toNat_of_nonneg (by omega)
 have eny:((ym-yn+3).toNat:Int)=ym-yn+3:=Int.toNat_of_nonneg (by omega)
 have hrim:Rim ps (xn-1) (yn-1) (xm-xn+3).toNat (ym-yn+3).toNat:=fun c hc=>by
  obtain⟨⟨c1,c2⟩,c3,c4⟩:=cmn c hc
  rw[enx,eny]
  clear enx eny b1 b2 b3 b4
  exact⟨⟨by omega,by omega⟩,by omega,by omega⟩
 have hbox:∀c∈ps,Aj (xn-1) (yn-1) (xm-xn+3).toNat (ym-yn+3).toNat c:=fun c hc=>by obtain⟨⟨c1,c2⟩,c3,c4⟩:=hrim c hc;exact⟨⟨Int.le_of_lt c1,by omega⟩,Int.le_of_lt c3,by omega⟩
 have hws:(xn-1,yn-1)∉ps:=fun z=>by have:=hrim _ z;dsimp only at this;omega
 have hnx:(xm-xn+3).toNat<=21:=by omega
 have hny:(ym-yn+3).toNat<=21:=by omega
 have hlon:∀c:Pt,ps=[c]->xn=c.1/\(xm-xn+3).toNat=3/\yn=c.2/\(ym-yn+3).toNat=3:=fun c e=>by
  obtain⟨e1,e2,e3,e4⟩:=lone c e
  rw[e1,e2,e3,e4,Int.sub_self,Int.sub_self]
  exact⟨rfl,rfl,rfl,rfl⟩
 have hst:Aj (xn-1) (yn-1) (xm-xn+3).toNat (ym-yn+3).toNat (xn-1,yn-1):=⟨⟨Int.le_refl _,by dsimp only;rw[enx];clear enx eny;omega⟩,Int.le_refl _,by dsimp only;rw[eny];clear enx eny;omega⟩
 clear b1 b2 b3 b4 cmn lone
 generalize (xm-xn+3).toNat=nx at *
 generalize (ym-yn+3).toNat=ny at *
 have harea:ny*nx<=441:=Nat.mul_le_mul hny hnx
 walk_at "l3"
 intro p5 hp5
 walk_at "l3"
 intro p6 hp6
 walk_at "l3"
 refine Xd aB ?_
 rw[pM]
 have n6:H p6=none:=eG (hs.trans (aL.fresh hp5)) hp6
 have n5:H p5=none:=eG hs hp5
 have n56:p5≠p6:=ne3 aB hp6
 have hs6:aL H (aK (aK H0 p5 (.lst [.tup [.int (xn-1),.int (yn-1)]])) p6 (.dic (gM [(xn-1,yn-1)]))):=(hs.trans (aL.fresh hp5)).trans (aL.fresh hp6)
 have h5:aK (aK H0 p5 (.lst [.tup [.int (xn-1),.int (yn-1)]])) p6 (.dic (gM [(xn-1,yn-1)])) p5=some (.lst [.tup [.int (xn-1),.int (yn-1)]]):=aX aB hp6
 have h6:aK (aK H0 p5 (.lst [.tup [.int (xn-1),.int (yn-1)]])) p6 (.dic (gM [(xn-1,yn-1)])) p6=some (.dic (gM [(xn-1,yn-1)])):=aB
 revert hs6 h5 h6
 generalize aK (aK H0 p5 (.lst [.tup [.int (xn-1),.int (yn-1)]])) p6 (.dic (gM [(xn-1,yn-1)]))=H1
 intro hs6 h5 h6
 walk_at "l3"
 unfold sG
 walk_at "l3"
 refine Xf (hs6 _ _ ha) ?_
 refine Lp.by (HoA H ps a p5 p6 xm xn ym yn) (.mk _ hs6 h5 h6) (fun i σ H2 _ z=>by cases z with | mk _ sb=>exact sb _ _ ha) ?_ ?_
 ·rintro i d σ H2 hd ⟨cc,hs2,k5,k6⟩
  rw[List.getElem?_map] at hd
  obtain⟨c,hc,rfl⟩:=Option.map_eq_some_iff.mp hd
  have hfl:=Aa (ps.take i) [(xn-1,yn-1)]
  have htl:=List.length_take_le i ps
  rw[List.length_singleton] at hfl
  have hi:=(List.getElem?_eq_some_iff.mp hc).1
  unfold bN
  walk_at "l3"
  refine QG k6 (by rw[List.length_take] at hfl;omega) ?_
  walk_at "l3"
  exact .mk _ (fun b o hb=>by rw[bc (ne3 hb n6)];exact hs2 b o hb) (by rw[bc n56];exact k5) (by rw[aB,List.take_add_one,hc,List.foldl_append];rfl)
 rintro σ H2 ⟨cc,hs2,k5,k6⟩
 rw[List.length_map,List.take_length] at k6
 have hkm:∀c,c∈ps.foldl lL [(xn-1,yn-1)]↔c∈ps\/c∈[(xn-1,yn-1)]:=fun c=>by rw[Af];exact Or.comm
 have hknd:(ps.foldl lL [(xn-1,yn-1)]).Nodup:=by
  have:∀(qs acc:List Pt),acc.Nodup->(qs.foldl lL acc).Nodup:=by
   intro qs
   induction qs with
   |nil=>exact fun _ z=>z
   |cons q qs ih=>
    intro acc z
    refine ih _ ?_
    unfold lL
    split
    ·exact z
    ·rename_i y
     rw[List.nodup_append]
     exact⟨z,by simp,fun a ha b hb=>by rw[List.mem_singleton.mp hb];exact fun e=>y (e▸ha)⟩
  exact this ps _ (by simp)
 have hk1:1<=(ps.foldl lL [(xn-1,yn-1)]).length:=List.length_pos_of_mem ((hkm _).mpr (.inr (List.mem_singleton.mpr rfl)))
 generalize ps.foldl lL [(xn-1,yn-1)]=kn0 at *
 have hbf:Bf ps (xn-1) (yn-1) nx ny [(xn-1,yn-1)] kn0 0:=⟨by simp,hknd,hkm,fun c hc=>by
  rw[List.mem_singleton.mp hc]
  exact⟨hst,hws,.refl⟩,hk1,Nat.zero_le _,fun i hi=>absurd hi (Nat.not_lt_zero _)⟩
 walk_at "l3"
 unfold tU
 refine XD (HoB H ps a p5 p6 xm xn ym yn nx ny) (fun σ _=>atN (ny*nx) 8 σ) (.mk [(xn-1,yn-1)] kn0 0 _ _ _ hs2 k5 k6 hbf) ?_
 rintro σ H3 ⟨met,kn,at0,cc3,dd3,ee3,hs3,j5,j6,bf⟩
 have hkl:=bf.len hbox
 have hml:=bf.ml
 have hal:=bf.al
 walk_at "l3"
 refine tX (fun hlt=>?_) fun hlt=>?_
 ·rw[List.length_map] at hlt
  have hlt':at0<met.length:=by omega
  have hcm:met[at0]?=some met[at0]:=List.getElem?_eq_getElem hlt'
  have hcmm:=List.mem_of_getElem? hcm
  generalize met[at0]=c at hcm hcmm
  walk_at "l3"
  unfold tY
  walk_at "l3"
  intro p7 hp7
  walk_at "l3"
  have n57:p5≠p7:=ne3 j5 hp7
  have n67:p6≠p7:=ne3 j6 hp7
  have n7:H p7=none:=eG hs3 hp7
  refine Lp.by (HoC H ps a p5 p6 xm xn ym yn nx ny p7 c at0 cc3) (.mk met kn _ _ (hs3.trans (aL.fresh hp7)) aB (aX j5 hp7) (aX j6 hp7) bf hcm fun k hk=>absurd hk (Nat.not_lt_zero _)) (fun j σ H4 _ z=>by cases z with | mk _ _ _ _ _ i7=>exact i7) ?_ ?_
  ·rintro j d σ H4 hd ⟨met2,kn2,dd4,ee4,hs4,i7,i5,i6,bf2,hc2,hkk⟩
   obtain⟨hj,rfl⟩:=Ze hd
   have hkl2:=bf2.len hbox
   have hml2:=bf2.ml
   have hcm2:c∈met2:=List.mem_of_getElem? hc2
   have hat:pU (met2.map bN) (at0:Int)=some (.tup [.int c.1,.int c.2]):=by
    have hl2:=(List.getElem?_eq_some_iff.mp hc2).1
    unfold pU Pq
    rw[List.length_map,if_pos (by omega),if_pos (by omega),Option.bind_some,List.getElem?_map,Int.toNat_natCast,hc2]
    rfl
   have fin:∀kn3:List Pt,(∀m∈kn2,m∈kn3)->(Aj (xn-1) (yn-1) nx ny (nb c j)->nb c j∈kn3)->∀k,k<j+1->Aj (xn-1) (yn-1) nx ny (nb c k)->nb c k∈kn3:=fun kn3 h1 h2 k hk hb=>by
    by_cases e:k=j
    ·subst e;exact h2 hb
    ·exact h1 _ (hkk k (by omega) hb)
   walk_at "l3"
   refine mH i5 hat ?_
   walk_at "l3"
   refine mH i5 hat ?_
   walk_at "l3"
   have enb:(c.1+(stp j).1,c.2+(stp j).2)=nb c j:=rfl
   have eIn:Aj (xn-1) (yn-1) nx ny (nb c j)↔((xn-1<=c.1+(stp j).1/\c.1+(stp j).1<=xm+1)/\yn-1<=c.2+(stp j).2/\c.2+(stp j).2<=ym+1):=by
    rw[←enb]
    unfold Aj
    dsimp only
    rw[enx,eny]
    exact and_congr (and_congr_right fun _=>by omega) (and_congr_right fun _=>by omega)
   have nope:¬Aj (xn-1) (yn-1) nx ny (nb c j)->∀ {dd ee:Option D},HoC H ps a p5 p6 xm xn ym yn nx ny p7 c at0 cc3 (j+1) _ H4:=fun z {dd ee}=>.mk met2 kn2 dd ee hs4 i7 i5 i6 bf2 hc2 (fin kn2 (fun m hm=>hm) fun y=>absurd y z)
   refine tX (fun q1=>?_) fun q1=>?_
   rotate_left
   ·walk_at "l3"
    refine WY rfl ?_
    walk_at "l3"
    exact nope fun y=>q1 (eIn.mp y).1.1
   walk_at "l3"
   refine tX (fun q2=>?_) fun q2=>?_
   rotate_left
   ·refine WY rfl ?_
    walk_at "l3"
    exact nope fun y=>q2 (eIn.mp y).1.2
   walk_at "l3"
   refine tX (fun q3=>?_) fun q3=>?_
   rotate_left
   ·walk_at "l3"
    refine WY rfl ?_
    walk_at "l3"
    exact nope fun y=>q3 (eIn.mp y).2.1
   walk_at "l3"
   refine tX (fun q4=>?_) fun q4=>?_
   rotate_left
   ·refine WY rfl ?_
    walk_at "l3"
    exact nope fun y=>q4 (eIn.mp y).2.2
   have hin:Aj (xn-1) (yn-1) nx ny (nb c j):=eIn.mpr ⟨⟨q1,q2⟩,q3,q4⟩
   walk_at "l3"
   refine ZP i6 ?_
   walk_at "l3"
   refine Xe (fun hnk=>?_) fun hnk=>?_
   ·rw[enb] at hnk
    walk_at "l3"
    refine QG i6 (by omega) ?_
    rw[enb,show lL kn2 (nb c j)=kn2++[nb c j] from by unfold lL;exact if_neg hnk]
    walk_at "l3"
    refine Ka (ds:=met2.map bN) (by rw[bc n56];exact i5) ?_
    walk_at "l3"
    refine Fg (ds:=met2.map bN) (by rw[bc n56];exact i5) (by rw[cL,List.length_map];omega) ?_
    walk_at "l3"
    refine .mk (met2++[nb c j]) (kn2++[nb c j]) _ _ (fun b o hb=>?_) ?_ ?_ ?_ (bf2.grow hcm2 (nb4 hj) hin hnk) ?_ (fin _ (fun m hm=>List.mem_append_left _ hm) fun _=>by simp)
    ·rw[bc (ne3 hb n5),bc (ne3 hb n6)];exact hs4 b o hb
    ·rw[bc (Ne.symm n57),bc (Ne.symm n67)];exact i7
    ·rw[aB,List.map_append];rfl
    ·rw[bc (Ne.symm n56),aB]
    ·rw[List.getElem?_append_left (List.getElem?_eq_some_iff.mp hc2).1];exact hc2
   ·rw[enb] at hnk
    walk_at "l3"
    exact .mk met2 kn2 _ _ hs4 i7 i5 i6 bf2 hc2 (fin kn2 (fun m hm=>hm) fun _=>hnk)
  ·rintro σ H4 ⟨met2,kn2,dd4,ee4,hs4,i7,i5,i6,bf2,hc2,hkk⟩
   have bf3:=bf2.next hc2 fun n hn hb=>by
    obtain⟨k,hk,rfl⟩:=Ar hn
    exact hkk k hk hb
   have h3l:=bf3.len hbox
   have h3a:=bf3.al
   have h3m:=bf3.ml
   walk_at "l3"
   refine⟨.mk met2 kn2 (at0+1) _ _ _ hs4 i5 i6 bf3,?_⟩
   exact Nat.sub_succ_lt_self _ _ (Nat.lt_of_lt_of_le h3a (Nat.le_trans h3m h3l))
 ·rw[List.length_map] at hlt
  have hea:at0=met.length:=by omega
  subst hea
  walk_at "l3"
  refine aab j6 ?_
  walk_at "l3"
  have e1:(xm+1-(xn-1)+1)*(ym+1-(yn-1)+1)=((ny*nx:Nat):Int):=by
   rw[Int.natCast_mul,enx,eny,Int.mul_comm]
   congr 1 <;> omega
  rw[e1]
  refine bI (h _ (fun hb z hz=>bf.full hbox hrim ?_ z hz) fun h1=>?_) hs3
  ·have:=of_decide_eq_false hb
   unfold gM at this
   rw[List.length_map] at this
   omega
  ·obtain⟨c,rfl⟩:=List.length_eq_one_iff.mp h1
   obtain⟨o1,o2,o3,o4⟩:=hlon c rfl
   subst o1 o2 o3 o4
   have:=bf.lone
   refine decide_eq_false ?_
   unfold gM
   rw[List.length_map]
   omega
def d9:gA:=fun ds H Q=>∃x y k,ds=[.tup [.int x,.int y],.int k]/\((0<=k/\k<8)/\Q (.tup [.int (jw k (x,y)).1,.int (jw k (x,y)).2]) H)
theorem qT{x y k:Int}{H:aC}{Q:aM}(h0:0<=k)(h1:k<8)(h:Q (.tup [.int (jw k (x,y)).1,.int (jw k (x,y)).2]) H):d9 [.tup [.int x,.int y],.int k] H Q:=⟨_,_,_,rfl,⟨⟨h0,h1⟩,h⟩⟩
theorem BW:∀(ds:List D) (H:aC) (Q:aM),d9 ds H Q->ds.length=ig.length:=by
 intro ds H Q h
 obtain⟨_,_,_,rfl,_⟩:=h
 rfl
def qM:cO:=(cR (Ww (v3 0) (sI 2 3))
  (cR (qR (lJ (o3 Wi (v3 1) (c3 (.int 3)))) (st3 2 (o3 fJ (c3 (.int 0)) (v3 2))) rM)
  (kO (o3 bB (Og (aq (iY (aq (v3 2) (aq (v3 3) aG))) (aq (iY (aq (o3 fJ (c3 (.int 0)) (v3 3)) (aq (v3 2) aG))) (aq (iY (aq (o3 fJ (c3 (.int 0)) (v3 2)) (aq (o3 fJ (c3 (.int 0)) (v3 3)) aG))) (aq (iY (aq (v3 3) (aq (o3 fJ (c3 (.int 0)) (v3 2)) aG))) aG))))) (o3 jL (v3 1) (c3 (.int 4)))))))
theorem Em:∀(ds:List D) (H:aC) (Q:aM),d9 ds H Q->qM (dJ Q) (aH qZ ds) H:=by
 intro ds H Q h
 obtain⟨x,y,k,rfl,h⟩:=h
 obtain⟨⟨h0,h1⟩,h⟩:=h
 simp only[qM,aH,qZ,List.map_cons,List.map_nil,List.length_cons,List.length_nil,Nat.reduceAdd,Nat.reduceSub,Nat.zero_add,List.replicate,List.cons_append,List.nil_append]
 walk_at "l3"
 rcases k8 h0 h1 with rfl | rfl | rfl | rfl | rfl | rfl | rfl | rfl
 all_goals
  refine tX (fun hk=>?_) fun hk=>?_
  ·first
   |exact absurd hk (by decide)
   | (walk_at "l3"
      intro p hp
      walk_at "l3"
      refine mH aB rfl ?_
      walk_at "l3"
      have e:∀a:Int,0-a = -a:=fun a=>by omega
      simp only[e]
      exact bI h (aL.fresh hp))
  ·first
   |exact absurd (by decide) hk
   | (walk_at "l3"
      intro p hp
      walk_at "l3"
      refine mH aB rfl ?_
      walk_at "l3"
      have e:∀a:Int,0-a = -a:=fun a=>by omega
      simp only[e]
      exact bI h (aL.fresh hp))
def bK:gA:=fun ds H Q=>∃x y z,ds=[.tup [.int x,.int y],.str z]/\(∃ls:List Lt,(z=bw ls/\ls.length<=500)/\∀p,H p=none->Q (.ref p) (aK H p (.lst ((path (x,y) ls).map bN))))
theorem gP{x y:Int}(ls:List Lt){H:aC}{Q:aM}(hl:ls.length<=500)(h:∀p,H p=none->Q (.ref p) (aK H p (.lst ((path (x,y) ls).map bN)))):bK [.tup [.int x,.int y],.str (bw ls)] H Q:=⟨_,_,_,rfl,⟨ls,⟨rfl,hl⟩,h⟩⟩
theorem yG(l:Lt):gC.lookup (nQ l)=some (.ktup [.int (step l).1,.int (step l).2]):=by
 revert l;intro l;match l with
 |0=>rfl
 |1=>rfl
 |2=>rfl
 |3=>rfl
theorem xQ:∀(ds:List D) (H:aC) (Q:aM),bK ds H Q->ds.length=eQ.length:=by
 intro ds H Q h
 obtain⟨_,_,_,rfl,_⟩:=h
 rfl
def nJ:cO:=G4 (iz3 (v3 1)) (rR 3) (T4 (m3 qH (v3 2) (aq (dC mF (aq (o3 bB (v3 2) (u3 jU (c3 (.int 1)))) (aq (kd3 gC (v3 3)) aG))) aG)))
def mY:cO:=(cR (st3 2 (Og (aq (v3 0) aG)))
  (cR nJ
  (kO (v3 2))))
theorem yZ:∀(ds:List D) (H:aC) (Q:aM),bK ds H Q->mY (dJ Q) (aH mW ds) H:=by
 intro ds H Q h
 obtain⟨x,y,z,rfl,h⟩:=h
 obtain⟨ls,⟨rfl,hl⟩,h⟩:=h
 simp only[mY,aH,mW,List.map_cons,List.map_nil,List.length_cons,List.length_nil,Nat.reduceAdd,Nat.reduceSub,Nat.zero_add,List.replicate,List.cons_append,List.nil_append]
 walk_at "l3"
 intro p hp
 walk_at "l3"
 unfold nJ
 walk_at "l3"
 rw[uv]
 refine Lp.by (fun i σ H2=>H2=aK H p (.lst ((path (x,y) (ls.take i)).map bN))/\∃c,σ=[some (.tup [.int x,.int y]),some (.str (bw ls)),some (.ref p),c]) ⟨by rw[List.take_zero];rfl,_,rfl⟩ (fun _ _ _ _ _=>trivial) ?_ ?_
 ·rintro i d σ H2 hd ⟨rfl,c,rfl⟩
  rw[List.getElem?_map,Option.map_eq_some_iff] at hd
  obtain⟨l,hl2,rfl⟩:=hd
  walk_at "l3"
  refine mH aB (zW _ _) ?_
  walk_at "l3"
  refine Am (yG l) ?_
  walk_at "l3"
  refine Fg aB (xN (by rw[List.length_map,t8,List.length_take];omega)) ?_
  rw[pM]
  walk_at "l3"
  have ht:ls.take (i+1)=ls.take i++[l]:=by rw[List.take_add_one,hl2];rfl
  refine⟨?_,_,rfl⟩
  rw[ht,M5,List.map_append]
  rfl
 ·rintro σ H2 ⟨rfl,c,rfl⟩
  rw[List.length_map,List.take_of_length_le (Nat.le_refl _)]
  walk_at "l3"
  exact bI (h p hp) aL.refl
def dG:gA:=fun ds H Q=>∃z k,ds=[.str z,.int k]/\(∃l:Lt,(z=nQ l/\0<=k/\k<8)/\Q (.str (nQ (tl k l))) H)
theorem vN(l:Lt){k:Int}{H:aC}{Q:aM}(h0:0<=k)(h1:k<8)(h:Q (.str (nQ (tl k l))) H):dG [.str (nQ l),.int k] H Q:=⟨_,_,rfl,⟨l,⟨rfl,h0,h1⟩,h⟩⟩
theorem G8:(gC.map fun p=>D.str p.1)=([0,1,2,3]:List Lt).map fun l=>D.str (nQ l):=rfl
theorem Gj(l:Lt):gC.lookup (nQ l)=some (.ktup [.int (step l).1,.int (step l).2]):=by
 match l with
 |0=>rfl
 |1=>rfl
 |2=>rfl
 |3=>rfl
theorem ue:∀(ds:List D) (H:aC) (Q:aM),dG ds H Q->ds.length=cX.length:=by
 intro ds H Q h
 obtain⟨_,_,rfl,_⟩:=h
 rfl
def jg:cO:=(cR (st3 2 (dC eV (aq (kd3 gC (v3 0)) (aq (v3 1) aG))))
  (kO (o3 bB (Bb (ikd gC) (rR 0) (lJ (o3 fL (kd3 gC (v3 0)) (v3 1))) (v3 0) ["other"] [(2, "step")]) (c3 (.int 0)))))
theorem uV:∀(ds:List D) (H:aC) (Q:aM),dG ds H Q->jg (dJ Q) (aH fO ds) H:=by
 intro ds H Q h
 obtain⟨z,k,rfl,h⟩:=h
 obtain⟨l,⟨rfl,h0,h1⟩,h⟩:=h
 simp only[jg,aH,fO,List.map_cons,List.map_nil,List.length_cons,List.length_nil,Nat.reduceAdd,Nat.reduceSub,Nat.zero_add,List.replicate,List.cons_append,List.nil_append]
 walk_at "l3"
 refine Am (Gj l) ?_
 walk_at "l3"
 rw[G8]
 refine Cp.adU (fun m=>D.str (nQ m)) (fun m=>decide (step m=jw k (step l))) (fun _ _=>trivial) (by decide) ?_ ?_
 ·intro i m hm R1 R0 H2 hs hy hn
  walk_at "l3"
  refine Am (Gj m) ?_
  walk_at "l3"
  refine Yc ?_
  walk_at "l3"
  refine tX (fun z=>?_) fun z=>?_
  ·walk_at "l3"
   exact hy (decide_eq_true z) H2 aL.refl
  ·exact hn (decide_eq_false z) H2 aL.refl
 intro p hp
 walk_at "l3"
 rw[show (fun m:Lt=>decide (step m=jw k (step l)))=fun m=>decide (step m=step (tl k l)) from by rw[UG h0 h1],Ng]
 refine mH aB rfl ?_
 walk_at "l3"
 refine bI h ?_
 exact aL.fresh hp
def ltD(_:Pt)(d:Nat):D:=.str (nQ (ltN d))
def bW:gA:=fun ds H Q=>∃xs,ds=[.tup xs]/\(∃S:List Pt,(xs=S.map bN/\S.length<=20/\Dg S)/\∀p kvs,H p=none->Lb S ltD S.length 0 kvs->Q (.ref p) (aK H p (.dic (nP kvs))))
theorem qp{S:List Pt}{H:aC}{Q:aM}(hl:S.length<=20)(g:Dg S)(h:∀p kvs,H p=none->Lb S ltD S.length 0 kvs->Q (.ref p) (aK H p (.dic (nP kvs)))):bW [.tup (S.map bN)] H Q:=⟨_,rfl,⟨S,⟨rfl,hl,g⟩,h⟩⟩
theorem nM:∀(ds:List D) (H:aC) (Q:aM),bW ds H Q->ds.length=bO.length:=by
 intro ds H Q h
 obtain⟨_,rfl,_⟩:=h
 rfl
def gF:cO:=G4 (LC (dC iR (aq (v3 2) aG))) (rR 3) (qR (lJ (o3 (oh true) (o3 bB (v3 3) (c3 (.int 2))) (v3 0))) (dp3 (v3 1) (o3 bB (v3 3) (c3 (.int 0))) (o3 bB (v3 3) (c3 (.int 1)))) rM)
def gB:cO:=G4 (it3 (v3 0)) (rR 2) gF
def fc:cO:=(cR (st3 1 dn3)
  (cR gB
  (kO (v3 1))))
theorem oF:∀(ds:List D) (H:aC) (Q:aM),bW ds H Q->fc (dJ Q) (aH eZ ds) H:=by
 intro ds H Q h
 obtain⟨_,rfl,h⟩:=h
 obtain⟨S,⟨rfl,hl,g⟩,h⟩:=h
 simp only[fc,aH,eZ,List.map_cons,List.map_nil,List.length_cons,List.length_nil,Nat.reduceAdd,Nat.reduceSub,Nat.zero_add,List.replicate,List.cons_append,List.nil_append]
 walk_at "l3"
 intro p hp
 walk_at "l3"
 unfold gB
 walk_at "l3"
 refine Lp.by (fun i σ H2=>aL H H2/\∃kvs:List (Pt×D),∃x y,Lb S ltD i 0 kvs/\H2 p=some (.dic (nP kvs))/\σ=[some (.tup (S.map bN)),some (.ref p),x,y]) ⟨aL.fresh hp,[],_,_,Lb.nil,aB,rfl⟩ (fun _ _ _ _ _=>trivial) ?_ ?_
 ·rintro i d σ H2 hd ⟨sb,kvs,x,y,hb,hH,rfl⟩
  rw[List.getElem?_map,Option.map_eq_some_iff] at hd
  obtain⟨c,hc,rfl⟩:=hd
  have hi:=(List.getElem?_eq_some_iff.mp hc).1
  obtain⟨c1,c2⟩:=c
  unfold bN
  walk_at "l3"
  unfold gF
  walk_at "l3"
  refine Iv fun p2 hp2=>?_
  walk_at "l3"
  have n2:p≠p2:=ne3 hH hp2
  refine Lp.by (fun k σ H3=>aL H H3/\H3 p2=some (.lst ((List.range 4).map (sdD (c1,c2))))/\∃kvs:List (Pt×D),∃y,Lb S ltD i k kvs/\H3 p=some (.dic (nP kvs))/\σ=[some (.tup (S.map bN)),some (.ref p),some (.tup [.int c1,.int c2]),y]) ⟨sb.trans (aL.fresh hp2),aB,kvs,_,hb,aX hH hp2,rfl⟩ (fun k σ H3 _ z=>z.2.1) ?_ ?_
  ·rintro k d σ H3 hd ⟨sb3,h2,kvs,y,hb,hH,rfl⟩
   have hk:k<4:=by have:=(List.getElem?_eq_some_iff.mp hd).1;simpa using this
   rw[List.getElem?_map,List.getElem?_range hk,Option.map_some] at hd
   cases hd
   unfold sdD
   walk_at "l3"
   unfold bN
   refine Jd (ps:=S) rfl ?_
   refine Xe (fun z=>?_) fun z=>?_
   ·walk_at "l3"
    refine aaI hH (by have:=hb.len;omega) ?_
    walk_at "l3"
    refine⟨fun q o hq=>by rw[bc (fun e=>by rw[e,hp] at hq;cases hq)];exact sb3 q o hq,by rw[bc n2.symm];exact h2,_,_,hb.put g hc hk z,aB,rfl⟩
   ·walk_at "l3"
    exact⟨sb3,h2,kvs,_,hb.skip hc z,hH,rfl⟩
  ·rintro σ H3 ⟨sb3,h2,kvs,y,hb,hH,rfl⟩
   walk_at "l3"
   exact⟨sb3,kvs,_,_,hb.next,hH,rfl⟩
 ·rintro σ H2 ⟨sb,kvs,x,y,hb,hH,rfl⟩
  rw[List.length_map] at hb
  walk_at "l3"
  exact bI (h p kvs hp hb) (Kr sb hH)
def mL:gA:=fun ds H Q=>∃a b c d,ds=[.tup [.int a,.int b],.tup [.int c,.int d]]/\(Q (.bl (decide ((a,b)=(c,d)))) H)
theorem PX{a b c d:Int}{H:aC}{Q:aM}(h:Q (.bl (decide ((a,b)=(c,d)))) H):mL [.tup [.int a,.int b],.tup [.int c,.int d]] H Q:=⟨_,_,_,_,rfl,h⟩
local macro_rules | `(tactic| walk_at "l3c")=>`(tactic| (with_reducible refine PX ?_))
theorem Hy:∀(ds:List D) (H:aC) (Q:aM),mL ds H Q->ds.length=lZ.length:=by
 intro ds H Q h
 obtain⟨_,_,_,_,rfl,_⟩:=h
 rfl
def yN:cO:=(cR (qR (or3 (Yu (lJ (dC qC (aq (v3 0) (aq (c3 (.ty "tuple")) aG))))) (lJ (o3 vd (dC g8 (aq (v3 0) aG)) (c3 (.int 2))))) (kO (c3 (.bl false))) rM)
  (kO (av3 (dC iB (aq (o3 bB (v3 0) (c3 (.int 0))) aG)) (av3 (dC iB (aq (o3 bB (v3 0) (c3 (.int 1))) aG)) (o3 fL (v3 0) (v3 1))))))
theorem Nt:∀(ds:List D) (H:aC) (Q:aM),mL ds H Q->yN (dJ Q) (aH xP ds) H:=by
 intro ds H Q h
 obtain⟨_,_,_,_,rfl,h⟩:=h
 simp only[yN,aH,xP,List.map_cons,List.map_nil,List.length_cons,List.length_nil,Nat.reduceAdd,Nat.reduceSub,Nat.zero_add,List.replicate,List.cons_append,List.nil_append]
 walk_at "l3"
 refine WY rfl ?_
 walk_at "l3"
 refine Xe (fun z=>absurd rfl z) fun _=>?_
 walk_at "l3"
 refine ifY rfl ?_
 walk_at "l3"
 refine ifY rfl ?_
 walk_at "l3"
 exact bI h aL.refl
inductive Gw:List Pt->Prop
 |one:Gw [(0,0)]
 |add {ps:List Pt} {c d:Pt}:Gw ps->c∉ps->d∈ps->c∈bA d->Gw (ps++[c])
section
variable{ps:List Pt}
theorem Gw.nd(g:Gw ps):ps.Nodup:=by
 induction g with
 |one=>simp
 |add _ h _ _ ih=>
  rw[List.nodup_append]
  exact⟨ih,by simp,fun a ha b hb=>by rw[List.mem_singleton.mp hb];exact fun z=>h (z▸ha)⟩
theorem Gw.z(g:Gw ps):(0,0)∈ps:=by
 induction g with
 |one=>simp
 |add _ _ _ _ ih=>exact List.mem_append_left _ ih
theorem Gw.bnd(g:Gw ps):∀c∈ps,(-(ps.length:Int)<c.1/\c.1<ps.length)/\-(ps.length:Int)<c.2/\c.2<ps.length:=by
 induction g with
 |one=>intro c hc;rw[List.mem_singleton.mp hc];simp
 |@add ps e d _ _ hd ha ih=>
  intro c hc
  rw[List.length_append,List.length_singleton]
  rcases List.mem_append.mp hc with hc | hc
  ·have:=ih c hc;omega
  ·rw[List.mem_singleton.mp hc]
   have:=ih d hd
   rw[jX] at ha
   omega
theorem Gw.con(g:Gw ps):∀c∈ps,cU ps (0,0) c:=by
 induction g with
 |one=>intro c hc;rw[List.mem_singleton.mp hc];exact .refl
 |@add ps e d _ _ hd ha ih=>
  intro c hc
  rcases List.mem_append.mp hc with hc | hc
  ·exact (ih c hc).mono fun x hx=>List.mem_append_left _ hx
  ·rw[List.mem_singleton.mp hc]
   exact .step ((ih d hd).mono fun x hx=>List.mem_append_left _ hx) ha (by simp)
theorem Gw.acq(g:Gw ps):∀a∈ps,∀b∈ps,cU ps a b:=fun a ha b hb=>((g.con a ha).symm g.z).trans (g.con b hb)
theorem Gw.pop{c:Pt}(g:Gw (ps++[c]))(h:ps≠[]):Gw ps:=by
 generalize e:ps++[c]=qs at g
 cases g with
 |one=>
  have:=congrArg List.length e
  rw[List.length_append,List.length_singleton,List.length_singleton] at this
  exact absurd (List.eq_nil_of_length_eq_zero (by omega)) h
 |add g _ _ _=>rw[(List.append_inj' e rfl).1];exact g
end
def Xl(c:Int):Lt:=match (c%4).toNat with
 |0=>0
 |1=>1
 |2=>2
 |_=>3
theorem Wd(c:Int):pU (Str.ofString "enws").cps.toList (c%4)=some (cp (Xl c)):=by
 have:c%4=0\/c%4=1\/c%4=2\/c%4=3:=by omega
 unfold Xl
 rcases this with e | e | e | e <;> rw[e] <;> rfl
theorem aa6(l:Lt)(x y:Int):(x+(step l).1,y+(step l).2)∈bA (x,y):=by
 rw[jX]
 match l with
 |0=>exact .inl ⟨rfl,Int.add_zero _⟩
 |1=>exact .inr (.inl ⟨Int.add_zero _,rfl⟩)
 |2=>exact .inr (.inr (.inl ⟨rfl,Int.add_zero _⟩))
 |3=>exact .inr (.inr (.inr ⟨Int.add_zero _,rfl⟩))
def aak(H:aC)(a:Addr):Nat:=match H a with
 |some (.lst l)=>l.length
 |_=>0
def jV:gA:=fun ds H Q=>∃xs at0 many,ds=[.fl xs,.int at0,.int many]/\(∃ns:List Int,(xs=ns.map D.int/\ns.length<=63/\(0<=at0/\at0<=500)/\1<=many/\many<=10)/\∀ps p,H p=none->Gw ps->ps.length<=10->Sc ps->Q (.ref p) (aK H p (.lst (ps.map bN))))
theorem LR{ns:List Int}{at0 many:Int}{H:aC}{Q:aM}(hl:ns.length<=63)(h1:0<=at0/\at0<=500)(h2:1<=many/\many<=10)(h:∀ps p,H p=none->Gw ps->ps.length<=10->Sc ps->Q (.ref p) (aK H p (.lst (ps.map bN)))):jV [.fl (ns.map D.int),.int at0,.int many] H Q:=⟨_,_,_,rfl,⟨ns,⟨rfl,hl,h1,h2⟩,h⟩⟩
theorem FP:∀(ds:List D) (H:aC) (Q:aM),jV ds H Q->ds.length=jz.length:=by
 intro ds H Q h
 obtain⟨_,_,_,rfl,_⟩:=h
 rfl
def ug:cO:=G4 (ir1 (c3 (.int 4))) (rR 8) (cR (st3 9 (dC lU (aq (o3 bB (c3 (.str "enws")) (o3 jL (o3 cu (o3 pI (v3 5) (c3 (.int 60))) (v3 8)) (c3 (.int 4)))) aG)))
  (cR (st3 10 (iY (aq (o3 cu (v3 6) (o3 bB (v3 9) (c3 (.int 0)))) (aq (o3 cu (v3 7) (o3 bB (v3 9) (c3 (.int 1)))) aG))))
  (qR (lJ (o3 (oh true) (v3 10) (v3 3))) (cR (T4 (m3 qH (v3 3) (aq (v3 10) aG)))
  br3) rM)))
def rW:cO:=G4 (ir1 (o3 fJ (v3 2) (c3 (.int 1)))) (rR 4) (cR (st3 5 (dC bV (aq (v3 0) (aq (o3 cu (v3 1) (v3 4)) aG))))
  (cR (Ww (o3 bB (v3 3) (o3 jL (v3 5) (dC g8 (aq (v3 3) aG)))) (sI 6 7))
  ug))
def sS:cO:=wh3 (lJ (dC jZ (aq (v3 3) aG))) (T4 (m3 Dt (v3 3) aG))
def uM:cO:=(cR (st3 3 (Og (aq (iY (aq (c3 (.int 0)) (aq (c3 (.int 0)) aG))) aG)))
  (cR rW
  (cR sS
  (kO (v3 3)))))
theorem Hn:∀(ds:List D) (H:aC) (Q:aM),jV ds H Q->uM (dJ Q) (aH vp ds) H:=by
 intro ds H Q h
 obtain⟨xs,at0,many,rfl,h⟩:=h
 obtain⟨ns,⟨rfl,hl,⟨a0,a1⟩,m0,m1⟩,h⟩:=h
 simp only[uM,aH,vp,List.map_cons,List.map_nil,List.length_cons,List.length_nil,Nat.reduceAdd,Nat.reduceSub,Nat.zero_add,List.replicate,List.cons_append,List.nil_append]
 walk_at "l3"
 intro p hp
 walk_at "l3"
 unfold rW
 walk_at "l3"
 refine Lp.rO (fun i σ H2=>aL H H2/\∃ps:List Pt,(H2 p=some (.lst (ps.map bN))/\Gw ps/\ps.length<=i+1)/\∃k c x y t s n,σ=[some (.fl (ns.map D.int)),some (.int at0),some (.int many),some (.ref p),k,c,x,y,t,s,n]) ⟨aL.fresh hp,[(0,0)],⟨aB,.one,Nat.le_refl _⟩,_,_,_,_,_,_,_,rfl⟩ ?_ ?_
 ·rintro i σ H2 hi ⟨hs,ps,⟨hH,g,hgl⟩,k,c,x,y,t,s,n,rfl⟩
  have hpos:0<ps.length:=List.length_pos_of_mem g.z
  have hl0:(0:Int)<((ps.map bN).length:Int):=by rw[List.length_map];omega
  walk_at "l3"
  rw[Int.zero_add]
  generalize cat ns (at0+(i:Int)).toNat=cc
  rw[List.length_map] at *
  have n0:0<=cc%(ps.length:Int):=Int.emod_nonneg _ (by omega)
  have n1:(cc%(ps.length:Int)).toNat<ps.length:=by have:=Int.emod_lt_of_pos cc hl0;omega
  refine mH hH (BV n0 n1) ?_
  have hqm:=List.getElem_mem n1
  generalize ps[(cc%(ps.length:Int)).toNat]=q at hqm
  obtain⟨qx,qy⟩:=q
  unfold bN
  walk_at "l3"
  unfold ug
  walk_at "l3"
  refine Lp.rO (fun j σ H3=>H3=H2/\∃t s n,σ=[some (.fl (ns.map D.int)),some (.int at0),some (.int many),some (.ref p),some (.int (i:Int)),some (.int cc),some (.int qx),some (.int qy),t,s,n]) ⟨rfl,_,_,_,by first | rfl | (rw[Int.zero_add])⟩ ?_ ?_
  ·rintro j σ H3 hj ⟨rfl,t,s,n,rfl⟩
   walk_at "l3"
   refine abW (by rw[cL];decide) (Wd _) ?_
   generalize Xl _=l
   walk_at "l3"
   refine Rg l ?_
   walk_at "l3"
   refine Jd (ps:=ps) (VN hH) ?_
   walk_at "l3"
   refine Xe (fun hnin=>?_) fun _=>?_
   ·walk_at "l3"
    refine Fg hH (xN (by rw[List.length_map];omega)) ?_
    walk_at "l3"
    refine⟨fun b o hb=>?_,ps++[(qx+(step l).1,qy+(step l).2)],⟨?_,g.add hnin hqm (aa6 l qx qy),by simp;omega⟩,_,_,_,_,_,_,_,rfl⟩
    ·rw[bc (ne3 hb hp)];exact hs b o hb
    ·rw[aB,List.map_append];rfl
   ·walk_at "l3"
    exact⟨rfl,_,_,_,rfl⟩
  ·rintro σ H3 ⟨rfl,t,s,n,rfl⟩
   walk_at "l3"
   exact⟨hs,ps,⟨hH,g,by omega⟩,_,_,_,_,_,_,_,rfl⟩
 ·rintro σ H2 ⟨hs,ps,⟨hH,g,hgl⟩,k,c,x,y,t,s,n,rfl⟩
  have hpl:ps.length<=10:=by omega
  walk_at "l3"
  unfold sS
  refine XD (fun σ H3=>aL H H3/\∃qs:List Pt,(H3 p=some (.lst (qs.map bN))/\Gw qs/\qs.length<=10)/\σ=[some (.fl (ns.map D.int)),some (.int at0),some (.int many),some (.ref p),k,c,x,y,t,s,n]) (fun _ H3=>aak H3 p) ⟨hs,ps,⟨hH,g,hpl⟩,rfl⟩ ?_
  rintro σ H3 ⟨hs3,qs,⟨hq,g3,hl3⟩,rfl⟩
  have hb3:=g3.bnd
  walk_at "l3"
  refine Mr hq (List.ne_nil_of_mem g3.z) (by omega) (fun x hx y hy=>by have:=hb3 x hx;have:=hb3 y hy;omega) fun b hb0 hb1=>?_
  walk_at "l3"
  refine ifB (fun hb=>?_) fun hb=>?_
  ·have h2:qs.length≠1:=fun z=>by rw[hb1 z] at hb;cases hb
   have hqn:qs≠[]:=List.ne_nil_of_mem g3.z
   obtain⟨rs,e,rfl⟩:∃rs e,qs=rs++[e]:=⟨qs.dropLast,qs.getLast hqn,(List.dropLast_concat_getLast hqn).symm⟩
   have hrn:rs≠[]:=fun z=>h2 (by rw[z];rfl)
   walk_at "l3"
   refine aaV hq (y:=bN e) (by simp) ?_
   rw[show ((rs++[e]).map bN).dropLast=rs.map bN by simp]
   walk_at "l3"
   refine⟨⟨fun b o hb=>?_,rs,⟨aB,g3.pop hrn,by simp at hl3;omega⟩,rfl⟩,?_⟩
   ·rw[bc (ne3 hb hp)];exact hs3 b o hb
   ·unfold aak
    rw[aB,hq]
    simp
  ·walk_at "l3"
   exact bI (h qs p hp g3 hl3 ⟨g3.acq,hb0 hb⟩) (Kr hs3 hq)
def cH:gA:=fun ds H Q=>∃x y k,ds=[.tup [.int x,.int y],.int k]/\((0<=k/\k<8)/\Q (.tup [.int (gk k (x,y)).1,.int (gk k (x,y)).2]) H)
theorem rZ{x y k:Int}{H:aC}{Q:aM}(h0:0<=k)(h1:k<8)(h:Q (.tup [.int (gk k (x,y)).1,.int (gk k (x,y)).2]) H):cH [.tup [.int x,.int y],.int k] H Q:=⟨_,_,_,rfl,⟨⟨h0,h1⟩,h⟩⟩
def U9:List Pt:=[(0,0),(1,0),(1,1),(0,1)]
theorem aa7{x y k:Int}(h0:0<=k)(h1:k<8):(jw k (x,y)).1-jx ((U9.map (jw k)).map Prod.fst)=(gk k (x,y)).1/\(jw k (x,y)).2-jx ((U9.map (jw k)).map Prod.snd)=(gk k (x,y)).2:=by
 rcases k8 h0 h1 with rfl | rfl | rfl | rfl | rfl | rfl | rfl | rfl
 ·exact⟨by show x-0=x;omega,by show y-0=y;omega⟩
 ·exact⟨by show -y - -1=1-y;omega,by show x-0=x;omega⟩
 ·exact⟨by show -x - -1=1-x;omega,by show -y - -1=1-y;omega⟩
 ·exact⟨by show y-0=1-(1-y);omega,by show -x - -1=1-x;omega⟩
 ·exact⟨by show -x - -1=1-x;omega,by show y-0=y;omega⟩
 ·exact⟨by show -y - -1=1-y;omega,by show -x - -1=1-x;omega⟩
 ·exact⟨by show - -x-0=1-(1-x);omega,by show -y - -1=1-y;omega⟩
 ·exact⟨by show y-0=1-(1-y);omega,by show - -x-0=1-(1-x);omega⟩
theorem qg:∀(ds:List D) (H:aC) (Q:aM),cH ds H Q->ds.length=bZ.length:=by
 intro ds H Q h
 obtain⟨_,_,_,rfl,_⟩:=h
 rfl
def gU:cO:=(cR (Ww (dC d9 (aq (v3 0) (aq (v3 1) aG))) (sI 2 3))
  (cR (st3 4 (Bb (LC (Og (aq (iY (aq (c3 (.int 0)) (aq (c3 (.int 0)) aG))) (aq (iY (aq (c3 (.int 1)) (aq (c3 (.int 0)) aG))) (aq (iY (aq (c3 (.int 1)) (aq (c3 (.int 1)) aG))) (aq (iY (aq (c3 (.int 0)) (aq (c3 (.int 1)) aG))) aG)))))) (rR 0) nG (dC d9 (aq (v3 0) (aq (v3 1) aG))) ["_law_spot"] [(1, "_law_k")]))
  (kO (iY (aq (o3 fJ (v3 2) (dC yC (aq (Bb (LC (v3 4)) (rR 0) nG (o3 bB (v3 0) (c3 (.int 0))) ["_law_spot"] []) aG))) (aq (o3 fJ (v3 3) (dC yC (aq (Bb (LC (v3 4)) (rR 0) nG (o3 bB (v3 0) (c3 (.int 1))) ["_law_spot"] []) aG))) aG))))))
theorem rJ:∀(ds:List D) (H:aC) (Q:aM),cH ds H Q->gU (dJ Q) (aH b8 ds) H:=by
 intro ds H Q h
 obtain⟨x,y,k,rfl,h⟩:=h
 obtain⟨⟨h0,h1⟩,h⟩:=h
 obtain⟨g1,g2⟩:=aa7 (x:=x) (y:=y) h0 h1
 rw[←g1,←g2] at h
 simp only[gU,aH,b8,List.map_cons,List.map_nil,List.length_cons,List.length_nil,Nat.reduceAdd,Nat.reduceSub,Nat.zero_add,List.replicate,List.cons_append,List.nil_append]
 walk_at "l3"
 refine qT h0 h1 ?_
 walk_at "l3"
 intro p hp
 walk_at "l3"
 refine Cp.map (E:=bN) (as:=U9) (fun c=>bN (jw k c)) (fun H2 hs2=>hs2 _ _ aB) (by decide) ?_ ?_
 ·intro i c hc R H2 hs2 hR
  unfold bN
  walk_at "l3"
  refine qT h0 h1 ?_
  exact hR H2 aL.refl
 intro p2 hp2
 walk_at "l3"
 refine Cp.map (E:=bN) (as:=U9.map (jw k)) (fun c=>.int c.1) (fun H2 hs2=>hs2 _ _ aB) (by rw[List.length_map];decide) ?_ ?_
 ·intro i c hc R H2 hs2 hR
  unfold bN
  walk_at "l3"
  exact hR H2 aL.refl
 intro p3 hp3
 walk_at "l3"
 refine Kv (ns:=(U9.map (jw k)).map Prod.fst) (by rw[aB,List.map_map];rfl) (by simp[U9]) ?_
 walk_at "l3"
 refine Cp.map (E:=bN) (as:=U9.map (jw k)) (fun c=>.int c.2) (fun H2 hs2=>hs2 _ _ (aX aB hp3)) (by rw[List.length_map];decide) ?_ ?_
 ·intro i c hc R H2 hs2 hR
  unfold bN
  walk_at "l3"
  exact hR H2 aL.refl
 intro p4 hp4
 walk_at "l3"
 refine Kv (ns:=(U9.map (jw k)).map Prod.snd) (by rw[aB,List.map_map];rfl) (by simp[U9]) ?_
 walk_at "l3"
 exact bI h ((((aL.fresh hp).trans (aL.fresh hp2)).trans (aL.fresh hp3)).trans (aL.fresh hp4))
def mJ:gA:=fun ds H Q=>∃z,ds=[.str z]/\(∃ls:List Lt,(z=bw ls/\ls.length<=500)/\Q (.tup [.int (cM (0,0) ls).1,.int (cM (0,0) ls).2]) H)
theorem Qo(ls:List Lt){H:aC}{Q:aM}(hl:ls.length<=500)(h:Q (.tup [.int (cM (0,0) ls).1,.int (cM (0,0) ls).2]) H):mJ [.str (bw ls)] H Q:=⟨_,rfl,⟨ls,⟨rfl,hl⟩,h⟩⟩
theorem JD:∀(ds:List D) (H:aC) (Q:aM),mJ ds H Q->ds.length=lQ.length:=by
 intro ds H Q h
 obtain⟨_,rfl,_⟩:=h
 rfl
def xq:cO:=(kO (o3 bB (dC bK (aq (iY (aq (c3 (.int 0)) (aq (c3 (.int 0)) aG))) (aq (v3 0) aG))) (u3 jU (c3 (.int 1)))))
theorem O6:∀(ds:List D) (H:aC) (Q:aM),mJ ds H Q->xq (dJ Q) (aH yg ds) H:=by
 intro ds H Q h
 obtain⟨z,rfl,h⟩:=h
 obtain⟨ls,⟨rfl,hl⟩,h⟩:=h
 simp only[xq,aH,yg,List.map_cons,List.map_nil,List.length_cons,List.length_nil,Nat.reduceAdd,Nat.reduceSub,Nat.zero_add,List.replicate,List.cons_append,List.nil_append]
 walk_at "l3"
 refine gP ls hl fun p hp=>?_
 walk_at "l3"
 refine mH aB (zW _ _) ?_
 walk_at "l3"
 exact bI h (aL.fresh hp)
def eE:gA:=fun ds H Q=>∃z k,ds=[.str z,.int k]/\(∃ls:List Lt,(z=bw ls/\ls.length<=500/\0<=k/\k<8)/\Q (.str (bw (ls.map (tl k)))) H)
theorem zr(ls:List Lt){k:Int}{H:aC}{Q:aM}(hl:ls.length<=500)(h0:0<=k)(h1:k<8)(h:Q (.str (bw (ls.map (tl k)))) H):eE [.str (bw ls),.int k] H Q:=⟨_,_,rfl,⟨ls,⟨rfl,hl,h0,h1⟩,h⟩⟩
theorem vQ:∀(ds:List D) (H:aC) (Q:aM),eE ds H Q->ds.length=dW.length:=by
 intro ds H Q h
 obtain⟨_,_,rfl,_⟩:=h
 rfl
def lK:cO:=(kO (mz3 qO (c3 (.str "")) (aq (Bb (iz3 (v3 0)) (rR 0) nG (dC dG (aq (v3 0) (aq (v3 1) aG))) ["letter"] [(1, "k")]) aG)))
theorem xJ:∀(ds:List D) (H:aC) (Q:aM),eE ds H Q->lK (dJ Q) (aH iJ ds) H:=by
 intro ds H Q h
 obtain⟨z,k,rfl,h⟩:=h
 obtain⟨ls,⟨rfl,hl,h0,h1⟩,h⟩:=h
 simp only[lK,aH,iJ,List.map_cons,List.map_nil,List.length_cons,List.length_nil,Nat.reduceAdd,Nat.reduceSub,Nat.zero_add,List.replicate,List.cons_append,List.nil_append]
 walk_at "l3"
 rw[uv]
 refine Cp.map (fun l=>.str (nQ (tl k l))) (fun _ _=>trivial) (by omega) ?_ ?_
 ·intro i l hl2 R H2 hs hR
  walk_at "l3"
  refine vN l h0 h1 ?_
  exact hR H2 aL.refl
 intro p hp
 walk_at "l3"
 refine PN (ls:=ls.map (tl k)) (by rw[aB,List.map_map];rfl) (by rw[List.length_map];omega) ?_
 exact bI h (aL.fresh hp)
def jP:gA:=fun ds H Q=>∃z,ds=[.str z]/\(∃ls:List Lt,(z=bw ls/\ls.length<=500)/\Q (.int (ar (0,0) ls)) H)
theorem Ov(ls:List Lt){H:aC}{Q:aM}(hl:ls.length<=500)(h:Q (.int (ar (0,0) ls)) H):jP [.str (bw ls)] H Q:=⟨_,rfl,⟨ls,⟨rfl,hl⟩,h⟩⟩
theorem Gb:∀(ds:List D) (H:aC) (Q:aM),jP ds H Q->ds.length=jC.length:=by
 intro ds H Q h
 obtain⟨_,rfl,_⟩:=h
 rfl
def sU:cO:=G4 (izt (dC bK (aq (iY (aq (c3 (.int 0)) (aq (c3 (.int 0)) aG))) (aq (v3 0) aG))) (v3 0)) (sI 2 3) (cR (qR (lJ (o3 fL (v3 3) (c3 (.str "n")))) (Xi 1 yu (o3 bB (v3 2) (c3 (.int 0)))) rM)
  (qR (lJ (o3 fL (v3 3) (c3 (.str "s")))) (Xi 1 I8 (o3 bB (v3 2) (c3 (.int 0)))) rM))
def vz:cO:=(cR (st3 1 (c3 (.int 0)))
  (cR sU
  (kO (v3 1))))
theorem Hw:∀(ds:List D) (H:aC) (Q:aM),jP ds H Q->vz (dJ Q) (aH uE ds) H:=by
 intro ds H Q h
 obtain⟨z,rfl,h⟩:=h
 obtain⟨ls,⟨rfl,hl⟩,h⟩:=h
 simp only[vz,aH,uE,List.map_cons,List.map_nil,List.length_cons,List.length_nil,Nat.reduceAdd,Nat.reduceSub,Nat.zero_add,List.replicate,List.cons_append,List.nil_append]
 walk_at "l3"
 unfold sU
 walk_at "l3"
 refine gP ls hl fun p hp=>?_
 walk_at "l3"
 refine WX aB (S5 ls) ?_
 rw[uv,pF]
 refine Lp.by (fun i σ H2=>H2=aK H p (.lst ((path (0,0) ls).map bN))/\∃c d,σ=[some (.str (bw ls)),some (.int (ar (0,0) (ls.take i))),c,d]) ⟨rfl,_,_,rfl⟩ (fun i σ H2 _ z=>by rw[z.1];exact aB) ?_ ?_
 ·rintro i dd σ H2 hd ⟨rfl,c,d,rfl⟩
  rw[List.getElem?_map,Option.map_eq_some_iff] at hd
  obtain⟨⟨q,l⟩,hq,rfl⟩:=hd
  obtain⟨e1,e2⟩:=Sw hq
  dsimp only at e1 e2
  subst e1
  have ht:ls.take (i+1)=ls.take i++[l]:=by rw[List.take_add_one,e2];rfl
  unfold bN
  walk_at "l3"
  refine WR ?_
  walk_at "l3"
  rw[ht,K4]
  refine tX (fun h1=>?_) fun h1=>?_
  ·walk_at "l3"
   refine Kl ?_
   walk_at "l3"
   refine tX (fun h3=>absurd (h1.symm.trans h3) (by decide)) fun h3=>?_
   walk_at "l3"
   rw[adk h1]
   exact⟨rfl,_,_,rfl⟩
  ·walk_at "l3"
   refine Kl ?_
   walk_at "l3"
   refine tX (fun h3=>?_) fun h3=>?_
   ·walk_at "l3"
    rw[acy h3,←Int.sub_eq_add_neg]
    exact⟨rfl,_,_,rfl⟩
   ·walk_at "l3"
    rw[ac2 h1 h3,Int.add_zero]
    exact⟨rfl,_,_,rfl⟩
 ·rintro σ H2 ⟨rfl,c,d,rfl⟩
  rw[List.length_map,Ls,List.take_of_length_le (Nat.le_refl _)]
  walk_at "l3"
  exact bI h (aL.fresh hp)
def dM:gA:=fun ds H Q=>∃xs,ds=[.tup xs]/\(∃S s0,(xs=S.map bN/\S[0]?=some s0/\S.length<=20/\One S/\kW S s0)/\∀t,Dp S s0 t->t<=80->Q (.tup [.tup [.int s0.1,.int s0.2],.str (bw (wd S s0 t))]) H)
theorem vK{S:List Pt}{s0:Pt}{H:aC}{Q:aM}(h0:S[0]?=some s0)(hl:S.length<=20)(g:One S)(hcr:kW S s0)(h:∀t,Dp S s0 t->t<=80->Q (.tup [.tup [.int s0.1,.int s0.2],.str (bw (wd S s0 t))]) H):dM [.tup (S.map bN)] H Q:=⟨_,rfl,⟨S,s0,⟨rfl,h0,hl,g,hcr⟩,h⟩⟩
theorem zE:∀(ds:List D) (H:aC) (Q:aM),dM ds H Q->ds.length=gf.length:=by
 intro ds H Q h
 obtain⟨_,rfl,_⟩:=h
 rfl
def oM:cO:=wh3 (or3 (lJ (o3 fL (v3 3) (c3 (.str "")))) (lJ (o3 vd (v3 4) (v3 2)))) (cR (st3 5 (dg3 (v3 1) (v3 4)))
  (cR (Xi 3 yu (v3 5))
  (st3 4 (dC mF (aq (v3 4) (aq (kd3 gC (v3 5)) aG))))))
def nR:cO:=(cR (st3 1 (dC bW (aq (v3 0) aG)))
  (cR (st3 2 (o3 bB (v3 0) (c3 (.int 0))))
  (cR (st3 3 (c3 (.str "")))
  (cR (st3 4 (v3 2))
  (cR oM
  (kO (iY (aq (v3 2) (aq (v3 3) aG)))))))))
theorem Bj:∀(ds:List D) (H:aC) (Q:aM),dM ds H Q->nR (dJ Q) (aH oU ds) H:=by
 intro ds H Q h
 obtain⟨_,rfl,h⟩:=h
 obtain⟨S,s0,⟨rfl,h0,hl,g,hcr⟩,h⟩:=h
 simp only[nR,aH,oU,List.map_cons,List.map_nil,List.length_cons,List.length_nil,Nat.reduceAdd,Nat.reduceSub,Nat.zero_add,List.replicate,List.cons_append,List.nil_append]
 walk_at "l3"
 refine qp hl g.dg fun p kvs hp hb=>?_
 obtain⟨t,r⟩:=g.Es hcr
 have ht:kvs.length=t:=by have:=r.len hcr hb.nd hb.all;rw[List.length_map] at this;exact this
 have ht80:t<=80:=by have:=hb.len;omega
 have h:=h t r ht80
 walk_at "l3"
 refine Kf (QJ h0) ?_
 walk_at "l3"
 unfold oM
 refine XD (fun σ H2=>H2=aK H p (.dic (nP kvs))/\∃i,i<=t/\∃l,σ=[some (.tup (S.map bN)),some (.ref p),some (.tup [.int s0.1,.int s0.2]),some (.str (bw (wd S s0 i))),some (.tup [.int (dm S s0 i).1,.int (dm S s0 i).2]),l]) (fun σ _=>match σ with | [_,_,_,some (.str z),_,_]=>t-z.length | _=>0) ⟨rfl,0,by omega,_,rfl⟩ ?_
 rintro σ H2 ⟨rfl,i,hi,l,rfl⟩
 walk_at "l3"
 refine Gk (bs:=[]) ?_
 walk_at "l3"
 by_cases i0:i=0
 ·refine tX (fun _=>?_) fun z=>absurd (by subst i0;rfl) z
  have hit:i<t:=by have:=r.pos;omega
  walk_at "l3"
  refine Xk aB (hb.at (eO hcr i)) ?_
  unfold ltD
  walk_at "l3"
  refine Lq (by rw[fG,d7,cL];show i+1<=_;omega) ?_
  walk_at "l3"
  refine Am (yG _) ?_
  walk_at "l3"
  refine⟨⟨rfl,i+1,by omega,some (.str (nQ (ltN (outD S (dm S s0 i))))),?_⟩,?_⟩
  ·rw[show bw (wd S s0 i)++nQ (ltN (outD S (dm S s0 i)))=bw (wd S s0 (i+1)) from by rw[lE,←oG];rfl,tW jy]
   rfl
  ·show t-(bw (wd S s0 i)++nQ (ltN (outD S (dm S s0 i)))).length<t-(bw (wd S s0 i)).length
   rw[show bw (wd S s0 i)++nQ (ltN (outD S (dm S s0 i)))=bw (wd S s0 (i+1)) from by rw[lE,←oG];rfl,fG,fG,d7,d7]
   omega
 ·refine tX (fun z=>absurd (congrArg List.length z) (by rw[d7];exact i0)) fun _=>?_
  walk_at "l3"
  refine Xe (fun z=>?_) fun z=>?_
  ·have hit:i<t:=by
    rcases Nat.lt_or_ge i t with y | y
    ·exact y
    ·exact absurd (by rw[show i=t from by omega];exact r.back) z
   walk_at "l3"
   refine Xk aB (hb.at (eO hcr i)) ?_
   unfold ltD
   walk_at "l3"
   refine Lq (by rw[fG,d7,cL];show i+1<=_;omega) ?_
   walk_at "l3"
   refine Am (yG _) ?_
   walk_at "l3"
   refine⟨⟨rfl,i+1,by omega,some (.str (nQ (ltN (outD S (dm S s0 i))))),?_⟩,?_⟩
   ·rw[show bw (wd S s0 i)++nQ (ltN (outD S (dm S s0 i)))=bw (wd S s0 (i+1)) from by rw[lE,←oG];rfl,tW jy]
    rfl
   ·show t-(bw (wd S s0 i)++nQ (ltN (outD S (dm S s0 i)))).length<t-(bw (wd S s0 i)).length
    rw[show bw (wd S s0 i)++nQ (ltN (outD S (dm S s0 i)))=bw (wd S s0 (i+1)) from by rw[lE,←oG];rfl,fG,fG,d7,d7]
    omega
  ·have hit:i=t:=by
    rcases Nat.lt_or_ge i t with y | y
    ·exact absurd z (r.not i (by omega) y)
    ·omega
   subst hit
   walk_at "l3"
   exact bI h (aL.fresh hp)
def cN:gA:=fun ds H Q=>∃z,ds=[.str z]/\(∃ls:List Lt,(z=bw ls/\ls≠[]/\ls.length<=100/\∀i j,i<j->j<ls.length->cM (0,0) (ls.take i)≠cM (0,0) (ls.take j))/\Q .non H)
theorem uh{ls:List Lt}{H:aC}{Q:aM}(hn:ls≠[])(hl:ls.length<=100)(hi:∀i j,i<j->j<ls.length->cM (0,0) (ls.take i)≠cM (0,0) (ls.take j))(h:Q .non H):cN [.str (bw ls)] H Q:=⟨_,rfl,⟨ls,⟨rfl,hn,hl,hi⟩,h⟩⟩
theorem ql:∀(ds:List D) (H:aC) (Q:aM),cN ds H Q->ds.length=bY.length:=by
 intro ds H Q h
 obtain⟨_,rfl,_⟩:=h
 rfl
def iM:cO:=G4 (ir1 (o3 fJ (dC g8 (aq (v3 0) aG)) (c3 (.int 1)))) (rR 3) (cR (st3 4 (o3 bB (v3 1) (o3 cu (v3 3) (c3 (.int 1)))))
  (cR (qR (lJ (o3 (oh false) (v3 4) (v3 2))) Zw rM)
  (dp3 (v3 2) (v3 4) (c3 (.bl true)))))
def gO:cO:=(cR (st3 1 (dC bK (aq (iY (aq (c3 (.int 0)) (aq (c3 (.int 0)) aG))) (aq (v3 0) aG))))
  (cR (st3 2 (dd3 (o3 bB (v3 1) (c3 (.int 0))) (c3 (.bl true))))
  iM))
theorem qU:∀(ds:List D) (H:aC) (Q:aM),cN ds H Q->gO (dJ Q) (aH gK ds) H:=by
 intro ds H Q h
 obtain⟨_,rfl,h⟩:=h
 obtain⟨ls,⟨rfl,hn,hl,hi⟩,h⟩:=h
 have hpos:0<ls.length:=List.length_pos_iff.mpr hn
 simp only[gO,aH,gK,List.map_cons,List.map_nil,List.length_cons,List.length_nil,Nat.reduceAdd,Nat.reduceSub,Nat.zero_add,List.replicate,List.cons_append,List.nil_append]
 walk_at "l3"
 refine gP ls (by omega) fun p hp=>?_
 have at_:∀j:Nat,j<=ls.length->pU ((path (0,0) ls).map bN) (j:Int)=some (.tup [.int (cM (0,0) (ls.take j)).1,.int (cM (0,0) (ls.take j)).2]):=fun j hj=>by
  unfold pU Pq
  rw[List.length_map,t8,if_pos (by omega),if_pos (by omega),Option.bind_some,List.getElem?_map,Int.toNat_natCast,yj,if_pos hj]
  rfl
 walk_at "l3"
 intro p2 hp2
 walk_at "l3"
 refine mH (aX aB hp2) (at_ 0 (Nat.zero_le _)) ?_
 walk_at "l3"
 refine Xd aB ?_
 rw[pM]
 have n12:p≠p2:=ne3 aB hp2
 have hpl:aK (aK H p (.lst ((path (0,0) ls).map bN))) p2 (.dic (gM [(0,0)])) p=some (.lst ((path (0,0) ls).map bN)):=aX aB hp2
 have hs:aL H (aK (aK H p (.lst ((path (0,0) ls).map bN))) p2 (.dic (gM [(0,0)]))):=(aL.fresh hp).trans (aL.fresh hp2)
 have n2:H p2=none:=eG (aL.fresh hp) hp2
 walk_at "l3"
 unfold iM
 walk_at "l3"
 refine Yd (by omega) ?_
 walk_at "l3"
 refine Lp.rO (fun i σ H2=>aL H H2/\H2 p=some (.lst ((path (0,0) ls).map bN))/\H2 p2=some (.dic (gM ((List.range (i+1)).map fun j=>cM (0,0) (ls.take j))))/\∃a b,σ=[some (.str (bw ls)),some (.ref p),some (.ref p2),a,b]) ⟨hs,hpl,aB,_,_,rfl⟩ ?_ ?_
 ·rintro i σ H2 hlt ⟨hs2,k1,k2,a,b,rfl⟩
  have hi1:i+1<ls.length:=by omega
  rw[Int.zero_add]
  walk_at "l3"
  refine mH k1 (i:=(i:Int)+1) (at_ (i+1) (Nat.le_of_lt hi1)) ?_
  walk_at "l3"
  refine abM k2 ?_
  have nin:(cM (0,0) (ls.take (i+1)))∉(List.range (i+1)).map fun j=>cM (0,0) (ls.take j):=fun z=>by
   obtain⟨j,hj,e⟩:=List.mem_map.mp z
   exact hi j (i+1) (List.mem_range.mp hj) hi1 e
  walk_at "l3"
  refine tX (fun z=>absurd z nin) fun _=>?_
  walk_at "l3"
  refine QG k2 (by rw[List.length_map,List.length_range];omega) ?_
  rw[show lL ((List.range (i+1)).map fun j=>cM (0,0) (ls.take j)) ((cM (0,0) (ls.take (i+1))).1,(cM (0,0) (ls.take (i+1))).2)=(List.range (i+1+1)).map fun j=>cM (0,0) (ls.take j) from by
   unfold lL
   rw[if_neg nin,List.range_succ (n:=i+1),List.map_append];rfl]
  walk_at "l3"
  refine⟨fun q o hq=>by rw[bc (ne3 hq n2)];exact hs2 q o hq,by rw[bc n12];exact k1,aB,_,_,rfl⟩
 ·rintro σ H2 ⟨hs2,k1,k2,a,b,rfl⟩
  walk_at "l3"
  exact R5 h hs2
abbrev Row:=Int×Addr×List Int
def Jr(ks:List Row):n8:=ks.map fun k=>(.inl k.1,.ref k.2.1)
theorem yP{ks:List Row}{y:Int}:fj (Jr ks) (.inl y)=(ks.find? fun k=>decide (k.1=y)).map fun k=>.ref k.2.1:=by
 unfold fj Jr
 rw[List.find?_map,Option.map_map]
 have:((fun kv:L2.Key×D=>decide (kv.1=.inl y))∘fun k:Row=>((.inl k.1:L2.Key),D.ref k.2.1))=fun k:Row=>decide (k.1=y):=by
  funext k
  exact decide_eq_decide.mpr ⟨fun z=>Sum.inl.inj z,fun z=>by rw[←z]⟩
 rw[this]
 rfl
theorem Qh{ks:List Row}{y:Int}{d:D}(h:fj (Jr ks) (.inl y)=some d):∃k∈ks,k.1=y/\d=.ref k.2.1:=by
 rw[yP] at h
 obtain⟨k,hk,rfl⟩:=Option.map_eq_some_iff.mp h
 exact⟨k,List.mem_of_find?_eq_some hk,by simpa using List.find?_some hk,rfl⟩
theorem Ti{ks:List Row}{y:Int}(h:fj (Jr ks) (.inl y)=none):∀k∈ks,k.1≠y:=by
 rw[yP,Option.map_eq_none_iff,List.find?_eq_none] at h
 intro k hk z
 exact h k hk (decide_eq_true z)
theorem Vl{ks:List Row}{y:Int}{r:Addr}(h:∀k∈ks,k.1≠y)(xs:List Int):Ma (Jr ks) (.inl y) (.ref r)=Jr (ks++[(y,r,xs)]):=by
 unfold Ma
 rw[if_neg]
 ·unfold Jr;rw[List.map_append];rfl
 ·intro z
  obtain⟨kv,hkv,e⟩:=List.any_eq_true.mp z
  obtain⟨k,hk,rfl⟩:=List.mem_map.mp hkv
  exact h k hk (Sum.inl.inj (of_decide_eq_true e))
theorem Cj{α β:Type}{f:α->β}:∀ {l:List α},(l.map f).Nodup->∀ {a b:α},a∈l->b∈l->f a=f b->a=b
 |c::l,nd,a,b,ha,hb,e=>by
  rw[List.map_cons,List.nodup_cons] at nd
  rcases List.mem_cons.mp ha with h1 | h1
  ·rcases List.mem_cons.mp hb with h2 | h2
   ·rw[h1,h2]
   ·exact absurd (List.mem_map.mpr ⟨b,h2,by rw[←e,h1]⟩) nd.1
  ·rcases List.mem_cons.mp hb with h2 | h2
   ·exact absurd (List.mem_map.mpr ⟨a,h1,by rw[e,h2]⟩) nd.1
   ·exact Cj nd.2 h1 h2 e
structure Rw(H H2:aC)(p:Addr)(ks:List Row)(U:List Pt):Prop where
 sub:aL H H2
 new:H p=none
 dic:H2 p=some (.dik (Jr ks))
 lst:∀k∈ks,H2 k.2.1=some (.lst (k.2.2.map D.int))/\H k.2.1=none
 nda:(ks.map (·.2.1)).Nodup
 ndk:(ks.map (·.1)).Nodup
 mem:∀k∈ks,∀x,x∈k.2.2↔(x,k.1)∈U
 ndx:∀k∈ks,k.2.2.Nodup
 all:∀c∈U,c.2∈ks.map (·.1)
 len:ks.length<=U.length
 lnx:∀k∈ks,k.2.2.length<=U.length
section
variable{H H2:aC}{p r:Addr}{ks:List Row}{U:List Pt}{x y:Int}
def JZ(y x:Int)(j:Row):Row:=if j.1=y then (j.1,j.2.1,j.2.2++[x]) else j
theorem Ra(j:Row):(JZ y x j).1=j.1:=by unfold JZ;split <;> rfl
theorem Tv(j:Row):(JZ y x j).2.1=j.2.1:=by unfold JZ;split <;> rfl
theorem Rw.more(w:Rw H H2 p ks U)(hr:H2 r=none){k:Row}(hk:k∈ks)(nc:(x,k.1)∉U):Rw H (aK (aK H2 r (.lst [])) k.2.1 (.lst (k.2.2.map D.int++[.int x]))) p (ks.map (JZ k.1 x)) (U++[(x,k.1)]):=by
 have e1:(ks.map (JZ k.1 x)).map (·.1)=ks.map (·.1):=by rw[List.map_map];exact List.map_congr_left fun j _=>Ra j
 have e2:(ks.map (JZ k.1 x)).map (·.2.1)=ks.map (·.2.1):=by rw[List.map_map];exact List.map_congr_left fun j _=>Tv j
 have npk:p≠k.2.1:=fun z=>by have:=(w.lst k hk).1;rw[←z,w.dic] at this;cases this
 have old:∀ {b o},H2 b=some o->b≠k.2.1->aK (aK H2 r (.lst [])) k.2.1 (.lst (k.2.2.map D.int++[.int x])) b=some o:=fun h hn=>by rw[bc hn];exact aX h hr
 refine⟨fun b o hb=>old (w.sub b o hb) (ne3 hb (w.lst k hk).2),w.new,?_,?_,by rw[e2];exact w.nda,by rw[e1];exact w.ndk,?_,?_,?_,?_,?_⟩
 ·rw[old w.dic npk]
  congr 2
  unfold Jr
  rw[List.map_map]
  exact List.map_congr_left fun j _=>by show _=(Sum.inl (JZ k.1 x j).1,D.ref (JZ k.1 x j).2.1);rw[Ra,Tv]
 ·intro j' hj'
  obtain⟨j,hj,rfl⟩:=List.mem_map.mp hj'
  rw[Tv]
  refine⟨?_,(w.lst j hj).2⟩
  by_cases e:j.1=k.1
  ·obtain rfl:=Cj w.ndk hj hk e
   unfold JZ
   rw[aB,if_pos rfl,List.map_append];rfl
  ·unfold JZ
   rw[if_neg e]
   exact old (w.lst j hj).1 fun z=>e (congrArg (·.1) (Cj w.nda hj hk z))
 ·intro j' hj' x'
  obtain⟨j,hj,rfl⟩:=List.mem_map.mp hj'
  rw[Ra,List.mem_append,List.mem_singleton,←w.mem j hj x']
  unfold JZ
  by_cases e:j.1=k.1
  ·rw[if_pos e,List.mem_append,List.mem_singleton,e]
   exact or_congr_right ⟨fun z=>by rw[z],fun z=>(Prod.mk.inj z).1⟩
  ·rw[if_neg e]
   exact⟨.inl,fun z=>z.elim id fun z=>absurd (Prod.mk.inj z).2 e⟩
 ·intro j' hj'
  obtain⟨j,hj,rfl⟩:=List.mem_map.mp hj'
  unfold JZ
  by_cases e:j.1=k.1
  ·rw[if_pos e,List.nodup_append]
   exact⟨w.ndx j hj,by simp,fun a ha b hb z=>by rw[List.mem_singleton.mp hb] at z;rw[z,w.mem j hj,e] at ha;exact nc ha⟩
  ·rw[if_neg e];exact w.ndx j hj
 ·intro c hc
  rw[e1]
  rcases List.mem_append.mp hc with hc | hc
  ·exact w.all c hc
  ·rw[List.mem_singleton.mp hc];exact List.mem_map.mpr ⟨k,hk,rfl⟩
 ·rw[List.length_map,List.length_append];exact Nat.le_trans w.len (Nat.le_add_right ..)
 ·intro j' hj'
  obtain⟨j,hj,rfl⟩:=List.mem_map.mp hj'
  have:=w.lnx j hj
  unfold JZ
  split
  ·rw[List.length_append,List.length_append];exact Nat.add_le_add_right this 1
  ·rw[List.length_append];exact Nat.le_trans this (Nat.le_add_right ..)
theorem Rw.row(w:Rw H H2 p ks U)(hr:H2 r=none)(hy:∀k∈ks,k.1≠y):Rw H (aK (aK (aK H2 r (.lst [])) p (.dik (Jr (ks++[(y,r,[x])])))) r (.lst [.int x])) p (ks++[(y,r,[x])]) (U++[(x,y)]):=by
 have npr:p≠r:=ne3 w.dic hr
 have old:∀ {b o},H2 b=some o->b≠p->aK (aK (aK H2 r (.lst [])) p (.dik (Jr (ks++[(y,r,[x])])))) r (.lst [.int x]) b=some o:=fun h hn=>by rw[bc (ne3 h hr),bc hn];exact aX h hr
 have nU:∀x',(x',y)∉U:=fun x' z=>by obtain⟨k,hk,e⟩:=List.mem_map.mp (w.all _ z);exact hy k hk e
 have hr0:H r=none:=eG w.sub hr
 refine⟨fun b o hb=>old (w.sub b o hb) (ne3 hb w.new),w.new,by rw[bc npr,aB],?_,?_,?_,?_,?_,?_,?_,?_⟩
 ·intro k hk
  rcases List.mem_append.mp hk with hk | hk
  ·exact⟨old (w.lst k hk).1 (fun z=>by have:=(w.lst k hk).1;rw[z,w.dic] at this;cases this),(w.lst k hk).2⟩
  ·rw[List.mem_singleton.mp hk];exact⟨aB,hr0⟩
 ·rw[List.map_append,List.nodup_append]
  exact⟨w.nda,by simp,fun a ha b hb z=>by
   obtain⟨k,hk,rfl⟩:=List.mem_map.mp ha
   rw[List.mem_singleton.mp hb] at z
   exact ne3 (w.lst k hk).1 hr z⟩
 ·rw[List.map_append,List.nodup_append]
  exact⟨w.ndk,by simp,fun a ha b hb z=>by
   obtain⟨k,hk,rfl⟩:=List.mem_map.mp ha
   rw[List.mem_singleton.mp hb] at z
   exact hy k hk z⟩
 ·intro k hk x'
  rw[List.mem_append,List.mem_singleton]
  rcases List.mem_append.mp hk with hk | hk
  ·rw[←w.mem k hk x']
   exact⟨.inl,fun z=>z.elim id fun z=>absurd (Prod.mk.inj z).2 (hy k hk)⟩
  ·rw[List.mem_singleton.mp hk]
   exact⟨fun z=>.inr (by rw[List.mem_singleton.mp z]),fun z=>z.elim (fun z=>absurd z (nU x')) fun z=>by rw[(Prod.mk.inj z).1];exact List.mem_singleton.mpr rfl⟩
 ·intro k hk
  rcases List.mem_append.mp hk with hk | hk
  ·exact w.ndx k hk
  ·rw[List.mem_singleton.mp hk];simp
 ·intro c hc
  rw[List.map_append,List.mem_append]
  rcases List.mem_append.mp hc with hc | hc
  ·exact .inl (w.all c hc)
  ·rw[List.mem_singleton.mp hc];exact .inr (List.mem_singleton.mpr rfl)
 ·rw[List.length_append,List.length_append];exact Nat.add_le_add_right w.len 1
 ·intro k hk
  rw[List.length_append]
  rcases List.mem_append.mp hk with hk | hk
  ·exact Nat.le_trans (w.lnx k hk) (Nat.le_add_right ..)
  ·rw[List.mem_singleton.mp hk];exact Nat.le_add_left ..
theorem Rw.put{tr:lN}{σ:bQ}{Q:aM}(w:Rw H H2 p ks U)(hr:H2 r=none)(nc:(x,y)∉U)(hl:U.length<500)(htr:∀(H3:aC) (R:List D->aC->Prop),R [.int x] H3->tr σ H3 R)(h:∀(H3:aC) (ks':List Row),Rw H H3 p ks' (U++[(x,y)])->Q .non H3) :
  Ui p (.int y) (.ref r) (aK H2 r (.lst [])) (fun d H1=>mtk qH tr σ d H1 Q):=by
 have hkl:=w.len
 refine abk (aX w.dic hr) (by unfold Jr;rw[List.length_map];omega) (fun d hd=>?_) fun hn=>?_
 ·obtain⟨k,hk,rfl,rfl⟩:=Qh hd
  have hk2:aK H2 r (.lst []) k.2.1=some (.lst (k.2.2.map D.int)):=aX (w.lst k hk).1 hr
  have hxl:=w.lnx k hk
  exact Ka hk2 (htr _ _ (Fg hk2 (by rw[List.length_map,cL];omega) (h _ _ (w.more hr hk nc))))
 ·have hy:=Ti hn
  rw[Vl hy [x]]
  have e:aK (aK H2 r (.lst [])) p (.dik (Jr (ks++[(y,r,[x])]))) r=some (.lst []):=by rw[bc (ne3 w.dic hr).symm];exact aB
  exact Ka e (htr _ _ (Fg e (by rw[cL];decide) (h _ _ (w.row hr hy))))
theorem Rw.weak{H0:aC}(hs:aL H0 H)(w:Rw H H2 p ks U):Rw H0 H2 p ks U:=⟨hs.trans w.sub,eG hs w.new,w.dic,fun k hk=>⟨(w.lst k hk).1,eG hs (w.lst k hk).2⟩,w.nda,w.ndk,w.mem,w.ndx,w.all,w.len,w.lnx⟩
end
def dD:gA:=fun ds H Q=>∃x y z,ds=[.tup [.int x,.int y],.str z]/\(∃S t,(z=bw (wd S (x,y) t)/\t<=400/\(qe S (x,y) t).Nodup)/\∀(p:Addr) (H':aC) (ks:List Row),Rw H H' p ks (qe S (x,y) t)->Q (.ref p) H')
theorem v7{S:List Pt}{x y:Int}{t:Nat}{H:aC}{Q:aM}(hl:t<=400)(nd:(qe S (x,y) t).Nodup)(h:∀(p:Addr) (H':aC) (ks:List Row),Rw H H' p ks (qe S (x,y) t)->Q (.ref p) H'):dD [.tup [.int x,.int y],.str (bw (wd S (x,y) t))] H Q:=⟨_,_,_,rfl,⟨S,t,⟨rfl,hl,nd⟩,h⟩⟩
theorem zL(S:List Pt)(q:Pt)(n:Nat):qe S q (n+1)=qe S q n++(yV S (dm S q n)).toList:=by
 unfold qe
 rw[List.range_succ,List.filterMap_append]
 congr 1
theorem Dv(S:List Pt)(q:Pt)(n:Nat):(qe S q n).length<=n:=by
 unfold qe
 exact Nat.le_trans (List.length_filterMap_le ..) (by rw[List.length_range];exact Nat.le_refl _)
theorem Tg(S:List Pt)(q:Pt){i t:Nat}(h:i<=t):qe S q i <+: qe S q t:=by
 induction t with
 |zero=>rw[Nat.le_zero.mp h];exact List.prefix_refl _
 |succ t ih=>
  by_cases e:i=t+1
  ·rw[e];exact List.prefix_refl _
  ·rw[zL]
   exact (ih (by omega)).trans (List.prefix_append ..)
theorem Ys{S:List Pt}{q:Pt}{t i:Nat}{l:Lt}(h:(wd S q t)[i]?=some l):i<t/\l=ltN (outD S (dm S q i)):=by
 have hi:i<t:=by have:=(List.getElem?_eq_some_iff.mp h).1;rwa [d7] at this
 refine⟨hi,?_⟩
 unfold wd at h
 rw[List.getElem?_map,List.getElem?_range hi,Option.map_some] at h
 exact (Option.some.inj h).symm
theorem Wy{d:Nat}(h:d<4):ltN d=1↔d=1:=by rcases c4 h with rfl | rfl | rfl | rfl <;> decide
theorem Wu{d:Nat}(h:d<4):ltN d=3↔d=3:=by rcases c4 h with rfl | rfl | rfl | rfl <;> decide
theorem tD:∀(ds:List D) (H:aC) (Q:aM),dD ds H Q->ds.length=cV.length:=by
 intro ds H Q h
 obtain⟨_,_,_,rfl,_⟩:=h
 rfl
def kJ:cO:=G4 (izt (dC bK (aq (v3 0) (aq (v3 1) aG))) (v3 1)) (sI 3 4) (cR (qR (lJ (o3 fL (v3 4) (c3 (.str "n")))) (T4 (m3 qH (sd3 (v3 2) (o3 bB (v3 3) (c3 (.int 1))) (Og aG)) (aq (o3 bB (v3 3) (c3 (.int 0))) aG))) rM)
  (qR (lJ (o3 fL (v3 4) (c3 (.str "s")))) (T4 (m3 qH (sd3 (v3 2) (o3 fJ (o3 bB (v3 3) (c3 (.int 1))) (c3 (.int 1))) (Og aG)) (aq (o3 bB (v3 3) (c3 (.int 0))) aG))) rM))
def jh:cO:=(cR (st3 2 dnI)
  (cR kJ
  (kO (v3 2))))
theorem uW:∀(ds:List D) (H:aC) (Q:aM),dD ds H Q->jh (dJ Q) (aH jc ds) H:=by
 intro ds H Q h
 obtain⟨x,y,z,rfl,h⟩:=h
 obtain⟨S,t,⟨rfl,hl,nd⟩,h⟩:=h
 simp only[jh,aH,jc,List.map_cons,List.map_nil,List.length_cons,List.length_nil,Nat.reduceAdd,Nat.reduceSub,Nat.zero_add,List.replicate,List.cons_append,List.nil_append]
 walk_at "l3"
 intro p hp
 walk_at "l3"
 unfold kJ
 walk_at "l3"
 refine gP _ (by rw[d7];omega) fun p2 hp2=>?_
 walk_at "l3"
 refine WX aB (S5 _) ?_
 rw[uv,pF]
 have n12:p≠p2:=ne3 aB hp2
 have h20:H p2=none:=eG (aL.fresh hp) hp2
 generalize hv:O3.lst ((path (x,y) (wd S (x,y) t)).map bN)=v
 have hs0:aL (aK H p2 v) (aK (aK H p (.dik [])) p2 v):=fun b o hb=>by
  by_cases e:b=p2
  ·rw[e,aB] at hb ⊢;exact hb
  ·rw[bc e] at hb ⊢;exact aX hb hp
 refine Lp.by (fun i σ H2=>(∃ks,Rw (aK H p2 v) H2 p ks (qe S (x,y) i))/\∃c d,σ=[some (.tup [.int x,.int y]),some (.str (bw (wd S (x,y) t))),some (.ref p),c,d]) ⟨⟨[],hs0,by rw[bc n12];exact hp,aX aB hp2,by simp,by simp,by simp,by simp,by simp,(fun c hc=>by cases hc),by simp,by simp⟩,_,_,rfl⟩ (fun i σ H2 _ z=>by obtain⟨⟨ks,w⟩,_⟩:=z;exact w.sub _ _ aB) ?_ ?_
 ·rintro i dd σ H2 hd ⟨⟨ks,w⟩,c,d,rfl⟩
  rw[List.getElem?_map,Option.map_eq_some_iff] at hd
  obtain⟨⟨q,l⟩,hq,rfl⟩:=hd
  obtain⟨e1,e2⟩:=Sw hq
  obtain⟨hi,e3⟩:=Ys e2
  dsimp only at e1 e3
  rw[wC S (x,y) (Nat.le_of_lt hi),nA] at e1
  subst e1 e3
  have hd4:=jy (S:=S) (p:=dm S (x,y) i)
  have hul:=Dv S (x,y) i
  have ndi:=(Tg S (x,y) (show i+1<=t from hi)).sublist.nodup nd
  have hsn:=zL S (x,y) i
  unfold yV at hsn
  rw[hsn] at ndi
  unfold bN
  walk_at "l3"
  refine WR ?_
  walk_at "l3"
  refine tX (fun h1=>?_) fun h1=>?_
  ·have h1':=(Wy hd4).mp h1
   rw[if_pos h1'] at hsn ndi
   walk_at "l3"
   refine WM w.dic ?_
   walk_at "l3"
   intro r hr
   walk_at "l3"
   refine w.put hr (fun z=>(List.nodup_append.mp ndi).2.2 _ z _ (List.mem_singleton.mpr rfl) rfl) (by omega) (fun H3 R q=>by walk_at "l3";exact q) fun H3 ks' w'=>?_
   walk_at "l3"
   refine Kl ?_
   walk_at "l3"
   refine tX (fun h3=>absurd (h1.symm.trans h3) (by decide)) fun h3=>?_
   walk_at "l3"
   exact⟨⟨ks',by rw[hsn];exact w'⟩,_,_,rfl⟩
  ·have h1':¬outD S (dm S (x,y) i)=1:=fun z=>h1 ((Wy hd4).mpr z)
   rw[if_neg h1'] at hsn ndi
   walk_at "l3"
   refine Kl ?_
   walk_at "l3"
   refine tX (fun h3=>?_) fun h3=>?_
   ·have h3':=(Wu hd4).mp h3
    rw[if_pos h3'] at hsn ndi
    walk_at "l3"
    refine WM w.dic ?_
    walk_at "l3"
    intro r hr
    walk_at "l3"
    refine w.put hr (fun z=>(List.nodup_append.mp ndi).2.2 _ z _ (List.mem_singleton.mpr rfl) rfl) (by omega) (fun H3 R q=>by walk_at "l3";exact q) fun H3 ks' w'=>?_
    walk_at "l3"
    exact⟨⟨ks',by rw[hsn];exact w'⟩,_,_,rfl⟩
   ·rw[if_neg fun z=>h3 ((Wu hd4).mpr z)] at hsn
    walk_at "l3"
    exact⟨⟨ks,by rw[hsn,show (none:Option Pt).toList=[] from rfl,List.append_nil];exact w⟩,_,_,rfl⟩
 ·rintro σ H2 ⟨⟨ks,w⟩,c,d,rfl⟩
  rw[List.length_map,Ls,d7] at w
  walk_at "l3"
  exact bI (h p H2 ks (w.weak (aL.fresh h20))) aL.refl
def dq:gA:=fun ds H Q=>∃xs ys,ds=[.tup xs,.tup ys]/\(∃ps:List Pt,(xs=ps.map bN/\ys=ps.map bN/\ps.length<=1000)/\Q (.bl true) H)
theorem tV{ps:List Pt}{H:aC}{Q:aM}(hl:ps.length<=1000)(h:Q (.bl true) H):dq [.tup (ps.map bN),.tup (ps.map bN)] H Q:=⟨_,_,rfl,⟨ps,⟨rfl,rfl,hl⟩,h⟩⟩
theorem GQ{α:Type}:∀ {ts:List α} {p:α×α},p∈ts.zip ts->p.1=p.2
 |[],p,h=>by simp at h
 |t::ts,p,h=>by
  rw[List.zip_cons_cons] at h
  rcases List.mem_cons.mp h with rfl | h
  ·rfl
  ·exact GQ h
theorem xu:∀(ds:List D) (H:aC) (Q:aM),dq ds H Q->ds.length=eN.length:=by
 intro ds H Q h
 obtain⟨_,_,rfl,_⟩:=h
 rfl
def m9:cO:=(cR (qR (or3 (Yu (lJ (dC qC (aq (v3 0) (aq (c3 (.ty "tuple")) aG))))) (lJ (o3 vd (dC g8 (aq (v3 0) aG)) (dC g8 (aq (v3 1) aG))))) (kO (c3 (.bl false))) rM)
  (kO (dC WT (aq (Bb (izU (v3 0) (v3 1)) (sI 0 1) nG (dC mL (aq (v3 0) (aq (v3 1) aG))) ["_law_one", "_law_other"] []) aG))))
theorem zm:∀(ds:List D) (H:aC) (Q:aM),dq ds H Q->m9 (dJ Q) (aH jn ds) H:=by
 intro ds H Q h
 obtain⟨_,_,rfl,h⟩:=h
 obtain⟨ps,⟨rfl,rfl,hl⟩,h⟩:=h
 simp only[m9,aH,jn,List.map_cons,List.map_nil,List.length_cons,List.length_nil,Nat.reduceAdd,Nat.reduceSub,Nat.zero_add,List.replicate,List.cons_append,List.nil_append]
 walk_at "l3"
 refine WY rfl ?_
 walk_at "l3"
 refine Xe (fun z=>absurd rfl z) fun _=>?_
 walk_at "l3"
 rw[pF]
 refine Cp.map (fun _=>.bl true) (fun _ _=>trivial) (by rw[List.length_zip];omega) ?_ ?_
 ·intro i p hp R H2 hs hR
  have e:=GQ (List.mem_of_getElem? hp)
  obtain⟨t,u⟩:=p
  have e':t=u:=e
  subst e'
  unfold bN
  walk_at "l3"
  rw[decide_eq_true (by rfl)]
  exact hR H2 aL.refl
 intro p1 hp1
 walk_at "l3"
 refine acX (bs:=(ps.zip ps).map fun _=>true) (by rw[aB,List.map_map];rfl) ?_
 rw[show ((ps.zip ps).map fun _=>true).all id=true from by simp]
 exact bI h (aL.fresh hp1)
def iU:gA:=fun ds H Q=>∃a,ds=[.ref a]/\((match H a with
  | some (.lst xs) => (match qD xs with
   |some ps=>ps.length<64/\∀p,H p=none->Q (.ref p) (aK H p (.lst ((cD ps).map bN)))
   |none=>False)
  |_=>False))
theorem HQ{ps:List Pt}{a:Addr}{H:aC}{Q:aM}(ha:H a=some (.lst (ps.map bN)))(hl:ps.length<64)(h:∀p,H p=none->Q (.ref p) (aK H p (.lst ((cD ps).map bN)))):iU [.ref a] H Q:=by
 refine⟨_,rfl,?_⟩
 simp only[ha,mj];exact⟨hl,h⟩
theorem Bq:∀(ds:List D) (H:aC) (Q:aM),iU ds H Q->ds.length=iw.length:=by
 intro ds H Q h
 obtain⟨_,rfl,_⟩:=h
 rfl
def qL:cO:=(kO (so3 iC (v3 0)))
theorem Gd:∀(ds:List D) (H:aC) (Q:aM),iU ds H Q->qL (dJ Q) (aH rD ds) H:=by
 intro ds H Q h
 obtain⟨a,rfl,h⟩:=h
 split at h
 case h_2=>exact h.elim
 rename_i xs ha
 split at h
 case h_2=>exact h.elim
 rename_i ps e
 have e':=pK e
 subst e'
 obtain⟨hl,h⟩:=h
 simp only[qL,aH,rD,List.map_cons,List.map_nil,List.length_cons,List.length_nil,Nat.reduceAdd,Nat.reduceSub,Nat.zero_add,List.replicate,List.cons_append,List.nil_append]
 walk_at "l3"
 refine abF ha Rx hl fun p hp=>?_
 exact bI (h p hp) aL.refl
theorem Wc{ks:List Row}(nd:(ks.map (·.1)).Nodup){k:Row}(hk:k∈ks):fj (Jr ks) (.inl k.1)=some (.ref k.2.1):=by
 rw[yP]
 cases h:ks.find? fun j=>decide (j.1=k.1) with
 |none=>exact absurd (decide_eq_true rfl) (List.find?_eq_none.mp h k hk)
 |some j=>
  have e:j.1=k.1:=by simpa using List.find?_some h
  rw[Cj nd (List.mem_of_find?_eq_some h) hk e];rfl
theorem xV:∀ {l1:List Int} (l2:List Int),l1.length%2=0->fill (l1++l2)=fill l1++fill l2
 |[],_,_=>rfl
 |[_],_,h=>by simp at h
 |a::b::r,l2,h=>by
  show GZ a b++fill (r++l2)=GZ a b++fill r++fill l2
  rw[xV l2 (by simp at h;omega),List.append_assoc]
theorem Pg{l:List Int}{j:Nat}{a b:Int}(ha:l[2*j]?=some a)(hb:l[2*j+1]?=some b):fill (l.take (2*(j+1)))=fill (l.take (2*j))++GZ a b:=by
 have hl:=(List.getElem?_eq_some_iff.mp hb).1
 rw[show 2*(j+1)=2*j+1+1 by omega,List.take_add_one,List.take_add_one,ha,hb,List.append_assoc,xV _ (by rw[List.length_take];omega)]
 congr 1
 show GZ a b++[]=GZ a b
 rw[List.append_nil]
theorem QT{l:List Int}(j:Nat)(hj:2*j<=l.length){x:Int}(h:x∈fill (l.take (2*j))):x∈fill l:=by
 have e:=xV (l1:=l.take (2*j)) (l.drop (2*j)) (by rw[List.length_take];omega)
 rw[List.take_append_drop] at e
 rw[e]
 exact List.mem_append_left _ h
theorem JQ(a b:Int):(GZ a b).length=(b-a).toNat:=by unfold GZ;rw[List.length_map,List.length_range]
theorem V9{S:List Pt}{y a b:Int}(h:∀x∈GZ a b,(x,y)∈S):(b-a).toNat<=S.length:=by
 rw[←JQ,←List.length_map (f:=fun x=>(x,y))]
 refine sub_len ?_ fun c hc=>by obtain⟨x,hx,rfl⟩:=List.mem_map.mp hc;exact h x hx
 rw[List.nodup_iff_pairwise_ne,List.pairwise_map]
 exact (RB a b).imp fun hlt z=>by have:=(Prod.mk.inj z).1;omega
theorem vD{l:List Int}(h:l.Pairwise (·<=·))(nd:l.Nodup):l.Pairwise (· < ·):=(h.and (List.nodup_iff_pairwise_ne.mp nd)).imp fun z=>by omega
section
variable(G:aC)(S:List Pt)(x y:Int)(z:Str)(p p3 p4:Addr)(ms:List Int)
inductive CwA(i:Nat):bQ->aC->Prop
 |mk {H2:aC} (rws:List (Int×List Int)) (a b c:Option D) (sb:aL G H2) (k4:H2 p4=some (.lst (ms.map D.int))) (h1:rws.map (·.1)=ms.take i) (h2:∀v∈rws,v.2.Pairwise (· < ·)/\∀x',x'∈v.2↔O7 S x' v.1) (h3:H2 p3=some (.lst (((rws.map Nj).flatten).map bN))) (h4:((rws.map Nj).flatten).length<=i*10000):CwA i [some (.tup [.int x,.int y]),some (.str z),some (.ref p),some (.ref p3),a,b,c] H2
inductive CwB(cs:List Pt)(m:Int)(xs:List Int)(p5:Addr)(j:Nat):bQ->aC->Prop
 |mk {H3:aC} (c:Option D) (sb:aL G H3) (k4:H3 p4=some (.lst (ms.map D.int))) (k5:H3 p5=some (.lst (xs.map D.int))) (k3:H3 p3=some (.lst ((cs++(fill (xs.take (2*j))).map fun x'=>(x',m)).map bN))) (kl:(fill (xs.take (2*j))).length<=j*100):CwB cs m xs p5 j [some (.tup [.int x,.int y]),some (.str z),some (.ref p),some (.ref p3),some (.int m),some (.ref p5),c] H3
end
def dU:gA:=fun ds H Q=>∃x y z,ds=[.tup [.int x,.int y],.str z]/\(∃S t,(z=bw (wd S (x,y) t)/\t<=60/\Dg S/\S.Nodup/\S.length<=100/\kW S (x,y)/\Dp S (x,y) t)/\∀p,H p=none->Q (.ref p) (aK H p (.lst ((cD S).map bN))))
theorem xx{S:List Pt}{x y:Int}{t:Nat}{H:aC}{Q:aM}(hl:t<=60)(g:Dg S)(nd:S.Nodup)(hS:S.length<=100)(hcr:kW S (x,y))(r:Dp S (x,y) t)(h:∀p,H p=none->Q (.ref p) (aK H p (.lst ((cD S).map bN)))):dU [.tup [.int x,.int y],.str (bw (wd S (x,y) t))] H Q:=⟨_,_,_,rfl,⟨S,t,⟨rfl,hl,g,nd,hS,hcr,r⟩,h⟩⟩
theorem uA:∀(ds:List D) (H:aC) (Q:aM),dU ds H Q->ds.length=dH.length:=by
 intro ds H Q h
 obtain⟨_,_,_,rfl,_⟩:=h
 rfl
def lq:cO:=G4 (iru (c3 (.int 0)) (dC g8 (aq (v3 5) aG)) (c3 (.int 2))) (rR 6) (T4 (m3 Gy (v3 3) (aq (Bb (ir2 (o3 bB (v3 5) (v3 6)) (o3 bB (v3 5) (o3 cu (v3 6) (c3 (.int 1))))) (rR 0) nG (iY (aq (v3 0) (aq (v3 1) aG))) ["x"] [(4, "y")]) aG)))
def lB:cO:=G4 (LC (dC Cv (aq (v3 2) aG))) (rR 4) (cR (st3 5 (dC tO (aq (gi3 (v3 2) (v3 4)) aG)))
  lq)
def jQ:cO:=(cR (st3 2 (dC dD (aq (v3 0) (aq (v3 1) aG))))
  (cR (st3 3 (Og aG))
  (cR lB
  (kO (v3 3)))))
theorem vM:∀(ds:List D) (H:aC) (Q:aM),dU ds H Q->jQ (dJ Q) (aH gD ds) H:=by
 intro ds H Q h
 obtain⟨x,y,z,rfl,h⟩:=h
 obtain⟨S,t,⟨rfl,hl,g,nd,hS,hcr,r⟩,h⟩:=h
 have hmu:=fun c:Pt=>PJ g hcr r (c:=c)
 have hul:=Dv S (x,y) t
 simp only[jQ,aH,gD,List.map_cons,List.map_nil,List.length_cons,List.length_nil,Nat.reduceAdd,Nat.reduceSub,Nat.zero_add,List.replicate,List.cons_append,List.nil_append]
 walk_at "l3"
 refine v7 (by omega) (Vh hcr r) fun p G ks w=>?_
 have hkl:=w.len
 walk_at "l3"
 intro p3 hp3
 walk_at "l3"
 unfold lB
 walk_at "l3"
 refine Vn (ns:=ks.map (·.1)) (aX w.dic hp3) (by unfold Jr;rw[List.map_map,List.map_map];rfl) (by rw[List.length_map];omega) fun ms p4 hpm hpw hp4=>?_
 have n34:p3≠p4:=ne3 aB hp4
 have h4:G p4=none:=eG (aL.fresh hp3) hp4
 have hmn:ms.Nodup:=hpm.nodup_iff.mpr w.ndk
 have hml:ms.length<=60:=by rw[hpm.length_eq,List.length_map];omega
 walk_at "l3"
 refine Lp.by (CwA G S x y _ p p3 p4 ms) (.mk [] _ _ _ ((aL.fresh hp3).trans (aL.fresh hp4)) aB rfl (by simp) (aX aB hp4) (Nat.zero_le _)) (fun i σ H2 _ z=>by cases z with | mk _ _ _ _ _ k4=>exact k4) ?_ ?_
 ·rintro i d σ H2 hd ⟨rws,a,b,c,hs,k4,hr1,hr2,k3,hrl⟩
  rw[List.getElem?_map] at hd
  obtain⟨m,hm,rfl⟩:=Option.map_eq_some_iff.mp hd
  have hi:=(List.getElem?_eq_some_iff.mp hm).1
  obtain⟨k,hk,rfl⟩:=List.mem_map.mp (hpm.mem_iff.mp (List.mem_of_getElem? hm))
  have hkx:=w.lnx k hk
  walk_at "l3"
  refine aa5 (hs _ _ w.dic) (Wc w.ndk hk) ?_
  walk_at "l3"
  refine Wa (hs _ _ (w.lst k hk).1) (by omega) fun xs p5 hxp hxw hp5=>?_
  have hxl:xs.length<=60:=by rw[hxp.length_eq];omega
  have hx1:=vD hxw (hxp.nodup_iff.mpr (w.ndx k hk))
  have hx2:∀x',x'∈xs↔O7 S x' k.1:=fun x'=>by rw[hxp.mem_iff,w.mem k hk,hmu]
  obtain⟨hev,hfm,hfl⟩:=DK hx1 hx2
  have n35:p3≠p5:=ne3 k3 hp5
  have n45:p4≠p5:=ne3 k4 hp5
  have h5:G p5=none:=eG hs hp5
  walk_at "l3"
  unfold lq
  walk_at "l3"
  rw[List.length_map,show ((((xs.length:Nat):Int)-0+1) / 2).toNat=xs.length / 2 by omega]
  refine Lp.by (CwB G x y _ p p3 p4 ms (rws.map Nj).flatten k.1 xs p5) (.mk _ (hs.trans (aL.fresh hp5)) (aX k4 hp5) aB (by rw[aX k3 hp5];show _=some (O3.lst ((_++[]).map bN));rw[List.append_nil]) (Nat.zero_le _)) (fun _ _ _ _ _=>trivial) ?_ ?_
  ·rintro j d σ H3 hd ⟨c,hs3,j4,j5,j3,jl⟩
   have hj:j<xs.length / 2:=by have:=(List.getElem?_eq_some_iff.mp hd).1;rwa [wN] at this
   rw[Ld hj] at hd
   cases hd
   have ha:xs[2*j]?=some xs[2*j]:=List.getElem?_eq_getElem (by omega)
   have hb:xs[2*j+1]?=some xs[2*j+1]:=List.getElem?_eq_getElem (by omega)
   generalize xs[2*j]=u at ha
   generalize xs[2*j+1]=v at hb
   have hft:=Pg ha hb
   have hfew:(v-u).toNat<=S.length:=V9 fun x' hx'=>(hfm x').mp (QT (j+1) (by omega) (by rw[hft];exact List.mem_append_right _ hx'))
   have at_:∀(q:Nat) (e:Int),xs[q]?=some e->pU (xs.map D.int) (q:Int)=some (.int e):=fun q e he=>by
    have:=(List.getElem?_eq_some_iff.mp he).1
    unfold pU Pq
    rw[List.length_map,if_pos (by omega),if_pos (by omega),Option.bind_some,List.getElem?_map,Int.toNat_natCast,he];rfl
   walk_at "l3"
   refine mH j5 (i:=0+2*(j:Int)) (by rw[show (0+2*(j:Int))=((2*j:Nat):Int) by omega];exact at_ _ _ ha) ?_
   walk_at "l3"
   refine mH j5 (i:=0+2*(j:Int)+1) (by rw[show (0+2*(j:Int)+1)=((2*j+1:Nat):Int) by omega];exact at_ _ _ hb) ?_
   walk_at "l3"
   refine Cp.rO (fun e=>.tup [.int (u+(e:Int)),.int k.1]) (by omega) ?_ ?_
   ·intro e he R H4 hs4 hR
    walk_at "l3"
    exact hR H4 aL.refl
   intro p6 hp6
   have n36:p3≠p6:=ne3 j3 hp6
   walk_at "l3"
   refine abU (aX j3 hp6) aB (by rw[List.length_map,List.length_append,List.length_map,List.length_map,List.length_range,cL];omega) ?_
   walk_at "l3"
   refine .mk _ (fun q o hq=>by rw[bc (ne3 hq hp3)];exact aX (hs3 q o hq) hp6) (by rw[bc n34.symm];exact aX j4 hp6) (by rw[bc n35.symm];exact aX j5 hp6) ?_ ?_
   ·rw[aB,hft]
    unfold GZ
    simp only[List.map_append,List.map_map,List.append_assoc]
    rfl
   ·rw[hft,List.length_append,JQ];omega
  ·rintro σ H3 ⟨c,hs3,j4,j5,j3,jl⟩
   rw[wN,List.take_of_length_le (by omega)] at j3 jl
   walk_at "l3"
   have efl:((rws++[(k.1,xs)]).map Nj).flatten=(rws.map Nj).flatten++(fill xs).map fun x'=>(x',k.1):=by
    rw[List.map_append,List.flatten_append]
    congr 1
    show [Nj (k.1,xs)].flatten=_
    rw[List.flatten_singleton];rfl
   refine .mk (rws++[(k.1,xs)]) _ _ _ hs3 j4 ?_ ?_ ?_ ?_
   ·rw[List.map_append,hr1,List.take_add_one,hm];rfl
   ·intro v hv
    rcases List.mem_append.mp hv with hv | hv
    ·exact hr2 v hv
    ·rw[List.mem_singleton.mp hv];exact⟨hx1,hx2⟩
   ·rw[efl];exact j3
   ·rw[efl,List.length_append,List.length_map];omega
 ·rintro σ H2 ⟨rws,a,b,c,hs,k4,hr1,hr2,k3,hrl⟩
  rw[List.length_map,List.take_of_length_le (Nat.le_refl _)] at hr1
  have ok:aaE S rws:=⟨by rw[←List.pairwise_map (f:=fun v:Int×List Int=>v.1) (R:=(· < ·)),hr1];exact vD hpw hmn,fun v hv=>(hr2 v hv).1,fun v hv=>(hr2 v hv).2,fun x' y' hu=>by
   have h1:=w.all _ ((hmu (x',y')).mpr hu)
   rw[←hpm.mem_iff,←hr1] at h1
   obtain⟨v,hv,e⟩:=List.mem_map.mp h1
   exact⟨v,hv,e⟩⟩
  rw[Hi nd ok] at k3
  walk_at "l3"
  refine bI (h p3 (eG w.sub hp3)) fun q o hq=>?_
  by_cases e:q=p3
  ·rw[e,aB] at hq;rw[e,k3];exact hq
  ·rw[bc e] at hq;exact hs _ _ (w.sub _ _ hq)
def GD(s:Pt)(p:Pt):Pt:=(p.1+s.1,p.2+s.2)
def Fz(s:Pt)(ps:List Pt):List Pt:=cD (ps.map (GD s))
abbrev VB:O3:=.tabd "_law_piece" 191 46
def iG:gA:=fun ds H Q=>∃a sx sy,ds=[.ref a,.tup [.int sx,.int sy]]/\(∃(ps:List Pt) (T:Addr),(H a=some (.lst (ps.map bN))/\ps.length<=60/\(H T=some (.tab "_law_piece")\/H T=some VB))/\Q (.tup ((Fz (sx,sy) ps).map bN)) (aK H T VB))
theorem zY{ps:List Pt}{a T:Addr}{sx sy:Int}{H:aC}{Q:aM}(ha:H a=some (.lst (ps.map bN)))(hl:ps.length<=60)(hT:H T=some (.tab "_law_piece")\/H T=some VB)(h:Q (.tup ((Fz (sx,sy) ps).map bN)) (aK H T VB)):iG [.ref a,.tup [.int sx,.int sy]] H Q:=⟨_,_,_,rfl,⟨ps,T,⟨ha,hl,hT⟩,h⟩⟩
theorem Uk{H:aC}{p q T:Addr}{o u v w0:O3}(hp:H p=none)(hT:H T=some w0)(hq0:aK H p u q=none):aL (aK H T o) (aK (aK (aK H p u) T o) q v):=by
 have hq:aK (aK H p u) T o q=none:=by
  by_cases z:q=T
  ·rw[z,aX hT hp] at hq0;cases hq0
  ·rw[bc z];exact hq0
 intro b w e
 have hb:aK (aK H p u) T o b=some w:=by
  by_cases z:b=T
  ·rw[z,aB] at e ⊢;exact e
  ·rw[bc z] at e ⊢;exact aX e hp
 exact aX hb hq
theorem FZ:∀(ds:List D) (H:aC) (Q:aM),iG ds H Q->ds.length=jF.length:=by
 intro ds H Q h
 obtain⟨_,_,_,rfl,_⟩:=h
 rfl
def uw:cO:=(cR (st3 2 (Bb (LC (v3 0)) (rR 0) nG (iY (aq (o3 cu (o3 bB (v3 0) (c3 (.int 0))) (o3 bB (v3 1) (c3 (.int 0)))) (aq (o3 cu (o3 bB (v3 0) (c3 (.int 1))) (o3 bB (v3 1) (c3 (.int 1)))) aG))) ["_law_cell"] [(1, "_law_shift")]))
  (kO (dC jq (aq (soL "_law_piece" 191 46 (v3 2)) aG))))
theorem HW:∀(ds:List D) (H:aC) (Q:aM),iG ds H Q->uw (dJ Q) (aH pW ds) H:=by
 intro ds H Q h
 obtain⟨a,sx,sy,rfl,h⟩:=h
 obtain⟨ps,T,⟨ha,hl,hT⟩,h⟩:=h
 simp only[uw,aH,pW,List.map_cons,List.map_nil,List.length_cons,List.length_nil,Nat.reduceAdd,Nat.reduceSub,Nat.zero_add,List.replicate,List.cons_append,List.nil_append]
 walk_at "l3"
 refine Cp.map (E:=bN) (as:=ps) (fun p=>bN (GD (sx,sy) p)) (fun H2 hs2=>hs2 _ _ ha) (by omega) ?_ ?_
 ·intro i c hc R H2 hs2 hR
  unfold bN
  walk_at "l3"
  exact hR H2 aL.refl
 intro p hp
 walk_at "l3"
 refine XX (T:=T) (ps:=ps.map (GD (sx,sy))) (by rw[aB,List.map_map];rfl) (by rw[List.length_map];omega) (hT.imp (fun z=>aX z hp) fun z=>aX z hp) fun q hq=>?_
 walk_at "l3"
 refine bI h ?_
 rcases hT with hT | hT <;> exact Uk hp hT hq
def dR:gA:=fun ds H Q=>∃xs k,ds=[.tup xs,.int k]/\((match qD xs with
  |some ps=>ps.length<64/\Q (.tup ((cD (ps.map (jw k))).map bN)) H
  |none=>False))
theorem yw{ps:List Pt}{k:Int}{H:aC}{Q:aM}(hl:ps.length<64)(h:Q (.tup ((cD (ps.map (jw k))).map bN)) H):dR [.tup (ps.map bN),.int k] H Q:=by
 refine⟨_,_,rfl,?_⟩
 simp only[mj];exact⟨hl,h⟩
theorem vm:∀(ds:List D) (H:aC) (Q:aM),dR ds H Q->ds.length=dw.length:=by
 intro ds H Q h
 obtain⟨_,_,rfl,_⟩:=h
 rfl
def kI:cO:=(kO (dC jq (aq (dC iU (aq (Bb (it3 (v3 0)) (rR 0) nG (dC eV (aq (v3 0) (aq (v3 1) aG))) ["cell"] [(1, "k")]) aG)) aG)))
theorem v5:∀(ds:List D) (H:aC) (Q:aM),dR ds H Q->kI (dJ Q) (aH gR ds) H:=by
 intro ds H Q h
 obtain⟨xs,k,rfl,h⟩:=h
 split at h
 case h_2=>exact h.elim
 rename_i ps e
 have e':=pK e
 subst e'
 obtain⟨hl,h⟩:=h
 simp only[kI,aH,gR,List.map_cons,List.map_nil,List.length_cons,List.length_nil,Nat.reduceAdd,Nat.reduceSub,Nat.zero_add,List.replicate,List.cons_append,List.nil_append]
 walk_at "l3"
 refine Cp.yh (jw k) (fun _ _=>trivial) (by omega) ?_ ?_
 ·intro i p hp R H2 hs hR
  unfold bN
  walk_at "l3"
  exact hR H2 aL.refl
 intro p1 hp1
 walk_at "l3"
 refine HQ aB (by rw[List.length_map];exact hl) fun p2 hp2=>?_
 walk_at "l3"
 exact bI h ((aL.fresh hp1).trans (aL.fresh hp2))
def eX:gA:=fun ds H Q=>∃x y z,ds=[.tup [.int x,.int y],.str z]/\(∃S t,(z=bw (wd S (x,y) t)/\t<=60/\Dg S/\S.Nodup/\(S≠[]/\S.length<=10)/\kW S (x,y)/\Dp S (x,y) t)/\Q (.tup ((cD S).map bN)) H)
theorem Ep{S:List Pt}{x y:Int}{t:Nat}{H:aC}{Q:aM}(hl:t<=60)(g:Dg S)(nd:S.Nodup)(hn:S≠[])(hS:S.length<=10)(hcr:kW S (x,y))(r:Dp S (x,y) t)(h:Q (.tup ((cD S).map bN)) H):eX [.tup [.int x,.int y],.str (bw (wd S (x,y) t))] H Q:=⟨_,_,_,rfl,⟨S,t,⟨rfl,hl,g,nd,⟨hn,hS⟩,hcr,r⟩,h⟩⟩
theorem Wq(c d:Pt)(ls:List Lt):cM (rQ d c) ls=rQ d (cM c ls):=by
 induction ls generalizing c with
 |nil=>rfl
 |cons l ls ih=>
  show cM (rQ (step l) (rQ d c)) ls=rQ d (cM (rQ (step l) c) ls)
  rw[←ih]
  congr 1
  exact Prod.ext (by show c.1+d.1+(step l).1=c.1+(step l).1+d.1;omega) (by show c.2+d.2+(step l).2=c.2+(step l).2+d.2;omega)
theorem vB(q:Pt)(ls:List Lt):cM q ls=rQ q (cM (0,0) ls):=by
 rw[←Wq]
 congr 1
 exact Prod.ext (by show q.1=0+q.1;omega) (by show q.2=0+q.2;omega)
theorem zy:∀(ds:List D) (H:aC) (Q:aM),eX ds H Q->ds.length=gj.length:=by
 intro ds H Q h
 obtain⟨_,_,_,rfl,_⟩:=h
 rfl
def oZ:cO:=(cR (T4 (dC dI (aq (v3 1) aG)))
  (cR (st3 2 (dC mJ (aq (v3 1) aG)))
  (cR (qR (lJ (o3 vd (v3 2) (iY (aq (c3 (.int 0)) (aq (c3 (.int 0)) aG))))) Zw rM)
  (cR (T4 (dC cN (aq (v3 1) aG)))
  (cR (st3 3 (dC jP (aq (v3 1) aG)))
  (cR (qR (lJ (o3 Nu (v3 3) (c3 (.int 0)))) Zw rM)
  (cR (qR (lJ (o3 Wi (v3 3) (c3 (.int 10)))) Zw rM)
  (kO (dC jq (aq (dC dU (aq (v3 0) (aq (v3 1) aG))) aG))))))))))
theorem Bk:∀(ds:List D) (H:aC) (Q:aM),eX ds H Q->oZ (dJ Q) (aH pJ ds) H:=by
 intro ds H Q h
 obtain⟨x,y,z,rfl,h⟩:=h
 obtain⟨S,t,⟨rfl,hl,g,nd,⟨hn,hS⟩,hcr,r⟩,h⟩:=h
 have hwl:=d7 S (x,y) t
 have hne:wd S (x,y) t≠[]:=fun z=>by rw[z] at hwl;have:=r.pos;rw[←hwl] at this;exact absurd this (Nat.lt_irrefl _)
 have hend:cM (0,0) (wd S (x,y) t)=(0,0):=by
  have:=vB (x,y) (wd S (x,y) t)
  rw[nA,r.back] at this
  have e1:x=(cM (0,0) (wd S (x,y) t)).1+x:=congrArg Prod.fst this
  have e2:y=(cM (0,0) (wd S (x,y) t)).2+y:=congrArg Prod.snd this
  exact Prod.ext (by show _=(0:Int);omega) (by show _=(0:Int);omega)
 have hinj:∀i j,i<j->j<(wd S (x,y) t).length->cM (0,0) ((wd S (x,y) t).take i)≠cM (0,0) ((wd S (x,y) t).take j):=fun i j hij hj e=>by
  rw[hwl] at hj
  refine r.inj i j hij hj ?_
  rw[←nA,←nA,←wC S (x,y) (Nat.le_of_lt hj),←wC S (x,y) (Nat.le_of_lt (Nat.lt_trans hij hj)),vB,e,←vB]
 have har:ar (0,0) (wd S (x,y) t)=S.length:=by
  have:=U8 (x,y) (wd S (x,y) t)
  rw[SN g nd hcr r,hend,Int.mul_zero,Int.add_zero] at this
  exact this.symm
 have hS0:0<S.length:=List.length_pos_iff.mpr hn
 simp only[oZ,aH,pJ,List.map_cons,List.map_nil,List.length_cons,List.length_nil,Nat.reduceAdd,Nat.reduceSub,Nat.zero_add,List.replicate,List.cons_append,List.nil_append]
 walk_at "l3"
 refine vP hne (by omega) ?_
 walk_at "l3"
 refine Qo _ (by omega) ?_
 rw[hend]
 walk_at "l3"
 refine Xe (fun z=>absurd rfl z) fun _=>?_
 walk_at "l3"
 refine uh hne (by omega) hinj ?_
 walk_at "l3"
 refine Ov _ (by omega) ?_
 rw[har]
 walk_at "l3"
 refine tX (fun z=>absurd z (by omega)) fun _=>?_
 walk_at "l3"
 refine tX (fun z=>absurd z (by omega)) fun _=>?_
 walk_at "l3"
 refine xx hl g nd (by omega) hcr r fun p hp=>?_
 walk_at "l3"
 exact bI h (aL.fresh hp)
def uK:gA:=fun ds H Q=>∃xs,ds=[.fl xs]/\((match intsOf xs with
  |some ns=>(ns.length<=63/\∃T,H T=some (.tab "_law_piece"))/\∀H':aC,Q (.bl true) H'
  |none=>False))
theorem Pa{ns:List Int}{T:Addr}{H:aC}(h:ns.length<=63)(hT:H T=some (.tab "_law_piece")):uK [.fl (ns.map D.int)] H (fun d _=>d=.bl true):=by
 refine⟨_,rfl,?_⟩
 simp only[iD]
 exact⟨⟨h,T,hT⟩,fun _=>trivial⟩
theorem MK{ps:List Pt}(s:Pt)(g:One ps)(hn:ps≠[]):∃s0,(Fz s ps)[0]?=some s0/\One (Fz s ps)/\kW (Fz s ps) s0:=by
 have o:=(g.mv s).congr (T:=Fz s ps) fun x=>((ie (ps.map (GD s))).mem_iff (a:=x)).symm
 have hs:=mZ (ps.map (GD s))
 have hl:=uz (ps.map (GD s))
 have e:Fz s ps=cD (ps.map (GD s)):=rfl
 rw[←e] at hs hl
 cases h:Fz s ps with
 |nil=>rw[h,List.length_map] at hl;exact absurd (List.eq_nil_of_length_eq_zero hl.symm) hn
 |cons m r=>
  rw[h] at o hs
  refine⟨m,rfl,o,0,by omega,List.mem_cons_self,fun z=>?_⟩
  rw[yl] at z
  rcases List.mem_cons.mp z with z | z
  ·have:=congrArg Prod.snd z;dsimp only at this;omega
  ·have:=(List.pairwise_cons.mp hs).1 _ z
   unfold wg at this
   rw[jG] at this
   dsimp only at this
   omega
theorem Up(s:Pt)(ps:List Pt):(Fz s ps).length=ps.length:=by unfold Fz;rw[uz,List.length_map]
theorem Mg{s:Pt}{ps:List Pt}(h:ps.Nodup):(Fz s ps).Nodup:=by
 unfold Fz
 rw[(ie _).nodup_iff]
 rw[List.nodup_iff_pairwise_ne] at h ⊢
 rw[List.pairwise_map]
 refine h.imp fun {p q} hn z=>hn ?_
 have z1:p.1+s.1=q.1+s.1:=congrArg Prod.fst z
 have z2:p.2+s.2=q.2+s.2:=congrArg Prod.snd z
 exact Prod.ext (by omega) (by omega)
theorem Xv(ps:List Pt):Fz (0,0) ps=cD ps:=by
 unfold Fz
 rw[show ps.map (GD (0,0))=ps from (List.map_congr_left fun c _=>Prod.ext (Int.add_zero _) (Int.add_zero _)).trans (List.map_id ps)]
theorem Ru{S:List Pt}{m:Pt}(o:One S)(hs:S.Pairwise wg)(h:S[0]?=some m):kW S m:=by
 cases S with
 |nil=>cases h
 |cons m' r=>
  cases h
  refine⟨0,by omega,List.mem_cons_self,fun z=>?_⟩
  rw[yl] at z
  rcases List.mem_cons.mp z with z | z
  ·have:=congrArg Prod.snd z;dsimp only at this;omega
  ·have:=(List.pairwise_cons.mp hs).1 _ z
   unfold wg at this
   rw[jG] at this
   dsimp only at this
   omega
theorem QC{ds:List D}(h:0<ds.length):p8 ds none (some (-1))=ds.take (ds.length-1):=by
 unfold p8 HT.uH
 simp only[]
 rw[if_pos (by decide),List.drop_zero,show ((-1:Int)+(ds.length:Int)).toNat-0=ds.length-1 by omega]
theorem VG:∀(ds:List D) (H:aC) (Q:aM),uK ds H Q->ds.length=Q0.length:=by
 intro ds H Q h
 obtain⟨_,rfl,_⟩:=h
 rfl
def Rj:cO:=(cR (st3 1 (dC jV (aq (v3 0) (aq (c3 (.int 3)) (aq (o3 cu (c3 (.int 1)) (o3 jL (dC bV (aq (v3 0) (aq (c3 (.int 0)) aG))) (c3 (.int 10)))) aG)))))
  (cR (st3 2 (dC iG (aq (v3 1) (aq (dC iV (aq (dC bV (aq (v3 0) (aq (c3 (.int 1)) aG))) (aq (dC bV (aq (v3 0) (aq (c3 (.int 2)) aG))) aG))) aG))))
  (cR (st3 3 (o3 jL (o3 pI (dC bV (aq (v3 0) (aq (c3 (.int 0)) aG))) (c3 (.int 10))) (c3 (.int 8))))
  (cR (Ww (dC dM (aq (v3 2) aG)) (sI 4 5))
  (cR (st3 6 (dC dR (aq (v3 2) (aq (v3 3) aG))))
  (cR (qR (Yu (lJ (dC dq (aq (v3 6) (aq (dC iG (aq (Bb (it3 (v3 2)) (rR 0) nG (dC d9 (aq (v3 0) (aq (v3 1) aG))) ["_law_cell"] [(3, "_law_k")]) (aq (iY (aq (c3 (.int 0)) (aq (c3 (.int 0)) aG))) aG))) aG))))) (kO (c3 (.bl false))) rM)
  (cR (st3 5 (dC eE (aq (v3 5) (aq (v3 3) aG))))
  (cR (st3 4 (dC cH (aq (v3 4) (aq (v3 3) aG))))
  (cR (qR (lJ (o3 Wi (v3 3) (c3 (.int 3)))) (st3 5 (dC gQ (aq (v3 5) aG))) rM)
  (cR (qR (Yu (lJ (dC dq (aq (dC eX (aq (v3 4) (aq (v3 5) aG))) (aq (v3 6) aG))))) (kO (c3 (.bl false))) rM)
  (cR (Ww (dC dM (aq (v3 6) aG)) (sI 7 8))
  (cR (st3 9 (dC bK (aq (v3 4) (aq (v3 5) aG))))
  (cR (qR (lJ (o3 (oh true) (v3 7) (sl3 Et (v3 9) U3 (pt3 (u3 jU (c3 (.int 1))))))) (kO (c3 (.bl false))) rM)
  (kO (o3 fL (v3 8) (dC fZ (aq (v3 5) (aq (m3 JR (v3 9) (aq (v3 7) aG)) aG))))))))))))))))))
theorem Y5:∀(ds:List D) (H:aC) (Q:aM),uK ds H Q->Rj (dJ Q) (aH Ke ds) H:=by
 intro ds H Q h
 obtain⟨xs,rfl,h⟩:=h
 split at h
 case h_2=>exact h.elim
 rename_i ns e
 have e':=fW e
 subst e'
 obtain⟨⟨hl,T,hT⟩,h⟩:=h
 simp only[Rj,aH,Ke,List.map_cons,List.map_nil,List.length_cons,List.length_nil,Nat.reduceAdd,Nat.reduceSub,Nat.zero_add,List.replicate,List.cons_append,List.nil_append]
 walk_at "l3"
 refine LR hl ⟨by decide,by decide⟩ ⟨by omega,by omega⟩ fun ps p hp gw hpl sc=>?_
 walk_at "l3"
 refine Hg fun x y=>?_
 walk_at "l3"
 refine zY aB (by omega) (.inl (aX hT hp)) ?_
 have hne:=List.ne_nil_of_mem gw.z
 have hon:One ps:=Sc.one ps.length (Nat.le_refl _) hne sc
 obtain⟨s0,h0,hO,hcr⟩:=MK (x,y) hon hne
 have hlS:(Fz (x,y) ps).length<=10:=by rw[Up];omega
 have nd0:(Fz (x,y) ps).Nodup:=Mg gw.nd
 generalize Fz (x,y) ps=S at *
 walk_at "l3"
 have hk0:=Int.emod_nonneg (cat ns (Int.toNat 0) / 10) (b:=(8:Int)) (by decide)
 have hk1:=Int.emod_lt_of_pos (cat ns (Int.toNat 0) / 10) (b:=(8:Int)) (by decide)
 generalize cat ns (Int.toNat 0) / 10%8=k at *
 refine vK h0 (by omega) hO hcr fun t r _=>?_
 have htl:t<=40:=by have:=r.few hO.dg nd0 hcr;omega
 have hwl:=d7 S s0 t
 have inj:∀ {a b:Pt},jw k a=jw k b->a=b:=fun {a b} e=>Vw hk0 hk1 e
 have memT:∀c,jw k c∈cD (S.map (jw k))↔c∈S:=fun c=>by rw[(ie _).mem_iff];exact iW inj
 have bT:=Bd.turned hk0 hk1 memT ⟨hO,hcr,r,rfl⟩
 have ndT:(cD (S.map (jw k))).Nodup:=by
  rw[(ie _).nodup_iff,List.nodup_iff_pairwise_ne,List.pairwise_map]
  exact (List.nodup_iff_pairwise_ne.mp nd0).imp fun hn z=>hn (inj z)
 have lT:(cD (S.map (jw k))).length=S.length:=by rw[uz,List.length_map]
 have neT:cD (S.map (jw k))≠[]:=fun z=>by rw[z] at lT;have:=(List.getElem?_eq_some_iff.mp h0).1;rw[←lT] at this;exact absurd this (Nat.lt_irrefl _)
 have soT:=mZ (S.map (jw k))
 have Xg:cD (cD (S.map (jw k)))=cD (S.map (jw k)):=wX (List.Perm.refl _) soT
 walk_at "l3"
 refine yw (by omega) ?_
 walk_at "l3"
 refine Cp.map (E:=bN) (as:=S) (fun c=>bN (jw k c)) (fun _ _=>trivial) (by omega) ?_ ?_
 ·intro i c hc R H2 hs2 hR
  unfold bN
  walk_at "l3"
  refine qT hk0 hk1 ?_
  exact hR H2 aL.refl
 intro p2 hp2
 walk_at "l3"
 refine zY (ps:=S.map (jw k)) (by rw[aB,List.map_map];rfl) (by rw[List.length_map];omega) (.inr (aX aB hp2)) ?_
 rw[Xv]
 walk_at "l3"
 generalize cD (S.map (jw k))=T at *
 refine tV (by omega) ?_
 walk_at "l3"
 refine WY rfl ?_
 walk_at "l3"
 refine zr _ (by omega) hk0 hk1 ?_
 walk_at "l3"
 refine rZ hk0 hk1 ?_
 have fin:∀(W:List Lt) (H3:aC),wd T (gk k s0) t=W->(cR (qR (Yu (lJ (dC dq (aq (dC eX (aq (v3 4) (aq (v3 5) aG))) (aq (v3 6) aG))))) (kO (c3 (.bl false))) rM)
   (cR (Ww (dC dM (aq (v3 6) aG)) (sI 7 8))
   (cR (st3 9 (dC bK (aq (v3 4) (aq (v3 5) aG))))
   (cR (qR (lJ (o3 (oh true) (v3 7) (sl3 Et (v3 9) U3 (pt3 (u3 jU (c3 (.int 1))))))) (kO (c3 (.bl false))) rM)
   (kO (o3 fL (v3 8) (dC fZ (aq (v3 5) (aq (m3 JR (v3 9) (aq (v3 7) aG)) aG))))))))) (dJ Q) [some (.fl (ns.map D.int)),some (.ref p),some (.tup (S.map bN)),some (.int k),some (.tup [.int (gk k s0).1,.int (gk k s0).2]),some (.str (bw W)),some (.tup (T.map bN)),none,none,none] H3:=by
  rintro W H3 rfl
  obtain⟨o1,c1,r1,_⟩:=bT
  clear memT inj hp2
  generalize gk k s0=q at *
  have hwq:=d7 T q t
  have hpa:=Vq T q t
  walk_at "l3"
  refine Ep (by omega) o1.dg ndT neT (by omega) c1 r1 ?_
  rw[Xg]
  walk_at "l3"
  refine tV (by omega) ?_
  walk_at "l3"
  refine WY rfl ?_
  walk_at "l3"
  obtain⟨f0,hf⟩:∃f0,T[0]?=some f0:=by
   cases e:T with
   |nil=>exact absurd e neT
   |cons f r=>exact⟨f,rfl⟩
  have hcf:=Ru o1 soT hf
  obtain⟨m,hm,em⟩:=r1.all f0 hcf
  have hbg:beg (wd T q t) m=wd T f0 t:=by rw[em];exact Yw r1.back (Nat.le_of_lt hm)
  refine vK hf (by omega) o1 hcf fun t' r' _=>?_
  obtain rfl:t'=t:=by rw[←CG o1.dg ndT c1 r1,CG o1.dg ndT hcf r']
  walk_at "l3"
  refine gP _ (by omega) fun p3 hp3=>?_
  rw[hpa]
  walk_at "l3"
  intro p4 hp4
  rw[QC (by rw[List.length_map,List.length_map,List.length_range];omega),List.length_map,List.length_map,List.length_range,Nat.add_sub_cancel]
  have hat:∀i,i<t'->((List.range (t'+1)).map (dm T q))[i]?=some (dm T q i):=fun i hi=>by rw[List.getElem?_map,List.getElem?_range (by omega)];rfl
  refine Jd (ps:=((List.range (t'+1)).map (dm T q)).take t') ?_ ?_
  ·show (match aK _ p4 _ p4 with | some (O3.lst xs)=>some xs | _=>none)=_
   rw[aB,List.map_take]
  walk_at "l3"
  refine Xe (fun z=>absurd ?_ z) fun _=>?_
  ·rw[em]
   exact List.mem_of_getElem? (i:=m) (by rw[List.getElem?_take,if_pos hm];exact hat m hm)
  walk_at "l3"
  refine abG (j:=m) (ps:=(List.range (t'+1)).map (dm T q)) (aX aB hp4) (by rw[List.length_map,List.length_range];omega) (by rw[em];exact hat m hm) (fun i hi z=>?_) ?_
  ·rw[hat i (by omega),em] at z
   exact r1.inj i m hi hm (Option.some.inj z)
  walk_at "l3"
  refine HH _ (by omega) (by omega) (by omega) ?_
  rw[Int.toNat_natCast,hbg]
  walk_at "l3"
  refine Gk ?_
  rw[decide_eq_true rfl]
  exact bI (h _) aL.refl
 have hw:=bT.wrd
 walk_at "l3"
 refine tX (fun hk=>?_) fun hk=>?_
 ·rw[if_pos hk] at hw
  walk_at "l3"
  refine GF _ (by rw[List.length_map];omega) ?_
  rw[←hw]
  exact fin _ _ rfl
 ·rw[if_neg hk] at hw
  walk_at "l3"
  rw[←hw]
  exact fin _ _ rfl
abbrev pL:Stmt:=top 1
abbrev m8:Stmt:=top 2
abbrev wA:Stmt:=top 3
abbrev tG:Stmt:=top 13
abbrev eF:Stmt:=top 14
abbrev jr:Stmt:=top 18
abbrev uc:Stmt:=top 19
abbrev iQ:Stmt:=top 20
abbrev dO:Stmt:=top 21
abbrev fK:Stmt:=top 22
abbrev nj:Stmt:=top 23
abbrev pQ:Stmt:=top 24
abbrev mX:Stmt:=top 26
abbrev du:Stmt:=top 27
abbrev lz:Stmt:=top 28
abbrev fU:Stmt:=top 29
abbrev dX:Stmt:=top 30
abbrev fM:Stmt:=top 31
abbrev dY:Stmt:=top 32
abbrev lA:Stmt:=top 33
abbrev lC:Stmt:=top 35
abbrev ni:Stmt:=top 36
abbrev tR:Stmt:=top 37
abbrev pZ:Stmt:=top 38
abbrev tL:Stmt:=top 39
abbrev f9:Stmt:=top 40
abbrev pR:Stmt:=top 41
abbrev my:Stmt:=top 42
abbrev gH:Stmt:=top 43
abbrev nF:Stmt:=top 44
abbrev bL:Stmt:=top 45
abbrev qG:Stmt:=top 46
theorem IW:aU uL jD (az pL):=⟨rfl,rfl,rfl,by decide +kernel,rfl,by decide +kernel,by decide +kernel⟩
theorem Ge:aU rD iw (az m8):=⟨rfl,rfl,rfl,by decide +kernel,rfl,by decide +kernel,by decide +kernel⟩
theorem RV:aU wI pX (az wA):=⟨rfl,rfl,rfl,by decide +kernel,rfl,by decide +kernel,by decide +kernel⟩
theorem mD:aU xr lO (az tG):=⟨rfl,rfl,rfl,by decide +kernel,rfl,by decide +kernel,by decide +kernel⟩
theorem vU:aU gR dw (az eF):=⟨rfl,rfl,rfl,by decide +kernel,rfl,by decide +kernel,by decide +kernel⟩
theorem lH:aU mW eQ (az jr):=⟨rfl,rfl,rfl,by decide +kernel,rfl,by decide +kernel,by decide +kernel⟩
theorem Mp:aU yg lQ (az uc):=⟨rfl,rfl,rfl,by decide +kernel,rfl,by decide +kernel,by decide +kernel⟩
theorem CN:aU lD gm (az iQ):=⟨rfl,rfl,rfl,by decide +kernel,rfl,by decide +kernel,by decide +kernel⟩
theorem lV:aU fO cX (az dO):=⟨rfl,rfl,rfl,by decide +kernel,rfl,by decide +kernel,by decide +kernel⟩
theorem yp:aU iJ dW (az fK):=⟨rfl,rfl,rfl,by decide +kernel,rfl,by decide +kernel,by decide +kernel⟩
theorem Dw:aU rB il (az nj):=⟨rfl,rfl,rfl,by decide +kernel,rfl,by decide +kernel,by decide +kernel⟩
theorem jJ:aU uE jC (az pQ):=⟨rfl,rfl,rfl,by decide +kernel,rfl,by decide +kernel,by decide +kernel⟩
theorem oO:aU qK iy (az mX):=⟨rfl,rfl,rfl,by decide +kernel,rfl,by decide +kernel,by decide +kernel⟩
theorem cZ:aU eZ bO (az du):=⟨rfl,rfl,rfl,by decide +kernel,rfl,by decide +kernel,by decide +kernel⟩
theorem dh:aU oU gf (az lz):=⟨rfl,rfl,rfl,by decide +kernel,rfl,by decide +kernel,by decide +kernel⟩
theorem mz:aU iZ cY (az fU):=⟨rfl,rfl,rfl,by decide +kernel,rfl,by decide +kernel,by decide +kernel⟩
theorem cI:aU gK bY (az dX):=⟨rfl,rfl,rfl,by decide +kernel,rfl,by decide +kernel,by decide +kernel⟩
theorem iH:aU jc cV (az fM):=⟨rfl,rfl,rfl,by decide +kernel,rfl,by decide +kernel,by decide +kernel⟩
theorem cW:aU gD dH (az dY):=⟨rfl,rfl,rfl,by decide +kernel,rfl,by decide +kernel,by decide +kernel⟩
theorem nC:aU pJ gj (az lA):=⟨rfl,rfl,rfl,by decide +kernel,rfl,by decide +kernel,by decide +kernel⟩
theorem Bo:aU ph gn (az lC):=⟨rfl,rfl,rfl,by decide +kernel,rfl,by decide +kernel,by decide +kernel⟩
theorem DN:aU rG ir (az ni):=⟨rfl,rfl,rfl,by decide +kernel,rfl,by decide +kernel,by decide +kernel⟩
theorem Oo:aU yc lX (az tR):=⟨rfl,rfl,rfl,by decide +kernel,rfl,by decide +kernel,by decide +kernel⟩
theorem Ih:aU vh jA (az pZ):=⟨rfl,rfl,rfl,by decide +kernel,rfl,by decide +kernel,by decide +kernel⟩
theorem NZ:aU xP lZ (az tL):=⟨rfl,rfl,rfl,by decide +kernel,rfl,by decide +kernel,by decide +kernel⟩
theorem cg:aU iz jE (az f9):=⟨rfl,rfl,rfl,by decide +kernel,rfl,by decide +kernel,by decide +kernel⟩
theorem d8:aU vp jz (az pR):=⟨rfl,rfl,rfl,by decide +kernel,rfl,by decide +kernel,by decide +kernel⟩
theorem wW:aU pW jF (az my):=⟨rfl,rfl,rfl,by decide +kernel,rfl,by decide +kernel,by decide +kernel⟩
theorem zJ:aU jn eN (az gH):=⟨rfl,rfl,rfl,by decide +kernel,rfl,by decide +kernel,by decide +kernel⟩
theorem pC:aU qZ ig (az nF):=⟨rfl,rfl,rfl,by decide +kernel,rfl,by decide +kernel,by decide +kernel⟩
theorem fY:aU b8 bZ (az bL):=⟨rfl,rfl,rfl,by decide +kernel,rfl,by decide +kernel,by decide +kernel⟩
theorem jW:aU Ke Q0 (az qG):=⟨rfl,rfl,rfl,by decide +kernel,rfl,by decide +kernel,by decide +kernel⟩
theorem Hq:pO "rank_of" "rank_of" pL jD:=fun _ _ _ _ _ _ _=>rfl
theorem DG:pO "in_order" "in_order" m8 iw:=fun _ _ _ _ _ _ _=>rfl
theorem T9:pO "added" "added" wA pX:=fun _ _ _ _ _ _ _ _=>rfl
theorem O2:pO "turned" "turned" tG lO:=fun _ _ _ _ _ _ _ _=>rfl
theorem vX:pO "turned_piece" "turned_piece" eF dw:=fun _ _ _ _ _ _ _ _=>rfl
theorem zu:pO "corners_of" "corners_of" jr eQ:=fun _ _ _ _ _ _ _ _=>rfl
theorem N6:pO "way_of" "way_of" uc lQ:=fun _ _ _ _ _ _ _=>rfl
theorem BR:pO "backwards" "backwards" iQ gm:=fun _ _ _ _ _ _ _=>rfl
theorem u9:pO "turned_letter" "turned_letter" dO cX:=fun _ _ _ _ _ _ _ _=>rfl
theorem yo:pO "turned_word" "turned_word" fK dW:=fun _ _ _ _ _ _ _ _=>rfl
theorem Fe:pO "begun_at" "begun_at" nj il:=fun _ _ _ _ _ _ _ _=>rfl
theorem Hz:pO "area_of" "area_of" pQ jC:=fun _ _ _ _ _ _ _=>rfl
theorem Ds:pO "sides_of" "sides_of" mX iy:=fun _ _ _ _ _ _ _=>rfl
theorem pG:pO "letters_by_corner" "letters_by_corner" du bO:=fun _ _ _ _ _ _ _=>rfl
theorem Ck:pO "border_of" "border_of" lz gf:=fun _ _ _ _ _ _ _=>rfl
theorem u5:pO "check_letters" "check_letters" fU cY:=fun _ _ _ _ _ _ _=>rfl
theorem qJ:pO "check_crossings" "check_crossings" dX bY:=fun _ _ _ _ _ _ _=>rfl
theorem uR:pO "upright_sides" "upright_sides" fM cV:=fun _ _ _ _ _ _ _ _=>rfl
theorem vW:pO "cells_within" "cells_within" dY dH:=fun _ _ _ _ _ _ _ _=>rfl
theorem Cy:pO "inside_of" "inside_of" lA gj:=fun _ _ _ _ _ _ _ _=>rfl
theorem CK:pO "_law_cell_at" "_law_cell_at" lC gn:=fun _ _ _ _ _ _ _ _=>rfl
theorem En:pO "_law_corner" "_law_corner" ni ir:=fun _ _ _ _ _ _ _ _=>rfl
theorem Mm:pO "_law_step" "_law_step" tR lX:=fun _ _ _ _ _ _ _=>rfl
theorem Jq:pO "_law_whole" "_law_whole" pZ jA:=fun _ _ _ _ _ _ _=>rfl
theorem Nk:pO "_law_pair" "_law_pair" tL lZ:=fun _ _ _ _ _ _ _ _=>rfl
theorem Hj:pO "_law_holed" "_law_holed" f9 jE:=fun _ _ _ _ _ _ _=>rfl
theorem HD:pO "_law_grown" "_law_grown" pR jz:=fun _ _ _ _ _ _ _ _ _=>rfl
theorem Jh:pO "_law_piece" "_law_piece" my jF:=fun _ _ _ _ _ _ _ _=>rfl
theorem zj:pO "_law_is_piece" "_law_is_piece" gH eN:=fun _ _ _ _ _ _ _ _=>rfl
theorem Gz:pO "_law_turned" "_law_turned" nF ig:=fun _ _ _ _ _ _ _ _=>rfl
theorem qQ:pO "_law_turned_corner" "_law_turned_corner" bL bZ:=fun _ _ _ _ _ _ _ _=>rfl
structure Tx(K:PySem.W.Frag)(mg:Str->Option Value)(w:World):Prop where
 f_rank_of:bG K mg "rank_of" pL jD
 f_in_order:bG K mg "in_order" m8 iw
 f_added:bG K mg "added" wA pX
 f_turned:bG K mg "turned" tG lO
 f_turned_piece:bG K mg "turned_piece" eF dw
 f_corners_of:bG K mg "corners_of" jr eQ
 f_way_of:bG K mg "way_of" uc lQ
 f_backwards:bG K mg "backwards" iQ gm
 f_turned_letter:bG K mg "turned_letter" dO cX
 f_turned_word:bG K mg "turned_word" fK dW
 f_begun_at:bG K mg "begun_at" nj il
 f_area_of:bG K mg "area_of" pQ jC
 f_sides_of:bG K mg "sides_of" mX iy
 f_letters_by_corner:bG K mg "letters_by_corner" du bO
 f_border_of:bG K mg "border_of" lz gf
 f_check_letters:bG K mg "check_letters" fU cY
 f_check_crossings:bG K mg "check_crossings" dX bY
 f_upright_sides:bG K mg "upright_sides" fM cV
 f_cells_within:bG K mg "cells_within" dY dH
 f_inside_of:bG K mg "inside_of" lA gj
 f_l_cell_at:bG K mg "_law_cell_at" lC gn
 f_l_corner:bG K mg "_law_corner" ni ir
 f_l_step:bG K mg "_law_step" tR lX
 f_l_whole:bG K mg "_law_whole" pZ jA
 f_l_pair:bG K mg "_law_pair" tL lZ
 f_l_holed:bG K mg "_law_holed" f9 jE
 f_l_grown:bG K mg "_law_grown" pR jz
 f_l_piece:bG K mg "_law_piece" my jF
 f_l_is_piece:bG K mg "_law_is_piece" gH eN
 f_l_turned:bG K mg "_law_turned" nF ig
 f_l_turned_corner:bG K mg "_law_turned_corner" bL bZ
 m_all:mg "all" = none
 m_bool:mg "bool" = none
 m_enumerate:mg "enumerate" = none
 m_int:mg "int" = none
 m_isinstance:mg "isinstance" = none
 m_len:mg "len" = none
 m_max:mg "max" = none
 m_min:mg "min" = none
 m_range:mg "range" = none
 m_reversed:mg "reversed" = none
 m_sorted:mg "sorted" = none
 m_tuple:mg "tuple" = none
 m_zip:mg "zip" = none
 d_STEPS:∃a,mg "STEPS" = some (.ref a)/\DC K w a gC
 d_OPPOSITES:∃a,mg "OPPOSITES" = some (.ref a)/\DC K w a o6
 c_MOST_CELLS:∃tk,mg "MOST_CELLS" = some (.int 10 tk)
section
variable{P:Program}{w:World}{K:PySem.W.Frag}{mg:Str->Option Value}{base:Heap}
theorem Hu(T:Tx K mg w):Fn P w K mg base 1 "rank_of" jD iC :=
 gr (t:=uy) T.f_rank_of IW Fb (fun f cdv A outer s H E hr=>(aJ (bu (aV (aa (bh gZ (ao 0) au) (aa (bh gZ (ao 0) au) aA)))))) Ia
theorem Gg(T:Tx K mg w):Fn P w K mg base 1 "added" pX mF :=
 gr (t:=wF) T.f_added RV Od (fun f cdv A outer s H E hr=>(aJ (bu (aV (aa (aP bD (bh gZ (ao 0) au) (bh gZ (ao 1) au)) (aa (aP bD (bh gZ (ao 0) au) (bh gZ (ao 1) au)) aA)))))) RQ
theorem Ae(T:Tx K mg w):Fn P w K mg base 1 "turned" lO eV :=
 gr (t:=yM) T.f_turned mD Iw (fun f cdv A outer s H E hr=>(aD (aW 2 mD.nd (bh gZ (ao 0) au))
   (aD (aW 3 mD.nd (bh gZ (ao 0) au))
   (aD (dB (bF Z5 (ao 1) au) (aJ (aW 2 mD.nd (nH fQ (ao 2)))) bR)
   (aD (aW 4 mD.nd (aP eY (ao 1) au))
   (aD (dB (bF (gJ hr.units) (ao 4) au) (aJ (bu (aV (aa (nH fQ (ao 3)) (aa (ao 2) aA))))) bR)
   (aD (dB (bF (gJ hr.units) (ao 4) au) (aJ (bu (aV (aa (nH fQ (ao 2)) (aa (nH fQ (ao 3)) aA))))) bR)
   (aD (dB (bF (gJ hr.units) (ao 4) au) (aJ (bu (aV (aa (ao 3) (aa (nH fQ (ao 2)) aA))))) bR)
   (aJ (bu (aV (aa (ao 2) (aa (ao 3) aA))))))))))))) M9
theorem Cq(T:Tx K mg w):Fn P w K mg base 1 "backwards" gm gQ :=
 gr (t:=pq) T.f_backwards CN zA (fun f cdv A outer s H E hr=>(aJ (bu (Td PySem.F.slot_str_join PySem.F.type_str_join Fj fX (aa (fV (fv:=[]) (by show cj (az iQ) lD _ _ _ _;exact⟨rfl,by decide +kernel,by decide +kernel,by decide +kernel,rfl,by decide +kernel,by decide +kernel⟩) rfl (YJ T.m_reversed (ao 0)) (fun pins cl s1 H1 fp=>di) (fun pins cl s1 H1 fp=>(Eg rfl T.d_OPPOSITES (ao 0)))) aA))))) BJ
theorem DR(T:Tx K mg w):Fn P w K mg base 1 "begun_at" il fZ :=
 gr (t:=qY) T.f_begun_at Dw Dn (fun f cdv A outer s H E hr=>(aJ (bu (aP bD (yE Gh (ao 0) (xK (ao 1)) wU) (yE Gh (ao 0) wU (xK (ao 1))))))) DY
theorem Gq(T:Tx K mg w):Fn P w K mg base 1 "sides_of" iy iR :=
 gr (t:=qW) T.f_sides_of oO CZ (fun f cdv A outer s H E hr=>(aD (aW 1 oO.nd (bh gZ (ao 0) au))
   (aD (aW 2 oO.nd (bh gZ (ao 0) au))
   (aJ (bu (jT (aa (aV (aa (aV (aa (ao 1) (aa (ao 2) aA))) (aa fX (aa (aV (aa (ao 1) (aa (aP b7 (ao 2) au) aA))) aA)))) (aa (aV (aa (aV (aa (aP bD (ao 1) au) (aa (ao 2) aA))) (aa fX (aa (aV (aa (aP bD (ao 1) au) (aa (ao 2) aA))) aA)))) (aa (aV (aa (aV (aa (aP bD (ao 1) au) (aa (aP bD (ao 2) au) aA))) (aa fX (aa (aV (aa (ao 1) (aa (aP bD (ao 2) au) aA))) aA)))) (aa (aV (aa (aV (aa (ao 1) (aa (aP bD (ao 2) au) aA))) (aa fX (aa (aV (aa (aP b7 (ao 1) au) (aa (ao 2) aA))) aA)))) aA)))))))))) Ew
theorem uC(T:Tx K mg w):Fn P w K mg base 1 "check_letters" cY dI :=
 gr (t:=je) T.f_check_letters mz rY (fun f cdv A outer s H E hr=>(aD (dB (bF (gJ hr.units) (ao 0) fX) (aJ lR) bR)
   (aJ (ik PassesOwn.never rfl (Ub T.m_enumerate (ao 0)) (lg 1 2 rfl mz.nd) (aJ (dB (Rz rfl T.d_STEPS (ao 2)) (aJ lR) bR)))))) uD
theorem gW(T:Tx K mg w):Fn P w K mg base 1 "_law_cell_at" gn bV :=
 gr (t:=oH) T.f_l_cell_at Bo zg (fun f cdv A outer s H E hr=>(aD (dB (bF (HF hr.yJ) (ao 1) (bC iI rfl T.m_len (by rfl) (aa (ao 0) aA))) (aJ (bu (bh gZ (ao 0) (ao 1)))) bR)
   (aD (dB (bF (gJ hr.units) (bC iI rfl T.m_len (by rfl) (aa (ao 0) aA)) au) (aJ (bu au)) bR)
   (aJ (bu (aP eY (aP nY (bh gZ (ao 0) (aP eY (ao 1) (bC iI rfl T.m_len (by rfl) (aa (ao 0) aA)))) (aP bD au (aP nY (ao 1) (ao 1)))) au)))))) Ca
theorem Fy(T:Tx K mg w):Fn P w K mg base 1 "_law_corner" ir iV :=
 gr (t:=qN) T.f_l_corner DN Bu (fun f cdv A outer s H E hr=>(aD (dB (bF (gJ hr.units) (aP eY (ao 0) au) au) (aJ (bu (aV (aa (aP b7 (aP eY (aP mO (ao 0) au) au) au) (aa (aP b7 (aP eY (aP mO (ao 1) au) au) au) aA))))) bR)
   (aJ (bu (aV (aa (aP b7 (aP eY (aP mO (ao 0) au) (aP bD (aP nY au (aP wO au au)) au)) (aP wO au au)) (aa (aP b7 (aP eY (ao 1) (aP bD (aP nY au (aP wO au au)) au)) (aP wO au au)) aA))))))) Gf
theorem MN(T:Tx K mg w):Fn P w K mg base 1 "_law_step" lX lU :=
 gr (t:=yL) T.f_l_step Oo Jo (fun f cdv A outer s H E hr=>(aJ (bu (bh gZ (jT (aa (aV (aa au (aa au aA))) (aa (aV (aa au (aa au aA))) (aa (aV (aa (nH fQ au) (aa au aA))) (aa (aV (aa au (aa (nH fQ au) aA))) aA))))) (Td PySem.F.slot_str_index PySem.F.type_str_index M7 fX (aa (ao 0) aA)))))) OD
theorem yz(T:Tx K mg w):Fn P w K mg base 1 "_law_whole" jA iB :=
 gr (t:=vf) T.f_l_whole Ih GR (fun f cdv A outer s H E hr=>(aJ (bu (Io (bC wD rfl T.m_isinstance (by rfl) (aa (ao 0) (aa (J1 rfl T.m_int (by rfl)) aA))) (QX (Zt (bC wD rfl T.m_isinstance (by rfl) (aa (ao 0) (aa (J1 rfl T.m_bool (by rfl)) aA))))))))) IK
theorem IV(T:Tx K mg w):Fn P w K mg base 1 "_law_holed" jE jZ :=
 gr (t:=u6) T.f_l_holed cg Ez (fun f cdv A outer s H E hr=>(aD (aW 1 cg.nd (aP bD (bC (JS rfl) rfl T.m_max (by rfl) (aa (fV (fv:=[]) (by show cj (az f9) iz _ _ _ _;exact⟨rfl,by decide +kernel,by decide +kernel,by decide +kernel,rfl,by decide +kernel,by decide +kernel⟩) rfl (fP (ao 0)) (fun pins cl s1 H1 fp=>di) (fun pins cl s1 H1 fp=>(bh gZ (ao 0) au))) aA)) au))
   (aD (aW 2 cg.nd (aP b7 (bC (wK rfl) rfl T.m_min (by rfl) (aa (fV (fv:=[]) (by show cj (az f9) iz _ _ _ _; exact ⟨rfl,by decide +kernel,by decide +kernel,by decide +kernel,rfl,by decide +kernel,by decide +kernel⟩) rfl (fP (ao 0)) (fun pins cl s1 H1 fp => di) (fun pins cl s1 H1 fp => (bh gZ (ao 0) au))) aA)) au))
   (aD (aW 3 cg.nd (aP bD (bC (JS rfl) rfl T.m_max (by rfl) (aa (fV (fv:=[]) (by show cj (az f9) iz _ _ _ _; exact ⟨rfl,by decide +kernel,by decide +kernel,by decide +kernel,rfl,by decide +kernel,by decide +kernel⟩) rfl (fP (ao 0)) (fun pins cl s1 H1 fp => di) (fun pins cl s1 H1 fp => (bh gZ (ao 0) au))) aA)) au))
   (aD (aW 4 cg.nd (aP b7 (bC (wK rfl) rfl T.m_min (by rfl) (aa (fV (fv:=[]) (by show cj (az f9) iz _ _ _ _; exact ⟨rfl,by decide +kernel,by decide +kernel,by decide +kernel,rfl,by decide +kernel,by decide +kernel⟩) rfl (fP (ao 0)) (fun pins cl s1 H1 fp => di) (fun pins cl s1 H1 fp => (bh gZ (ao 0) au))) aA)) au))
   (aD (aW 5 cg.nd (jT (aa (aV (aa (ao 2) (aa (ao 4) aA))) aA)))
   (aD (aW 6 cg.nd (Gu hr.yJ (aV (aa (ao 2) (aa (ao 4) aA))) qI))
   (aD (ik PassesOwn.never rfl (fP (ao 0)) (iK 7 cg.nd) (aJ (wM hr.units (ao 6) (ao 7) qI)))
   (aD (aW 8 cg.nd au)
   (aD (xj PassesOwn.never (bF (HF hr.yJ) (ao 8) (bC iI rfl T.m_len (by rfl) (aa (ao 5) aA))) (aD (ik PassesOwn.never rfl (fP (jT (aa (aV (aa au (aa au aA))) (aa (aV (aa au (aa au aA))) (aa (aV (aa (nH fQ au) (aa au aA))) (aa (aV (aa au (aa (nH fQ au) aA))) aA)))))) (iK 9 cg.nd) (aD (aW 10 cg.nd (aV (aa (aP bD (bh gZ (bh gZ (ao 5) (ao 8)) au) (bh gZ (ao 9) au)) (aa (aP bD (bh gZ (bh gZ (ao 5) (ao 8)) au) (bh gZ (ao 9) au)) aA))))
   (aJ (dB (K7 (JL (Ai xU xU (ao 2) (bh gZ (ao 10) au) (ao 1)) (JL (Ai xU xU (ao 4) (bh gZ (ao 10) au) (ao 3)) (Sx (bF (mR hr.units) (ao 10) (ao 6)))))) (aD (wM hr.units (ao 6) (ao 10) qI)
   (aJ (ju (yx PySem.F.slot_list_append PySem.F.type_list_append tK (ao 5) (aa (ao 10) aA))))) bR))))
   (aJ (aW 8 cg.nd (aP bD (ao 8) au)))))
   (aJ (bu (Ig (HF hr.yJ) (bC Px rfl T.m_len (by rfl) (aa (ao 6) aA)) (aP nY (aP bD (aP b7 (ao 1) (ao 2)) au) (aP bD (aP b7 (ao 3) (ao 4)) au))))))))))))))) HS
theorem oY(T:Tx K mg w):Fn P w K mg base 1 "_law_turned" ig d9 :=
 gr (t:=qM) T.f_l_turned pC BW (fun f cdv A outer s H E hr=>(aD (yF (ao 0) (lg 2 3 rfl pC.nd))
   (aD (dB (bF Hs (ao 1) au) (aJ (aW 2 pC.nd (aP b7 au (ao 2)))) bR)
   (aJ (bu (bh gZ (jT (aa (aV (aa (ao 2) (aa (ao 3) aA))) (aa (aV (aa (aP b7 au (ao 3)) (aa (ao 2) aA))) (aa (aV (aa (aP b7 au (ao 2)) (aa (aP b7 au (ao 3)) aA))) (aa (aV (aa (ao 3) (aa (aP b7 au (ao 2)) aA))) aA))))) (aP eY (ao 1) au))))))) Em
theorem fC(T:Tx K mg w):Fn P w K mg base 2 "corners_of" eQ bK :=
 gr (t:=mY) T.f_corners_of lH xQ (fun f cdv A outer s H E hr=>(aD (aW 2 lH.nd (jT (aa (ao 0) aA)))
   (aD (ik PassesOwn.never rfl (Ks (ao 1)) (iK 3 lH.nd) (aJ (ju (yx PySem.F.slot_list_append PySem.F.type_list_append tK (ao 2) (aa (aO (Gg T) (hr.mono (by decide)) (aa (bh gZ (ao 2) (nH fQ au)) (aa (Eg rfl T.d_STEPS (ao 3)) aA))) aA)))))
   (aJ (bu (ao 2)))))) yZ
theorem uT(T:Tx K mg w):Fn P w K mg base 2 "turned_letter" cX dG :=
 gr (t:=jg) T.f_turned_letter lV ue (fun f cdv A outer s H E hr=>(aD (aW 2 lV.nd (aO (Ae T) (hr.mono (by decide)) (aa (Eg rfl T.d_STEPS (ao 0)) (aa (ao 1) aA))))
   (aJ (bu (bh gZ (fV (fv:=[(2, "step")]) (by show cj (az dO) fO _ _ _ _;exact⟨rfl,by decide +kernel,by decide +kernel,by decide +kernel,rfl,by decide +kernel,by decide +kernel⟩) rfl (aaF rfl T.d_STEPS) (fun pins cl s1 H1 fp=>(Tt (bF (gJ hr.units) (Eg rfl T.d_STEPS (ao 0)) (ao 1)))) (fun pins cl s1 H1 fp=>(ao 0))) au))))) uV
theorem oV(T:Tx K mg w):Fn P w K mg base 2 "letters_by_corner" bO bW :=
 gr (t:=fc) T.f_letters_by_corner cZ nM (fun f cdv A outer s H E hr=>(aD (aW 1 cZ.nd VP)
   (aD (ik PassesOwn.never rfl (Ij (ao 0)) (iK 2 cZ.nd) (aJ (ik PassesOwn.never rfl (fP (aO (Gq T) (hr.mono (by decide)) (aa (ao 2) aA))) (iK 3 cZ.nd) (aJ (dB (bF (mR hr.units) (bh gZ (ao 3) au) (ao 0)) (aJ (wM hr.units (ao 1) (bh gZ (ao 3) au) (bh gZ (ao 3) au))) bR)))))
   (aJ (bu (ao 1)))))) oF
theorem Ml(T:Tx K mg w):Fn P w K mg base 2 "_law_pair" lZ mL :=
 gr (t:=yN) T.f_l_pair NZ Hy (fun f cdv A outer s H E hr=>(aD (dB (K7 (Jj (wJ (sX (bC wD rfl T.m_isinstance (by rfl) (aa (ao 0) (aa (J1 rfl T.m_tuple (by rfl)) aA))))) (Cr (bF (Cu hr.units) (bC iI rfl T.m_len (by rfl) (aa (ao 0) aA)) au)))) (aJ (bu qI)) bR)
   (aJ (bu (Io (aO (yz T) (hr.mono (by decide)) (aa (bh gZ (ao 0) au) aA)) (Io (aO (yz T) (hr.mono (by decide)) (aa (bh gZ (ao 0) au) aA)) (QX (Ig (gJ hr.units) (ao 0) (ao 1))))))))) Nt
theorem Je(T:Tx K mg w):Fn P w K mg base 2 "_law_grown" jz jV :=
 gr (t:=uM) T.f_l_grown d8 FP (fun f cdv A outer s H E hr=>(aD (aW 3 d8.nd (jT (aa (aV (aa au (aa au aA))) aA)))
   (aD (ik PassesOwn.never rfl (Bv T.m_range (aP b7 (ao 2) au)) (iK 4 d8.nd) (aD (aW 5 d8.nd (aO (gW T) (hr.mono (by decide)) (aa (ao 0) (aa (aP bD (ao 1) (ao 4)) aA))))
   (aD (yF (bh gZ (ao 3) (aP eY (ao 5) (bC iI rfl T.m_len (by rfl) (aa (ao 3) aA)))) (lg 6 7 rfl d8.nd))
   (aJ (ik PassesOwn.never rfl (Bv T.m_range au) (iK 8 d8.nd) (aD (aW 9 d8.nd (aO (MN T) (hr.mono (by decide)) (aa (bh gZ fX (aP eY (aP bD (aP mO (ao 5) au) (ao 8)) au)) aA)))
   (aD (aW 10 d8.nd (aV (aa (aP bD (ao 6) (bh gZ (ao 9) au)) (aa (aP bD (ao 7) (bh gZ (ao 9) au)) aA))))
   (aJ (dB (bF (mR hr.units) (ao 10) (ao 3)) (aD (ju (yx PySem.F.slot_list_append PySem.F.type_list_append tK (ao 3) (aa (ao 10) aA)))
   (aJ PB)) bR)))))))))
   (aD (xj PassesOwn.never (sX (aO (IV T) (hr.mono (by decide)) (aa (ao 3) aA))) (aJ (ju (Za PySem.F.slot_list_pop PySem.F.type_list_pop Ut (ao 3)))))
   (aJ (bu (ao 3))))))) Hn
theorem rH(T:Tx K mg w):Fn P w K mg base 2 "_law_turned_corner" bZ cH :=
 gr (t:=gU) T.f_l_turned_corner fY qg (fun f cdv A outer s H E hr=>(aD (yF (aO (oY T) (hr.mono (by decide)) (aa (ao 0) (aa (ao 1) aA))) (lg 2 3 rfl fY.nd))
   (aD (xF (fv:=[(1, "_law_k")]) 4 fY.nd (by show cj (az bL) b8 _ _ _ _; exact ⟨rfl,by decide +kernel,by decide +kernel,by decide +kernel,rfl,by decide +kernel,by decide +kernel⟩) rfl (fP (jT (aa (aV (aa au (aa au aA))) (aa (aV (aa au (aa au aA))) (aa (aV (aa au (aa au aA))) (aa (aV (aa au (aa au aA))) aA)))))) (fun pins cl s1 H1 fp => di) (fun pins cl s1 H1 fp => (aO (oY T) (hr.mono (by decide)) (aa (ao 0) (aa (ao 1) aA)))))
   (aJ (bu (aV (aa (aP b7 (ao 2) (bC (wK rfl) rfl T.m_min (by rfl) (aa (fV (fv:=[]) (by show cj (az bL) b8 _ _ _ _;exact⟨rfl,by decide +kernel,by decide +kernel,by decide +kernel,rfl,by decide +kernel,by decide +kernel⟩) rfl (fP (ao 4)) (fun pins cl s1 H1 fp=>di) (fun pins cl s1 H1 fp=>(bh gZ (ao 0) au))) aA))) (aa (aP b7 (ao 3) (bC (wK rfl) rfl T.m_min (by rfl) (aa (fV (fv:=[]) (by show cj (az bL) b8 _ _ _ _;exact⟨rfl,by decide +kernel,by decide +kernel,by decide +kernel,rfl,by decide +kernel,by decide +kernel⟩) rfl (fP (ao 4)) (fun pins cl s1 H1 fp=>di) (fun pins cl s1 H1 fp=>(bh gZ (ao 0) au))) aA))) aA)))))))) rJ
theorem M8(T:Tx K mg w):Fn P w K mg base 3 "way_of" lQ mJ :=
 gr (t:=xq) T.f_way_of Mp JD (fun f cdv A outer s H E hr=>(aJ (bu (bh gZ (aO (fC T) (hr.mono (by decide)) (aa (aV (aa au (aa au aA))) (aa (ao 0) aA))) (nH fQ au))))) O6
theorem xZ(T:Tx K mg w):Fn P w K mg base 3 "turned_word" dW eE :=
 gr (t:=lK) T.f_turned_word yp vQ (fun f cdv A outer s H E hr=>(aJ (bu (Td PySem.F.slot_str_join PySem.F.type_str_join Fj fX (aa (fV (fv:=[(1, "k")]) (by show cj (az fK) iJ _ _ _ _;exact⟨rfl,by decide +kernel,by decide +kernel,by decide +kernel,rfl,by decide +kernel,by decide +kernel⟩) rfl (Ks (ao 0)) (fun pins cl s1 H1 fp=>di) (fun pins cl s1 H1 fp=>(aO (uT T) (hr.mono (by decide)) (aa (ao 0) (aa (ao 1) aA))))) aA))))) xJ
theorem Jt(T:Tx K mg w):Fn P w K mg base 3 "area_of" jC jP :=
 gr (t:=vz) T.f_area_of jJ Gb (fun f cdv A outer s H E hr=>(aD (aW 1 jJ.nd au)
   (aD (ik PassesOwn.never rfl (Al T.m_zip (aO (fC T) (hr.mono (by decide)) (aa (aV (aa au (aa au aA))) (aa (ao 0) aA))) (ao 0)) (lg 2 3 rfl jJ.nd) (aD (dB (bF (gJ hr.units) (ao 3) fX) (aJ (Ik (i:=1) jJ.nd Fl (bh gZ (ao 2) au))) bR)
   (aJ (dB (bF (gJ hr.units) (ao 3) fX) (aJ (Ik (i:=1) jJ.nd QR (bh gZ (ao 2) au))) bR))))
   (aJ (bu (ao 1)))))) Hw
theorem t7(T:Tx K mg w):Fn P w K mg base 3 "border_of" gf dM :=
 gr (t:=nR) T.f_border_of dh zE (fun f cdv A outer s H E hr=>(aD (aW 1 dh.nd (aO (oV T) (hr.mono (by decide)) (aa (ao 0) aA)))
   (aD (aW 2 dh.nd (bh gZ (ao 0) au))
   (aD (aW 3 dh.nd fX)
   (aD (aW 4 dh.nd (ao 2))
   (aD (xj PassesOwn.never (K7 (Jj (bF (gJ hr.units) (ao 3) fX) (Cr (bF (Cu hr.units) (ao 4) (ao 2))))) (aD (aW 5 dh.nd (Vs hr.units (ao 1) (ao 4)))
   (aD (Ik (i:=3) dh.nd Fl (ao 5))
   (aJ (aW 4 dh.nd (aO (Gg T) (hr.mono (by decide)) (aa (ao 4) (aa (Eg rfl T.d_STEPS (ao 5)) aA))))))))
   (aJ (bu (aV (aa (ao 2) (aa (ao 3) aA))))))))))) Bj
theorem rN(T:Tx K mg w):Fn P w K mg base 3 "check_crossings" bY cN :=
 gr (t:=gO) T.f_check_crossings cI ql (fun f cdv A outer s H E hr=>(aD (aW 1 cI.nd (aO (fC T) (hr.mono (by decide)) (aa (aV (aa au (aa au aA))) (aa (ao 0) aA))))
   (aD (aW 2 cI.nd (Gu hr.yJ (bh gZ (ao 1) au) qI))
   (aJ (ik PassesOwn.never rfl (Bv T.m_range (aP b7 (bC iI rfl T.m_len (by rfl) (aa (ao 0) aA)) au)) (iK 3 cI.nd) (aD (aW 4 cI.nd (bh gZ (ao 1) (aP bD (ao 3) au)))
   (aD (dB (bF (Uy hr.units) (ao 4) (ao 2)) (aJ lR) bR)
   (aJ (wM hr.units (ao 2) (ao 4) qI))))))))) qU
theorem uO(T:Tx K mg w):Fn P w K mg base 3 "upright_sides" cV dD :=
 gr (t:=jh) T.f_upright_sides iH tD (fun f cdv A outer s H E hr=>(aD (aW 2 iH.nd ZS)
   (aD (ik PassesOwn.never rfl (Al T.m_zip (aO (fC T) (hr.mono (by decide)) (aa (ao 0) (aa (ao 1) aA))) (ao 1)) (lg 3 4 rfl iH.nd) (aD (dB (bF (gJ hr.units) (ao 4) fX) (aJ (ju (yx PySem.F.slot_list_append PySem.F.type_list_append tK (JG (ao 2) (bh gZ (ao 3) au) (jT aA) ⟨rfl,rfl,rfl,rfl⟩) (aa (bh gZ (ao 3) au) aA)))) bR)
   (aJ (dB (bF (gJ hr.units) (ao 4) fX) (aJ (ju (yx PySem.F.slot_list_append PySem.F.type_list_append tK (JG (ao 2) (aP b7 (bh gZ (ao 3) au) au) (jT aA) ⟨rfl,rfl,rfl,rfl⟩) (aa (bh gZ (ao 3) au) aA)))) bR))))
   (aJ (bu (ao 2)))))) uW
theorem qw(T:Tx K mg w):Fn P w K mg base 3 "_law_is_piece" eN dq :=
 gr (t:=m9) T.f_l_is_piece zJ xu (fun f cdv A outer s H E hr=>(aD (dB (K7 (Jj (wJ (sX (bC wD rfl T.m_isinstance (by rfl) (aa (ao 0) (aa (J1 rfl T.m_tuple (by rfl)) aA))))) (Cr (bF (Cu hr.units) (bC iI rfl T.m_len (by rfl) (aa (ao 0) aA)) (bC iI rfl T.m_len (by rfl) (aa (ao 1) aA)))))) (aJ (bu qI)) bR)
   (aJ (bu (bC (Uo rfl) rfl T.m_all (by rfl) (aa (Qf (fv:=[]) (by show cj (az gH) jn _ _ _ _;exact⟨rfl,by decide +kernel,by decide +kernel,by decide +kernel,rfl,by decide +kernel,by decide +kernel⟩) rfl (Ol T.m_zip (ao 0) (ao 1)) (fun pins cl s1 H1 fp=>di) (fun pins cl s1 H1 fp=>(aO (Ml T) (hr.mono (by decide)) (aa (ao 0) (aa (ao 1) aA))))) aA)))))) zm
theorem Fo(T:Tx K mg w):Fn P w K mg base 4 "in_order" iw iU :=
 gr (t:=qL) T.f_in_order Ge Bq (fun f cdv A outer s H E hr=>(aJ (bu (Ju (Hu T) (hr.mono (by decide)) T.m_sorted (ao 0))))) Gd
theorem vZ(T:Tx K mg w):Fn P w K mg base 4 "cells_within" dH dU :=
 gr (t:=jQ) T.f_cells_within cW uA (fun f cdv A outer s H E hr=>(aD (aW 2 cW.nd (aO (uO T) (hr.mono (by decide)) (aa (ao 0) (aa (ao 1) aA))))
   (aD (aW 3 cW.nd (jT aA))
   (aD (ik PassesOwn.never rfl (fP (bC (N5 rfl) rfl T.m_sorted (by rfl) (aa (ao 2) aA))) (iK 4 cW.nd) (aD (aW 5 cW.nd (bC Nm rfl T.m_sorted (by rfl) (aa (Qt hr.units (ao 2) (ao 4)) aA)))
   (aJ (ik PassesOwn.never rfl (Wr T.m_range au (bC iI rfl T.m_len (by rfl) (aa (ao 5) aA)) au) (iK 6 cW.nd) (aJ (ju (yx PySem.F.slot_list_extend PySem.F.type_list_extend Vv (ao 3) (aa (fV (fv:=[(4, "y")]) (by show cj (az dY) gD _ _ _ _;exact⟨rfl,by decide +kernel,by decide +kernel,by decide +kernel,rfl,by decide +kernel,by decide +kernel⟩) rfl (Uh T.m_range (bh gZ (ao 5) (ao 6)) (bh gZ (ao 5) (aP bD (ao 6) au))) (fun pins cl s1 H1 fp=>di) (fun pins cl s1 H1 fp=>(aV (aa (ao 0) (aa (ao 1) aA))))) aA))))))))
   (aJ (bu (ao 3))))))) vM
theorem xM(T:Tx K mg w):Fn P w K mg base 4 "_law_piece" jF iG:=by
 cases T.f_l_piece with
 | mk F hm hb => exact acW F wW hm hb FZ fun oc od sl lk A outer s H E hr => ⟨uw,(aD (xF (fv:=[(1, "_law_shift")]) 2 wW.nd (by show cj (az my) pW _ _ _ _; exact ⟨rfl,by decide +kernel,by decide +kernel,by decide +kernel,rfl,by decide +kernel,by decide +kernel⟩) rfl (fP (ao 0)) (fun pins cl s1 H1 fp => di) (fun pins cl s1 H1 fp => (aV (aa (aP bD (bh gZ (ao 0) au) (bh gZ (ao 1) au)) (aa (aP bD (bh gZ (ao 0) au) (bh gZ (ao 1) au)) aA)))))
   (aJ (bu (vo uN rfl T.m_tuple (by rfl) (aa (HJ (x := "_law_piece") (y := "_law_cell") (q:=0) hm lk rfl ⟨rfl,rfl,rfl,by decide +kernel,rfl,by decide +kernel,by decide +kernel⟩ (hr.mono (by decide)) T.m_sorted (ao 2) (fun _ _ _ _ _ _=>aV (aa (bh gZ (ao 0) au) (aa (bh gZ (ao 0) au) aA))) U7 (fun _ _ _ _=>rfl)) aA))))),HW⟩
theorem vV(T:Tx K mg w):Fn P w K mg base 5 "turned_piece" dw dR :=
 gr (t:=kI) T.f_turned_piece vU vm (fun f cdv A outer s H E hr=>(aJ (bu (vo uN rfl T.m_tuple (by rfl) (aa (aO (Fo T) (hr.mono (by decide)) (aa (fV (fv:=[(1, "k")]) (by show cj (az eF) gR _ _ _ _;exact⟨rfl,by decide +kernel,by decide +kernel,by decide +kernel,rfl,by decide +kernel,by decide +kernel⟩) rfl (Ij (ao 0)) (fun pins cl s1 H1 fp=>di) (fun pins cl s1 H1 fp=>(aO (Ae T) (hr.mono (by decide)) (aa (ao 0) (aa (ao 1) aA))))) aA)) aA))))) v5
theorem BX(T:Tx K mg w):Fn P w K mg base 5 "inside_of" gj eX :=
 gr (t:=oZ) T.f_inside_of nC zy (fun f cdv A outer s H E hr=>(aD (ju (aO (uC T) (hr.mono (by decide)) (aa (ao 1) aA)))
   (aD (aW 2 nC.nd (aO (M8 T) (hr.mono (by decide)) (aa (ao 1) aA)))
   (aD (dB (bF (Cu hr.units) (ao 2) (aV (aa au (aa au aA)))) (aJ lR) bR)
   (aD (ju (aO (rN T) (hr.mono (by decide)) (aa (ao 1) aA)))
   (aD (aW 3 nC.nd (aO (Jt T) (hr.mono (by decide)) (aa (ao 1) aA)))
   (aD (dB (bF xU (ao 3) au) (aJ lR) bR)
   (aD (dB (bF Hs (ao 3) (Q5 rfl T.c_MOST_CELLS)) (aJ lR) bR)
   (aJ (bu (vo uN rfl T.m_tuple (by rfl) (aa (aO (vZ T) (hr.mono (by decide)) (aa (ao 0) (aa (ao 1) aA))) aA)))))))))))) Bk
theorem X7(T:Tx K mg w){f:Addr}{fd:FuncData}(F:KY K "law" "law" qG f fd):nO P w K mg base yR 6 f fd Q0 (o9 K uK) :=
 W0 F jW VG fun cdv A outer s H E hr=>⟨Rj,(aD (aW 1 jW.nd (aO (Je T) (hr.mono (by decide)) (aa (ao 0) (aa au (aa (aP bD au (aP eY (aO (gW T) (hr.mono (by decide)) (aa (ao 0) (aa au aA))) au)) aA)))))
   (aD (aW 2 jW.nd (aO (xM T) (hr.mono (by decide)) (aa (ao 1) (aa (aO (Fy T) (hr.mono (by decide)) (aa (aO (gW T) (hr.mono (by decide)) (aa (ao 0) (aa au aA))) (aa (aO (gW T) (hr.mono (by decide)) (aa (ao 0) (aa au aA))) aA))) aA))))
   (aD (aW 3 jW.nd (aP eY (aP mO (aO (gW T) (hr.mono (by decide)) (aa (ao 0) (aa au aA))) au) au))
   (aD (yF (aO (t7 T) (hr.mono (by decide)) (aa (ao 2) aA)) (lg 4 5 rfl jW.nd))
   (aD (aW 6 jW.nd (aO (vV T) (hr.mono (by decide)) (aa (ao 2) (aa (ao 3) aA))))
   (aD (dB (wJ (sX (aO (qw T) (hr.mono (by decide)) (aa (ao 6) (aa (aO (xM T) (hr.mono (by decide)) (aa (fV (fv:=[(3, "_law_k")]) (by show cj (az qG) Ke _ _ _ _; exact ⟨rfl,by decide +kernel,by decide +kernel,by decide +kernel,rfl,by decide +kernel,by decide +kernel⟩) rfl (Ij (ao 2)) (fun pins cl s1 H1 fp => di) (fun pins cl s1 H1 fp => (aO (oY T) (hr.mono (by decide)) (aa (ao 0) (aa (ao 1) aA))))) (aa (aV (aa au (aa au aA))) aA))) aA))))) (aJ (bu qI)) bR)
   (aD (aW 5 jW.nd (aO (xZ T) (hr.mono (by decide)) (aa (ao 5) (aa (ao 3) aA))))
   (aD (aW 4 jW.nd (aO (rH T) (hr.mono (by decide)) (aa (ao 4) (aa (ao 3) aA))))
   (aD (dB (bF Hs (ao 3) au) (aJ (aW 5 jW.nd (aO (Cq T) (hr.mono (by decide)) (aa (ao 5) aA)))) bR)
   (aD (dB (wJ (sX (aO (qw T) (hr.mono (by decide)) (aa (aO (BX T) (hr.mono (by decide)) (aa (ao 4) (aa (ao 5) aA))) (aa (ao 6) aA))))) (aJ (bu qI)) bR)
   (aD (yF (aO (t7 T) (hr.mono (by decide)) (aa (ao 6) aA)) (lg 7 8 rfl jW.nd))
   (aD (aW 9 jW.nd (aO (fC T) (hr.mono (by decide)) (aa (ao 4) (aa (ao 5) aA))))
   (aD (dB (bF (mR hr.units) (ao 7) (yE Yg (ao 9) wU (xK (nH fQ au)))) (aJ (bu qI)) bR)
   (aJ (bu (Ig (gJ hr.units) (ao 8) (aO (DR T) (hr.mono (by decide)) (aa (ao 5) (aa (yx PySem.F.slot_list_index PySem.F.type_list_index (V4 hr.units) (ao 9) (aa (ao 7) aA)) aA))))))))))))))))))),Y5⟩
end
theorem all_mk{l:PySem.W.OpenLaw}{w:World}{K:PySem.W.Frag}{h:Heap}{mg:Str->Option Value}{fa f31:Addr}(X:K.In h)(G:h.Ns mainGlobals mg)(hfa:mg "law" = some (.ref fa))
  {od31 an31:Option Addr} {sl31:Array (Option Value)} {oc31 kV31 dc31 pm31 cd31 ct31:Value}
  {tk0:Tok}
  (q0:bG K mg "rank_of" pL jD)
  (q1:bG K mg "in_order" m8 iw)
  (q2:bG K mg "added" wA pX)
  (q3:bG K mg "turned" tG lO)
  (q4:bG K mg "turned_piece" eF dw)
  (q5:bG K mg "corners_of" jr eQ)
  (q6:bG K mg "way_of" uc lQ)
  (q7:bG K mg "backwards" iQ gm)
  (q8:bG K mg "turned_letter" dO cX)
  (q9:bG K mg "turned_word" fK dW)
  (q10:bG K mg "begun_at" nj il)
  (q11:bG K mg "area_of" pQ jC)
  (q12:bG K mg "sides_of" mX iy)
  (q13:bG K mg "letters_by_corner" du bO)
  (q14:bG K mg "border_of" lz gf)
  (q15:bG K mg "check_letters" fU cY)
  (q16:bG K mg "check_crossings" dX bY)
  (q17:bG K mg "upright_sides" fM cV)
  (q18:bG K mg "cells_within" dY dH)
  (q19:bG K mg "inside_of" lA gj)
  (q20:bG K mg "_law_cell_at" lC gn)
  (q21:bG K mg "_law_corner" ni ir)
  (q22:bG K mg "_law_step" tR lX)
  (q23:bG K mg "_law_whole" pZ jA)
  (q24:bG K mg "_law_pair" tL lZ)
  (q25:bG K mg "_law_holed" f9 jE)
  (q26:bG K mg "_law_grown" pR jz)
  (q27:bG K mg "_law_piece" my jF)
  (q28:bG K mg "_law_is_piece" gH eN)
  (q29:bG K mg "_law_turned" nF ig)
  (q30:bG K mg "_law_turned_corner" bL bZ)
  (a31:PySem.W.nsIn K mainGlobals "law" = some (some (.ref f31))) (l31:K.lookup f31=some ⟨oc31,od31,.func (PySem.W.fnOf "law" "law" (aQ qG) (aN qG) (az qG) .none kV31 dc31 pm31 an31 cd31 ct31),sl31⟩) (c31:PySem.W.codeIn K cd31 "law" = true) (k31:PySem.W.keepIn K (.ref f31)=true)
  (z0:PySem.W.nsIn K mainGlobals "all" = some none)
  (z1:PySem.W.nsIn K mainGlobals "bool" = some none)
  (z2:PySem.W.nsIn K mainGlobals "enumerate" = some none)
  (z3:PySem.W.nsIn K mainGlobals "int" = some none)
  (z4:PySem.W.nsIn K mainGlobals "isinstance" = some none)
  (z5:PySem.W.nsIn K mainGlobals "len" = some none)
  (z6:PySem.W.nsIn K mainGlobals "max" = some none)
  (z7:PySem.W.nsIn K mainGlobals "min" = some none)
  (z8:PySem.W.nsIn K mainGlobals "range" = some none)
  (z9:PySem.W.nsIn K mainGlobals "reversed" = some none)
  (z10:PySem.W.nsIn K mainGlobals "sorted" = some none)
  (z11:PySem.W.nsIn K mainGlobals "tuple" = some none)
  (z12:PySem.W.nsIn K mainGlobals "zip" = some none)
  (y0:PySem.W.nsIn K mainGlobals "MOST_CELLS" = some (some (.int 10 tk0)))
  {dA0 dB0_0 dB0_1 dB0_2 dB0_3:Addr} {dT0_0 dX0_0_0 dX0_0_1 dT0_1 dX0_1_0 dX0_1_1 dT0_2 dX0_2_0 dX0_2_1 dT0_3 dX0_3_0 dX0_3_1:Tok} {dE0 dN0_0 dN0_1 dN0_2 dN0_3:Nat}
  (dQ0:PySem.W.nsIn K mainGlobals "STEPS" = some (some (.ref dA0))) (dR0:K.lookup dA0=some ⟨.type "dict",none,.dict #[⟨PyData.keyHash w.params "e",.str "e" dT0_0,.ref dB0_0⟩,⟨PyData.keyHash w.params "n",.str "n" dT0_1,.ref dB0_1⟩,⟨PyData.keyHash w.params "w",.str "w" dT0_2,.ref dB0_2⟩,⟨PyData.keyHash w.params "s",.str "s" dT0_3,.ref dB0_3⟩] dE0,#[]⟩) (dU0:(dA0==sysModules)=false)
  (dS0_0:K.lookup dB0_0=some ⟨.type "tuple",none,.seq #[.int 1 dX0_0_0,.int 0 dX0_0_1] dN0_0,#[]⟩)
  (dS0_1:K.lookup dB0_1=some ⟨.type "tuple",none,.seq #[.int 0 dX0_1_0,.int 1 dX0_1_1] dN0_1,#[]⟩)
  (dS0_2:K.lookup dB0_2=some ⟨.type "tuple",none,.seq #[.int (-1) dX0_2_0,.int 0 dX0_2_1] dN0_2,#[]⟩)
  (dS0_3:K.lookup dB0_3=some ⟨.type "tuple",none,.seq #[.int 0 dX0_3_0,.int (-1) dX0_3_1] dN0_3,#[]⟩)
  {dA1:Addr} {dT1_0 dX1_0 dT1_1 dX1_1 dT1_2 dX1_2 dT1_3 dX1_3:Tok} {dE1:Nat}
  (dQ1:PySem.W.nsIn K mainGlobals "OPPOSITES" = some (some (.ref dA1))) (dR1:K.lookup dA1=some ⟨.type "dict",none,.dict #[⟨PyData.keyHash w.params "e",.str "e" dT1_0,.str "w" dX1_0⟩,⟨PyData.keyHash w.params "n",.str "n" dT1_1,.str "s" dX1_1⟩,⟨PyData.keyHash w.params "w",.str "w" dT1_2,.str "e" dX1_2⟩,⟨PyData.keyHash w.params "s",.str "s" dT1_3,.str "n" dX1_3⟩] dE1,#[]⟩) (dU1:(dA1==sysModules)=false)
  : ∃fd:FuncData,(∀(s:Shared) (v:Value),BindsTo s fd ⟨[v],[]⟩ [("_law_script",v)])/\∀base:Heap,K.In base->base.Ns mainGlobals mg->nO l.prog w K mg base yR 6 fa fd ["_law_script"] (o9 K uK):=by
 have F31:=Jp (st:=qG) l31 c31 k31
 have T:Tx K mg w:=⟨q0,q1,q2,q3,q4,q5,q6,q7,q8,q9,q10,q11,q12,q13,q14,q15,q16,q17,q18,q19,q20,q21,q22,q23,q24,q25,q26,q27,q28,q29,q30,PySem.W.mg_none_of X G z0,PySem.W.mg_none_of X G z1,PySem.W.mg_none_of X G z2,PySem.W.mg_none_of X G z3,PySem.W.mg_none_of X G z4,PySem.W.mg_none_of X G z5,PySem.W.mg_none_of X G z6,PySem.W.mg_none_of X G z7,PySem.W.mg_none_of X G z8,PySem.W.mg_none_of X G z9,PySem.W.mg_none_of X G z10,PySem.W.mg_none_of X G z11,PySem.W.mg_none_of X G z12,⟨_,PySem.W.mg_of X G dQ0,⟨⟨_,_,_,dR0,⟨rfl,rfl,rfl⟩,rfl,.cons (.tupI ⟨_,_,_,dS0_0,rfl,rfl,(by show 2<=sizeLine;decide),.cons ⟨_,rfl⟩ (.cons ⟨_,rfl⟩ (.nil))⟩) (.cons (.tupI ⟨_,_,_,dS0_1,rfl,rfl,(by show 2<=sizeLine;decide),.cons ⟨_,rfl⟩ (.cons ⟨_,rfl⟩ (.nil))⟩) (.cons (.tupI ⟨_,_,_,dS0_2,rfl,rfl,(by show 2<=sizeLine;decide),.cons ⟨_,rfl⟩ (.cons ⟨_,rfl⟩ (.nil))⟩) (.cons (.tupI ⟨_,_,_,dS0_3,rfl,rfl,(by show 2<=sizeLine;decide),.cons ⟨_,rfl⟩ (.cons ⟨_,rfl⟩ (.nil))⟩) (.nil))))⟩,by decide,dU0⟩⟩,⟨_,PySem.W.mg_of X G dQ1,⟨⟨_,_,_,dR1,⟨rfl,rfl,rfl⟩,rfl,.cons (.str _ _) (.cons (.str _ _) (.cons (.str _ _) (.cons (.str _ _) (.nil))))⟩,by decide,dU1⟩⟩,⟨_,PySem.W.mg_of X G y0⟩⟩
 have e:=hfa.symm.trans (PySem.W.mg_of X G a31)
 cases e
 refine⟨PySem.W.fnOf "law" "law" (aQ qG) (aN qG) (az qG) .none kV31 dc31 pm31 an31 cd31 ct31,fun s v=>.of_eq rfl,fun base _ _=>?_⟩
 exact X7 T F31
end Law
open PySem PySem.W PyProof.Rows
set_option maxRecDepth 100000 in
set_option maxHeartbeats 0 in
theorem PySem.Challenge.cw_borderfloor_k18_whole_borders_turned_holds : PySem.Challenge.rw_borderfloor_k18_whole_borders_turned.Holds := by
 w_on;o_law
 refine holds_open (r:=OpenLaw.row PySem.Challenge.rw_borderfloor_k18_whole_borders_turned) (q:=Law.vw) (loose:=Law.lo) (Xt:=Law.xT) (XP:=XL Law.vw []) (YP:=(PySem.W.kmHook Law.K0 Law.kA Law.kE [293]).says)
  (N:=20100) Law.ld (Hook.of _) (Hook.keeps _) (fun s z=>xl_of s (Bool.and_eq_true_iff.mp z).1) XL.keeps (by rfl) (by rfl) (by rfl) (fun s z=>recFacts_of (Bool.and_eq_true_iff.mp z).2) (by rfl) (by assumption)
  (by decide +kernel) ⟨rfl,rfl,rfl,rfl,rfl,by decide +kernel⟩ ?hw ?hc
 case hw=>w_witness2
 k_fill
 refine' L3.Tq (l:=PySem.Challenge.rw_borderfloor_k18_whole_borders_turned) (n:=63) (k:=6) (x := "_law_script") (xt := "_law_piece") (sp:=Law.uK) rfl (by decide) rfl ⟨rfl,by decide,by decide⟩ (fun w h Y=>PySem.W.km_in_of Y) ?R ?T ?B ?NB ?NT ?F ?S
 case R=>rfl
 case T=>
  intro w
  refine' L3.R4 ?h1 ?h2 ?h3 ?h4 ?h5
  (case h1=>k_is)
  (case h2=>k_is)
  (case h3=>rfl)
  (case h4=>k_is)
  (case h5=>rfl)
 case B=>intro w;k_is
 case NB=>intro w;kernel_rfl
 case NT=>intro w;kernel_rfl
 case F=>
  intro w mg fa h KX G hmg
  refine' Law.all_mk KX G hmg (L3.cJ KX G ?a0 ?l0 ?c0 ?k0 Law.Hq) (L3.cJ KX G ?a1 ?l1 ?c1 ?k1 Law.DG) (L3.cJ KX G ?a2 ?l2 ?c2 ?k2 Law.T9) (L3.cJ KX G ?a3 ?l3 ?c3 ?k3 Law.O2) (L3.cJ KX G ?a4 ?l4 ?c4 ?k4 Law.vX) (L3.cJ KX G ?a5 ?l5 ?c5 ?k5 Law.zu) (L3.cJ KX G ?a6 ?l6 ?c6 ?k6 Law.N6) (L3.cJ KX G ?a7 ?l7 ?c7 ?k7 Law.BR) (L3.cJ KX G ?a8 ?l8 ?c8 ?k8 Law.u9) (L3.cJ KX G ?a9 ?l9 ?c9 ?k9 Law.yo) (L3.cJ KX G ?a10 ?l10 ?c10 ?k10 Law.Fe) (L3.cJ KX G ?a11 ?l11 ?c11 ?k11 Law.Hz) (L3.cJ KX G ?a12 ?l12 ?c12 ?k12 Law.Ds) (L3.cJ KX G ?a13 ?l13 ?c13 ?k13 Law.pG) (L3.cJ KX G ?a14 ?l14 ?c14 ?k14 Law.Ck) (L3.cJ KX G ?a15 ?l15 ?c15 ?k15 Law.u5) (L3.cJ KX G ?a16 ?l16 ?c16 ?k16 Law.qJ) (L3.cJ KX G ?a17 ?l17 ?c17 ?k17 Law.uR) (L3.cJ KX G ?a18 ?l18 ?c18 ?k18 Law.vW) (L3.cJ KX G ?a19 ?l19 ?c19 ?k19 Law.Cy) (L3.cJ KX G ?a20 ?l20 ?c20 ?k20 Law.CK) (L3.cJ KX G ?a21 ?l21 ?c21 ?k21 Law.En) (L3.cJ KX G ?a22 ?l22 ?c22 ?k22 Law.Mm) (L3.cJ KX G ?a23 ?l23 ?c23 ?k23 Law.Jq) (L3.cJ KX G ?a24 ?l24 ?c24 ?k24 Law.Nk) (L3.cJ KX G ?a25 ?l25 ?c25 ?k25 Law.Hj) (L3.cJ KX G ?a26 ?l26 ?c26 ?k26 Law.HD) (L3.cJ KX G ?a27 ?l27 ?c27 ?k27 Law.Jh) (L3.cJ KX G ?a28 ?l28 ?c28 ?k28 Law.zj) (L3.cJ KX G ?a29 ?l29 ?c29 ?k29 Law.Gz) (L3.cJ KX G ?a30 ?l30 ?c30 ?k30 Law.qQ) ?a31 ?l31 ?c31 ?k31 ?z0 ?z1 ?z2 ?z3 ?z4 ?z5 ?z6 ?z7 ?z8 ?z9 ?z10 ?z11 ?z12 ?y0 ?dQ0 ?dR0 ?dU0 ?dS0_0 ?dS0_1 ?dS0_2 ?dS0_3 ?dQ1 ?dR1 ?dU1
  (case a0=>k_is)
  (case l0=>k_is)
  (case c0=>k_is)
  (case k0=>k_is)
  (case a1=>k_is)
  (case l1=>k_is)
  (case c1=>k_is)
  (case k1=>k_is)
  (case a2=>k_is)
  (case l2=>k_is)
  (case c2=>k_is)
  (case k2=>k_is)
  (case a3=>k_is)
  (case l3=>k_is)
  (case c3=>k_is)
  (case k3=>k_is)
  (case a4=>k_is)
  (case l4=>k_is)
  (case c4=>k_is)
  (case k4=>k_is)
  (case a5=>k_is)
  (case l5=>k_is)
  (case c5=>k_is)
  (case k5=>k_is)
  (case a6=>k_is)
  (case l6=>k_is)
  (case c6=>k_is)
  (case k6=>k_is)
  (case a7=>k_is)
  (case l7=>k_is)
  (case c7=>k_is)
  (case k7=>k_is)
  (case a8=>k_is)
  (case l8=>k_is)
  (case c8=>k_is)
  (case k8=>k_is)
  (case a9=>k_is)
  (case l9=>k_is)
  (case c9=>k_is)
  (case k9=>k_is)
  (case a10=>k_is)
  (case l10=>k_is)
  (case c10=>k_is)
  (case k10=>k_is)
  (case a11=>k_is)
  (case l11=>k_is)
  (case c11=>k_is)
  (case k11=>k_is)
  (case a12=>k_is)
  (case l12=>k_is)
  (case c12=>k_is)
  (case k12=>k_is)
  (case a13=>k_is)
  (case l13=>k_is)
  (case c13=>k_is)
  (case k13=>k_is)
  (case a14=>k_is)
  (case l14=>k_is)
  (case c14=>k_is)
  (case k14=>k_is)
  (case a15=>k_is)
  (case l15=>k_is)
  (case c15=>k_is)
  (case k15=>k_is)
  (case a16=>k_is)
  (case l16=>k_is)
  (case c16=>k_is)
  (case k16=>k_is)
  (case a17=>k_is)
  (case l17=>k_is)
  (case c17=>k_is)
  (case k17=>k_is)
  (case a18=>k_is)
  (case l18=>k_is)
  (case c18=>k_is)
  (case k18=>k_is)
  (case a19=>k_is)
  (case l19=>k_is)
  (case c19=>k_is)
  (case k19=>k_is)
  (case a20=>k_is)
  (case l20=>k_is)
  (case c20=>k_is)
  (case k20=>k_is)
  (case a21=>k_is)
  (case l21=>k_is)
  (case c21=>k_is)
  (case k21=>k_is)
  (case a22=>k_is)
  (case l22=>k_is)
  (case c22=>k_is)
  (case k22=>k_is)
  (case a23=>k_is)
  (case l23=>k_is)
  (case c23=>k_is)
  (case k23=>k_is)
  (case a24=>k_is)
  (case l24=>k_is)
  (case c24=>k_is)
  (case k24=>k_is)
  (case a25=>k_is)
  (case l25=>k_is)
  (case c25=>k_is)
  (case k25=>k_is)
  (case a26=>k_is)
  (case l26=>k_is)
  (case c26=>k_is)
  (case k26=>k_is)
  (case a27=>k_is)
  (case l27=>k_is)
  (case c27=>k_is)
  (case k27=>k_is)
  (case a28=>k_is)
  (case l28=>k_is)
  (case c28=>k_is)
  (case k28=>k_is)
  (case a29=>k_is)
  (case l29=>k_is)
  (case c29=>k_is)
  (case k29=>k_is)
  (case a30=>k_is)
  (case l30=>k_is)
  (case c30=>k_is)
  (case k30=>k_is)
  (case a31=>k_is)
  (case l31=>k_is)
  (case c31=>k_is)
  (case k31=>k_is)
  (case z0=>k_is)
  (case z1=>k_is)
  (case z2=>k_is)
  (case z3=>k_is)
  (case z4=>k_is)
  (case z5=>k_is)
  (case z6=>k_is)
  (case z7=>k_is)
  (case z8=>k_is)
  (case z9=>k_is)
  (case z10=>k_is)
  (case z11=>k_is)
  (case z12=>k_is)
  (case y0=>k_is)
  (case dQ0=>k_is)
  (case dR0=>k_is)
  (case dU0=>rfl)
  (case dS0_0=>k_is)
  (case dS0_1=>k_is)
  (case dS0_2=>k_is)
  (case dS0_3=>k_is)
  (case dQ1=>k_is)
  (case dR1=>k_is)
  (case dU1=>rfl)
 case S=>exact fun H ns hl h=>Law.Pa hl h
end
