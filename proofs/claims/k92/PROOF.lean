import PyProof.Rows.All
import Flt.Gen
import KE.KIntText
import KE.IntBitsLaws
import KE.KIsAll
import KE.KUnpack
import PySem.Challenge.RW_steermill_k92_refused_rows
set_option Elab.async false
set_option linter.all false
set_option maxRecDepth 100000
namespace L2
open PySem PySem.Spec PyProof.Rows
noncomputable def defArgs (s:Stmt):Arguments:=match s with
 | .FunctionDef _ a _ _ _ _ _ _ _ _=>a
 | _=>{ posonlyargs:=[],args:=[],vararg:=none,kwonlyargs:=[],kw_defaults:=[],kwarg:=none,defaults:=[] }
noncomputable def defBody (s:Stmt):List Stmt:=match s with
 | .FunctionDef _ _ b _ _ _ _ _ _ _=>b
 | _=>[]
noncomputable def defScope (s:Stmt):Scope:=match s with
 | .FunctionDef _ _ _ _ _ _ sc _ _ _=>sc
 | _=>{ kind:=.function,names:=[],isGenerator:=false,isCoroutine:=false }
noncomputable def fragFrom:Nat→List Obj→PySem.W.Frag
 | _,[]=>[]
 | i,o :: r=>match o.data with
  | .freed=>fragFrom (i + 1) r
  | _=>(i,o) :: fragFrom (i + 1) r
noncomputable def fragH (h:Heap):PySem.W.Frag:=fragFrom 0 h.objs.toList
noncomputable def fnSh (K:PySem.W.Frag) (x:Str):Option (FuncData×Bool×Bool):=match PySem.W.nsIn K mainGlobals x with
 | some (some (.ref f))=>(match K.lookup f with
  | some ⟨_,_,.func fd,_⟩=>some ({ fd with kwdefaults:=.none,doc:=.none,pyModule:=.none,annotations:=none,code:=.none,closureTuple:=.none },PySem.W.codeIn K fd.code x,PySem.W.keepIn K (.ref f))
  | _=>none)
 | _=>none
noncomputable def fnEx (x:Str) (st:Stmt):Option (FuncData×Bool×Bool):=some (PySem.W.fnOf x x (defArgs st) (defBody st) (defScope st) .none .none .none .none none .none .none,true,true)
noncomputable def ctSh (K:PySem.W.Frag) (x:Str):Option Int:=match PySem.W.nsIn K mainGlobals x with
 | some (some (.int i _))=>some i
 | _=>none
noncomputable def lawOnly (p:Program):Program:={ p with main:={ p.main with body:=p.main.body.filter fun st=>match st with
 | .FunctionDef n ..=>n == ("law" : Str)
 | _=>false } }
noncomputable def looseOf (p:Program):List Str:=(p.main.scope.names.map (·.1)).filter fun n=>!(n == ("law" : Str))
noncomputable def runT (p:Program) (N:Nat) (w:World) (os:OsState):Option Shared :=
 PySem.W.Fast.tw14082659384304107361 PySem.W.Fast.tw14364793385576792824 p w 11 (some (.ref 6)) N ⟨PySem.W.boot_heap w.params,#[],PySem.W.boot_drawn,PySem.W.boot_toks,os⟩ (PySem.W.topStub p)
noncomputable def statT (p:Program) (w:World) (s₁:Shared):Bool:=PySem.W.staticsOk (importedModules p.main.body) (PySem.W.boot_heap w.params) s₁.heap && PySem.W.namesBound p s₁.heap && PySem.W.gensDone s₁ && PySem.W.laidKept (PySem.W.boot_heap w.params) s₁.heap
noncomputable def seenT (p:Program) (s:Shared):=PySem.W.Fast.tw4187177175401517315 (lawOnly p) (looseOf p) (importedModules p.main.body) (fun _=>true) true s
noncomputable def adSh (K:PySem.W.Frag) (x:Str):Option Addr:=match PySem.W.nsIn K mainGlobals x with
 | some (some (.ref a))=>some a
 | _=>none
noncomputable def stSh (K:PySem.W.Frag) (x:Str):Option Str:=match PySem.W.nsIn K mainGlobals x with
 | some (some (.str s _))=>some s
 | _=>none
noncomputable def mtSh (K:PySem.W.Frag) (C:Addr) (m qual:Str):Option (FuncData×Bool×Bool×Bool):=match PySem.W.findIn K (.ref C) m with
 | some (some (.ref f))=>(match K.lookup f with
  | some ⟨_,_,.func fd,_⟩=>some ({ fd with kwdefaults:=.none,doc:=.none,pyModule:=.none,annotations:=none,code:=.none,closureTuple:=.none },PySem.W.codeIn K fd.code qual,PySem.W.keepIn K (.ref f),PySem.W.isFn K (.ref f))
  | _=>none)
 | _=>none
noncomputable def mtEx (m qual:Str) (st:Stmt):Option (FuncData×Bool×Bool×Bool):=some (PySem.W.fnOf m qual (defArgs st) (defBody st) (defScope st) .none .none .none .none none .none .none,true,true,true)
noncomputable def keySh:Value→Option Str
 | .str s _=>some s
 | _=>none
noncomputable def intSh:Value→Option Int
 | .int i _=>some i
 | _=>none
noncomputable def dcSh (K:PySem.W.Frag) (x:Str):Option (Value×Option Addr×Array (Option Value)×List (Int×Option Str×Option Int)×Bool):=match adSh K x with
 | some a=>(match K.lookup a with
  | some ⟨c,d,.dict es _,sl⟩=>some (c,d,sl,es.toList.map (fun e=>(e.hash,keySh e.key,intSh e.val)),a == sysModules)
  | _=>none)
 | none=>none
noncomputable def dcEx (w:World) (l:List (Str×Int)):Option (Value×Option Addr×Array (Option Value)×List (Int×Option Str×Option Int)×Bool):=some (.type "dict",none,#[],l.map (fun p=>(hashStr w p.1,some p.1,some p.2)),false)
noncomputable def tuSh (K:PySem.W.Frag) (x:Str):Option (Value×List (Option Int)×Bool):=match adSh K x with
 | some a=>(match K.lookup a with
  | some ⟨c,_,.seq its _,_⟩=>some (c,its.toList.map intSh,Nat.ble its.size 1000)
  | _=>none)
 | none=>none
end L2
namespace KL
open PySem PySem.Spec PyProof.Rows L2
set_option maxHeartbeats 4000000
noncomputable def top (i:Nat):Stmt:=PySem.Challenge.pw_steermill_k92_refused_rows.main.body.getD i (.Pass ⟨0,0,0,0⟩)
noncomputable def mth (i j:Nat):Stmt:=match top i with | .ClassDef _ _ _ body _ _ _ _ _ _ _=>body.getD j (.Pass ⟨0,0,0,0⟩) | s=>s
noncomputable abbrev yq:Stmt:=top 7
noncomputable abbrev jq:Stmt:=top 8
noncomputable abbrev jz:Stmt:=top 9
noncomputable abbrev Zf:Stmt:=top 10
noncomputable abbrev QM:Stmt:=top 12
noncomputable abbrev qW:Stmt:=top 14
noncomputable abbrev jo:Stmt:=top 15
noncomputable abbrev xF:Stmt:=top 16
noncomputable abbrev yn:Stmt:=top 18
noncomputable abbrev qb:Stmt:=top 28
noncomputable abbrev Yu:Stmt:=top 32
noncomputable abbrev jS:Stmt:=top 41
noncomputable abbrev qe:Stmt:=top 42
noncomputable abbrev qh:Stmt:=top 44
noncomputable abbrev zdB:Stmt:=top 45
noncomputable abbrev xj:Stmt:=top 92
noncomputable abbrev yU:Stmt:=top 93
noncomputable abbrev xp:Stmt:=top 94
noncomputable abbrev xv:Stmt:=top 95
noncomputable abbrev yz:Stmt:=top 96
noncomputable abbrev yY:Stmt:=top 97
noncomputable abbrev xq:Stmt:=top 98
noncomputable abbrev jA:Stmt:=top 108
noncomputable abbrev yW:Stmt:=top 109
noncomputable abbrev jX:Stmt:=top 110
noncomputable abbrev xL:Stmt:=top 111
noncomputable abbrev yV:Stmt:=top 112
noncomputable abbrev xI:Stmt:=top 113
noncomputable abbrev yM:Stmt:=top 114
noncomputable abbrev xK:Stmt:=top 115
noncomputable abbrev jn:Stmt:=top 118
noncomputable abbrev yE:Stmt:=top 119
noncomputable abbrev xV:Stmt:=top 120
noncomputable abbrev xl:Stmt:=top 121
noncomputable abbrev xN:Stmt:=top 122
noncomputable abbrev yT:Stmt:=top 123
noncomputable abbrev yL:Stmt:=top 124
noncomputable abbrev yN:Stmt:=top 125
noncomputable abbrev jD:Stmt:=top 126
noncomputable abbrev yZ:Stmt:=top 127
noncomputable abbrev zdN:Stmt:=top 128
noncomputable abbrev xH:Stmt:=mth 116 0
noncomputable abbrev jm:Stmt:=mth 116 1
noncomputable abbrev zZ:Stmt:=mth 116 2
noncomputable abbrev yh:Stmt:=mth 116 3
noncomputable abbrev zW:Stmt:=mth 116 4
noncomputable abbrev yK:Stmt:=mth 116 6
noncomputable abbrev yC:Stmt:=mth 116 8
noncomputable abbrev hx (x:Str) (s:Stmt):Str×Stmt:=(x,s)
noncomputable abbrev hm (x y:Str) (s:Stmt):Str×Str×Stmt:=(x,y,s)
noncomputable def hdX:List (Str×Stmt):=[hx "_law_is_prime" yE,hx "_law_kind" xV,hx "common_divisor" yq,hx "fraction" jq,hx "number" Zf,hx "show_whole" xj,hx "show_number" yU,hx "show_table" xp,hx "read_whole" xv,hx "read_fraction" yz,hx "read_number" yY,hx "read_table" xq,hx "words_of" jA,hx "names_among" yW,hx "is_name" jX,hx "read_kind" xL,hx "read_tables" yV,hx "has_sizes" xI,hx "read_machine" yM,hx "are_alike" xK,hx "one_over" jz,hx "over" QM,hx "scaled" qW,hx "quotient" jo,hx "whole_sum" xF,hx "sum_of_products" yn,hx "image" Yu,hx "abreast" qb,hx "leading" jS,hx "next_of" qe,hx "seen_of" qh,hx "run" zdB,hx "_law_said" xN,hx "_law_mix" jn,hx "_law_names" xl,hx "_law_no_row" yT,hx "_law_no_name" yL,hx "_law_no_text" yN,hx "_law_row" jD,hx "_law_looked" yZ,hx "law" zdN]
noncomputable def hdM:List (Str×Str×Stmt):=[hm "refuse_names" "Desk.refuse_names" zZ,hm "change_kind" "Desk.change_kind" yh,hm "keep_machine" "Desk.keep_machine" zW,hm "tell_run" "Desk.tell_run" yC,hm "tell_of" "Desk.tell_of" yK,hm "say" "Desk.say" jm,hm "__init__" "Desk.__init__" xH]
noncomputable def hdY:List Str:=["ValueError", "abs", "all", "any", "enumerate", "int", "isinstance", "len", "list", "range", "str", "sum", "tuple", "zip"]
noncomputable def hdS:List (Str×Str):=[("STROKE", "/"),("BETWEEN_ROWS", "; "),("BETWEEN_NUMBERS", " "),("FIGURES", "0123456789"),("LETTERS", "abcdefghijklmnopqrstuvwxyz"),("BETWEEN_TEXTS", " | ")]
noncomputable def hdI:List (Str×Int):=[("MOST_FIGURES",20),("MOST_ROWS",12),("MOST_COLUMNS",12),("MOST_LETTERS",8),("MOST_NUMBERS",5),("MOST_HANDS",3),("MOST_SIGHTS",3)]
noncomputable def knL:List Int:=[0,2,3,5,7,11,13,17,19,23,29,31,37,41,43,47,53,59,61,67,71,73,79,83,89,97]
noncomputable def fbL:List (Str×Int):=[("kind",1),("steered",1),("unseen",1),("rest",1),("core",2),("alike",2),("machine",2),("run",2)]
noncomputable abbrev ClT:Type:=List Bool×List (Option (Option Value))×List (Option Bool)×Option Value×List (Option (FuncData×Bool×Bool×Bool))
noncomputable def clAt (K:PySem.W.Frag) (C CR CN CT CB B:Addr):ClT:=([PySem.W.excIn K CR [Value.type "ValueError",Value.type "Exception",Value.type "BaseException",Value.type "object"] "ValueError.__new__",PySem.W.excIn K CN [Value.type "ValueError",Value.type "Exception",Value.type "BaseException",Value.type "object"] "ValueError.__new__",PySem.W.excIn K CT [Value.type "ValueError",Value.type "Exception",Value.type "BaseException",Value.type "object"] "ValueError.__new__",PySem.W.plainGet K C Str.empty,PySem.W.hasDictIn K C,PySem.W.plainOver K C,PySem.W.makesIn K C,PySem.W.keepIn K (.ref C)],[PySem.W.findIn K (.ref CR) "__getattribute__",PySem.W.findIn K (.ref CR) "__getattr__",PySem.W.findIn K (.ref CR) "__class__",PySem.W.findIn K (.ref CN) "__getattribute__",PySem.W.findIn K (.ref CN) "__getattr__",PySem.W.findIn K (.ref CN) "__class__",PySem.W.findIn K (.ref CT) "__getattribute__",PySem.W.findIn K (.ref CT) "__getattr__",PySem.W.findIn K (.ref CT) "__class__",PySem.W.specialIn K (.builtin "object.__class__") "__get__",PySem.W.findIn K (.ref C) "__setattr__",PySem.W.findIn K (.ref C) "kind",PySem.W.findIn K (.ref C) "machines"],[PySem.W.takesIn K (.builtin "object.__class__"),PySem.W.mroIn K B (.type "BaseException"),PySem.W.mroIn K CR (.type "BaseException"),PySem.W.mroIn K CR (.type "object"),PySem.W.mroIn K CR (.ref B),PySem.W.kitOne K (.ref CR) (.ref CR),PySem.W.kitOne K (.ref CR) (.ref CN),PySem.W.kitOne K (.ref CR) (.ref CT),PySem.W.kitOne K (.ref CR) (.ref CB),PySem.W.kitOne K (.ref CR) (.type "ValueError"),PySem.W.mroIn K CN (.type "BaseException"),PySem.W.mroIn K CN (.type "object"),PySem.W.mroIn K CN (.ref B),PySem.W.kitOne K (.ref CN) (.ref CR),PySem.W.kitOne K (.ref CN) (.ref CN),PySem.W.kitOne K (.ref CN) (.ref CT),PySem.W.kitOne K (.ref CN) (.ref CB),PySem.W.kitOne K (.ref CN) (.type "ValueError"),PySem.W.mroIn K CT (.type "BaseException"),PySem.W.mroIn K CT (.type "object"),PySem.W.mroIn K CT (.ref B),PySem.W.kitOne K (.ref CT) (.ref CR),PySem.W.kitOne K (.ref CT) (.ref CN),PySem.W.kitOne K (.ref CT) (.ref CT),PySem.W.kitOne K (.ref CT) (.ref CB),PySem.W.kitOne K (.ref CT) (.type "ValueError")],PySem.W.typeIn K (.ref B),hdM.map fun m=>mtSh K C m.1 m.2.1)
noncomputable def clEx:ClT:=([true,true,true,true,true,true,true,true],[some (some (.builtin "BaseException.__getattribute__")),some none,some (some (.builtin "object.__class__")),some (some (.builtin "BaseException.__getattribute__")),some none,some (some (.builtin "object.__class__")),some (some (.builtin "BaseException.__getattribute__")),some none,some (some (.builtin "object.__class__")),some (some (.builtin "getset_descriptor.__get__")),some (some (.builtin "object.__setattr__")),some none,some none],[some true,some true,some true,some true,some true,some true,some false,some false,some false,some true,some true,some true,some true,some false,some true,some false,some false,some true,some true,some true,some true,some false,some false,some true,some false,some true],some (.type "type"),hdM.map fun m=>mtEx m.1 m.2.1 m.2.2)
noncomputable def clSh (K:PySem.W.Frag):Option ClT:=match adSh K "Desk",adSh K "NoRow",adSh K "NoName",adSh K "NoText",adSh K "NoBack",adSh K "MillError" with
 | some C,some CR,some CN,some CT,some CB,some B=>some (clAt K C CR CN CT CB B)
 | _,_,_,_,_,_=>none
noncomputable abbrev LkT:Type:=List (Option (FuncData×Bool×Bool))×List (Option (Option Value))×List (Option Str)×List (Option Int)×Option ClT×Option (Value×Option Addr×Array (Option Value)×List (Int×Option Str×Option Int)×Bool)×Option (Value×List (Option Int)×Bool)
noncomputable def lk (K:PySem.W.Frag):LkT:=(hdX.map fun x=>fnSh K x.1,hdY.map (PySem.W.nsIn K mainGlobals),hdS.map (fun x=>stSh K x.1),hdI.map (fun x=>ctSh K x.1),clSh K,dcSh K "FOLLOWED_BY",tuSh K "KINDS")
noncomputable def lv (w:World):LkT:=(hdX.map fun x=>fnEx x.1 x.2,hdY.map fun _=>some none,hdS.map (fun x=>some x.2),hdI.map (fun x=>some x.2),some clEx,dcEx w fbL,some (.type "tuple",knL.map some,true))
noncomputable def fR:String := "special-get-raises"
theorem h_ws:PySem.W.Fast.tw9446332074065402090 PySem.Challenge.rw_steermill_k92_refused_rows = true:=by kernel_rfl
theorem zdd (w:World) (os:OsState):(runT PySem.Challenge.rw_steermill_k92_refused_rows.prog 5000 (w.withFollow fR true) os).map (statT PySem.Challenge.rw_steermill_k92_refused_rows.prog (w.withFollow fR true)) = some true:=by kernel_rfl
theorem zcT (w:World) (os:OsState):(runT PySem.Challenge.rw_steermill_k92_refused_rows.prog 5000 (w.withFollow fR true) os).map (seenT PySem.Challenge.rw_steermill_k92_refused_rows.prog) = some (PySem.W.openGood (lawOnly PySem.Challenge.rw_steermill_k92_refused_rows.prog) (looseOf PySem.Challenge.rw_steermill_k92_refused_rows.prog)):=by kernel_rfl
theorem zbU (w:World) (os:OsState):(runT PySem.Challenge.rw_steermill_k92_refused_rows.prog 5000 (w.withFollow fR true) os).map (fun s=>lk (fragH s.heap)) = some (lv (w.withFollow fR true)):=by kernel_rfl
theorem zaS (w:World) (os:OsState):(runT PySem.Challenge.rw_steermill_k92_refused_rows.prog 5000 (w.withFollow fR false) os).map (statT PySem.Challenge.rw_steermill_k92_refused_rows.prog (w.withFollow fR false)) = some true:=by kernel_rfl
theorem zaM (w:World) (os:OsState):(runT PySem.Challenge.rw_steermill_k92_refused_rows.prog 5000 (w.withFollow fR false) os).map (seenT PySem.Challenge.rw_steermill_k92_refused_rows.prog) = some (PySem.W.openGood (lawOnly PySem.Challenge.rw_steermill_k92_refused_rows.prog) (looseOf PySem.Challenge.rw_steermill_k92_refused_rows.prog)):=by kernel_rfl
theorem zbg (w:World) (os:OsState):(runT PySem.Challenge.rw_steermill_k92_refused_rows.prog 5000 (w.withFollow fR false) os).map (fun s=>lk (fragH s.heap)) = some (lv (w.withFollow fR false)):=by kernel_rfl
end KL
set_option Elab.async false
set_option linter.all false
set_option maxRecDepth 100000
namespace L2
open PySem PySem.Spec PyProof.Rows
noncomputable abbrev Key:=Sum Int Str
noncomputable def keyIs:Key→Value→Bool
 | .inl k,v=>Value.isInt k v
 | .inr x,v=>Value.isStrOf x v
noncomputable def keyH (w:World):Key→Int
 | .inl k=>hashInt k
 | .inr x=>hashStr w x
theorem zX:∀ {k:Key} {v:Value},keyIs k v = true→(∃ i t,k = Sum.inl i∧v = Value.int i t)∨(∃ x t,k = Sum.inr x∧v = Value.str x t)
 | .inl i,v,h=>by
  obtain ⟨t,e⟩:=Value.isInt_shape (k:=i) (v:=v) h
  exact .inl ⟨i,t,rfl,e⟩
 | .inr x,v,h=>by
  obtain ⟨t,e⟩:=Value.isStrOf_shape (x:=x) (v:=v) h
  exact .inr ⟨x,t,rfl,e⟩
theorem zbY (i:Int) (t:Tok):keyIs (.inl i) (.int i t) = true:=by simp [keyIs,Value.isInt]
theorem zc7 (x:Str) (t:Tok):keyIs (.inr x) (.str x t) = true:=by simp [keyIs,Value.isStrOf]
theorem zgT (a b:Int):decide ((Sum.inl a:Key) = Sum.inl b) = (a == b):=by
 by_cases e:a = b
 ·subst e; simp
 ·have h:¬ (Sum.inl a:Key) = Sum.inl b:=fun q=>e (Sum.inl.inj q)
  rw [decide_eq_false h]
  exact (beq_eq_false_iff_ne.mpr e).symm
theorem zha (a b:Str):decide ((Sum.inr a:Key) = Sum.inr b) = decide (a = b):=by
 by_cases e:a = b
 ·subst e; simp
 ·have h:¬ (Sum.inr a:Key) = Sum.inr b:=fun q=>e (Sum.inr.inj q)
  rw [decide_eq_false h,decide_eq_false e]
theorem zgz (a:Int) (b:Str):decide ((Sum.inl a:Key) = Sum.inr b) = false:=decide_eq_false (fun q=>nomatch q)
theorem zhj (a:Str) (b:Int):decide ((Sum.inr a:Key) = Sum.inl b) = false:=decide_eq_false (fun q=>nomatch q)
noncomputable def mixKind (prog:Program) (w:World):PySem.KeyKind prog w Key where
 is:=keyIs
 hash:=keyH w
 inj:=fun v a b ha hb=>by
  rcases zX ha with ⟨i,t,rfl,rfl⟩ | ⟨x,t,rfl,rfl⟩
  ·rcases zX hb with ⟨j,u,rfl,e⟩ | ⟨y,u,rfl,e⟩
   ·injection e with e1 _; rw [e1]
   ·exact nomatch e
  ·rcases zX hb with ⟨j,u,rfl,e⟩ | ⟨y,u,rfl,e⟩
   ·exact nomatch e
   ·injection e with e1 _; rw [e1]
 byValue:=fun k v h=>by
  rcases zX h with ⟨i,t,rfl,rfl⟩ | ⟨x,t,rfl,rfl⟩ <;> rfl
 pyHash:=fun hv h=>by
  rcases zX hv with ⟨i,t,rfl,rfl⟩ | ⟨x,t,rfl,rfl⟩
  ·exact wpAny_pyHash_int h
  ·exact wpAny_pyHash_str h
 eqBool:=fun hu hv h=>by
  rcases zX hu with ⟨i,t,rfl,rfl⟩ | ⟨x,t,rfl,rfl⟩
  ·rcases zX hv with ⟨j,u,rfl,rfl⟩ | ⟨y,u,rfl,rfl⟩
   ·rw [zgT] at h; exact wpAny_eqBool_int h
   ·rw [zgz] at h; exact SeqAt.EqAt.int_str i t y u _ _ _ _ h
  ·rcases zX hv with ⟨j,u,rfl,rfl⟩ | ⟨y,u,rfl,rfl⟩
   ·rw [zhj] at h; exact SeqAt.EqAt.str_int x t j u _ _ _ _ h
   ·rw [zha] at h; exact wpAny_eqBool_str h
 «strs»:=fun k x t v h=>by
  rcases zX h with ⟨i,u,rfl,e⟩ | ⟨y,u,rfl,e⟩
  ·exact nomatch e
  ·injection e with e1 _
   subst e1
   cases v <;> rfl
theorem Qx (prog:Program) (w:World) (i:Int) (t:Tok):(mixKind prog w).is (.inl i) (.int i t) = true:=zbY i t
theorem ZF (prog:Program) (w:World) (x:Str) (t:Tok):(mixKind prog w).is (.inr x) (.str x t) = true:=zc7 x t
end L2
namespace L2
open PySem PySem.Spec PyProof.Rows
inductive V where
 | non | bl (b:Bool) | int (i:Int) | str (x:Str) | byt (b:Array UInt8) | flt (b:UInt64) | ref (a:Addr) | ty (n:String)
 deriving DecidableEq
noncomputable def RelV:V→Value→Prop
 | .non,u=>u = Value.none
 | .bl b,u=>u = Value.bool b
 | .int i,u=>∃ t,u = Value.int i t
 | .str x,u=>∃ t,u = Value.str x t
 | .byt b,u=>∃ t,u = Value.bytes b t
 | .flt b,u=>∃ t,u = Value.float b t
 | .ref a,u=>u = Value.ref a
 | .ty n,u=>u = Value.type n
noncomputable abbrev Vals:List V→List Value→Prop:=Paired RelV
theorem Vals.length {xs:List V} {us:List Value} (r:Vals xs us):xs.length = us.length:=Paired.length r
theorem Vals.get:∀ {xs:List V} {us:List Value} {i:Nat} {x:V},Vals xs us→xs[i]? = some x→∃ u,us[i]? = some u∧RelV x u
 | _,_,_,_,.nil,e=>by simp at e
 | _,_,0,_,.cons r _,e=>by simp at e; subst e; exact ⟨_,rfl,r⟩
 | _,_,i + 1,x,.cons _ t,e=>by
  obtain ⟨u,h1,h2⟩:=Vals.get (i:=i) (x:=x) t (by simpa using e)
  exact ⟨u,by simpa using h1,h2⟩
theorem Vals.append:∀ {xs ys:List V} {us ws:List Value},Vals xs us→Vals ys ws→Vals (xs ++ ys) (us ++ ws)
 | _,_,_,_,.nil,s=>s
 | _,_,_,_,.cons r t,s=>.cons r (Vals.append t s)
theorem Vals.take:∀ {xs:List V} {us:List Value} (n:Nat),Vals xs us→Vals (xs.take n) (us.take n)
 | _,_,0,_=>.nil
 | _,_,_ + 1,.nil=>.nil
 | _,_,n + 1,.cons r t=>.cons r (Vals.take n t)
theorem Vals.drop:∀ {xs:List V} {us:List Value} (n:Nat),Vals xs us→Vals (xs.drop n) (us.drop n)
 | _,_,0,r=>r
 | _,_,_ + 1,.nil=>.nil
 | _,_,n + 1,.cons _ t=>Vals.drop n t
noncomputable def RelO:Option V→Option Value→Prop
 | some v,some u=>RelV v u
 | none,none=>True
 | _,_=>False
noncomputable def KV {κ:Type}:List (κ×V)→List (κ×Value)→Prop:=Paired fun (p:κ×V) (q:κ×Value)=>p.1 = q.1∧RelV p.2 q.2
noncomputable def kV:Key→V
 | .inl i=>.int i
 | .inr x=>.str x
inductive HO where
 | lst (xs:List V)
 | tup (xs:List V)
 | dK (kvs:List (Key×V)) | dT (kvs:List (List Key×V))
 | set (S:Int→Bool) (n:Nat)
 | ins (C dx:Addr) (fs:List (Str×V))
 | own (x:Addr)
 | xd (fs:List (Str×V))
 | met (f x:Addr)
 | rng (lo hi:Int)
 | frz (o:Obj) (u:HO)
 | tbl (ps:Array Value)
 | ext (φ:Heap→Prop)
noncomputable abbrev Hp:=Addr→Option HO
noncomputable def upd (H:Hp) (a:Addr) (o:HO):Hp:=fun b=>if b = a then some o else H b
theorem zf {H:Hp} {a:Addr} {o:HO}:upd H a o a = some o:=by unfold upd; rw [if_pos rfl]
theorem zw {H:Hp} {a b:Addr} {o:HO} (h:b≠a):upd H a o b = H b:=by unfold upd; rw [if_neg h]
theorem zhK {H:Hp} {a b:Addr} {o u:HO} (h:H a = some o) (h':H b = some u) (d:o≠u):a≠b:=by
 intro e; subst e; rw [h] at h'; exact d (Option.some.inj h')
theorem zB {H:Hp} {a b:Addr} {o:HO} (h:H a = some o) (h':H b = none):a≠b:=by
 intro e; subst e; rw [h] at h'; cases h'
section
variable (P:Program) (w:World)
noncomputable def ObjOk (H:Hp) (h:Heap) (a:Addr):HO→Prop
 | .lst xs=>xs.length≤sizeLine∧∃ (its:List Value) (n:Nat),Vals xs its∧h.get? a = some { cls:=.type "list",data:=.seq its.toArray n }
 | .tup xs=>xs.length≤sizeLine∧∃ its:List Value,Vals xs its∧IsTup h a its.toArray
 | .dK kvs=>kvs.length≤sizeLine∧(a == sysModules) = false∧∃ vs,KV kvs vs∧h.DictOf (mixKind P w) a vs
 | .dT kvs=>kvs.length≤sizeLine∧(a == sysModules) = false∧∃ xs:List (List Key×Addr×Value),
   Paired (fun (p:List Key×V) (q:List Key×Addr×Value)=>p.1 = q.1∧H q.2.1 = some (.tup (p.1.map kV))∧RelV p.2 q.2.2) kvs xs ∧
   ∃ o es ep,h.get? a = some o∧o.ExactDict∧o.data = .dict es ep∧es.toList = xs.map (entryOfKey (tupleKind (mixKind P w)))∧(xs.map (·.1)).Nodup
 | .set S n=>h.SetOf (intKind P w) a S n
 | .ins C dx fs=>H dx = some (.own a)∧fs.length≤1000∧dx≠a∧h.get? a = some (PySem.W.instObj C dx) ∧
   ∃ mA,h.Ns1 dx mA∧(∀ f,RelO (fs.lookup f) (mA f))∧PySem.Within mA (fs.map (·.1))
 | .own _=>∃ o,h.get? a = some o
 | .xd fs=>∃ mA,h.Ns1 a mA∧∀ f,RelO (fs.lookup f) (mA f)
 | .rng lo hi=>∃ t u v,h.get? a = some { cls:=.type "range",data:=.fields #[.int lo t,.int hi u,.int 1 v] }
 | .frz o u=>h.get? a = some o∧ObjOk H h a u
 | .tbl ps=>h.get? a = some { cls:=.none,data:=.fields ps }
 | .met f x=>h.get? a = some (PySem.W.methodObj (.ref f) (.ref x))
 | .ext φ=>φ h∧(∃ o,h.get? a = some o)∧∀ h1 h2:Heap,φ h1→(∀ o,h1.get? a = some o→h2.get? a = some o)→φ h2
noncomputable def HOk (H:Hp) (h:Heap):Prop:=∀ a o,H a = some o→ObjOk P w H h a o
end
section
variable {P:Program} {w:World} {H H':Hp} {h h':Heap} {a:Addr} {o:HO}
theorem ObjOk.lt (x:ObjOk P w H h a o):a < h.objs.size:=by
 cases o with
 | lst xs=>obtain ⟨_,_,_,_,e⟩:=x; exact Heap.lt_size e
 | tup xs=>obtain ⟨_,_,_,p⟩:=x; exact p.lt
 | dK kvs=>obtain ⟨_,_,_,_,o,_,_,e,_⟩:=x; exact Heap.lt_size e
 | dT kvs=>obtain ⟨_,_,_,_,o,_,_,e,_⟩:=x; exact Heap.lt_size e
 | set S n=>obtain ⟨o,_,_,_,e,_⟩:=x; exact Heap.lt_size e
 | ins C dx fs=>obtain ⟨_,_,_,e,_⟩:=x; exact Heap.lt_size e
 | own y=>obtain ⟨_,e⟩:=x; exact Heap.lt_size e
 | xd fs=>obtain ⟨_,⟨_,_,_,e,_⟩,_⟩:=x; exact Heap.lt_size e
 | rng lo hi=>obtain ⟨_,_,_,e⟩:=x; exact Heap.lt_size e
 | frz ob u=>obtain ⟨e,_⟩:=x; exact Heap.lt_size e
 | tbl ps=>exact Heap.lt_size (show h.get? a = some _ from x)
 | met f y=>exact Heap.lt_size (show h.get? a = some _ from x)
 | ext φ=>obtain ⟨_,⟨_,e⟩,_⟩:=x; exact Heap.lt_size e
theorem Paired.mapP {α β:Type} {F G:α→β→Prop}:∀ {l₁:List α} {l₂:List β},Paired F l₁ l₂→(∀ a b,F a b→G a b)→Paired G l₁ l₂
 | _,_,.nil,_=>.nil
 | _,_,.cons r t,f=>.cons (f _ _ r) (Paired.mapP t f)
theorem ObjOk.stay (x:ObjOk P w H h a o) (k:∀ b u,(b = a∨H b = some (.own a))→h.get? b = some u→h'.get? b = some u)
  (ho:∀ b,H b = some (.own a)→H' b = some (.own a)) (ht:∀ b xs,H b = some (.tup xs)→H' b = some (.tup xs)):ObjOk P w H' h' a o:=by
 induction o with
 | lst xs=>obtain ⟨z,its,n,r,e⟩:=x; exact ⟨z,its,n,r,k _ _ (.inl rfl) e⟩
 | tup xs=>obtain ⟨z,its,r,ob,e,c⟩:=x; exact ⟨z,its,r,ob,k _ _ (.inl rfl) e,c⟩
 | dK kvs=>obtain ⟨z,y,vs,r,ob,es,ep,e,c⟩:=x; exact ⟨z,y,vs,r,ob,es,ep,k _ _ (.inl rfl) e,c⟩
 | dT kvs =>
  obtain ⟨z,y,xs,r,ob,es,ep,e,c⟩:=x
  exact ⟨z,y,xs,Paired.mapP r fun p q z=>⟨z.1,ht _ _ z.2.1,z.2.2⟩,ob,es,ep,k _ _ (.inl rfl) e,c⟩
 | set S n=>obtain ⟨ob,es,ep,t,e,c⟩:=x; exact ⟨ob,es,ep,t,k _ _ (.inl rfl) e,c⟩
 | ins C dx fs =>
  obtain ⟨d,z,ne,e,mA,⟨od,es,ep,e2,c⟩,r⟩:=x
  exact ⟨ho _ d,z,ne,k _ _ (.inl rfl) e,mA,⟨od,es,ep,k _ _ (.inr d) e2,c⟩,r⟩
 | own y=>obtain ⟨ob,e⟩:=x; exact ⟨ob,k _ _ (.inl rfl) e⟩
 | xd fs=>obtain ⟨mA,⟨od,es,ep,e,c⟩,r⟩:=x; exact ⟨mA,⟨od,es,ep,k _ _ (.inl rfl) e,c⟩,r⟩
 | rng lo hi=>obtain ⟨t,u,v,e⟩:=x; exact ⟨t,u,v,k _ _ (.inl rfl) e⟩
 | frz ob u ih=>obtain ⟨e,q⟩:=x; exact ⟨k _ _ (.inl rfl) e,ih q⟩
 | tbl ps =>
  have e:h.get? a = some { cls:=.none,data:=.fields ps }:=x
  show h'.get? a = some { cls:=.none,data:=.fields ps }
  exact k a _ (.inl rfl) e
 | met f y =>
  have e:h.get? a = some (PySem.W.methodObj (.ref f) (.ref y)):=x
  show h'.get? a = some (PySem.W.methodObj (.ref f) (.ref y))
  exact k a _ (.inl rfl) e
 | ext φ=>obtain ⟨p,⟨o,e⟩,st⟩:=x; exact ⟨st _ _ p fun o q=>k _ _ (.inl rfl) q,⟨o,k _ _ (.inl rfl) e⟩,st⟩
theorem HOk.lt (x:HOk P w H h) (e:H a = some o):a < h.objs.size:=(x a o e).lt
theorem HOk.fresh (x:HOk P w H h) (e:h.objs.size≤a):H a = none:=by
 cases q:H a with
 | none=>rfl
 | some u=>exact absurd (Nat.lt_of_lt_of_le (x.lt q) e) (Nat.lt_irrefl _)
theorem HOk.kept (x:HOk P w H h) (k:∀ b u,h.get? b = some u→h'.get? b = some u):HOk P w H h':=fun a o e =>
 (x a o e).stay (fun b u _ q=>k b u q) (fun _ q=>q) fun _ _ q=>q
theorem HOk.laid (x:HOk P w H h) (k:∀ b u,h.get? b = some u→h'.get? b = some u) (hp:h.objs.size≤a) (new:ObjOk P w (upd H a o) h' a o):HOk P w (upd H a o) h':=fun b u e=>by
 have hn:=x.fresh hp
 by_cases hb:b = a
 ·subst hb; rw [zf] at e; cases e; exact new
 ·rw [zw hb] at e
  exact (x b u e).stay (fun c v _ q=>k c v q) (fun c q=>by rw [zw (zB q hn)]; exact q) fun c xs q=>by rw [zw (zB q hn)]; exact q
end
noncomputable def Rd (H:Hp) (a:Addr) (u:HO):Prop:=H a = some u∨∃ o,H a = some (.frz o u)
theorem Rd.ok {P:Program} {w:World} {H:Hp} {h:Heap} {a:Addr} {u:HO} (r:Rd H a u) (x:HOk P w H h):ObjOk P w H h a u:=by
 rcases r with r | ⟨o,r⟩
 ·exact x a u r
 ·obtain ⟨_,q⟩:=x a _ r
  exact q
noncomputable def Mut:Option HO→Prop
 | some (.lst _)=>True
 | some (.dK _)=>True
 | some (.dT _)=>True
 | some (.set _ _)=>True
 | some (.ins _ _ _)=>True
 | some (.ext _)=>True
 | _=>False
section
variable {P:Program} {w:World} {H:Hp} {h h':Heap} {x e:Addr} {o':HO}
theorem HOk.write (ok:HOk P w H h) (mu:Mut (H x)) (he:e = x∨H e = some (.own x)) (k:∀ b u,b≠e→h.get? b = some u→h'.get? b = some u) (heo:∃ u,h'.get? e = some u)
  (new:ObjOk P w (upd H x o') h' x o'):HOk P w (upd H x o') h':=fun b u q=>by
 have nown:∀ c y,H c = some (.own y)→c≠x:=fun c y r z=>by subst z; rw [r] at mu; exact mu
 have ntup:∀ c xs,H c = some (.tup xs)→c≠x:=fun c xs r z=>by subst z; rw [r] at mu; exact mu
 by_cases hb:b = x
 ·subst hb; rw [zf] at q; cases q; exact new
 ·rw [zw hb] at q
  by_cases hbe:b = e
  ·have q':H b = some (.own x):=by
    rcases he with z | z
    ·exact absurd (hbe.trans z) hb
    ·rw [hbe]; exact z
   rw [q] at q'; cases q'
   obtain ⟨v,hv⟩:=heo
   exact ⟨v,by rw [hbe]; exact hv⟩
  ·refine (ok b u q).stay (fun c v hc r=>k c v ?_ r) (fun c r=>by rw [zw (nown c b r)]; exact r) fun c xs r=>by rw [zw (ntup c xs r)]; exact r
   rcases hc with rfl | hc
   ·exact hbe
   ·rintro rfl
    rcases he with z | z
    ·exact nown c b hc z
    ·rw [hc] at z; cases z; exact hb rfl
end
structure Un (fs ex:List Addr) (H H':Hp) (h h':Heap):Prop where
 keep:∀ b o,h.get? b = some o→H b = none→b∉fs→b∉ex→h'.get? b = some o
 slot:∀ b o,h.get? b = some o→H b = none→b∈fs→b∉ex→∃ sl,h'.get? b = some { o with slots:=sl }
 free:∀ b o,h.get? b = some o→H b = none→b∉ex→H' b = none
 there:∀ b o,h.get? b = some o→b∉ex→∃ o',h'.get? b = some o'
 tups:∀ b xs,H b = some (.tup xs)→H' b = some (.tup xs)
 frzs:∀ b o u,H b = some (.frz o u)→H' b = some (.frz o u)
 tbls:∀ b ps,H b = some (.tbl ps)→∃ more,H' b = some (.tbl (ps ++ more))
section
variable {fs fs' ex ex':List Addr} {H H1 H2:Hp} {h h1 h2 h':Heap} {a x e:Addr} {o:HO}
theorem Un.any (u:Un fs ex H H1 h h1) {b:Addr} {ob:Obj} (q:h.get? b = some ob) (n:H b = none) (hx:b∉ex):∃ sl,h1.get? b = some { ob with slots:=sl }:=by
 by_cases hb:b∈fs
 ·exact u.slot b ob q n hb hx
 ·exact ⟨ob.slots,u.keep b ob q n hb hx⟩
theorem Un.kept (k:∀ b u,h.get? b = some u→h'.get? b = some u):Un fs ex H H h h' :=
 ⟨fun b ob q _ _ _=>k b ob q,fun b ob q _ _ _=>⟨ob.slots,k b ob q⟩,fun _ _ _ n _=>n,fun b ob q _=>⟨ob,k b ob q⟩,fun _ _ q=>q,fun _ _ _ q=>q,fun _ ps q=>⟨#[],by rw [q]; simp⟩⟩
theorem Un.refl:Un fs ex H H h h:=Un.kept fun _ _ q=>q
theorem Un.laid (k:∀ b u,h.get? b = some u→h'.get? b = some u) (hp:h.objs.size≤a) (hn:H a = none):Un fs ex H (upd H a o) h h' where
 keep:=fun b u q _ _ _=>k b u q
 slot:=fun b u q _ _ _=>⟨u.slots,k b u q⟩
 free:=fun b u q n _=>by rw [zw (Nat.ne_of_lt (Nat.lt_of_lt_of_le (Heap.lt_size q) hp))]; exact n
 there:=fun b u q _=>⟨u,k b u q⟩
 tups:=fun b xs q=>by rw [zw (zB q hn)]; exact q
 frzs:=fun b u xs q=>by rw [zw (zB q hn)]; exact q
 tbls:=fun b ps q=>⟨#[],by rw [zw (zB q hn),q]; simp⟩
theorem Un.write (mu:Mut (H x)) (he:e = x∨H e = some (.own x)) (k:∀ b u,b≠e→h.get? b = some u→h'.get? b = some u) (heo:∃ u,h'.get? e = some u):Un fs ex H (upd H x o) h h':=by
 have hx:∀ b,H b = none→b≠x:=fun b n z=>by subst z; rw [n] at mu; exact mu
 have hb:∀ b,H b = none→b≠e:=fun b n z=>by
  subst z
  rcases he with r | r
  ·exact hx b n r
  ·rw [n] at r; cases r
 have hm:∀ b u,H b = some u→¬ Mut (some u)→b≠x:=fun b u q nm z=>by subst z; rw [q] at mu; exact nm mu
 refine ⟨fun b u q n _ _=>k b u (hb b n) q,fun b u q n _ _=>⟨u.slots,k b u (hb b n) q⟩,fun b u q n _=>by rw [zw (hx b n)]; exact n,fun b u q _=>?_,
  fun b xs q=>by rw [zw (hm b _ q fun z=>z)]; exact q,fun b u xs q=>by rw [zw (hm b _ q fun z=>z)]; exact q,fun b ps q=>⟨#[],by rw [zw (hm b _ q fun z=>z),q]; simp⟩⟩
 by_cases hbe:b = e
 ·subst hbe; exact heo
 ·exact ⟨u,k b u hbe q⟩
end
noncomputable def trk (h:Heap) (H:Hp):List Addr:=(List.range h.objs.size).filter fun a=>(H a).isSome
noncomputable def hidT (h:Heap) (H:Hp):Heap:=PySem.W.hideAll h (trk h H)
theorem zbN (h:Heap) (H:Hp):(hidT h H).objs.size = h.objs.size:=PySem.W.hideAll_size _ _
theorem zeu {h:Heap} {H:Hp} {b:Addr} {o:Obj} (e:h.get? b = some o) (n:H b = none):(hidT h H).get? b = some o :=
 PySem.W.hideAll_get _ e fun hm=>by
  have q:(H b).isSome = true:=(List.mem_filter.mp hm).2
  rw [n] at q; simp at q
theorem zfR {h:Heap} {H:Hp} {b:Addr} {o:Obj} (e:(hidT h H).get? b = some o):h.get? b = some o∧H b = none:=by
 have e':h.get? b = some o:=PySem.W.of_hideAll (trk h H) e
 refine ⟨e',?_⟩
 cases q:H b with
 | none=>rfl
 | some x =>
  have hm:b∈trk h H:=List.mem_filter.mpr ⟨List.mem_range.mpr (Heap.lt_size e'),by simp [q]⟩
  have z:(hidT h H).get? b = none:=PySem.W.hideAll_none (trk h H) hm
  rw [z] at e; cases e
end L2
namespace L2
open PySem PySem.Spec PyProof.Rows
structure Mod (K:PySem.W.Frag) (mg:Str→Option Value) (base:Heap):Prop where
 kin:K.In base
 glob:base.Ns mainGlobals mg
 blt:∃ mb,base.Ns builtinsNs mb∧∀ x:Str,x ≠ "__name__" → mb x = bootBuiltins x
 nolimit:base.NoLimit
structure Cx where
 prog:Program
 w:World
 K:PySem.W.Frag
 mg:Str→Option Value
 base:Heap
 A:Around
 N:List Str
 s₀:Shared
 H₀:Hp
 env:Env
 outer:List Env
 stack:List Env
 ex:List Addr
 fn:Str→Bool
 calm:Bool
 pn:List (Addr×Obj)
 xe:Value→Shared→Prop
noncomputable def frs (l:List Env):List Addr:=l.filterMap (·.frame)
noncomputable abbrev Cx.fs (X:Cx):List Addr:=frs X.outer
noncomputable def Vis (sc:Scope) (x:Str):Prop:=sc.names.lookup x = some .local∨sc.names.lookup x = some .cell∨sc.names.lookup x = some .free
noncomputable def Loc (sc:Scope) (x:Str):Prop:=sc.names.lookup x = some .local∨sc.names.lookup x = some .cell
noncomputable def Look (env:Env) (h:Heap) (m:Str→Option Value) (x:Str) (u:Value):Prop :=
 (env.kindOf x = some .local∧m x = some u)∨((env.kindOf x = some .cell∨env.kindOf x = some .free)∧∃ c,env.cells.lookup x = some c∧h.IsCell c (some u))
structure Cx.Ok (X:Cx):Prop where
 mod:Mod X.K X.mg X.base
 kind:X.env.scope.kind = .function
 glob:X.env.globals = mainGlobals
 blt:X.env.builtins = builtinsNs
 above:X.s₀.heap.objs.size≤X.env.locals
 inj:∀ x y c,X.env.cells.lookup x = some c→X.env.cells.lookup y = some c→x = y
 has:∀ x,(X.env.kindOf x = some .cell∨X.env.kindOf x = some .free)→∃ c,X.env.cells.lookup x = some c
 cab:∀ x c,X.fn x = true→X.env.cells.lookup x = some c→X.s₀.heap.objs.size≤c
 hd:X.calm = true→X.A.handled = none
 frames:X.A.frames = some X.stack
 stk:X.stack = X.outer∨(X.stack = X.env :: X.outer∧X.env.frame = some X.env.locals)
 exf:∀ b∈X.ex,b≠X.env.locals∧∀ x c,X.env.cells.lookup x = some c→c≠b
 bs:∀ b o,X.base.get? b = some o→X.s₀.heap.get? b = some o∧X.H₀ b = none
 bsz:X.base.objs.size≤X.s₀.heap.objs.size
 noex:∀ b o,X.base.get? b = some o→b∉X.ex
 exfs:∀ b∈X.ex,b∉X.fs
 funs:X.s₀.heap.FunFrames X.base X.outer
 frf:∀ b∈X.fs,X.H₀ b = none
structure Inv (X:Cx) (pins:List (Addr×Obj)) (σ:List (Option V)) (H:Hp) (s:Shared):Prop where
 ok:X.Ok
 os:s.os = X.s₀.os
 bare:AllBare s.gens
 base:Un X.fs X.ex X.H₀ H X.s₀.heap s.heap
 loc:∃ m,s.heap.Ns X.env.locals m∧∀ (i:Nat) (x:Str) (v:V),X.N[i]? = some x→σ[i]? = some (some v)→Vis X.env.scope x→∃ u,RelV v u∧Look X.env s.heap m x u
 cell:∀ x c,X.env.cells.lookup x = some c→∃ v,s.heap.IsCell c v
 free:H X.env.locals = none
 freeC:∀ x c,X.env.cells.lookup x = some c→H c = none
 pin:∀ p∈X.pn ++ pins,s.heap.get? p.1 = some p.2∧H p.1 = none∧p.1≠X.env.locals∧p.1∉X.fs∧∀ v,p.2.data≠.cell v
 hok:HOk X.prog X.w H s.heap
 len:σ.length = X.N.length
section
variable {X:Cx} {pins:List (Addr×Obj)} {σ:List (Option V)} {H H':Hp} {s:Shared} {h':Heap}
theorem Cx.Ok.nofr (ok:X.Ok) {b:Addr} {o:Obj} (e:X.base.get? b = some o):b∉X.fs:=fun hb=>by
 have:=(ok.funs.mem hb).1
 rw [e] at this; cases this
theorem Inv.bs (I:Inv X pins σ H s):∀ b o,X.base.get? b = some o→s.heap.get? b = some o∧H b = none:=fun b o e =>
 ⟨I.base.keep b o (I.ok.bs b o e).1 (I.ok.bs b o e).2 (I.ok.nofr e) (I.ok.noex b o e),I.base.free b o (I.ok.bs b o e).1 (I.ok.bs b o e).2 (I.ok.noex b o e)⟩
theorem Inv.bk (I:Inv X pins σ H s):∀ b o,X.base.get? b = some o→s.heap.get? b = some o:=fun b o e=>(I.bs b o e).1
theorem Inv.mod (I:Inv X pins σ H s):Mod X.K X.mg X.base:=I.ok.mod
theorem Inv.kIn (I:Inv X pins σ H s):X.K.In s.heap:=I.ok.mod.kin.keeps I.bk
theorem Inv.nolimit (I:Inv X pins σ H s):s.heap.NoLimit:=I.ok.mod.nolimit.keeps I.bk
theorem Inv.lt (I:Inv X pins σ H s):X.env.locals < s.heap.objs.size:=let ⟨_,hn,_⟩:=I.loc; hn.lt
theorem Inv.sz (I:Inv X pins σ H s):X.s₀.heap.objs.size≤s.heap.objs.size:=Nat.le_trans I.ok.above (Nat.le_of_lt I.lt)
theorem Inv.nofs (I:Inv X pins σ H s) {a:Addr} (h:s.heap.objs.size≤a):a∉X.fs:=fun hb=>by
 obtain ⟨_,o,ho,_⟩:=I.ok.funs.mem hb
 exact absurd (Nat.lt_of_lt_of_le (Heap.lt_size ho) (Nat.le_trans I.sz h)) (Nat.lt_irrefl _)
theorem Inv.cne (I:Inv X pins σ H s):∀ x c,X.env.cells.lookup x = some c→c≠X.env.locals:=fun x c e z=>by
 obtain ⟨v,o,ho,hd⟩:=I.cell x c e
 obtain ⟨m,⟨o',es,ep,ho',hd',_⟩,_⟩:=I.loc
 rw [z,ho'] at ho; cases ho; rw [hd'] at hd; cases hd
theorem Inv.funs (I:Inv X pins σ H s):s.heap.FunFrames X.base X.outer:=by
 have all:∀ (l:List Env),(∀ b∈frs l,b∈X.fs)→X.s₀.heap.FunFrames X.base l→s.heap.FunFrames X.base l:=by
  intro l
  induction l with
  | nil=>intro _ _; trivial
  | cons env r ih =>
   intro hs hl
   obtain ⟨hk,⟨L,o,hf,hn,ho,hd⟩,hr⟩:=hl
   have hL:L∈X.fs:=hs L (by unfold frs; rw [List.filterMap_cons,hf]; exact List.mem_cons_self)
   obtain ⟨sl,e⟩:=I.base.slot L o ho (I.ok.frf L hL) hL fun z=>I.ok.exfs L z hL
   exact ⟨hk,⟨L,_,hf,hn,e,hd⟩,ih (fun b hb=>hs b (by unfold frs; rw [List.filterMap_cons,hf]; exact List.mem_cons_of_mem _ hb)) hr⟩
 exact all X.outer (fun _ hb=>hb) I.ok.funs
theorem Inv.stack (I:Inv X pins σ H s):s.heap.FunFrames X.base X.stack:=by
 rcases I.ok.stk with e | ⟨e,hf⟩
 ·rw [e]; exact I.funs
 ·rw [e]
  obtain ⟨m,hn,_⟩:=I.loc
  refine .cons (by rw [I.ok.kind]; decide) hf hn ?_ I.funs
  exact Heap.get?_none_of_le (Nat.le_trans I.ok.bsz I.ok.above)
theorem Inv.stkSub (I:Inv X pins σ H s):∀ b∈frs X.stack,b∈X.env.locals :: X.fs:=fun b hb=>by
 rcases I.ok.stk with e | ⟨e,hf⟩
 ·rw [e] at hb; exact List.mem_cons_of_mem _ hb
 ·rw [e] at hb
  unfold frs at hb
  rw [List.filterMap_cons,hf] at hb
  exact hb
theorem Inv.stkFree (I:Inv X pins σ H s):∀ b∈frs X.stack,H b = none:=fun b hb=>by
 rcases List.mem_cons.mp (I.stkSub b hb) with e | hb
 ·rw [e]; exact I.free
 ·obtain ⟨_,o,ho,_⟩:=I.ok.funs.mem hb
  exact I.base.free b o ho (I.ok.frf b hb) fun z=>I.ok.exfs b z hb
theorem Inv.step {g':Array GenState} {t':Nat} {d':Drawn} {ch:List Addr} (I:Inv X pins σ H s)
  (hch:∀ b∈ch,(b∈X.ex∨X.s₀.heap.objs.size≤b)∧b≠X.env.locals∧(∀ x c,X.env.cells.lookup x = some c→c≠b)∧∀ p∈X.pn ++ pins,p.1≠b)
  (keep:∀ b o,b≠X.env.locals→b∉X.fs→b∉ch→s.heap.get? b = some o→H b = none→h'.get? b = some o)
  (slot:∀ b o,b≠X.env.locals→b∈X.fs→b∉ch→s.heap.get? b = some o→H b = none→∃ sl,h'.get? b = some { o with slots:=sl }) (free:∀ b o,b∉ch→s.heap.get? b = some o→H b = none→H' b = none)
  (there:∀ b o,b∉ch→s.heap.get? b = some o→∃ o',h'.get? b = some o')
  (tups:∀ b xs,H b = some (.tup xs)→H' b = some (.tup xs)) (frzs:∀ b o u,H b = some (.frz o u)→H' b = some (.frz o u)) (tbls:∀ b ps,H b = some (.tbl ps)→∃ more,H' b = some (.tbl (ps ++ more)))
  (ns:∀ m,s.heap.Ns X.env.locals m→h'.Ns X.env.locals m) (hok:HOk X.prog X.w H' h') (hg:AllBare g') :
  Inv X pins σ H' { s with heap:=h',gens:=g',drawn:=d',toks:=t' }:=by
 have neL:∀ b o,X.s₀.heap.get? b = some o→b≠X.env.locals:=fun b o e=>Nat.ne_of_lt (Nat.lt_of_lt_of_le (Heap.lt_size e) I.ok.above)
 have neC:∀ b o,X.s₀.heap.get? b = some o→b∉X.ex→b∉ch:=fun b o e hx hb=>by
  rcases (hch b hb).1 with z | z
  ·exact hx z
  ·exact absurd (Nat.lt_of_lt_of_le (Heap.lt_size e) z) (Nat.lt_irrefl _)
 have cellK:∀ x c,X.env.cells.lookup x = some c→∀ v,s.heap.IsCell c v→h'.IsCell c v:=fun x c e v ⟨o,ho,hd⟩=>by
  have nch:c∉ch:=fun z=>(hch c z).2.2.1 x c e rfl
  by_cases hc:c∈X.fs
  ·obtain ⟨sl,q⟩:=slot c o (I.cne x c e) hc nch ho (I.freeC x c e)
   exact ⟨_,q,hd⟩
  ·exact ⟨o,keep c o (I.cne x c e) hc nch ho (I.freeC x c e),hd⟩
 refine ⟨I.ok,I.os,hg,⟨fun b o e n hb hx=>?_,fun b o e n hb hx=>?_,fun b o e n hx=>?_,fun b o e hx=>?_,fun b xs e=>tups b xs (I.base.tups b xs e),fun b o xs e=>frzs b o xs (I.base.frzs b o xs e),fun b ps e=>?_⟩,?_,fun x c e=>?_,?_,fun x c e=>?_,fun p hp=>?_,hok,I.len⟩
 ·exact keep b o (neL b o e) hb (neC b o e hx) (I.base.keep b o e n hb hx) (I.base.free b o e n hx)
 ·obtain ⟨sl,e1⟩:=I.base.slot b o e n hb hx
  obtain ⟨sl',e2⟩:=slot b _ (neL b o e) hb (neC b o e hx) e1 (I.base.free b o e n hx)
  exact ⟨sl',e2⟩
 ·obtain ⟨o',e1⟩:=I.base.there b o e hx
  exact free b o' (neC b o e hx) e1 (I.base.free b o e n hx)
 ·obtain ⟨o',e1⟩:=I.base.there b o e hx
  exact there b o' (neC b o e hx) e1
 ·obtain ⟨m1,e1⟩:=I.base.tbls b ps e
  obtain ⟨m2,e2⟩:=tbls b _ e1
  exact ⟨m1 ++ m2,by rw [e2,Array.append_assoc]⟩
 ·obtain ⟨m,hn,hl⟩:=I.loc
  refine ⟨m,ns m hn,fun i x v e1 e2 e3=>?_⟩
  obtain ⟨u,r,l⟩:=hl i x v e1 e2 e3
  refine ⟨u,r,?_⟩
  rcases l with l | ⟨k,c,e,z⟩
  ·exact .inl l
  ·exact .inr ⟨k,c,e,cellK x c e _ z⟩
 ·obtain ⟨v,z⟩:=I.cell x c e
  exact ⟨v,cellK x c e v z⟩
 ·obtain ⟨m,⟨o,_,_,ho,_⟩,_⟩:=I.loc
  exact free _ o (fun z=>(hch _ z).2.1 rfl) ho I.free
 ·obtain ⟨v,o,ho,hd⟩:=I.cell x c e
  exact free c o (fun z=>(hch c z).2.2.1 x c e rfl) ho (I.freeC x c e)
 ·obtain ⟨e,n,ne,nf,d⟩:=I.pin p hp
  have nch:p.1∉ch:=fun z=>(hch p.1 z).2.2.2 p hp rfl
  exact ⟨keep p.1 p.2 ne nf nch e n,free p.1 p.2 nch e n,ne,nf,d⟩
theorem Inv.un {t':Nat} (I:Inv X pins σ H s) (u:Un X.fs [] H H' s.heap h') (hok:HOk X.prog X.w H' h'):Inv X pins σ H' { s with heap:=h',toks:=t' }:=by
 obtain ⟨m,⟨o,es,ep,ho,r⟩,_⟩:=id I.loc
 obtain ⟨sl,hL⟩:=u.any ho I.free (by simp)
 exact I.step (g':=s.gens) (d':=s.drawn) (ch:=[]) (fun _ z=>nomatch z) (fun b o _ hb _ e n=>u.keep b o e n hb (by simp)) (fun b o _ hb _ e n=>u.slot b o e n hb (by simp)) (fun b o _ e n=>u.free b o e n (by simp)) (fun b o _ e=>u.there b o e (by simp)) u.tups u.frzs u.tbls (fun m' hm=>by
  obtain ⟨o',es',ep',ho',r'⟩:=hm
  rw [ho] at ho'; cases ho'
  exact ⟨_,es',ep',hL,r'⟩) hok I.bare
theorem Inv.call {g':Array GenState} {t':Nat} {d':Drawn} {ch:List Addr} (I:Inv X pins σ H s) (u:Un (frs X.stack) ch H H' s.heap h') (hok:HOk X.prog X.w H' h') (hg:AllBare g')
  (hch:∀ b∈ch,(b∈X.ex∨X.s₀.heap.objs.size≤b)∧b≠X.env.locals∧(∀ x c,X.env.cells.lookup x = some c→c≠b)∧∀ p∈X.pn ++ pins,p.1≠b) :
  Inv X pins σ H' { s with heap:=h',gens:=g',drawn:=d',toks:=t' }:=by
 obtain ⟨m,⟨o,es,ep,ho,r⟩,_⟩:=id I.loc
 obtain ⟨sl,hL⟩:=u.any ho I.free fun z=>(hch _ z).2.1 rfl
 exact I.step (ch:=ch) hch (fun b o hL hb hc e n=>u.keep b o e n (fun z=>(List.mem_cons.mp (I.stkSub b z)).elim hL hb) hc) (fun b o _ _ hc e n=>u.any e n hc) (fun b o hc e n=>u.free b o e n hc) (fun b o hc e=>u.there b o e hc) u.tups u.frzs u.tbls (fun m' hm=>by
  obtain ⟨o',es',ep',ho',r'⟩:=hm
  rw [ho] at ho'; cases ho'
  exact ⟨_,es',ep',hL,r'⟩) hok hg
theorem Inv.turned {t':Nat} {it:Addr} (I:Inv X pins σ H s) (k:∀ b o,b≠it→s.heap.get? b = some o→h'.get? b = some o) (hn:H it = none) (hL:it≠X.env.locals)
  (h1:it∈X.ex∨X.s₀.heap.objs.size≤it) (h2:∀ x c,X.env.cells.lookup x = some c→c≠it) (h3:∀ p∈X.pn ++ pins,p.1≠it):Inv X pins σ H { s with heap:=h',toks:=t' }:=by
 have nit:∀ b u,H b = some u→b≠it:=fun b u e z=>by rw [z,hn] at e; cases e
 refine I.step (g':=s.gens) (d':=s.drawn) (ch:=[it]) (fun b hb=>?_) (fun b o _ _ hc e _=>k b o (fun z=>hc (by simp [z])) e) (fun b o _ _ hc e _=>⟨o.slots,k b o (fun z=>hc (by simp [z])) e⟩) (fun _ _ _ _ n=>n)
  (fun b o hc e=>⟨o,k b o (fun z=>hc (by simp [z])) e⟩) (fun _ _ e=>e) (fun _ _ _ e=>e) (fun b ps e=>⟨#[],by rw [e]; simp⟩) (fun m hm=>?_) (fun b u e=>?_) I.bare
 ·have e:b = it:=by simpa using hb
  subst e
  exact ⟨h1,hL,h2,h3⟩
 ·obtain ⟨o,es,ep,ho,r⟩:=hm
  exact ⟨o,es,ep,k _ o (Ne.symm hL) ho,r⟩
 ·refine (I.hok b u e).stay (fun c v hc q=>k c v ?_ q) (fun _ q=>q) fun _ _ q=>q
  rcases hc with z | z
  ·rw [z]; exact nit b u e
  ·exact nit c _ z
theorem Inv.tok (I:Inv X pins σ H s) (t:Nat):Inv X pins σ H { s with toks:=t }:=I.un (h':=s.heap) (t':=t) Un.refl I.hok
theorem Inv.kept {t':Nat} (I:Inv X pins σ H s) (k:∀ b u,s.heap.get? b = some u→h'.get? b = some u):Inv X pins σ H { s with heap:=h',toks:=t' }:=I.un (Un.kept k) (I.hok.kept k)
theorem Inv.laid {a:Addr} {o:HO} {t':Nat} (I:Inv X pins σ H s) (k:∀ b u,s.heap.get? b = some u→h'.get? b = some u) (hp:s.heap.objs.size≤a) (new:ObjOk X.prog X.w (upd H a o) h' a o) :
  Inv X pins σ (upd H a o) { s with heap:=h',toks:=t' }:=I.un (Un.laid k hp (I.hok.fresh hp)) (I.hok.laid k hp new)
theorem Inv.write {x e:Addr} {o:HO} {t':Nat} (I:Inv X pins σ H s) (mu:Mut (H x)) (he:e = x∨H e = some (.own x)) (k:∀ b u,b≠e→s.heap.get? b = some u→h'.get? b = some u) (heo:∃ u,h'.get? e = some u)
  (new:ObjOk X.prog X.w (upd H x o) h' x o):Inv X pins σ (upd H x o) { s with heap:=h',toks:=t' }:=I.un (Un.write mu he k heo) (I.hok.write mu he k heo new)
theorem Inv.weak {σ':List (Option V)} (I:Inv X pins σ H s) (hl:σ'.length = σ.length) (w:∀ (i:Nat) v,σ'[i]? = some (some v)→σ[i]? = some (some v)):Inv X pins σ' H s :=
 ⟨I.ok,I.os,I.bare,I.base,let ⟨m,hn,hl'⟩:=I.loc; ⟨m,hn,fun i x v e1 e2 e3=>hl' i x v e1 (w i v e2) e3⟩,I.cell,I.free,I.freeC,I.pin,I.hok,hl.trans I.len⟩
theorem Inv.pins_of {pins':List (Addr×Obj)} (I:Inv X pins σ H s) (h:∀ p∈pins',s.heap.get? p.1 = some p.2∧H p.1 = none∧p.1≠X.env.locals∧p.1∉X.fs∧∀ v,p.2.data≠.cell v):Inv X pins' σ H s :=
 ⟨I.ok,I.os,I.bare,I.base,I.loc,I.cell,I.free,I.freeC,fun p hp=>(List.mem_append.mp hp).elim (fun z=>I.pin p (List.mem_append_left _ z)) (h p),I.hok,I.len⟩
theorem Xo {N:List Str} (hN:N.Nodup) {i j:Nat} {x:Str} (a:N[i]? = some x) (b:N[j]? = some x):i = j:=by
 obtain ⟨h1,e1⟩:=List.getElem?_eq_some_iff.mp a
 obtain ⟨h2,e2⟩:=List.getElem?_eq_some_iff.mp b
 exact (List.getElem_inj hN).mp (e1.trans e2.symm)
theorem ZL {M:Model} {A:Around} {E:Value→Shared→Prop} {i:Nat} {x:Str} {v:V} {u:Value} {Q:Unit→Shared→Prop} (I:Inv X pins σ H s) (hN:X.N.Nodup) (hi:X.N[i]? = some x) (hx:Loc X.env.scope x) (r:RelV v u)
  (h:∀ s',Inv X pins (σ.set i (some v)) H s'→(∃ a,Heap.SameBut a s.heap s'.heap∧(a = X.env.locals∨X.env.cells.lookup x = some a))→Q () s') (hf:X.fn x = true∨X.env.scope.names.lookup x = some .local:=by first | exact .inl rfl | exact .inr rfl | assumption):wpAny M A (storeName X.env x u) Q E s:=by
 obtain ⟨m,hn,hl⟩:=id I.loc
 have hcls:(X.env.scope.kind == .class || (X.env.scope.kind == .module && X.env.locals != X.env.globals)) = false:=by rw [I.ok.kind]; rfl
 have hiσ:i < σ.length:=by rw [I.len]; exact (List.getElem?_eq_some_iff.mp hi).1
 have cne:=I.cne
 have tracked:∀ {a:Addr} {h':Heap},(∃ o,s.heap.get? a = some o∧H a = none)→Heap.SameBut a s.heap h'→HOk X.prog X.w H h':=fun {a h'} ha hs b ob e=>by
  obtain ⟨_,_,hfree⟩:=ha
  refine (I.hok b ob e).stay (fun c w' hc q=>(hs.2 c ?_).trans q) (fun _ q=>q) fun _ _ q=>q
  rintro rfl
  rcases hc with rfl | hc
  ·rw [hfree] at e; cases e
  ·rw [hfree] at hc; cases hc
 rcases hx with hk | hk
 ·refine wpAny_storeName_local hk hn (fun h' hn' hs=>?_) hcls
  obtain ⟨oL,_,_,hoL,_⟩:=id hn
  refine h _ ⟨I.ok,I.os,I.bare,⟨fun b o e n hb hx=>?_,fun b o e n hb hx=>?_,I.base.free,fun b o e hx=>?_,I.base.tups,I.base.frzs,I.base.tbls⟩,⟨_,hn',fun j y v' e1 e2 e3=>?_⟩,fun y c e=>?_,I.free,I.freeC,fun p hp=>?_,tracked ⟨oL,hoL,I.free⟩ hs,by simpa using I.len⟩ ⟨_,hs,.inl rfl⟩
  ·exact (hs.2 b (Nat.ne_of_lt (Nat.lt_of_lt_of_le (Heap.lt_size e) I.ok.above))).trans (I.base.keep b o e n hb hx)
  ·obtain ⟨sl,e1⟩:=I.base.slot b o e n hb hx
   exact ⟨sl,(hs.2 b (Nat.ne_of_lt (Nat.lt_of_lt_of_le (Heap.lt_size e) I.ok.above))).trans e1⟩
  ·obtain ⟨o',e1⟩:=I.base.there b o e hx
   exact ⟨o',(hs.2 b (Nat.ne_of_lt (Nat.lt_of_lt_of_le (Heap.lt_size e) I.ok.above))).trans e1⟩
  ·by_cases hj:j = i
   ·subst hj
    rw [hi] at e1; cases e1
    rw [List.getElem?_set_self hiσ] at e2
    cases e2
    exact ⟨u,r,.inl ⟨hk,by simp⟩⟩
   ·rw [List.getElem?_set_ne (Ne.symm hj)] at e2
    obtain ⟨u',r',q⟩:=hl j y v' e1 e2 e3
    refine ⟨u',r',?_⟩
    rcases q with ⟨k,e⟩ | ⟨k,c,e,z⟩
    ·refine .inl ⟨k,?_⟩
     have:y≠x:=fun e=>hj (Xo hN e1 (e ▸ hi))
     simp [this,e]
    ·exact .inr ⟨k,c,e,z.sameBut hs (cne y c e)⟩
  ·obtain ⟨w',z⟩:=I.cell y c e
   exact ⟨w',z.sameBut hs (cne y c e)⟩
  ·obtain ⟨e,n,ne,nf,d⟩:=I.pin p hp
   exact ⟨(hs.2 p.1 ne).trans e,n,ne,nf,d⟩
 ·have hfn:X.fn x = true:=by
   rcases hf with z | z
   ·exact z
   ·rw [z] at hk; cases hk
  obtain ⟨c,hc⟩:=I.ok.has x (.inl hk)
  obtain ⟨w',z⟩:=I.cell x c hc
  refine wpAny_storeName_cell I.ok.kind hk hc z (fun h' hc' hs=>?_)
  obtain ⟨oc,hoc,hocd⟩:=id z
  refine h { s with heap:=h' } ⟨I.ok,I.os,I.bare,⟨fun b o e n hb hx=>?_,fun b o e n hb hx=>?_,I.base.free,fun b o e hx=>?_,I.base.tups,I.base.frzs,I.base.tbls⟩,⟨m,hn.sameBut hs (Ne.symm (cne x c hc)),fun j y v' e1 e2 e3=>?_⟩,fun y c' e=>?_,I.free,I.freeC,fun p hp=>?_,tracked ⟨oc,hoc,I.freeC x c hc⟩ hs,by simpa using I.len⟩ ⟨c,hs,.inr hc⟩
  ·exact (hs.2 b (Nat.ne_of_lt (Nat.lt_of_lt_of_le (Heap.lt_size e) (I.ok.cab x c hfn hc)))).trans (I.base.keep b o e n hb hx)
  ·obtain ⟨sl,e1⟩:=I.base.slot b o e n hb hx
   exact ⟨sl,(hs.2 b (Nat.ne_of_lt (Nat.lt_of_lt_of_le (Heap.lt_size e) (I.ok.cab x c hfn hc)))).trans e1⟩
  ·obtain ⟨o',e1⟩:=I.base.there b o e hx
   exact ⟨o',(hs.2 b (Nat.ne_of_lt (Nat.lt_of_lt_of_le (Heap.lt_size e) (I.ok.cab x c hfn hc)))).trans e1⟩
  ·by_cases hj:j = i
   ·subst hj
    rw [hi] at e1; cases e1
    rw [List.getElem?_set_self hiσ] at e2
    cases e2
    exact ⟨u,r,.inr ⟨.inl hk,c,hc,hc'⟩⟩
   ·rw [List.getElem?_set_ne (Ne.symm hj)] at e2
    obtain ⟨u',r',q⟩:=hl j y v' e1 e2 e3
    refine ⟨u',r',?_⟩
    rcases q with q | ⟨k,c',e,z'⟩
    ·exact .inl q
    ·refine .inr ⟨k,c',e,z'.sameBut hs ?_⟩
     rintro rfl
     exact hj (Xo hN e1 (I.ok.inj _ _ _ e hc ▸ hi))
  ·by_cases hcc:c' = c
   ·subst hcc; exact ⟨_,hc'⟩
   ·obtain ⟨w2,z2⟩:=I.cell y c' e
    exact ⟨w2,z2.sameBut hs hcc⟩
  ·obtain ⟨e,n,ne,nf,d⟩:=I.pin p hp
   refine ⟨(hs.2 p.1 ?_).trans e,n,ne,nf,d⟩
   intro q
   rw [q,hoc] at e
   have q':oc = p.2:=Option.some.inj e
   exact d w' (by rw [← q']; exact hocd)
theorem qp {M:Model} {A:Around} {E:Value→Shared→Prop} {i:Nat} {x:Str} {v:V} {u:Value} {Q:Unit→Shared→Prop} (I:Inv X pins σ H s) (hN:X.N.Nodup) (hi:X.N[i]? = some x) (hx:Loc X.env.scope x) (r:RelV v u)
  (h:∀ s',Inv X pins (σ.set i (some v)) H s'→Q () s') (hf:X.fn x = true∨X.env.scope.names.lookup x = some .local:=by first | exact .inl rfl | exact .inr rfl | assumption):wpAny M A (storeName X.env x u) Q E s :=
 ZL I hN hi hx r (fun s' I' _=>h s' I') hf
theorem Inv.call' {s':Shared} {ch:List Addr} (I:Inv X pins σ H s) (ho:s'.os = s.os) (u:Un (frs X.stack) ch H H' s.heap s'.heap) (hok:HOk X.prog X.w H' s'.heap) (hg:AllBare s'.gens)
  (hch:∀ b∈ch,(b∈X.ex∨X.s₀.heap.objs.size≤b)∧b≠X.env.locals∧(∀ x c,X.env.cells.lookup x = some c→c≠b)∧∀ p∈X.pn ++ pins,p.1≠b):Inv X pins σ H' s':=by
 obtain ⟨h',g',d',t',o'⟩:=s'
 have e:o' = s.os:=ho
 subst e
 exact I.call (g':=g') (t':=t') (d':=d') u hok hg hch
end
noncomputable abbrev XK:=Value→Option Addr→Hp→Prop
noncomputable abbrev St:=List (Option V)
noncomputable abbrev VK:=V→Hp→Prop
noncomputable abbrev TE:=St→Hp→VK→Prop
noncomputable abbrev TT:=St→Hp→(Bool→Hp→Prop)→Prop
noncomputable abbrev TA:=St→Hp→(List V→Hp→Prop)→Prop
structure Ends where
 nx:St→Hp→Prop
 rt:VK
 bk:St→Hp→Prop:=fun _ _=>False
 ct:St→Hp→Prop:=fun _ _=>False
noncomputable abbrev TS:=Ends→St→Hp→Prop
noncomputable def EP (X:Cx) (pins:List (Addr×Obj)) (σ:St) (Q:VK) (u:Value) (s':Shared):Prop:=∃ v H',Inv X pins σ H' s'∧RelV v u∧Q v H'
noncomputable def TP (X:Cx) (pins:List (Addr×Obj)) (σ:St) (Q:Bool→Hp→Prop) (b:Bool) (s':Shared):Prop:=∃ H',Inv X pins σ H' s'∧Q b H'
noncomputable def AP (X:Cx) (pins:List (Addr×Obj)) (σ:St) (Q:List V→Hp→Prop) (us:List Value) (s':Shared):Prop:=∃ vs H',Inv X pins σ H' s'∧Vals vs us∧Q vs H'
noncomputable def SP (X:Cx) (pins:List (Addr×Obj)) (D:Ends) (f:Flow) (s':Shared):Prop :=
 match f with
 | .next=>∃ σ' H',Inv X pins σ' H' s'∧D.nx σ' H'
 | .brk=>∃ σ' H',Inv X pins σ' H' s'∧D.bk σ' H'
 | .cont=>∃ σ' H',Inv X pins σ' H' s'∧D.ct σ' H'
 | .ret u=>∃ v σ' H',Inv X pins σ' H' s'∧RelV v u∧D.rt v H'
noncomputable def PE (X:Cx) (e:Expr) (t:TE):Prop :=
 ∀ (pins:List (Addr×Obj)) (s:Shared) (σ:St) (H:Hp) (Q:VK),Inv X pins σ H s→t σ H Q→wpAny (model X.prog X.w) X.A (eval e X.env) (EP X pins σ Q) X.xe s
noncomputable def PT (X:Cx) (e:Expr) (t:TT):Prop :=
 ∀ (pins:List (Addr×Obj)) (s:Shared) (σ:St) (H:Hp) (Q:Bool→Hp→Prop),Inv X pins σ H s→t σ H Q→wpAny (model X.prog X.w) X.A (isTrue e X.env (eval e X.env)) (TP X pins σ Q) X.xe s
noncomputable def PW (X:Cx) (e:Expr) (t:TT):Prop :=
 ∀ (whole:Sem Value) (pins:List (Addr×Obj)) (s:Shared) (σ:St) (H:Hp) (Q:Bool→Hp→Prop),Inv X pins σ H s→t σ H Q→wpAny (model X.prog X.w) X.A (isTrue e X.env whole) (TP X pins σ Q) X.xe s
theorem PW.pt {X:Cx} {e:Expr} {t:TT} (h:PW X e t):PT X e t:=h _
noncomputable def PA (X:Cx) (es:List Expr) (t:TA):Prop :=
 ∀ (pos:Pos) (pins:List (Addr×Obj)) (s:Shared) (σ:St) (H:Hp) (Q:List V→Hp→Prop),Inv X pins σ H s→t σ H Q→wpAny (model X.prog X.w) X.A (spliced (backTo pos (starEach es X.env))) (AP X pins σ Q) X.xe s
noncomputable def PS (X:Cx) (st:Stmt) (t:TS):Prop :=
 ∀ (pins:List (Addr×Obj)) (s:Shared) (σ:St) (H:Hp) (D:Ends),Inv X pins σ H s→t D σ H→wpAny (model X.prog X.w) X.A (exec st X.env) (SP X pins D) X.xe s
noncomputable def PSs (X:Cx) (st:List Stmt) (t:TS):Prop :=
 ∀ (pins:List (Addr×Obj)) (s:Shared) (σ:St) (H:Hp) (D:Ends),Inv X pins σ H s→t D σ H→wpAny (model X.prog X.w) X.A (execs st X.env) (SP X pins D) X.xe s
theorem thn {α:Type} {t:Sem α} {Q Q':α→Shared→Prop} {M:Model} {A:Around} {E:Value→Shared→Prop} {s:Shared} (h:wpAny M A t Q E s) (hQ:∀ a s,Q a s→Q' a s):wpAny M A t Q' E s:=wpAny_mono h hQ fun _ _ x=>x
end L2
namespace L2
open PySem PySem.Spec PyProof.Rows
section
variable {X:Cx}
inductive zeG (i:Nat) (σ:St) (H:Hp) (Q:VK):Prop where
 | mk (v:V) (h0_:σ[i]? = some (some v)) (h1_:Q v H):zeG i σ H Q
noncomputable def tVar (i:Nat):TE:=fun σ H Q=>zeG i σ H Q
noncomputable def tC (v:V):TE:=fun _ H Q=>Q v H
theorem zhh {i:Nat} {x:Str} {pos:Pos} (hN:X.N[i]? = some x) (hv:Vis X.env.scope x) (hd:(x == ("__debug__" : Str)) = false:=by decide) (hcd:(x == ("__classdict__" : Str)) = false:=by decide):PE X (.Name x pos) (tVar i):=by
 intro pins s σ H Q I h
 obtain ⟨v,e,h⟩:=h
 obtain ⟨m,hn,hl⟩:=I.loc
 obtain ⟨u,r,l⟩:=hl i x v hN e hv
 have fin:EP X pins σ Q u s:=⟨v,H,I,r,h⟩
 rcases l with ⟨hk,hm⟩ | ⟨hk,c,hc,hcell⟩
 ·exact wpAny_Name (wpAny_loadName_local I.ok.kind hk hn hm fin) hd
 ·rcases hk with hk | hk
  ·exact wpAny_Name (wpAny_loadName_cell I.ok.kind hk hc hcell fin) hd
  ·exact wpAny_Name (wpAny_loadName_free I.ok.kind hk hc hcell fin hcd) hd
theorem ze {i j pos}:PE X (.Constant (.int i) j pos) (tC (.int i)):=fun _ _ _ H _ I h=>wpAny_Constant_int ⟨.int i,H,I.tok _,⟨_,rfl⟩,h⟩
theorem zaT {b j pos}:PE X (.Constant (.bool b) j pos) (tC (.bl b)):=fun _ _ _ H _ I h=>Constant_bool ⟨.bl b,H,I,rfl,h⟩
theorem zap {j pos}:PE X (.Constant .none j pos) (tC .non):=fun _ _ _ H _ I h=>Constant_none ⟨.non,H,I,rfl,h⟩
theorem zg {x j pos}:PE X (.Constant (.str x) j pos) (tC (.str x)):=fun _ _ _ H _ I h=>Calls.Constant_str ⟨.str x,H,I.tok _,⟨_,rfl⟩,h⟩
noncomputable def Gl (X:Cx) (x:Str):Prop:=X.env.kindOf x = some .globalImplicit
theorem Zj {E:Value→Shared→Prop} {pins:List (Addr×Obj)} {s:Shared} {σ:St} {H:Hp} {x:Str} {u:Value} {pos:Pos} {Q:Value→Shared→Prop} (I:Inv X pins σ H s) (hg:Gl X x) (hm:X.mg x = some u) (h:Q u s)
  (hd:(x == ("__debug__" : Str)) = false:=by decide):wpAny (model X.prog X.w) X.A (eval (.Name x pos) X.env) Q E s :=
 Calls.Name_function_global I.ok.kind hg (Calls.loadGlobal_global (by rw [I.ok.glob]; exact I.mod.glob.keeps I.bk) hm h) hd
theorem Yi {E:Value→Shared→Prop} {pins:List (Addr×Obj)} {s:Shared} {σ:St} {H:Hp} {x:Str} {u:Value} {pos:Pos} {Q:Value→Shared→Prop} (I:Inv X pins σ H s) (hg:Gl X x) (hm:X.mg x = none) (hv:bootBuiltins x = some u) (h:Q u s)
  (hn:x ≠ "__name__" := by decide) (hd:(x == ("__debug__" : Str)) = false:=by decide):wpAny (model X.prog X.w) X.A (eval (.Name x pos) X.env) Q E s:=by
 obtain ⟨mb,h1,h2⟩:=I.mod.blt
 exact Calls.Name_function_global I.ok.kind hg (Calls.loadGlobal_builtin (by rw [I.ok.glob]; exact I.mod.glob.keeps I.bk) hm (by rw [I.ok.blt]; exact h1.keeps I.bk) ((h2 x hn).trans hv) h) hd
theorem zP {x:Str} {v:V} {u:Value} {pos:Pos} (hg:Gl X x) (hm:X.mg x = some u) (r:RelV v u) (hd:(x == ("__debug__" : Str)) = false:=by decide):PE X (.Name x pos) (tC v) :=
 fun _ _ _ H _ I h=>Zj I hg hm ⟨v,H,I,r,h⟩ hd
theorem zgc {x:Str} {v:V} {u:Value} {pos:Pos} (hg:Gl X x) (hm:X.mg x = none) (hv:bootBuiltins x = some u) (r:RelV v u) (hn:x ≠ "__name__" := by decide) (hd:(x == ("__debug__" : Str)) = false:=by decide):PE X (.Name x pos) (tC v) :=
 fun _ _ _ H _ I h=>Yi I hg hm hv ⟨v,H,I,r,h⟩ hn hd
variable {a b:Expr} {ta tb:TE} {pos:Pos}
inductive I_tB (x:V) (H1:Hp) (Q:Bool→Hp→Prop):Prop where
 | mk (c:Bool) (h0_:x = .bl c) (h1_:Q c H1):I_tB x H1 Q
noncomputable def tB (t:TE):TT:=fun σ H Q=>t σ H fun x H1=>I_tB x H1 Q
theorem xb {e:Expr} {t:TE} (h:PE X e t) (he:∀ whole,isTrue e X.env whole = (do let v ← whole; standAt e.pos; holding [v] (truthy v)):=by intro _; rfl):PT X e (tB t):=by
 intro pins s σ H Q I hw
 refine isTrue_plain (thn (h pins s σ H _ I hw) fun v s1 ⟨x,H1,I1,r1,q1⟩=>?_) (he _)
 obtain ⟨d,rfl,q⟩:=q1
 cases r1
 exact wpAny_truthy_bool ⟨H1,I1,q⟩
variable {tA tB':TT} {rest:List Expr}
noncomputable def tAnd (t u:TT):TT:=fun σ H Q=>t σ H fun c H1=>if c = true then u σ H1 Q else Q false H1
noncomputable def tOr (t u:TT):TT:=fun σ H Q=>t σ H fun c H1=>if c = true then Q true H1 else u σ H1 Q
noncomputable def tNot (t:TT):TT:=fun σ H Q=>t σ H fun c H1=>Q (!c) H1
theorem pw_and1 (ha:PT X a tA):PW X (.BoolOp .And [a] pos) tA:=by
 intro wh pins s σ H Q I h
 refine isTrue_and (thn (ha pins s σ H Q I h) fun c s1 e=>?_)
 cases c with
 | true=>exact isTrue_and_nil e
 | false=>exact e
theorem pw_or1 (ha:PT X a tA):PW X (.BoolOp .Or [a] pos) tA:=by
 intro wh pins s σ H Q I h
 refine isTrue_or (thn (ha pins s σ H Q I h) fun c s1 e=>?_)
 cases c with
 | false=>exact isTrue_or_nil e
 | true=>exact e
theorem pw_and (ha:PT X a tA) (hb:PW X (.BoolOp .And (b :: rest) pos) tB'):PW X (.BoolOp .And (a :: b :: rest) pos) (tAnd tA tB'):=by
 intro wh pins s σ H Q I h
 refine isTrue_and (thn (ha pins s σ H _ I h) fun c s1 ⟨H1,I1,q1⟩=>?_)
 cases c with
 | true=>exact hb wh pins s1 σ H1 Q I1 q1
 | false=>exact ⟨H1,I1,q1⟩
theorem pw_or (ha:PT X a tA) (hb:PW X (.BoolOp .Or (b :: rest) pos) tB'):PW X (.BoolOp .Or (a :: b :: rest) pos) (tOr tA tB'):=by
 intro wh pins s σ H Q I h
 refine isTrue_or (thn (ha pins s σ H _ I h) fun c s1 ⟨H1,I1,q1⟩=>?_)
 cases c with
 | true=>exact ⟨H1,I1,q1⟩
 | false=>exact hb wh pins s1 σ H1 Q I1 q1
theorem jd (ha:PT X a tA):PT X (.UnaryOp .Not a pos) (tNot tA):=by
 intro pins s σ H Q I h
 exact isTrue_not (ha pins s σ H (fun c H1=>Q (!c) H1) I h)
noncomputable def tAndV (ta tb:TE):TE:=fun σ H Q=>ta σ H fun x H1=>∃ c,x = .bl c∧if c = true then tb σ H1 Q else Q (.bl false) H1
noncomputable def tNotV (ta:TE):TE:=fun σ H Q=>ta σ H fun x H1=>∃ c,x = .bl c∧Q (.bl (!c)) H1
theorem zbs {op} {t:TE} (h:PE X a t):PE X (.BoolOp op [a] pos) t:=fun pins s σ H Q I hw=>BoolOp_one (h pins s σ H Q I hw)
theorem zdh (ha:PE X a ta) (hb:PE X (.BoolOp .And (b :: rest) pos) tb):PE X (.BoolOp .And (a :: b :: rest) pos) (tAndV ta tb):=by
 intro pins s σ H Q I h
 refine BoolOp_and (thn (ha pins s σ H _ I h) fun v s1 ⟨x,H1,I1,r1,q1⟩=>?_)
 obtain ⟨c,rfl,q1⟩:=q1
 cases r1
 refine wpAny_truthy_bool ?_
 cases c with
 | true=>exact hb pins s1 σ H1 Q I1 q1
 | false=>exact ⟨.bl false,H1,I1,rfl,q1⟩
theorem zhd (ha:PE X a ta):PE X (.UnaryOp .Not a pos) (tNotV ta):=by
 intro pins s σ H Q I h
 refine UnaryOp_ (thn (ha pins s σ H _ I h) fun v s1 ⟨x,H1,I1,r1,q1⟩=>?_)
 obtain ⟨c,rfl,q1⟩:=q1
 cases r1
 exact not_of (wpAny_truthy_bool ⟨.bl (!c),H1,I1,rfl,q1⟩)
noncomputable def tIf (t:TT) (ta tb:TE):TE:=fun σ H Q=>t σ H fun c H1=>if c = true then ta σ H1 Q else tb σ H1 Q
theorem xQ {c:Expr} (hc:PT X c tA) (ha:PE X a ta) (hb:PE X b tb):PE X (.IfExp c a b pos) (tIf tA ta tb):=by
 intro pins s σ H Q I h
 refine wpAny_IfExp (thn (hc pins s σ H _ I h) fun d s1 ⟨H1,I1,q1⟩=>?_)
 cases d with
 | true=>exact ha pins s1 σ H1 Q I1 q1
 | false=>exact hb pins s1 σ H1 Q I1 q1
end
end L2
namespace L2
open PySem PySem.Spec PyProof.Rows
noncomputable def SqL (K:PySem.W.Frag) (H:Hp) (a:Addr) (xs:List V):Prop :=
 Rd H a (.lst xs) ∨
  ∃ (o:Obj) (its:Array Value) (n:Nat),K.lookup a = some o∧o.cls = .type "list" ∧ o.dict = none∧o.data = .seq its n∧its.size≤sizeLine∧Vals xs its.toList
noncomputable def SqT (K:PySem.W.Frag) (H:Hp) (a:Addr) (xs:List V):Prop :=
 Rd H a (.tup xs) ∨
  ∃ (o:Obj) (its:Array Value) (n:Nat),K.lookup a = some o∧o.cls = .type "tuple" ∧ o.data = .seq its n∧its.size≤sizeLine∧Vals xs its.toList
noncomputable def absV:Value→Option V
 | .none=>some .non
 | .bool b=>some (.bl b)
 | .int i _=>some (.int i)
 | .str x _=>some (.str x)
 | .bytes b _=>some (.byt b)
 | .float b _=>some (.flt b)
 | .ref a=>some (.ref a)
 | .type n=>some (.ty n)
 | _=>none
theorem RelV.abs {x:V} {u:Value} (r:RelV x u):absV u = some x:=by
 cases x with
 | non=>cases r; rfl
 | bl _=>cases r; rfl
 | int _=>obtain ⟨t,rfl⟩:=r; rfl
 | str _=>obtain ⟨t,rfl⟩:=r; rfl
 | byt _=>obtain ⟨t,rfl⟩:=r; rfl
 | flt _=>obtain ⟨t,rfl⟩:=r; rfl
 | ref _=>cases r; rfl
 | ty _=>cases r; rfl
theorem RelV.inj {x y:V} {u:Value} (r:RelV x u) (q:RelV y u):x = y:=Option.some.inj (r.abs.symm.trans q.abs)
theorem Vals.inj:∀ {xs ys:List V} {us:List Value},Vals xs us→Vals ys us→xs = ys
 | _,_,_,.nil,.nil=>rfl
 | _,_,_,.cons r t,.cons r' t'=>by rw [r.inj r',Vals.inj t t']
section
variable {X:Cx} {pins:List (Addr×Obj)} {σ:St} {H:Hp} {s:Shared} {a:Addr} {xs ys:List V}
theorem SqL.of {K:PySem.W.Frag} (h:H a = some (.lst xs)):SqL K H a xs:=.inl (.inl h)
theorem SqT.of {K:PySem.W.Frag} (h:H a = some (.tup xs)):SqT K H a xs:=.inl (.inl h)
theorem Inv.list (I:Inv X pins σ H s) (h:SqL X.K H a xs):∃ its:List Value,Vals xs its∧PlainL s.heap a its.toArray∧xs.length≤sizeLine:=by
 rcases h with h | ⟨o,its,n,hk,hc,hd,hs,hz,r⟩
 ·obtain ⟨z,its,n,r,e⟩:=h.ok I.hok
  exact ⟨its,r,⟨_,n,e,rfl,rfl,rfl⟩,z⟩
 ·refine ⟨its.toList,r,⟨o,n,I.kIn a o hk,hc,hd,by simpa using hs⟩,?_⟩
  have e:=r.length
  simp only [Array.length_toList] at e
  omega
theorem Inv.tuple (I:Inv X pins σ H s) (h:SqT X.K H a xs):∃ its:List Value,Vals xs its∧IsTup s.heap a its.toArray∧xs.length≤sizeLine:=by
 rcases h with h | ⟨o,its,n,hk,hc,hs,hz,r⟩
 ·obtain ⟨z,its,r,p⟩:=h.ok I.hok
  exact ⟨its,r,p,z⟩
 ·refine ⟨its.toList,r,⟨o,I.kIn a o hk,hc,n,by simpa using hs⟩,?_⟩
  have e:=r.length
  simp only [Array.length_toList] at e
  omega
theorem Inv.list_inj (I:Inv X pins σ H s) (h:SqL X.K H a xs) (h':SqL X.K H a ys):xs = ys:=by
 obtain ⟨its,r,⟨o,n,e,_,_,d⟩,_⟩:=I.list h
 obtain ⟨its',r',⟨o',n',e',_,_,d'⟩,_⟩:=I.list h'
 rw [e] at e'; cases e'
 rw [d] at d'
 injection d' with d1 _
 have:its = its':=by simpa using congrArg Array.toList d1
 subst this
 exact r.inj r'
theorem Inv.tuple_inj (I:Inv X pins σ H s) (h:SqT X.K H a xs) (h':SqT X.K H a ys):xs = ys:=by
 obtain ⟨its,r,⟨o,e,_,n,d⟩,_⟩:=I.tuple h
 obtain ⟨its',r',⟨o',e',_,n',d'⟩,_⟩:=I.tuple h'
 rw [e] at e'; cases e'
 rw [d] at d'
 injection d' with d1 _
 have:its = its':=by simpa using congrArg Array.toList d1
 subst this
 exact r.inj r'
end
noncomputable abbrev Cx.wish (X:Cx) (E:Value→Shared→Prop):Cx:={ X with xe:=E }
noncomputable abbrev Cx.nox (X:Cx):Cx:=X.wish fun _ _=>False
theorem Cx.Ok.wish {X:Cx} (ok:X.Ok) (E:Value→Shared→Prop):(X.wish E).Ok :=
 ⟨ok.mod,ok.kind,ok.glob,ok.blt,ok.above,ok.inj,ok.has,ok.cab,ok.hd,ok.frames,ok.stk,ok.exf,ok.bs,ok.bsz,ok.noex,ok.exfs,ok.funs,ok.frf⟩
theorem Cx.Ok.unwish {X:Cx} {E:Value→Shared→Prop} (ok:(X.wish E).Ok):X.Ok :=
 ⟨ok.mod,ok.kind,ok.glob,ok.blt,ok.above,ok.inj,ok.has,ok.cab,ok.hd,ok.frames,ok.stk,ok.exf,ok.bs,ok.bsz,ok.noex,ok.exfs,ok.funs,ok.frf⟩
section
variable {X:Cx} {pins:List (Addr×Obj)} {σ:St} {H:Hp} {s:Shared} {E:Value→Shared→Prop}
theorem Inv.wish (I:Inv X pins σ H s) (E:Value→Shared→Prop):Inv (X.wish E) pins σ H s:=⟨I.ok.wish E,I.os,I.bare,I.base,I.loc,I.cell,I.free,I.freeC,I.pin,I.hok,I.len⟩
theorem Inv.unwish (I:Inv (X.wish E) pins σ H s):Inv X pins σ H s:=⟨I.ok.unwish,I.os,I.bare,I.base,I.loc,I.cell,I.free,I.freeC,I.pin,I.hok,I.len⟩
theorem SP.unwish {D:Ends} {f:Flow} {s':Shared} (h:SP (X.wish E) pins D f s'):SP X pins D f s':=by
 cases f with
 | next=>obtain ⟨σ',H',I,q⟩:=h; exact ⟨σ',H',I.unwish,q⟩
 | brk=>obtain ⟨σ',H',I,q⟩:=h; exact ⟨σ',H',I.unwish,q⟩
 | cont=>obtain ⟨σ',H',I,q⟩:=h; exact ⟨σ',H',I.unwish,q⟩
 | ret u=>obtain ⟨v,σ',H',I,r,q⟩:=h; exact ⟨v,σ',H',I.unwish,r,q⟩
theorem PT.nox {e:Expr} {t:TT} (h:PT X.nox e t):PT X e t:=fun pins s σ H Q I hw =>
 wpAny_mono (h pins s σ H Q (I.wish _) hw) (fun _ _ ⟨H',I',q⟩=>⟨H',I'.unwish,q⟩) fun _ _ z=>False.elim z
theorem PSs.nox {st:List Stmt} {t:TS} (h:PSs X.nox st t):PSs X st t:=fun pins s σ H D I hw =>
 wpAny_mono (h pins s σ H D (I.wish _) hw) (fun _ _ q=>q.unwish) fun _ _ z=>False.elim z
end
section
variable {X:Cx} {st:Stmt} {rest:List Stmt} {t u:TS} {e:Expr} {te:TE} {pos:Pos}
noncomputable def tNext:TS:=fun D σ H=>D.nx σ H
noncomputable def tSeq (t u:TS):TS:=fun D σ H=>t { D with nx:=u D } σ H
theorem zx:PSs X [] tNext:=fun _ _ σ H _ I h=>wpAny_execs_nil ⟨σ,H,I,h⟩
theorem zb (h1:PS X st t) (h2:PSs X rest u):PSs X (st :: rest) (tSeq t u):=by
 intro pins s σ H D I h
 refine wpAny_execs_cons (thn (h1 pins s σ H { D with nx:=u D } I h) fun f s1 q=>?_)
 cases f with
 | next =>
  obtain ⟨σ',H',I',q⟩:=q
  exact h2 pins s1 σ' H' D I' q
 | ret v=>exact q
 | brk=>exact q
 | cont=>exact q
theorem zi (h1:PS X st t):PSs X [st] t:=by
 intro pins s σ H D I h
 refine wpAny_execs_cons (thn (h1 pins s σ H D I h) fun f s1 q=>?_)
 cases f with
 | next=>exact wpAny_execs_nil q
 | ret v=>exact q
 | brk=>exact q
 | cont=>exact q
theorem Inv.quiet {pins:List (Addr×Obj)} {σ:St} {H:Hp} {s:Shared} (I:Inv X pins σ H s):interactive X.env = false:=by simp [interactive,I.ok.kind]
noncomputable def tDrop (te:TE):TS:=fun D σ H=>te σ H fun _ H1=>D.nx σ H1
theorem qw (he:PE X e te) (hs:swapsWith e none pos.line X.env = pure false:=by rfl):PS X (.Expr e pos) (tDrop te):=by
 intro pins s σ H D I h
 exact wpAny_Expr_any (thn (he pins s σ H _ I h) fun v s1 ⟨x,H1,I1,r1,q1⟩=>⟨σ,H1,I1,q1⟩) I.quiet hs
noncomputable def tRet (te:TE):TS:=fun D σ H=>te σ H D.rt
theorem zt (he:PE X e te):PS X (.Return (some e) pos) (tRet te):=by
 intro pins s σ H D I h
 exact wpAny_Return_some (thn (he pins s σ H _ I h) fun v s1 ⟨x,H1,I1,r1,q1⟩=>⟨x,σ,H1,I1,r1,q1⟩)
noncomputable def tIfS (c:TT) (t u:TS):TS:=fun D σ H=>c σ H fun b H1=>if b = true then t D σ H1 else u D σ H1
theorem zV {c:Expr} {a b:List Stmt} {tc:TT} (hc:PT X c tc) (ha:PSs X a t) (hb:PSs X b u):PS X (.If c a b pos) (tIfS tc t u):=by
 intro pins s σ H D I h
 refine wpAny_If (thn (hc pins s σ H _ I h) fun d s1 ⟨H1,I1,q1⟩=>?_)
 cases d with
 | true=>exact ha pins s1 σ H1 D I1 q1
 | false=>exact hb pins s1 σ H1 D I1 q1
noncomputable def tNever:TS:=fun _ _ _=>False
theorem jp:PS X st tNever:=fun _ _ _ _ _ _ h=>h.elim
end
noncomputable abbrev TG:=V→St→Hp→(St→Hp→Prop)→Prop
noncomputable abbrev TGs:=List V→St→Hp→(St→Hp→Prop)→Prop
noncomputable def PG (X:Cx) (target:Expr) (t:TG):Prop :=
 ∀ (pins:List (Addr×Obj)) (s:Shared) (σ:St) (H:Hp) (v:V) (u:Value) (Q:St→Hp→Prop),Inv X pins σ H s→RelV v u→t v σ H Q →
  wpAny (model X.prog X.w) X.A (assign target X.env u) (fun _ s'=>∃ σ' H',Inv X pins σ' H' s'∧Q σ' H') X.xe s
noncomputable def PGs (X:Cx) (ts:List Expr) (t:TGs):Prop :=
 ∀ (pins:List (Addr×Obj)) (s:Shared) (σ:St) (H:Hp) (vs:List V) (us:List Value) (Q:St→Hp→Prop),Inv X pins σ H s→Vals vs us→t vs σ H Q →
  wpAny (model X.prog X.w) X.A (assignInOrder ((assignEach ts X.env).map (·.2)) us) (fun _ s'=>∃ σ' H',Inv X pins σ' H' s'∧Q σ' H') X.xe s
section
variable {X:Cx} {pos:Pos}
noncomputable def gName (i:Nat):TG:=fun v σ H Q=>Q (σ.set i (some v)) H
theorem yd {i:Nat} {x:Str} (hN:X.N.Nodup) (hi:X.N[i]? = some x) (hx:Loc X.env.scope x) (hf:X.fn x = true∨X.env.scope.names.lookup x = some .local:=by first | exact .inl rfl | exact .inr rfl | assumption):PG X (.Name x pos) (gName i):=by
 intro pins s σ H v u Q I r h
 exact wpAny_assign_Name (qp I hN hi hx r (fun s' I'=>⟨_,H,I',h⟩) hf)
noncomputable def gNil:TGs:=fun vs σ H Q=>vs = []∧Q σ H
inductive zbK (t:TG) (u:TGs) (vs:List V) (σ:St) (H:Hp) (Q:St→Hp→Prop):Prop where
 | mk (v:V) (r:List V) (h0_:vs = v :: r) (h1_:t v σ H fun σ' H'=>u r σ' H' Q):zbK t u vs σ H Q
noncomputable def gCons (t:TG) (u:TGs):TGs:=fun vs σ H Q=>zbK t u vs σ H Q
theorem Xc:PGs X [] gNil:=by
 intro pins s σ H vs us Q I r h
 obtain ⟨e,h⟩:=h
 subst e
 cases r
 exact assignInOrder_nil ⟨σ,H,I,h⟩
theorem xu {e:Expr} {es:List Expr} {t:TG} {u:TGs} (h1:PG X e t) (h2:PGs X es u)
  (hs:(assignEach (e :: es) X.env).map (·.2) = assign e X.env :: (assignEach es X.env).map (·.2):=by rfl):PGs X (e :: es) (gCons t u):=by
 intro pins s σ H vs us Q I r h
 obtain ⟨v,vr,e1,h⟩:=h
 subst e1
 cases r with
 | cons r rr =>
  rw [hs]
  refine assignInOrder_cons (thn (h1 pins s σ H _ _ _ I r h) fun _ s1 ⟨σ1,H1,I1,q1⟩=>?_)
  exact h2 pins s1 σ1 H1 _ _ Q I1 rr q1
inductive zeB (K:PySem.W.Frag) (n:Nat) (t:TGs) (v:V) (σ:St) (H:Hp) (Q:St→Hp→Prop):Prop where
 | mk (a:Addr) (xs:List V) (h0_:v = .ref a) (h1_:SqT K H a xs) (h2_:xs.length = n) (h3_:t xs σ H Q):zeB K n t v σ H Q
noncomputable def gTup (K:PySem.W.Frag) (n:Nat) (t:TGs):TG:=fun v σ H Q=>zeB K n t v σ H Q
theorem zgN {es:List Expr} {k:Nat} {t:TGs} {n:Nat} (hc:X.calm = true) (h:PGs X es t)
  (hn:(assignEach es X.env).length = n:=by rfl) (hst:(assignEach es X.env).findIdx? (·.1) = none:=by rfl):PG X (.Tuple es k pos) (gTup X.K n t):=by
 intro pins s σ H v u Q I r hw
 obtain ⟨a,xs,e1,hq,hl,hw⟩:=hw
 subst e1
 cases r
 obtain ⟨its,rv,ht,hz⟩:=I.tuple hq
 refine assign_Tuple_tuple (I.ok.hd hc) ht (by simp [hn,← hl,rv.length]) hst fun h' hx=>?_
 have I1:Inv X pins σ H { s with heap:=h' }:=I.kept (t':=s.toks) fun b o e=>hx b o (Nat.ne_of_lt (Heap.lt_size e)) e
 exact h pins _ σ H xs _ Q I1 (by simpa using rv) hw
noncomputable def tAsg (te:TE) (g:TG):TS:=fun D σ H=>te σ H fun x H1=>g x σ H1 D.nx
theorem zgC {tg e:Expr} {te:TE} {g:TG} (he:PE X e te) (hg:PG X tg g) (hs:swapsWithSole [tg] e pos.line X.env = pure false:=by rfl) (hw:swappedStores [tg] e X.env = pure none:=by rfl)
  (h1:(assignEach [tg] X.env).map (·.2) = [assign tg X.env]:=by rfl):PS X (.Assign [tg] e pos) (tAsg te g):=by
 intro pins s σ H D I h
 refine wpAny_Assign_stores (thn (he pins s σ H _ I h) fun v s1 ⟨x,H1,I1,r1,q1⟩=>?_) hs hw
 rw [h1]
 exact thn (hg pins s1 σ H1 x v _ I1 r1 q1) fun _ s2 q=>q
theorem zp {i:Nat} {x:Str} {e:Expr} {te:TE} {pos':Pos} (hN:X.N.Nodup) (hi:X.N[i]? = some x) (hx:Loc X.env.scope x) (he:PE X e te) (hs:swapsWith e (some (.Name x pos')) pos.line X.env = pure false:=by rfl) (hf:X.fn x = true∨X.env.scope.names.lookup x = some .local:=by first | exact .inl rfl | exact .inr rfl | assumption) :
  PS X (.Assign [.Name x pos'] e pos) (tAsg te (gName i)):=by
 intro pins s σ H D I h
 refine wpAny_Assign_Name (thn (he pins s σ H _ I h) fun v s1 ⟨y,H1,I1,r1,q1⟩=>?_) hs
 exact qp I1 hN hi hx r1 (fun s2 I2=>⟨_,H1,I2,q1⟩) hf
end
section
variable {X:Cx} {pos:Pos}
noncomputable def tWhile (c:TT) (tb:TS):TS:=fun D σ H=>∃ W:Nat→St→Hp→Prop,(∃ m,W m σ H)∧∀ m σ H,W m σ H →
 c σ H fun b H1=>if b = true then ∃ N:St→Hp→Prop,(∀ σ' H',N σ' H'→∃ m',m' < m∧W m' σ' H')∧tb { D with nx:=N,ct:=N,bk:=D.nx } σ H1 else D.nx σ H1
theorem qa {c:Expr} {body:List Stmt} {tc:TT} {tb:TS} (hp:PassesOwn (model X.prog X.w) X.A X.env X.xe) (hc:PT X c tc) (hb:PSs X body tb):PS X (.While c body [] pos) (tWhile tc tb):=by
 intro pins s σ H D I h
 obtain ⟨W,⟨m0,w0⟩,turn⟩:=h
 refine wpAny_While (codeAny_whileLoop (fun n s'=>∃ σ' H',Inv X pins σ' H' s'∧W n σ' H') ?_ m0 ⟨σ,H,I,w0⟩)
 rintro n s1 ⟨σ1,H1,I1,w1⟩
 refine wpAny_passesOwn hp (thn (hc pins s1 σ1 H1 _ I1 (turn n σ1 H1 w1)) fun b s2 ⟨H2,I2,q2⟩=>?_)
 cases b with
 | true =>
  obtain ⟨N,hN,q2⟩:=q2
  rw [if_pos rfl]
  refine wpAny_passesOwn hp (thn (hb pins s2 σ1 H2 _ I2 q2) fun f s3 q3=>?_)
  cases f with
  | next =>
   obtain ⟨σ3,H3,I3,n3⟩:=q3
   obtain ⟨m',hm,w3⟩:=hN σ3 H3 n3
   exact ⟨m',hm,σ3,H3,I3,w3⟩
  | cont =>
   obtain ⟨σ3,H3,I3,n3⟩:=q3
   obtain ⟨m',hm,w3⟩:=hN σ3 H3 n3
   exact ⟨m',hm,σ3,H3,I3,w3⟩
  | brk=>exact q3
  | ret v=>exact q3
 | false =>
  rw [if_neg Bool.false_ne_true]
  exact wpAny_execs_nil ⟨σ1,H2,I2,q2⟩
end
structure It where
 go:Nat→Hp→Prop
 yld:Nat→Hp→V→Hp→Prop
 stop:Nat→Hp→Prop
noncomputable def FpOk (X:Cx) (pins:List (Addr×Obj)) (H:Hp) (b:Addr):Prop :=
 H b = none∧b≠X.env.locals∧b∉X.fs∧(b∈X.ex∨X.s₀.heap.objs.size≤b)∧(∀ x c,X.env.cells.lookup x = some c→c≠b)∧∀ p∈X.pn ++ pins,p.1≠b
theorem Inv.fpOk {X:Cx} {pins:List (Addr×Obj)} {σ:St} {H H':Hp} {s:Shared} {b:Addr} (I:Inv X pins σ H s) (hb:s.heap.objs.size≤b) (hn:H' b = none):FpOk X pins H' b:=by
 refine ⟨hn,Nat.ne_of_gt (Nat.lt_of_lt_of_le I.lt hb),I.nofs hb,.inr (Nat.le_trans I.sz hb),fun x c e z=>?_,fun p hp z=>?_⟩
 ·obtain ⟨v,q⟩:=I.cell x c e
  exact absurd (Nat.lt_of_lt_of_le q.lt (by rw [z]; exact hb)) (Nat.lt_irrefl _)
 ·exact absurd (Nat.lt_of_lt_of_le (Heap.lt_size (I.pin p hp).1) (by rw [z]; exact hb)) (Nat.lt_irrefl _)
structure Turn (P:Program) (w:World) (K:PySem.W.Frag) (tg:Expr) (J:It) (fp:List Addr) (it:Addr) (tn:Nat→Heap→Prop):Prop where
 mem:it∈fp
 obj:∀ i h,tn i h→∀ b∈fp,∃ o,h.get? b = some o∧∀ v,o.data≠.cell v
 keep:∀ i h h',tn i h→(∀ b∈fp,∀ o,h.get? b = some o→h'.get? b = some o)→tn i h'
 item:∀ (X:Cx),X.prog = P→X.w = w→X.K = K→X.calm = true→∀ (i:Nat) (pins:List (Addr×Obj)) (s:Shared) (σ:St) (H:Hp) (E:Value→Shared→Prop),Inv X pins σ H s→(∀ b∈fp,FpOk X pins H b)→tn i s.heap→J.go i H →
  wpAny (model P w) X.A (pyNext (.ref it)) (fun r s1=>∃ u,r = some u ∧
   wpAny (model P w) X.A (letOwnedTupleGo tg (.ref it) u) (fun _ s2=>∃ x H',Inv X pins σ H' s2∧RelV x u∧J.yld i H x H'∧tn (i + 1) s2.heap∧∀ b∈fp,H' b = none) E s1) E s
 done:∀ (X:Cx),X.prog = P→X.w = w→X.K = K→X.calm = true→∀ (i:Nat) (pins:List (Addr×Obj)) (s:Shared) (σ:St) (H:Hp) (E:Value→Shared→Prop),Inv X pins σ H s→(∀ b∈fp,FpOk X pins H b)→tn i s.heap→J.stop i H →
  wpAny (model P w) X.A (pyNext (.ref it)) (fun r s1=>r = none∧Inv X pins σ H s1) E s
 self:∀ (A:Around) (i:Nat) (s:Shared) (Q:Value→Shared→Prop) (E:Value→Shared→Prop),tn i s.heap→Q (.ref it) s→wpAny (model P w) A (pyIter (.ref it)) Q E s
noncomputable abbrev TI:=St→Hp→(It→Hp→Prop)→Prop
noncomputable def PIE (X:Cx) (pins:List (Addr×Obj)) (σ:St) (tg:Expr) (R:It→Hp→Prop) (itv:Value) (s2:Shared):Prop :=
 ∃ (it:Addr) (fp:List Addr) (tn:Nat→Heap→Prop) (J:It) (H':Hp),itv = .ref it∧Inv X pins σ H' s2∧Turn X.prog X.w X.K tg J fp it tn∧tn 0 s2.heap∧(∀ b∈fp,FpOk X pins H' b)∧R J H'
noncomputable def PI (X:Cx) (tg iter:Expr) (wi:TI):Prop :=
 ∀ (pins:List (Addr×Obj)) (s:Shared) (σ:St) (H:Hp) (R:It→Hp→Prop),Inv X pins σ H s→wi σ H R →
  wpAny (model X.prog X.w) X.A (eval iter X.env) (fun v s1=>wpAny (model X.prog X.w) X.A (pyIter v) (PIE X pins σ tg R) X.xe s1) X.xe s
theorem zdl {M:Model} {A:Around} {E:Value→Shared→Prop} {s:Shared} {tg:Expr} {it:Addr} {u:Value} {o:Obj} {n:String} {vs:Array Value} {Q:Unit→Shared→Prop} (ho:s.heap.get? it = some o) (hc:o.cls = .type n) (hd:o.data = .fields vs)
  (hn:["enumerate", "zip", "dict_itemiterator", "dict_reverseitemiterator", "odict_iterator", "itertools.zip_longest", "itertools.pairwise"].contains n = false) (hQ:Q () s):wpAny M A (letOwnedTupleGo tg (.ref it) u) Q E s:=by
 unfold letOwnedTupleGo
 cases tg <;> first
  | exact wpAny_pure hQ
  | (cases u <;> first
    | exact wpAny_pure hQ
    | (refine wpAny_bind (wpAny_load ho ?_)
       rw [hc,hd]
       show wpAny M A (if (["enumerate", "zip", "dict_itemiterator", "dict_reverseitemiterator", "odict_iterator", "itertools.zip_longest", "itertools.pairwise"].contains n && vs[0]? == some (rawInt _)) = true then _ else _) Q E s
       rw [if_neg (by intro h; rw [hn,Bool.false_and] at h; cases h)]
       exact wpAny_pure hQ))
noncomputable def Itl (K:PySem.W.Frag) (a:Addr):It :=
 ⟨fun i H=>∃ xs x,SqL K H a xs∧xs[i]? = some x,fun i H x H'=>H' = H∧∀ xs,SqL K H a xs→xs[i]? = some x,fun i H=>∃ xs,SqL K H a xs∧xs.length≤i⟩
noncomputable def Itt (K:PySem.W.Frag) (a:Addr):It :=
 ⟨fun i H=>∃ xs x,SqT K H a xs∧xs[i]? = some x,fun i H x H'=>H' = H∧∀ xs,SqT K H a xs→xs[i]? = some x,fun i H=>∃ xs,SqT K H a xs∧xs.length≤i⟩
noncomputable def Itr (lo:Int) (n:Nat):It:=⟨fun i _=>i < n,fun i H x H'=>H' = H∧x = .int (lo + i),fun i _=>n≤i⟩
theorem zcF {P:Program} {w:World} {K:PySem.W.Frag} {tg:Expr} (a it:Addr):Turn P w K tg (Itl K a) [it] it (fun i h=>h.IsListIter it a i) where
 mem:=by simp
 obj:=fun i h st b hb=>by
  have e:b = it:=by simpa using hb
  subst e
  obtain ⟨o,e,c,d⟩:=st
  exact ⟨o,e,fun v z=>by rw [d] at z; cases z⟩
 keep:=fun i h h' st k=>st.at fun o e=>k it (by simp) o e
 item:=by
  intro X hP hw hK hc i pins s σ H E I hf st hg
  subst hP hw hK
  obtain ⟨xs,x,hq,hx⟩:=hg
  obtain ⟨its,rv,p,hz⟩:=I.list hq
  obtain ⟨u,hu,ru⟩:=rv.get hx
  obtain ⟨f0,f1,f2,f3,f4,f5⟩:=hf it (by simp)
  refine wpAny_pyNext_list_item st p.isList (x:=u) (by simpa using hu) fun h' st' sb=>?_
  have I1:Inv X pins σ H { s with heap:=h' }:=I.turned (t':=s.toks) (fun b o hb e=>(sb.2 b hb).trans e) f0 f1 f3 f4 f5
  obtain ⟨o,e,c,d⟩:=id st'
  exact ⟨u,rfl,zdl (s:={ s with heap:=h' }) e c d (by decide) ⟨x,H,I1,ru,⟨rfl,fun ys hy=>by rw [I.list_inj hy hq]; exact hx⟩,st',fun b hb=>(hf b hb).1⟩⟩
 done:=by
  intro X hP hw hK hc i pins s σ H E I hf st hg
  subst hP hw hK
  obtain ⟨xs,hq,hx⟩:=hg
  obtain ⟨its,rv,p,hz⟩:=I.list hq
  obtain ⟨f0,f1,f2,f3,f4,f5⟩:=hf it (by simp)
  have hl:=rv.length
  exact wpAny_pyNext_list_end (I.ok.hd hc) st p.isList (by simp; omega) fun h' eb=>⟨rfl,I.turned (t':=s.toks) (fun b o hb e=>eb b o hb e) f0 f1 f3 f4 f5⟩
 self:=fun _ _ _ _ _ st h=>wpAny_pyIter_listiter st h
theorem za0 {P:Program} {w:World} {K:PySem.W.Frag} {tg:Expr} (a it:Addr):Turn P w K tg (Itt K a) [it] it (fun i h=>h.IsTupleIter it a i) where
 mem:=by simp
 obj:=fun i h st b hb=>by
  have e:b = it:=by simpa using hb
  subst e
  obtain ⟨o,e,c,d⟩:=st
  exact ⟨o,e,fun v z=>by rw [d] at z; cases z⟩
 keep:=fun i h h' st k=>st.at fun o e=>k it (by simp) o e
 item:=by
  intro X hP hw hK hc i pins s σ H E I hf st hg
  subst hP hw hK
  obtain ⟨xs,x,hq,hx⟩:=hg
  obtain ⟨its,rv,p,hz⟩:=I.tuple hq
  obtain ⟨u,hu,ru⟩:=rv.get hx
  obtain ⟨f0,f1,f2,f3,f4,f5⟩:=hf it (by simp)
  refine wpAny_pyNext_tuple_item st (show s.heap.IsTuple a its.toArray from p) (x:=u) (by simpa using hu) fun h' st' sb=>?_
  have I1:Inv X pins σ H { s with heap:=h' }:=I.turned (t':=s.toks) (fun b o hb e=>(sb.2 b hb).trans e) f0 f1 f3 f4 f5
  obtain ⟨o,e,c,d⟩:=id st'
  exact ⟨u,rfl,zdl (s:={ s with heap:=h' }) e c d (by decide) ⟨x,H,I1,ru,⟨rfl,fun ys hy=>by rw [I.tuple_inj hy hq]; exact hx⟩,st',fun b hb=>(hf b hb).1⟩⟩
 done:=by
  intro X hP hw hK hc i pins s σ H E I hf st hg
  subst hP hw hK
  obtain ⟨xs,hq,hx⟩:=hg
  obtain ⟨its,rv,p,hz⟩:=I.tuple hq
  obtain ⟨f0,f1,f2,f3,f4,f5⟩:=hf it (by simp)
  have hl:=rv.length
  exact wpAny_pyNext_tuple_end (I.ok.hd hc) st (show s.heap.IsTuple a its.toArray from p) (by simp; omega) fun h' eb=>⟨rfl,I.turned (t':=s.toks) (fun b o hb e=>eb b o hb e) f0 f1 f3 f4 f5⟩
 self:=fun _ _ _ _ _ st h=>wpAny_pyIter_tupleiter st h
theorem zbe {P:Program} {w:World} {K:PySem.W.Frag} {tg:Expr} (it:Addr) (lo:Int) (n:Nat):Turn P w K tg (Itr lo n) [it] it (fun i h=>IsRangeIter h it (lo + (i:Nat) * 1) ((n:Int) - (i:Nat)) 1) where
 mem:=by simp
 obj:=fun i h st b hb=>by
  have e:b = it:=by simpa using hb
  subst e
  exact ⟨_,st,fun v z=>by
   have z':Data.fields _ = Data.cell v:=z
   cases z'⟩
 keep:=fun i h h' st k=>k it (by simp) _ st
 item:=by
  intro X hP hw hK hc i pins s σ H E I hf st hg
  subst hP hw hK
  obtain ⟨f0,f1,f2,f3,f4,f5⟩:=hf it (by simp)
  have W:=Walks.range (prog:=X.prog) (w:=X.w) (I.ok.hd hc) it lo 1 n
  refine W.item i s _ _ hg st fun v h' tk hv st' kk=>?_
  obtain ⟨t,rfl⟩:=hv
  have I1:Inv X pins σ H { s with heap:=h',toks:=tk }:=I.turned (fun b o hb e=>kk b o (by simpa using hb) e) f0 f1 f3 f4 f5
  refine ⟨_,rfl,zdl (s:={ s with heap:=h',toks:=tk }) (n := "range_iterator") st' rfl rfl (by decide) ⟨.int (lo + i),H,I1,⟨t,?_⟩,⟨rfl,rfl⟩,st',fun b hb=>(hf b hb).1⟩⟩
  rw [Int.mul_one]
 done:=by
  intro X hP hw hK hc i pins s σ H E I hf st hg
  subst hP hw hK
  obtain ⟨f0,f1,f2,f3,f4,f5⟩:=hf it (by simp)
  exact wpAny_pyNext_range_end (I.ok.hd hc) st (by have:n≤i:=hg; omega) fun h' eb=>⟨rfl,I.turned (t':=s.toks) (fun b o hb e=>eb b o hb e) f0 f1 f3 f4 f5⟩
 self:=fun _ _ _ _ _ st h=>wpAny_pyIter_rangeiter st h
end L2
namespace L2
open PySem PySem.Spec PyProof.Rows
section
variable {X:Cx} {tg:Expr}
inductive zbP (K:PySem.W.Frag) (x:V) (H1:Hp) (R:It→Hp→Prop):Prop where
 | mk (a:Addr) (h0_:x = .ref a) (h1_:(∃ xs,SqL K H1 a xs)) (h2_:R (Itl K a) H1):zbP K x H1 R
noncomputable def iList (K:PySem.W.Frag) (tl:TE):TI:=fun σ H R=>tl σ H fun x H1=>zbP K x H1 R
noncomputable def iTup (K:PySem.W.Frag) (tl:TE):TI:=fun σ H R=>tl σ H fun x H1=>∃ a,x = .ref a∧(∃ xs,SqT K H1 a xs)∧R (Itt K a) H1
theorem zcP {l:Expr} {tl:TE} (hl:PE X l tl):PI X tg l (iList X.K tl):=by
 intro pins s σ H R I h
 refine thn (hl pins s σ H _ I h) fun v s1 ⟨x,H1,I1,r1,q1⟩=>?_
 obtain ⟨a,e,⟨xs,hq⟩,q⟩:=q1
 subst e
 cases r1
 obtain ⟨its,rv,p,hz⟩:=I1.list hq
 refine wpAny_pyIter_list p.isList ?_
 refine ⟨s1.heap.objs.size,[s1.heap.objs.size],_,_,H1,rfl,I1.kept (t':=s1.toks) fun b o e=>Heap.get?_push_of_some _ e,zcF a _,⟨_,Heap.get?_push_size _ rfl,rfl,rfl⟩,fun b hb=>?_,q⟩
 have e:b = s1.heap.objs.size:=by simpa using hb
 subst e
 exact I1.fpOk (Nat.le_refl _) (I1.hok.fresh (Nat.le_refl _))
theorem zg3 {l:Expr} {tl:TE} (hl:PE X l tl):PI X tg l (iTup X.K tl):=by
 intro pins s σ H R I h
 refine thn (hl pins s σ H _ I h) fun v s1 ⟨x,H1,I1,r1,q1⟩=>?_
 obtain ⟨a,e,⟨xs,hq⟩,q⟩:=q1
 subst e
 cases r1
 obtain ⟨its,rv,p,hz⟩:=I1.tuple hq
 refine wpAny_pyIter_tuple (show s1.heap.IsTuple a its.toArray from p) ?_
 refine ⟨s1.heap.objs.size,[s1.heap.objs.size],_,_,H1,rfl,I1.kept (t':=s1.toks) fun b o e=>Heap.get?_push_of_some _ e,za0 a _,⟨_,Heap.get?_push_size _ rfl,rfl,rfl⟩,fun b hb=>?_,q⟩
 have e:b = s1.heap.objs.size:=by simpa using hb
 subst e
 exact I1.fpOk (Nat.le_refl _) (I1.hok.fresh (Nat.le_refl _))
theorem zdJ {pins:List (Addr×Obj)} {σ:St} {H:Hp} {s:Shared} {R:It→Hp→Prop} {E:Value→Shared→Prop} {lo hi:Int} {t u v:Tok} {tk:Nat} (I:Inv X pins σ H s) (h1 : -(2 ^ 62)≤lo) (h2:lo < 2 ^ 62) (h3 : -(2 ^ 62)≤hi) (h4:hi < 2 ^ 62)
  (q:R (Itr lo (hi - lo).toNat) H):wpAny (model X.prog X.w) X.A (pyIter (.ref s.heap.objs.size)) (PIE X pins σ tg R) E { s with heap:=s.heap.push { cls:=.type "range",data:=.fields #[.int lo t,.int hi u,.int 1 v] },toks:=tk }:=by
 refine wpAny_pyIter_range (IsRange.new ..) (small_one h1 h2 h3 h4) ?_
 have I1:Inv X pins σ H { s with heap:=s.heap.push { cls:=.type "range",data:=.fields #[.int lo t,.int hi u,.int 1 v] },toks:=tk }:=I.kept fun b o e=>Heap.get?_push_of_some _ e
 refine ⟨(s.heap.push { cls:=.type "range",data:=.fields #[.int lo t,.int hi u,.int 1 v] }).objs.size,[(s.heap.push { cls:=.type "range",data:=.fields #[.int lo t,.int hi u,.int 1 v] }).objs.size],_,_,H,rfl,
  I1.kept (t':=tk) fun b o e=>Heap.get?_push_of_some _ e,zbe _ lo (hi - lo).toNat,?_,fun b hb=>?_,q⟩
 ·have e1:lo + ((0:Nat):Int) * 1 = lo:=by simp
  have e2:(((hi - lo).toNat:Nat):Int) - ((0:Nat):Int) = Builtin.Range.rangeSize lo hi 1:=by rw [rangeSize_one]; split <;> omega
  show IsRangeIter _ _ (lo + ((0:Nat):Int) * 1) ((((hi - lo).toNat:Nat):Int) - ((0:Nat):Int)) 1
  rw [e1,e2]
  exact Heap.get?_push_size _ rfl
 ·have e:b = (s.heap.push { cls:=.type "range",data:=.fields #[.int lo t,.int hi u,.int 1 v] }).objs.size:=by simpa using hb
  subst e
  exact I1.fpOk (Nat.le_refl _) (I1.hok.fresh (Nat.le_refl _))
inductive zbI (vs:List V) (H1:Hp) (R:It→Hp→Prop):Prop where
 | mk (j:Int) (h0_:vs = [.int j]) (h1_ : -(2 ^ 62)≤j) (h2_:j < 2 ^ 62) (h3_:R (Itr 0 j.toNat) H1):zbI vs H1 R
noncomputable def iRng1 (ta:TA):TI:=fun σ H R=>ta σ H fun vs H1=>zbI vs H1 R
theorem jQ {a:Expr} {ta:TA} {p pos:Pos} (hg:Gl X "range") (hm:X.mg "range" = none) (ha:PA X [a] ta) (hs:starEach [a] X.env = [(false,eval a X.env)]:=by rfl):PI X tg (.Call (.Name "range" p) [a] [] pos) (iRng1 ta):=by
 intro pins s σ H R I h
 refine Call_ (Yi I hg hm boot_range (PyProof.Rows.callWith_type1 (thn (ha pos pins s σ H _ I h) fun us s1 ⟨vs,H1,I1,r1,q1⟩=>?_) hs rfl))
 obtain ⟨j,e,q1,q2,q⟩:=q1
 subst e
 cases r1 with
 | cons r rr =>
  cases rr
  obtain ⟨t,rfl⟩:=r
  exact call_range_1 (zdJ I1 (by omega) (by omega) q1 q2 (by simpa using q))
noncomputable def tFor (wi:TI) (g:TG) (tb:TS):TS:=fun D σ H=>wi σ H fun J H1=>∃ W:Nat→Nat→St→Hp→Prop,(∃ m,W 0 m σ H1)∧∀ i m σ H,W i m σ H →
 (J.stop i H∧D.nx σ H)∨(J.go i H∧∃ N:St→Hp→Prop,(∀ σ' H',N σ' H'→∃ m',m' < m∧W (i + 1) m' σ' H')∧∀ x H',J.yld i H x H'→g x σ H' fun σ2 H2=>tb { D with nx:=N,ct:=N,bk:=D.nx } σ2 H2)
noncomputable def pinsAt (fp:List Addr) (h:Heap):List (Addr×Obj):=fp.filterMap fun b=>(h.get? b).map fun o=>(b,o)
theorem xa {fp:List Addr} {h:Heap} {b:Addr} {o:Obj} (hb:b∈fp) (e:h.get? b = some o):(b,o)∈pinsAt fp h:=List.mem_filterMap.mpr ⟨b,hb,by rw [e]; rfl⟩
theorem zb6 {fp:List Addr} {h:Heap} {p:Addr×Obj} (hp:p∈pinsAt fp h):p.1∈fp∧h.get? p.1 = some p.2:=by
 obtain ⟨b,hb,e⟩:=List.mem_filterMap.mp hp
 cases q:h.get? b with
 | none=>rw [q] at e; cases e
 | some o =>
  rw [q] at e
  have e':(b,o) = p:=Option.some.inj e
  subst e'
  exact ⟨hb,q⟩
theorem Inv.pinned {pins:List (Addr×Obj)} {σ:St} {H:Hp} {s:Shared} {fp:List Addr} (I:Inv X pins σ H s) (hf:∀ b∈fp,FpOk X pins H b) (ho:∀ b∈fp,∃ o,s.heap.get? b = some o∧∀ v,o.data≠.cell v):Inv X (pins ++ pinsAt fp s.heap) σ H s :=
 I.pins_of fun p hp=>(List.mem_append.mp hp).elim (fun z=>I.pin p (List.mem_append_right _ z)) fun z=>by
  obtain ⟨hb,e⟩:=zb6 z
  obtain ⟨f0,f1,f2,_⟩:=hf p.1 hb
  obtain ⟨o,e',d⟩:=ho p.1 hb
  rw [e] at e'; cases e'
  exact ⟨e,f0,f1,f2,d⟩
theorem Inv.unpinned {pins pl:List (Addr×Obj)} {σ:St} {H:Hp} {s:Shared} (I:Inv X (pins ++ pl) σ H s):Inv X pins σ H s:=I.pins_of fun p hp=>I.pin p (List.mem_append_right _ (List.mem_append_left _ hp))
theorem Zy {iter:Expr} {body:List Stmt} {wi:TI} {g:TG} {tb:TS} {pos:Pos} (hp:PassesOwn (model X.prog X.w) X.A X.env X.xe) (hc:X.calm = true) (hi:PI X tg iter wi) (hg:PG X tg g) (hb:PSs X body tb)
  (hs:∀ x,foldedSetIterable iter X.env x = pure x:=by intro _; rfl):PS X (.For tg iter body [] pos) (tFor wi g tb):=by
 intro pins s σ H D I h
 refine wpAny_For (thn (hi pins s σ H _ I h) fun v s1 h1=>thn h1 fun itv s2 h2=>?_) hs
 obtain ⟨it,fp,tn,J,H2,e,I2,T,st2,f2,W,⟨m0,w0⟩,turn⟩:=h2
 subst e
 have stat:∀ {H':Hp},(∀ b∈fp,H' b = none)→∀ b∈fp,FpOk X pins H' b:=fun hn b hb=>⟨hn b hb,(f2 b hb).2⟩
 refine codeAny_forLoop_any (fun n s'=>∃ i σ' H',Inv X pins σ' H' s'∧tn i s'.heap∧(∀ b∈fp,H' b = none)∧W i n σ' H') ?_ m0 ⟨0,σ,H2,I2,st2,fun b hb=>(f2 b hb).1,w0⟩
 rintro n s3 ⟨i,σ3,H3,I3,st3,fr3,w3⟩
 rcases turn i n σ3 H3 w3 with ⟨stop,qn⟩ | ⟨go,N,hN,step⟩
 ·refine wpAny_passesOwn hp (thn (T.done X rfl rfl rfl hc i pins s3 σ3 H3 X.xe I3 (stat fr3) st3 stop) fun r s4 ⟨hr,I4⟩=>?_)
  subst hr
  exact wpAny_execs_nil ⟨σ3,H3,I4,qn⟩
 ·refine wpAny_passesOwn hp (thn (T.item X rfl rfl rfl hc i pins s3 σ3 H3 X.xe I3 (stat fr3) st3 go) fun r s4 ⟨u,hr,h4⟩=>?_)
  subst hr
  refine wpAny_passesOwn hp (thn h4 fun _ s5 ⟨x,H5,I5,r5,y5,st5,fr5⟩=>?_)
  have I5':=I5.pinned (stat fr5) (T.obj _ _ st5)
  refine wpAny_passesOwn hp (thn (hg _ s5 σ3 H5 x u _ I5' r5 (step x H5 y5)) fun _ s6 ⟨σ6,H6,I6,q6⟩=>?_)
  refine wpAny_passesOwn hp (thn (hb _ s6 σ6 H6 _ I6 q6) fun f s7 q7=>?_)
  have again:∀ {σ7:St} {H7:Hp},Inv X (pins ++ pinsAt fp s5.heap) σ7 H7 s7→N σ7 H7→∃ m,m < n∧∃ i σ' H',Inv X pins σ' H' s7∧tn i s7.heap∧(∀ b∈fp,H' b = none)∧W i m σ' H':=fun {σ7 H7} I7 n7=>by
   obtain ⟨m',hm,w7⟩:=hN σ7 H7 n7
   refine ⟨m',hm,i + 1,σ7,H7,I7.unpinned,T.keep _ _ _ st5 fun b hb o e=>(I7.pin (b,o) (List.mem_append_right _ (List.mem_append_right _ (xa hb e)))).1,fun b hb=>?_,w7⟩
   obtain ⟨o,e,d⟩:=T.obj _ _ st5 b hb
   exact (I7.pin (b,o) (List.mem_append_right _ (List.mem_append_right _ (xa hb e)))).2.1
  cases f with
  | next=>obtain ⟨σ7,H7,I7,n7⟩:=q7; exact again I7 n7
  | cont=>obtain ⟨σ7,H7,I7,n7⟩:=q7; exact again I7 n7
  | brk=>obtain ⟨σ7,H7,I7,q7⟩:=q7; exact ⟨σ7,H7,I7.unpinned,q7⟩
  | ret v=>obtain ⟨x7,σ7,H7,I7,r7,q7⟩:=q7; exact ⟨x7,σ7,H7,I7.unpinned,r7,q7⟩
end
theorem qo {K:PySem.W.Frag} {a:Addr} {xs:List V} {g:TG} {tb:TS} {D:Ends} {σ:St} {H:Hp} (Pv:Nat→St→Hp→Prop) (h0:Pv 0 σ H) (hl:∀ i σ H,i≤xs.length→Pv i σ H→SqL K H a xs)
  (hs:∀ i x σ H,xs[i]? = some x→Pv i σ H→g x σ H fun σ2 H2=>tb { D with nx:=Pv (i + 1),ct:=Pv (i + 1),bk:=D.nx } σ2 H2) (hd:∀ σ H,Pv xs.length σ H→D.nx σ H) :
  ∃ W:Nat→Nat→St→Hp→Prop,(∃ m,W 0 m σ H)∧∀ i m σ H,W i m σ H →
   ((Itl K a).stop i H∧D.nx σ H)∨((Itl K a).go i H∧∃ N:St→Hp→Prop,(∀ σ' H',N σ' H'→∃ m',m' < m∧W (i + 1) m' σ' H')∧∀ x H',(Itl K a).yld i H x H'→g x σ H' fun σ2 H2=>tb { D with nx:=N,ct:=N,bk:=D.nx } σ2 H2):=by
 refine ⟨fun i m σ H=>m = xs.length - i∧i≤xs.length∧Pv i σ H,⟨xs.length,by simp,Nat.zero_le _,h0⟩,?_⟩
 rintro i m σ H ⟨rfl,hi,p⟩
 have q:=hl i σ H hi p
 by_cases hlt:i < xs.length
 ·refine .inr ⟨⟨xs,xs[i],q,by simp [hlt]⟩,Pv (i + 1),fun σ' H' p'=>⟨xs.length - (i + 1),by omega,rfl,hlt,p'⟩,fun x H' y=>?_⟩
  obtain ⟨e,y⟩:=y
  subst e
  exact hs i x σ _ (y xs q) p
 ·have e:i = xs.length:=by omega
  subst e
  exact .inl ⟨⟨xs,q,Nat.le_refl _⟩,hd σ H p⟩
theorem zcA {lo:Int} {n:Nat} {g:TG} {tb:TS} {D:Ends} {σ:St} {H:Hp} (Pv:Nat→St→Hp→Prop) (h0:Pv 0 σ H)
  (hs:∀ i σ H,i < n→Pv i σ H→g (.int (lo + i)) σ H fun σ2 H2=>tb { D with nx:=Pv (i + 1),ct:=Pv (i + 1),bk:=D.nx } σ2 H2) (hd:∀ σ H,Pv n σ H→D.nx σ H) :
  ∃ W:Nat→Nat→St→Hp→Prop,(∃ m,W 0 m σ H)∧∀ i m σ H,W i m σ H →
   ((Itr lo n).stop i H∧D.nx σ H)∨((Itr lo n).go i H∧∃ N:St→Hp→Prop,(∀ σ' H',N σ' H'→∃ m',m' < m∧W (i + 1) m' σ' H')∧∀ x H',(Itr lo n).yld i H x H'→g x σ H' fun σ2 H2=>tb { D with nx:=N,ct:=N,bk:=D.nx } σ2 H2):=by
 refine ⟨fun i m σ H=>m = n - i∧i≤n∧Pv i σ H,⟨n,by simp,Nat.zero_le _,h0⟩,?_⟩
 rintro i m σ H ⟨rfl,hi,p⟩
 by_cases hlt:i < n
 ·refine .inr ⟨hlt,Pv (i + 1),fun σ' H' p'=>⟨n - (i + 1),by omega,rfl,hlt,p'⟩,fun x H' y=>?_⟩
  obtain ⟨e,y⟩:=y
  subst e y
  exact hs i σ _ hlt p
 ·have e:i = n:=by omega
  subst e
  exact .inl ⟨Nat.le_refl _,hd σ H p⟩
end L2
namespace L2
open PySem PySem.Spec PyProof.Rows
noncomputable abbrev R2:=V→V→Hp→VK→Prop
noncomputable def OpR (X:Cx) (f:Value→Value→Sem Value) (r:R2):Prop :=
 ∀ (pins:List (Addr×Obj)) (s:Shared) (σ:St) (H:Hp) (x y:V) (v u:Value) (Q:VK),Inv X pins σ H s→RelV x v→RelV y u→r x y H Q →
  wpAny (model X.prog X.w) X.A (f v u) (EP X pins σ Q) X.xe s
noncomputable def UnR (X:Cx) (f:Value→Sem Value) (r:V→Hp→VK→Prop):Prop :=
 ∀ (pins:List (Addr×Obj)) (s:Shared) (σ:St) (H:Hp) (x:V) (v:Value) (Q:VK),Inv X pins σ H s→RelV x v→r x H Q →
  wpAny (model X.prog X.w) X.A (f v) (EP X pins σ Q) X.xe s
noncomputable def CallR (X:Cx) (f:Value) (r:List V→Hp→VK→Prop):Prop :=
 ∀ (pins:List (Addr×Obj)) (s:Shared) (σ:St) (H:Hp) (xs:List V) (us:List Value) (Q:VK),Inv X pins σ H s→Vals xs us→r xs H Q →
  wpAny (model X.prog X.w) X.A (call f us) (EP X pins σ Q) X.xe s
noncomputable def tOp (r:R2) (ta tb:TE):TE:=fun σ H Q=>ta σ H fun x H1=>tb σ H1 fun y H2=>r x y H2 Q
noncomputable def tUn (r:V→Hp→VK→Prop) (ta:TE):TE:=fun σ H Q=>ta σ H fun x H1=>r x H1 Q
inductive I_rI (C:Int→Int→Prop) (g:Int→Int→V) (x y:V) (H:Hp) (Q:VK):Prop where
 | mk (i j:Int) (h0_:x = .int i) (h1_:y = .int j) (h2_:C i j) (h3_:Q (g i j) H):I_rI C g x y H Q
noncomputable def rI (C:Int→Int→Prop) (g:Int→Int→V):R2:=fun x y H Q=>I_rI C g x y H Q
inductive zg8 (g:Int→Int→V) (x y:V) (H:Hp) (Q:VK):Prop where
 | mk (i j:Int) (h0_:x = .int i) (h1_:y = .int j) (h2_:Q (g i j) H):zg8 g x y H Q
noncomputable def rI0 (g:Int→Int→V):R2:=fun x y H Q=>zg8 g x y H Q
inductive I_rU (g:Int→V) (x:V) (H:Hp) (Q:VK):Prop where
 | mk (i:Int) (h0_:x = .int i) (h1_:Q (g i) H):I_rU g x H Q
noncomputable def rU (g:Int→V):V→Hp→VK→Prop:=fun x H Q=>I_rU g x H Q
section
variable {X:Cx} {a b c:Expr} {ta tb tc:TE} {pos:Pos}
theorem binT (ha:PE X a ta) (hb:PE X b tb) {pins:List (Addr×Obj)} {s:Shared} {σ:St} {H:Hp} {R:V→V→Hp→Prop} (I:Inv X pins σ H s)
  (h:ta σ H fun x H1=>tb σ H1 fun y H2=>R x y H2) {Q:Value→Shared→Prop} {f:Value→Value→Sem Value}
  (hf:∀ v u s2 x y H2,Inv X pins σ H2 s2→RelV x v→RelV y u→R x y H2→wpAny (model X.prog X.w) X.A (f v u) Q X.xe s2) :
  wpAny (model X.prog X.w) X.A (eval a X.env) (fun v s₁=>wpAny (model X.prog X.w) X.A (eval b X.env) (fun u s₂=>wpAny (model X.prog X.w) X.A (f v u) Q X.xe s₂) X.xe s₁) X.xe s:=by
 refine thn (ha pins s σ H _ I h) fun v s1 ⟨x,H1,I1,r1,q1⟩=>?_
 refine thn (hb pins s1 σ H1 _ I1 q1) fun u s2 ⟨y,H2,I2,r2,q2⟩=>?_
 exact hf v u s2 x y H2 I2 r1 r2 q2
theorem zk {op:Operator} {r:R2} (ho:OpR X (binaryOp op) r) (ha:PE X a ta) (hb:PE X b tb):PE X (.BinOp a op b pos) (tOp r ta tb):=by
 intro pins s σ H Q I h
 exact wpAny_BinOp (binT ha hb I h fun v u s2 x y H2 I2 rx ry q=>ho pins s2 σ H2 x y v u Q I2 rx ry q)
theorem zhQ {op:UnaryOp} {r:V→Hp→VK→Prop} (ho:UnR X (unaryOp op) r) (ha:PE X a ta):PE X (.UnaryOp op a pos) (tUn r ta):=by
 intro pins s σ H Q I h
 exact UnaryOp_ (thn (ha pins s σ H _ I h) fun v s1 ⟨x,H1,I1,r1,q1⟩=>ho pins s1 σ H1 x v Q I1 r1 q1)
theorem opI {f:Value→Value→Sem Value} {C:Int→Int→Prop} {g:Int→Int→Int}
  (rule:∀ (i j:Int) (t u:Tok) (s:Shared) (Q:Value→Shared→Prop) (E:Value→Shared→Prop),C i j→Q (.int (g i j) s.toks) { s with toks:=s.toks + 1 }→wpAny (model X.prog X.w) X.A (f (.int i t) (.int j u)) Q E s) :
  OpR X f (rI C fun i j=>.int (g i j)):=by
 intro pins s σ H x y v u Q I rx ry h
 obtain ⟨i,j,rfl,rfl,hc,q⟩:=h
 obtain ⟨t,rfl⟩:=rx
 obtain ⟨t',rfl⟩:=ry
 exact rule i j t t' s _ _ hc ⟨.int (g i j),H,I.tok _,⟨_,rfl⟩,q⟩
theorem opI0 {f:Value→Value→Sem Value} {g:Int→Int→Int}
  (rule:∀ (i j:Int) (t u:Tok) (s:Shared) (Q:Value→Shared→Prop) (E:Value→Shared→Prop),Q (.int (g i j) s.toks) { s with toks:=s.toks + 1 }→wpAny (model X.prog X.w) X.A (f (.int i t) (.int j u)) Q E s) :
  OpR X f (rI0 fun i j=>.int (g i j)):=by
 intro pins s σ H x y v u Q I rx ry h
 obtain ⟨i,j,rfl,rfl,q⟩:=h
 obtain ⟨t,rfl⟩:=rx
 obtain ⟨t',rfl⟩:=ry
 exact rule i j t t' s _ _ ⟨.int (g i j),H,I.tok _,⟨_,rfl⟩,q⟩
theorem opB0 {f:Value→Value→Sem Value} {g:Int→Int→Bool}
  (rule:∀ (i j:Int) (t u:Tok) (s:Shared) (Q:Value→Shared→Prop) (E:Value→Shared→Prop),Q (.bool (g i j)) s→wpAny (model X.prog X.w) X.A (f (.int i t) (.int j u)) Q E s) :
  OpR X f (rI0 fun i j=>.bl (g i j)):=by
 intro pins s σ H x y v u Q I rx ry h
 obtain ⟨i,j,rfl,rfl,q⟩:=h
 obtain ⟨t,rfl⟩:=rx
 obtain ⟨t',rfl⟩:=ry
 exact rule i j t t' s _ _ ⟨.bl (g i j),H,I,rfl,q⟩
noncomputable def CPow (i j:Int):Prop:=0≤j∧j≤1000000∧i.natAbs < 2 ^ 64
theorem zaQ (k:Nat):(0:Int)≤2 ^ k:=by
 rw [two_pow_cast]
 exact Int.natCast_nonneg _
theorem ql:OpR X (binaryOp .Add) (rI0 fun i j=>.int (i + j)):=opI0 fun _ _ _ _ _ _ _ q=>add_int q
theorem QT:OpR X (binaryOp .Sub) (rI0 fun i j=>.int (i - j)):=opI0 fun _ _ _ _ _ _ _ q=>sub_int q
theorem zG:OpR X (binaryOp .Mod) (rI (fun _ j=>j≠0) fun i j=>.int (i.fmod j)):=opI fun _ _ _ _ _ _ _ hc q=>mod_int' hc q
theorem zhv:OpR X (binaryOp .Pow) (rI CPow fun i j=>.int (i ^ j.toNat)):=opI fun _ _ _ _ _ _ _ hc q=>pow_int_small hc.1 hc.2.1 hc.2.2 q
theorem zfc:OpR X (binaryOp .RShift) (rI (fun _ j=>0≤j) fun i j=>.int (i / 2 ^ j.toNat)):=opI fun i j _ _ _ _ _ hc q =>
 rshift_int hc (by rw [Int.fdiv_eq_ediv_of_nonneg i (zaQ _)]; exact q)
theorem unI {f:Value→Sem Value} {g:Int→Int}
  (rule:∀ (i:Int) (t:Tok) (s:Shared) (Q:Value→Shared→Prop) (E:Value→Shared→Prop),Q (.int (g i) s.toks) { s with toks:=s.toks + 1 }→wpAny (model X.prog X.w) X.A (f (.int i t)) Q E s) :
  UnR X f (rU fun i=>.int (g i)):=by
 intro pins s σ H x v Q I rx h
 obtain ⟨i,rfl,q⟩:=h
 obtain ⟨t,rfl⟩:=rx
 exact rule i t s _ _ ⟨.int (g i),H,I.tok _,⟨_,rfl⟩,q⟩
theorem zgk:UnR X (unaryOp .USub) (rU fun i=>.int (-i)):=unI fun _ _ _ _ _ q=>neg_int q
end
noncomputable def scal:V→V→Bool
 | .non,.non=>true | .non,.int _=>true | .int _,.non=>true | .non,.bl _=>true | .bl _,.non=>true | .non,.str _=>true | .str _,.non=>true
 | .int _,.int _=>true | .bl _,.bl _=>true | .str _,.str _=>true | .byt _,.byt _=>true
 | .int _,.str _=>true | .str _,.int _=>true | .bl _,.str _=>true | .str _,.bl _=>true
 | _,_=>false
noncomputable def rEq:R2:=fun x y H Q=>scal x y = true∧Q (.bl (decide (x = y))) H
noncomputable def rNe:R2:=fun x y H Q=>scal x y = true∧Q (.bl (!decide (x = y))) H
theorem zcx {i j:Int}:decide (V.int i = V.int j) = (i == j):=by
 rw [Bool.eq_iff_iff]
 simp
theorem zfb {i j:Bool}:decide (V.bl i = V.bl j) = (i == j):=by
 rw [Bool.eq_iff_iff]
 simp
theorem zb4 {i j:Str}:decide (V.str i = V.str j) = (i == j):=by
 rw [Bool.eq_iff_iff]
 simp
theorem zcC {i j:Array UInt8}:decide (V.byt i = V.byt j) = (i.toList == j.toList):=by
 rw [Bool.eq_iff_iff]
 cases i
 cases j
 simp
section
variable {X:Cx} {a b c:Expr} {ta tb tc:TE} {pos:Pos}
theorem zQ {pins:List (Addr×Obj)} {σ:St} {H:Hp} {s:Shared} {Q:VK} {k k':Bool} (I:Inv X pins σ H s) (q:Q (.bl k) H) (e:k = k'):EP X pins σ Q (.bool k') s:=by
 subst e
 exact ⟨.bl k,H,I,rfl,q⟩
theorem xi:OpR X (compareOp .Eq) rEq:=by
 intro pins s σ H x y v u Q I rx ry h
 obtain ⟨hs,q⟩:=h
 cases x with
 | non =>
  cases rx
  cases y with
  | non=>cases ry; exact PySem.EqNone.eq_none_none (zQ I q (by simp))
  | bl j=>cases ry; exact PySem.EqNone.eq_none_bool (zQ I q (by simp))
  | int j=>obtain ⟨t',rfl⟩:=ry; exact PySem.EqNone.eq_none_int (zQ I q (by simp))
  | str j=>obtain ⟨t',rfl⟩:=ry; exact PySem.EqNone.eq_none_str (zQ I q (by simp))
  | _=>exact absurd (show false = true from hs) Bool.false_ne_true
 | bl i =>
  cases rx
  cases y with
  | non=>cases ry; exact PySem.EqNone.eq_bool_none (zQ I q (by simp))
  | bl j=>cases ry; exact eq_bool (zQ I q zfb)
  | str j=>obtain ⟨t',rfl⟩:=ry; exact PySem.EqMixed.eq_bool_str (zQ I q (by simp))
  | _=>exact absurd (show false = true from hs) Bool.false_ne_true
 | int i =>
  obtain ⟨t,rfl⟩:=rx
  cases y with
  | non=>cases ry; exact PySem.EqNone.eq_int_none (zQ I q (by simp))
  | int j=>obtain ⟨t',rfl⟩:=ry; exact eq_int (zQ I q zcx)
  | str j=>obtain ⟨t',rfl⟩:=ry; exact PySem.EqMixed.eq_int_str (zQ I q (by simp))
  | _=>exact absurd (show false = true from hs) Bool.false_ne_true
 | str i =>
  obtain ⟨t,rfl⟩:=rx
  cases y with
  | non=>cases ry; exact PySem.EqNone.eq_str_none (zQ I q (by simp))
  | bl j=>cases ry; exact PySem.EqMixed.eq_str_bool (zQ I q (by simp))
  | int j=>obtain ⟨t',rfl⟩:=ry; exact PySem.EqMixed.eq_str_int (zQ I q (by simp))
  | str j=>obtain ⟨t',rfl⟩:=ry; exact eq_str (zQ I q zb4)
  | _=>exact absurd (show false = true from hs) Bool.false_ne_true
 | byt i =>
  obtain ⟨t,rfl⟩:=rx
  cases y with
  | byt j=>obtain ⟨t',rfl⟩:=ry; exact PySem.W.eq_bytes (zQ I q zcC)
  | _=>exact absurd (show false = true from hs) Bool.false_ne_true
 | _=>cases y <;> exact absurd (show false = true from hs) Bool.false_ne_true
theorem jG:OpR X (compareOp .NotEq) rNe:=by
 intro pins s σ H x y v u Q I rx ry h
 obtain ⟨hs,q⟩:=h
 cases x with
 | non =>
  cases rx
  cases y with
  | non=>cases ry; exact PySem.EqNone.ne_none_none (zQ I q (by simp))
  | bl j=>cases ry; exact PySem.EqNone.ne_none_bool (zQ I q (by simp))
  | int j=>obtain ⟨t',rfl⟩:=ry; exact PySem.EqNone.ne_none_int (zQ I q (by simp))
  | str j=>obtain ⟨t',rfl⟩:=ry; exact PySem.EqNone.ne_none_str (zQ I q (by simp))
  | _=>exact absurd (show false = true from hs) Bool.false_ne_true
 | bl i =>
  cases rx
  cases y with
  | non=>cases ry; exact PySem.EqNone.ne_bool_none (zQ I q (by simp))
  | bl j=>cases ry; exact ne_bool (zQ I q (congrArg not zfb))
  | str j=>obtain ⟨t',rfl⟩:=ry; exact PySem.EqMixed.ne_bool_str (zQ I q (by simp))
  | _=>exact absurd (show false = true from hs) Bool.false_ne_true
 | int i =>
  obtain ⟨t,rfl⟩:=rx
  cases y with
  | non=>cases ry; exact PySem.EqNone.ne_int_none (zQ I q (by simp))
  | int j=>obtain ⟨t',rfl⟩:=ry; exact ne_int (zQ I q (congrArg not zcx))
  | str j=>obtain ⟨t',rfl⟩:=ry; exact PySem.EqMixed.ne_int_str (zQ I q (by simp))
  | _=>exact absurd (show false = true from hs) Bool.false_ne_true
 | str i =>
  obtain ⟨t,rfl⟩:=rx
  cases y with
  | non=>cases ry; exact PySem.EqNone.ne_str_none (zQ I q (by simp))
  | bl j=>cases ry; exact PySem.EqMixed.ne_str_bool (zQ I q (by simp))
  | int j=>obtain ⟨t',rfl⟩:=ry; exact PySem.EqMixed.ne_str_int (zQ I q (by simp))
  | str j=>obtain ⟨t',rfl⟩:=ry; exact ne_str (zQ I q (congrArg not zb4))
  | _=>exact absurd (show false = true from hs) Bool.false_ne_true
 | byt i =>
  obtain ⟨t,rfl⟩:=rx
  cases y with
  | byt j=>obtain ⟨t',rfl⟩:=ry; exact PySem.W.ne_bytes (zQ I q (congrArg not zcC))
  | _=>exact absurd (show false = true from hs) Bool.false_ne_true
 | _=>cases y <;> exact absurd (show false = true from hs) Bool.false_ne_true
theorem zf4:OpR X (compareOp .Lt) (rI0 fun i j=>.bl (decide (i < j))):=opB0 fun _ _ _ _ _ _ _ q=>lt_int q
theorem zbH:OpR X (compareOp .LtE) (rI0 fun i j=>.bl (decide (i≤j))):=opB0 fun _ _ _ _ _ _ _ q=>le_int q
theorem Qs:OpR X (compareOp .Gt) (rI0 fun i j=>.bl (decide (j < i))):=opB0 fun _ _ _ _ _ _ _ q=>gt_int q
theorem zhN:OpR X (compareOp .GtE) (rI0 fun i j=>.bl (decide (j≤i))):=opB0 fun _ _ _ _ _ _ _ q=>ge_int q
theorem zcB:OpR X (compareOp .In) (fun x y H Q=>∃ i j,x = .str i∧y = .str j∧Q (.bl (!(Builtin.Str.occurrences j i 0 j.length 1).isEmpty)) H):=by
 intro pins s σ H x y v u Q I rx ry h
 obtain ⟨i,j,rfl,rfl,q⟩:=h
 obtain ⟨t,rfl⟩:=rx
 obtain ⟨t',rfl⟩:=ry
 exact in_str (zQ I q rfl)
theorem zgJ:OpR X (compareOp .Is) (fun x y H Q=>y = .non∧Q (.bl (decide (x = .non))) H):=by
 intro pins s σ H x y v u Q I rx ry h
 obtain ⟨rfl,q⟩:=h
 cases ry
 refine is_none_gen (zQ I q ?_)
 cases x <;> first
  | (cases rx; rfl)
  | (obtain ⟨t,rfl⟩:=rx; rfl)
theorem nomark (b:Expr) {op:CmpOp} (h:op≠.In:=by decide) (h2:op≠.NotIn:=by decide):behindInMarks op b = false:=by
 have e1:(op == CmpOp.In) = false:=by cases op <;> first | rfl | exact absurd rfl h
 have e2:(op == CmpOp.NotIn) = false:=by cases op <;> first | rfl | exact absurd rfl h2
 cases b <;> simp [behindInMarks,e1,e2]
theorem xA {op:CmpOp} {r:R2} (ho:OpR X (compareOp op) r) (ha:PE X a ta) (hb:PE X b tb) (hm:behindInMarks op b = false):PE X (.Compare a [op] [b] pos) (tOp r ta tb):=by
 intro pins s σ H Q I h
 exact wpAny_Compare1 (binT ha hb I h fun v u s2 x y H2 I2 rx ry q=>ho pins s2 σ H2 x y v u Q I2 rx ry q) hm
inductive zci (x:V) (H':Hp) (Q:Bool→Hp→Prop):Prop where
 | mk (k:Bool) (h0_:x = .bl k) (h1_:Q k H'):zci x H' Q
noncomputable def tTest (t:TE):TT:=fun σ H Q=>t σ H fun x H'=>zci x H' Q
theorem zr {op:CmpOp} {r:R2} (ho:OpR X (compareOp op) r) (ha:PE X a ta) (hb:PE X b tb) (hm:behindInMarks op b = false):PT X (.Compare a [op] [b] pos) (tTest (tOp r ta tb)):=by
 intro pins s σ H Q I h
 refine wpAny_isTrue_Compare1 (thn (ha pins s σ H _ I h) fun v s1 ⟨x,H1,I1,r1,q1⟩=>thn (hb pins s1 σ H1 _ I1 q1) fun u s2 ⟨y,H2,I2,r2,q2⟩ =>
  thn (ho pins s2 σ H2 x y v u _ I2 r1 r2 q2) fun c s3 ⟨z,H3,I3,r3,k,e,q3⟩=>?_) hm
 subst e
 cases r3
 exact wpAny_truthy_bool ⟨H3,I3,q3⟩
noncomputable def tChain (r r':R2) (ta tb tc:TE):TE:=fun σ H Q=>ta σ H fun x H1=>tb σ H1 fun y H2=>r x y H2 fun z H3=>∃ k,z = .bl k ∧
 (if k = true then tc σ H3 fun w' H4=>r' y w' H4 Q else Q (.bl false) H3)
theorem zdO {op op':CmpOp} {r r':R2} (ho:OpR X (compareOp op) r) (ho':OpR X (compareOp op') r') (ha:PE X a ta) (hb:PE X b tb) (hc:PE X c tc)
  (hm:lastMarks [op,op'] [b,c] = false:=by with_unfolding_all rfl):PE X (.Compare a [op,op'] [b,c] pos) (tChain r r' ta tb tc):=by
 intro pins s σ H Q I h
 refine Compare_chain (thn (ha pins s σ H _ I h) fun v s1 ⟨x,H1,I1,r1,q1⟩=>chain_link (thn (hb pins s1 σ H1 _ I1 q1) fun u s2 ⟨y,H2,I2,r2,q2⟩ =>
  thn (ho pins s2 σ H2 x y v u _ I2 r1 r2 q2) fun d s3 ⟨z,H3,I3,r3,k,e,q3⟩=>?_)) hm
 subst e
 cases r3
 refine wpAny_truthy_bool ?_
 cases k with
 | false=>exact ite_ff ⟨.bl false,H3,I3,rfl,q3⟩
 | true=>exact ite_tt (chain_last (thn (hc pins s3 σ H3 _ I3 q3) fun w' s4 ⟨z',H4,I4,r4,q4⟩=>ho' pins s4 σ H4 y z' u w' Q I4 r2 r4 q4))
theorem zd4 {op op':CmpOp} {r r':R2} (ho:OpR X (compareOp op) r) (ho':OpR X (compareOp op') r') (ha:PE X a ta) (hb:PE X b tb) (hc:PE X c tc)
  (hm:lastMarks [op,op'] [b,c] = false:=by with_unfolding_all rfl):PT X (.Compare a [op,op'] [b,c] pos) (tTest (tChain r r' ta tb tc)):=by
 intro pins s σ H Q I h
 refine isTrue_chain (thn (ha pins s σ H _ I h) fun v s1 ⟨x,H1,I1,r1,q1⟩=>test_link (thn (hb pins s1 σ H1 _ I1 q1) fun u s2 ⟨y,H2,I2,r2,q2⟩ =>
  thn (ho pins s2 σ H2 x y v u _ I2 r1 r2 q2) fun d s3 ⟨z,H3,I3,r3,k,e,q3⟩=>?_)) hm
 subst e
 cases r3
 refine wpAny_truthy_bool ?_
 cases k with
 | false =>
  obtain ⟨k',e',q'⟩:=q3
  cases e'
  exact ite_ff ⟨H3,I3,q'⟩
 | true =>
  refine ite_tt (test_last (thn (hc pins s3 σ H3 _ I3 q3) fun w' s4 ⟨z',H4,I4,r4,q4⟩=>thn (ho' pins s4 σ H4 y z' u w' _ I4 r2 r4 q4) fun d' s5 ⟨z2,H5,I5,r5,k2,e2,q5⟩=>?_))
  subst e2
  cases r5
  exact wpAny_truthy_bool ⟨H5,I5,q5⟩
theorem line63:(sizeLine:Nat) < 2 ^ 63:=by rw [sizeLine_eq]; decide
theorem zd:OpR X (binaryOp .Add) (fun x y H Q=>∃ i j,x = .str i∧y = .str j∧i.length + j.length≤sizeLine∧Q (.str (i ++ j)) H):=by
 intro pins s σ H x y v u Q I rx ry h
 obtain ⟨i,j,rfl,rfl,hz,q⟩:=h
 obtain ⟨t,rfl⟩:=rx
 obtain ⟨t',rfl⟩:=ry
 exact add_str (fun t' tk=>⟨.str (i ++ j),H,I.tok _,⟨_,rfl⟩,q⟩) hz
theorem vals1 {x:V} {us:List Value} (r:Vals [x] us):∃ u,us = [u]∧RelV x u:=by
 cases r with
 | cons r1 r2=>cases r2; exact ⟨_,rfl,r1⟩
theorem Xm:CallR X (.builtin "abs") (fun xs H Q=>∃ i,xs = [.int i]∧Q (.int (if i < 0 then -i else i)) H):=by
 intro pins s σ H xs us Q I r h
 obtain ⟨i,rfl,q⟩:=h
 obtain ⟨u,rfl,t,rfl⟩:=vals1 r
 exact call_abs_int fun u tk=>⟨.int (if i < 0 then -i else i),H,I.tok _,⟨_,rfl⟩,q⟩
theorem yO:CallR X (.type "str") (fun xs H Q=>∃ i,xs = [.int i]∧i.natAbs.log2 < 1920∧Q (.str (toString i)) H):=by
 intro pins s σ H xs us Q I r h
 obtain ⟨i,rfl,hz,q⟩:=h
 obtain ⟨u,rfl,t,rfl⟩:=vals1 r
 exact PySem.P.str_of_int hz ⟨.str _,H,I.tok _,⟨_,rfl⟩,q⟩
end
end L2
namespace L2
open PySem PySem.Spec PyProof.Rows
structure ObjM (h:Heap) (x dx C:Addr) (mA:Str→Option Value):Prop where
 obj:h.get? x = some (PySem.W.instObj C dx)
 ns:h.Ns1 dx mA
 ne:dx≠x
theorem zbF {h:Heap} {dx:Addr} {mA:Str→Option Value} (n:h.Ns1 dx mA):∃ od,h.get? dx = some od∧∀ name,PySem.W.lookIn name od = some (mA name):=by
 obtain ⟨o,es,ep,ho,hd,hk,_,hm⟩:=n
 refine ⟨o,ho,fun name=>?_⟩
 have e:=hm name
 unfold nsFind findBy at e
 rw [← Array.find?_toList] at e
 unfold PySem.W.lookIn
 rw [hd]
 dsimp only
 split
 ·rename_i y q
  rw [q] at e
  exact congrArg some e
 ·rename_i q
  rw [q] at e
  have a:es.toList.any (·.refKey) = false:=by
   rw [List.any_eq_false]
   intro y hy
   obtain ⟨z,t,hkey⟩:=hk y (Array.mem_toList_iff.mp hy)
   simp [DictEntry.refKey,hkey]
  have a':¬ es.toList.any (·.refKey) = true:=by rw [a]; exact Bool.false_ne_true
  rw [if_neg a']
  exact congrArg some e
theorem ObjM.look {h:Heap} {x dx C:Addr} {mA:Str→Option Value} (I:ObjM h x dx C mA):∃ od,PySem.W.InstAt h x (PySem.W.instObj C dx) C (some od)∧∀ name,PySem.W.lookIn name od = some (mA name) :=
 let ⟨od,ho,hl⟩:=zbF I.ns
 ⟨od,⟨I.obj,rfl,rfl,ho⟩,hl⟩
section
variable {prog:Program} {w:World} {A:Around} {E:Value→Shared→Prop} {s:Shared} {K:PySem.W.Frag} {x dx C f:Addr} {mA:Str→Option Value} {name:Str} {v:Value}
theorem zfn {expr:Bool} {Q:Value→Shared→Prop} (X:K.In s.heap) (I:ObjM s.heap x dx C mA) (hg:PySem.W.plainGet K C name = true) (hh:PySem.W.hasDictIn K C = true)
  (ha:PySem.W.findIn K (.ref C) name = some none) (hv:mA name = some v) (hv':PySem.W.handedIn v = true) (h:Q v { s with toks:=s.toks + 1 }) :
  wpAny (model prog w) A (getAttr (.ref x) name expr) Q E s:=by
 obtain ⟨od,J,hl⟩:=I.look
 exact PySem.W.get_value X J (PySem.W.plainGet_of hg).1 (PySem.W.findObj_own hh ha rfl (by rw [hl,hv])) hv' h
theorem zdv {pl:Sem Bool} {Q:Value×List Value→Shared→Prop} (X:K.In s.heap) (I:ObjM s.heap x dx C mA) (hg:PySem.W.plainGet K C name = true)
  (hf:PySem.W.findIn K (.ref C) name = some (some (.ref f))) (ht:PySem.W.isFn K (.ref f) = true) (hv:mA name = none) (h:Q (.ref f,[.ref x]) s) :
  wpAny (model prog w) A (getMethod (.ref x) name pl) Q E s:=by
 obtain ⟨od,J,hl⟩:=I.look
 exact PySem.W.method_fn X J (PySem.W.plainGet_of hg).1 (PySem.W.plainGet_of hg).2 hf (beq_iff_eq.mp ht) (by show (PySem.W.lookIn name od).map (·.isSome) = some false; rw [hl,hv]; rfl) h
theorem zfM {ns:List Str} {Q:Unit→Shared→Prop} (X:K.In s.heap) (I:ObjM s.heap x dx C mA)
  (hs:PySem.W.findIn K (.ref C) "__setattr__" = some (some (.builtin "object.__setattr__"))) (hp:PySem.W.plainOver K C = true) (ht:PySem.W.takerIn K C name = some none) (hh:PySem.W.hasDictIn K C = true)
  (hw:PySem.Within mA ns) (hsz:ns.length≤sizeLine)
  (h:∀ h',ObjM h' x dx C (fun y=>if y = name then some v else mA y)→Heap.SameBut dx s.heap h'→Q () { s with heap:=h',toks:=s.toks + 2 }) :
  wpAny (model prog w) A (setAttr (.ref x) name v) Q E s:=by
 obtain ⟨od,J,hl⟩:=I.look
 refine PySem.W.set_plain X J hs (PySem.W.osa_open (s:={ s with toks:=s.toks + 1 }) (r:=none) X J hp ht fun b=>?_)
 obtain ⟨cd,hc,hd'⟩:=PySem.W.any_some hh
 have hx:s.heap.get? x = some ⟨.ref C,some dx,.plain,#[]⟩:=I.obj
 refine wpAny_bind (wpAny_pure (wpAny_bind (wpAny_bind (wpAny_loadPart hx (wpAny_bind (PySem.W.Looks.here (s:={ s with toks:=s.toks + 1 }) (PySem.W.looks_clsIn X hc) ?_))))))
 rw [hd']
 refine wpAny_pure (a:=some dx) (wpAny_bind (wpAny_pure (wpAny_bind ?_)))
 refine wpAny_nsSet1 (s:={ s with toks:=s.toks + 1 }) I.ns fun h' hn2 hs2=>?_
 obtain ⟨oD,esD,epD,hoD,hdD,hcD⟩:=hn2.count (PySem.Within.cons name v hw)
 refine wpAny_bind (wpAny_lookBehind hoD (by rw [hdD]; exact pastItsLine_dict (Nat.le_trans hcD (by rw [List.length_cons]; omega))) ?_)
 exact wpAny_pure (h _ ⟨(hs2.2 _ (Ne.symm I.ne)).trans I.obj,hn2,I.ne⟩ hs2)
theorem zdH {R:Result→Shared→Prop} {vs:List Value} {kw:List (Str×Value)} (X:K.In s.heap) (hm:PySem.W.makesIn K C = true)
  (hi:PySem.W.findIn K (.ref C) "__init__" = some (some (.ref f))) (hf:PySem.W.typeIn K (.ref f) = some (.type "function"))
  (h:codeAny (model prog w) (A.under (.builtin "type.__call__" ⟨.ref C :: vs,kw⟩)) (.call (.ref f) ⟨.ref (s.heap.objs.size + 1) :: vs,kw⟩) (PySem.W.InitBack (s.heap.objs.size + 1) R)
   { s with heap:=(s.heap.push PySem.W.emptyDict).push (PySem.W.instObj C s.heap.objs.size) }) :
  codeAny (model prog w) A (.call (.ref C) ⟨vs,kw⟩) R s:=by
 obtain ⟨hh,g,d,t,os⟩:=s
 exact PySem.W.make_core (PySem.W.makes_of X hm) (PySem.W.looks_findIn X hi) (fun self=>PySem.W.bind_fn X self hf) (.inl rfl) h
end
noncomputable def putF (f:Str) (v:V):List (Str×V)→List (Str×V)
 | []=>[(f,v)]
 | (g,x) :: r=>if g = f then (g,v) :: r else (g,x) :: putF f v r
theorem ZC (f g:Str) (v:V):∀ fs:List (Str×V),(putF f v fs).lookup g = if g = f then some v else fs.lookup g
 | []=>by
  show List.lookup g [(f,v)] = _
  by_cases h:g = f
  ·have hb:(g == f) = true:=beq_iff_eq.mpr h
   simp only [List.lookup,hb,if_pos h]
  ·have hb:(g == f) = false:=beq_eq_false_iff_ne.mpr h
   simp only [List.lookup,hb,if_neg h]
 | (k,x) :: r=>by
  have ih:=ZC f g v r
  rw [show putF f v ((k,x) :: r) = (if k = f then (k,v) :: r else (k,x) :: putF f v r) from rfl]
  by_cases hk:k = f
  ·rw [if_pos hk]
   by_cases h:g = k
   ·have hb:(g == k) = true:=beq_iff_eq.mpr h
    simp only [List.lookup,hb,if_pos (h.trans hk)]
   ·have hb:(g == k) = false:=beq_eq_false_iff_ne.mpr h
    simp only [List.lookup,hb,if_neg (fun e:g = f=>h (e.trans hk.symm))]
  ·rw [if_neg hk]
   by_cases h:g = k
   ·have hb:(g == k) = true:=beq_iff_eq.mpr h
    simp only [List.lookup,hb,if_neg (fun e:g = f=>hk (h.symm.trans e))]
   ·have hb:(g == k) = false:=beq_eq_false_iff_ne.mpr h
    simp only [List.lookup,hb]
    exact ih
theorem ZG (f:Str) (v:V):∀ fs:List (Str×V),f∈(putF f v fs).map (·.1)∧∀ g,g∈fs.map (·.1)→g∈(putF f v fs).map (·.1)
 | []=>⟨by simp [putF],fun g h=>by simp at h⟩
 | (k,x) :: r=>by
  obtain ⟨i1,i2⟩:=ZG f v r
  rw [show putF f v ((k,x) :: r) = (if k = f then (k,v) :: r else (k,x) :: putF f v r) from rfl]
  by_cases hk:k = f
  ·rw [if_pos hk]
   subst hk
   exact ⟨by simp,fun g h=>by simpa using h⟩
  ·rw [if_neg hk]
   refine ⟨?_,fun g h=>?_⟩
   ·rw [List.map_cons]
    exact List.mem_cons_of_mem _ i1
   ·rw [List.map_cons] at h ⊢
    rcases List.mem_cons.mp h with e | e
    ·exact List.mem_cons.mpr (.inl e)
    ·exact List.mem_cons_of_mem _ (i2 g e)
theorem ZB (f:Str) (v:V):∀ fs:List (Str×V),(putF f v fs).length≤fs.length + 1
 | []=>by simp [putF]
 | (k,x) :: r=>by
  have ih:=ZB f v r
  rw [show putF f v ((k,x) :: r) = (if k = f then (k,v) :: r else (k,x) :: putF f v r) from rfl]
  by_cases hk:k = f
  ·rw [if_pos hk,List.length_cons,List.length_cons]; omega
  ·rw [if_neg hk,List.length_cons,List.length_cons]; omega
theorem RelO.some_of {v:V} {o:Option Value} (r:RelO (some v) o):∃ u,o = some u∧RelV v u:=by
 cases o with
 | none=>exact (show False from r).elim
 | some u=>exact ⟨u,rfl,r⟩
theorem RelO.none_of {o:Option Value} (r:RelO none o):o = none:=by
 cases o with
 | none=>rfl
 | some u=>exact (show False from r).elim
theorem zca {v:V} {u:Value} (r:RelV v u):PySem.W.handedIn u = true:=by
 cases v with
 | non=>cases (show u = Value.none from r); rfl
 | bl b=>cases (show u = Value.bool b from r); rfl
 | int i=>obtain ⟨t,e⟩:=(show ∃ t,u = Value.int i t from r); cases e; rfl
 | str x=>obtain ⟨t,e⟩:=(show ∃ t,u = Value.str x t from r); cases e; rfl
 | byt b=>obtain ⟨t,e⟩:=(show ∃ t,u = Value.bytes b t from r); cases e; rfl
 | flt b=>obtain ⟨t,e⟩:=(show ∃ t,u = Value.float b t from r); cases e; rfl
 | ref a=>cases (show u = Value.ref a from r); rfl
 | ty n=>cases (show u = Value.type n from r); rfl
section
variable {P:Program} {w:World} {H H':Hp} {h h':Heap} {a C dx:Addr} {fs fs':List (Str×V)}
theorem Xu (hok:HOk P w H h) (e:H a = some (.ins C dx fs)):∃ mA,ObjM h a dx C mA∧(∀ f,RelO (fs.lookup f) (mA f))∧PySem.Within mA (fs.map (·.1))∧fs.length≤1000∧H dx = some (.own a):=by
 obtain ⟨d,z,ne,ob,mA,n,r,q⟩:=(show ObjOk P w H h a (.ins C dx fs) from hok a _ e)
 exact ⟨mA,⟨ob,n,ne⟩,r,q,z,d⟩
end
structure Cls (K:PySem.W.Frag) (C:Addr):Prop where
 pg:PySem.W.plainGet K C Str.empty = true
 hd:PySem.W.hasDictIn K C = true
 po:PySem.W.plainOver K C = true
 sa:PySem.W.findIn K (.ref C) "__setattr__" = some (some (.builtin "object.__setattr__"))
theorem Cls.get {K:PySem.W.Frag} {C:Addr} (c:Cls K C) (f:Str):PySem.W.plainGet K C f = true:=c.pg
noncomputable def NoAttr (K:PySem.W.Frag) (C:Addr) (f:Str):Prop:=PySem.W.findIn K (.ref C) f = some none
theorem NoAttr.taker {K:PySem.W.Frag} {C:Addr} {f:Str} (n:NoAttr K C f):PySem.W.takerIn K C f = some none:=by
 unfold PySem.W.takerIn
 rw [show PySem.W.findIn K (.ref C) f = some none from n]
 rfl
structure Meth (K:PySem.W.Frag) (C:Addr) (m:Str) (f:Addr):Prop where
 at_:PySem.W.findIn K (.ref C) m = some (some (.ref f))
 fn:PySem.W.isFn K (.ref f) = true
 kp:PySem.W.keepIn K (.ref f) = true
section
variable {X:Cx} {pins:List (Addr×Obj)} {σ:St} {H:Hp} {s:Shared} {a C dx:Addr} {fs:List (Str×V)} {f:Str} {v:V} {A:Around} {E:Value→Shared→Prop}
theorem zbc {b:Bool} {Q:Value→Shared→Prop} (I:Inv X pins σ H s) (e:H a = some (.ins C dx fs)) (c:Cls X.K C) (n:NoAttr X.K C f) (l:fs.lookup f = some v)
  (h:∀ u s',Inv X pins σ H s'→RelV v u→Q u s'):wpAny (model X.prog X.w) A (getAttr (.ref a) f b) Q E s:=by
 obtain ⟨mA,O,r,_,_,_⟩:=Xu I.hok e
 obtain ⟨u,hu,ru⟩:=RelO.some_of (v:=v) (o:=mA f) (by rw [← l]; exact r f)
 exact zfn I.kIn O (c.get f) c.hd n hu (zca ru) (h u _ (I.tok _) ru)
theorem Yd {m:Str} {g:Addr} {pl:Sem Bool} {Q:Value×List Value→Shared→Prop} (I:Inv X pins σ H s) (e:H a = some (.ins C dx fs)) (c:Cls X.K C) (k:Meth X.K C m g) (l:fs.lookup m = none)
  (h:Q (.ref g,[.ref a]) s):wpAny (model X.prog X.w) A (getMethod (.ref a) m pl) Q E s:=by
 obtain ⟨mA,O,r,_,_,_⟩:=Xu I.hok e
 have hn:mA m = none:=RelO.none_of (by rw [← l]; exact r m)
 exact zdv I.kIn O (c.get m) k.at_ k.fn hn h
theorem za3 {y:V} {u:Value} {Q:Unit→Shared→Prop} (I:Inv X pins σ H s) (e:H a = some (.ins C dx fs)) (c:Cls X.K C) (n:NoAttr X.K C f) (hl:fs.length < 1000) (ry:RelV y u)
  (h:∀ s',Inv X pins σ (upd H a (.ins C dx (putF f y fs))) s'→Q () s'):wpAny (model X.prog X.w) A (setAttr (.ref a) f u) Q E s:=by
 obtain ⟨mA,O,r,wi,_,ho⟩:=Xu I.hok e
 have hz:(fs.map (·.1)).length≤sizeLine:=by rw [List.length_map,sizeLine_eq]; omega
 refine zfM I.kIn O c.sa c.po n.taker c.hd wi hz fun h' O' sb=>h _ ?_
 have hd:∃ o,h'.get? dx = some o:=let ⟨o,_,_,e',_⟩:=O'.ns; ⟨o,e'⟩
 refine I.write (x:=a) (e:=dx) (by rw [e]; exact True.intro) (.inr ho) (fun b q hb z=>(sb.2 b hb).trans z) hd ?_
 refine ⟨by rw [zw O.ne]; exact ho,?_,O.ne,O'.obj,_,O'.ns,fun g=>?_,fun g hg=>?_⟩
 ·have:=ZB f y fs; omega
 ·show RelO ((putF f y fs).lookup g) (if g = f then some u else mA g)
  rw [ZC]
  by_cases q:g = f
  ·rw [if_pos q,if_pos q]; exact ry
  ·rw [if_neg q,if_neg q]; exact r g
 ·by_cases q:g = f
  ·rw [q]; exact (ZG f y fs).1
  ·refine (ZG f y fs).2 g (wi g fun z=>hg ?_)
   show (if g = f then some u else mA g) = none
   rw [if_neg q]; exact z
theorem Inv.made (I:Inv X pins σ H s):Inv X pins σ (upd (upd H s.heap.objs.size (.own (s.heap.objs.size + 1))) (s.heap.objs.size + 1) (.ins C s.heap.objs.size []))
  { s with heap:=(s.heap.push PySem.W.emptyDict).push (PySem.W.instObj C s.heap.objs.size) }:=by
 have e1:(s.heap.push PySem.W.emptyDict).get? s.heap.objs.size = some PySem.W.emptyDict:=Heap.get?_push_size s.heap rfl
 have e2:((s.heap.push PySem.W.emptyDict).push (PySem.W.instObj C s.heap.objs.size)).get? (s.heap.objs.size + 1) = some (PySem.W.instObj C s.heap.objs.size):=by
  have:=Heap.get?_push_size (s.heap.push PySem.W.emptyDict) (o:=PySem.W.instObj C s.heap.objs.size) rfl
  rwa [Heap.size_push] at this
 have e3:(s.heap.push PySem.W.emptyDict).Ns s.heap.objs.size (fun _=>none):=⟨PySem.W.emptyDict,#[],_,e1,rfl,(fun e he=>absurd he (by simp)),fun _=>rfl⟩
 have I1:=I.laid (a:=s.heap.objs.size) (o:=.own (s.heap.objs.size + 1)) (h':=s.heap.push PySem.W.emptyDict) (t':=s.toks) (fun b u q=>Heap.get?_push_of_some _ q) (Nat.le_refl _) ⟨_,e1⟩
 refine I1.laid (a:=s.heap.objs.size + 1) (o:=.ins C s.heap.objs.size []) (t':=s.toks) (fun b u q=>Heap.get?_push_of_some _ q) (Nat.le_of_eq (Heap.size_push _ _)) ?_
 have ne:s.heap.objs.size≠s.heap.objs.size + 1:=Nat.ne_of_lt (Nat.lt_succ_self _)
 refine ⟨by rw [zw ne,zf],Nat.zero_le _,ne,e2,fun _=>none,(Heap.Ns1.of_empty e3).at fun o q=>Heap.get?_push_of_some _ q,fun _=>True.intro,fun y hy=>absurd rfl hy⟩
theorem zfH {prog:Program} {w:World} {env:Env} {e:Expr} {f:Str} {pos:Pos} {s:Shared} {Q:Value→Shared→Prop} (hb:attributeBase e f env (eval e env) = eval e env)
  (h:wpAny (model prog w) A (eval e env) (fun o s₁=>wpAny (model prog w) A (getAttr o f true) Q E s₁) E s):wpAny (model prog w) A (eval (.Attribute e f pos) env) Q E s :=
 Attribute_any_ h (by rw [arm_eval_Attribute,hb])
end
noncomputable def tFld (K:PySem.W.Frag) (ta:TE) (f:Str):TE:=fun σ H Q=>ta σ H fun x H1=>∃ a C dx fs v,x = .ref a∧H1 a = some (.ins C dx fs)∧Cls K C∧NoAttr K C f∧fs.lookup f = some v∧Q v H1
noncomputable def sFld (K:PySem.W.Frag) (ta tv:TE) (f:Str):TS:=fun D σ H=>tv σ H fun y H1=>ta σ H1 fun x H2=>∃ a C dx fs,x = .ref a∧H2 a = some (.ins C dx fs)∧Cls K C∧NoAttr K C f∧fs.length < 1000 ∧
 D.nx σ (upd H2 a (.ins C dx (putF f y fs)))
section
variable {X:Cx} {o e value:Expr} {f:Str} {pos pos' tpos:Pos} {ta tv:TE}
theorem jH (he:PE X e ta) (hb:attributeBase e f X.env (eval e X.env) = eval e X.env):PE X (.Attribute e f pos) (tFld X.K ta f):=by
 intro pins s σ H Q I h
 refine zfH hb (thn (he pins s σ H _ I h) fun u s1 ⟨x,H1,I1,rx,a,C,dx,fs,v,ex,ea,c,n,l,q⟩=>?_)
 subst ex
 obtain rfl:u = Value.ref a:=rx
 exact zbc I1 ea c n l fun u' s2 I2 ru=>⟨v,H1,I2,ru,q⟩
theorem QR (ha:PE X o ta) (hv:PE X value tv) (hs:swapsWith value (some (.Attribute o f pos')) pos.line X.env = pure false):PS X (.Assign [.Attribute o f pos'] value pos) (sFld X.K ta tv f):=by
 intro pins s σ H D I h
 refine plainObj_wpAny_Assign_Attribute (thn (hv pins s σ H _ I h) fun u s1 ⟨y,H1,I1,ry,q⟩=>thn (ha pins s1 σ H1 _ I1 q) fun ov s2 ⟨x,H2,I2,rx,a,C,dx,fs,ex,ea,c,n,l,q2⟩=>?_) hs
 subst ex
 obtain rfl:ov = Value.ref a:=rx
 exact za3 I2 ea c n l ry fun s3 I3=>⟨σ,_,I3,q2⟩
end
section
variable {X:Cx} {pins:List (Addr×Obj)} {σ:St} {H:Hp} {s:Shared} {A:Around} {E:Value→Shared→Prop} {Q:Value→Shared→Prop} {c:Value} {b:Bool}
inductive TyOf (K:PySem.W.Frag) (H:Hp):V→Value→Prop where
 | non:TyOf K H .non (.type "NoneType")
 | bl (x:Bool):TyOf K H (.bl x) (.type "bool")
 | int (i:Int):TyOf K H (.int i) (.type "int")
 | str (x:Str):TyOf K H (.str x) (.type "str")
 | flt (x:UInt64):TyOf K H (.flt x) (.type "float")
 | lst {a:Addr} {xs:List V} (e:H a = some (.lst xs)):TyOf K H (.ref a) (.type "list")
 | frz {a:Addr} {o:Obj} {xs:List V} (e:H a = some (.frz o (.lst xs))):TyOf K H (.ref a) (.type "list")
 | tup {a:Addr} {xs:List V} (e:H a = some (.tup xs)):TyOf K H (.ref a) (.type "tuple")
 | dK {a:Addr} {kvs:List (Key×V)} (e:H a = some (.dK kvs)):TyOf K H (.ref a) (.type "dict")
 | dT {a:Addr} {kvs:List (List Key×V)} (e:H a = some (.dT kvs)):TyOf K H (.ref a) (.type "dict")
 | ins {a C dx:Addr} {fs:List (Str×V)} (e:H a = some (.ins C dx fs)) (cl:Cls K C) (ha:PySem.W.findIn K (.ref C) "__class__" = some (some (.builtin "object.__class__")))
   (hn:PySem.W.specialIn K (.builtin "object.__class__") "__get__" = some (some (.builtin "getset_descriptor.__get__"))) (htk:PySem.W.takesIn K (.builtin "object.__class__") = some true)
   (hm:PySem.W.mroIn K C (.type "object") = some true):TyOf K H (.ref a) (.ref C)
theorem zdj {x:V} {u t:Value} (I:Inv X pins σ H s) (rx:RelV x u) (ty:TyOf X.K H x t) (e:PySem.W.kitOne X.K t c = some b) (h:∀ tk,Q (.bool b) { s with toks:=tk }) :
  wpAny (model X.prog X.w) A (call (.builtin "isinstance") [u,c]) Q E s:=by
 cases ty with
 | non=>cases (show u = Value.none from rx); exact PySem.W.kia_one PySem.W.kitx_none I.kIn True.intro e (fun z=>nomatch z) h
 | bl y=>cases (show u = Value.bool y from rx); exact PySem.W.kia_one PySem.W.kitx_bool I.kIn True.intro e (fun z=>nomatch z) h
 | int i=>obtain ⟨t,q⟩:=(show ∃ t,u = Value.int i t from rx); cases q; exact PySem.W.kia_one PySem.W.kitx_int I.kIn True.intro e (fun z=>nomatch z) h
 | str y=>obtain ⟨t,q⟩:=(show ∃ t,u = Value.str y t from rx); cases q; exact PySem.W.kia_one PySem.W.kitx_str I.kIn True.intro e (fun z=>nomatch z) h
 | flt y=>obtain ⟨t,q⟩:=(show ∃ t,u = Value.float y t from rx); cases q; exact PySem.W.kia_one PySem.W.kitx_float I.kIn True.intro e (fun z=>nomatch z) h
 | @lst a xs ea =>
  cases (show u = Value.ref a from rx)
  obtain ⟨_,_,n,_,h1⟩:=(show ObjOk X.prog X.w H s.heap a (.lst xs) from I.hok a _ ea)
  exact PySem.W.kia_one PySem.W.kitx_list I.kIn ⟨_,h1,rfl⟩ e (fun z=>nomatch z) h
 | @frz a ob xs ea =>
  cases (show u = Value.ref a from rx)
  obtain ⟨_,_,_,n,_,h1⟩:=(show ObjOk X.prog X.w H s.heap a (.frz ob (.lst xs)) from I.hok a _ ea)
  exact PySem.W.kia_one PySem.W.kitx_list I.kIn ⟨_,h1,rfl⟩ e (fun z=>nomatch z) h
 | @tup a xs ea =>
  cases (show u = Value.ref a from rx)
  obtain ⟨_,_,_,p⟩:=(show ObjOk X.prog X.w H s.heap a (.tup xs) from I.hok a _ ea)
  obtain ⟨o,h1,h2,_⟩:=p
  exact PySem.W.kia_one PySem.W.kitx_tuple I.kIn ⟨o,h1,h2⟩ e (fun z=>nomatch z) h
 | @dK a kvs ea =>
  cases (show u = Value.ref a from rx)
  obtain ⟨_,_,vs,_,p⟩:=(show ObjOk X.prog X.w H s.heap a (.dK kvs) from I.hok a _ ea)
  obtain ⟨o,es,ep,h1,h2,_⟩:=p
  exact PySem.W.kia_one PySem.W.kitx_dict I.kIn ⟨o,h1,h2.1⟩ e (fun z=>nomatch z) h
 | @dT a kvs ea =>
  cases (show u = Value.ref a from rx)
  obtain ⟨_,_,xs,_,o,es,ep,h1,h2,_⟩:=(show ObjOk X.prog X.w H s.heap a (.dT kvs) from I.hok a _ ea)
  exact PySem.W.kia_one PySem.W.kitx_dict I.kIn ⟨o,h1,h2.1⟩ e (fun z=>nomatch z) h
 | @ins a C dx fs ea cl ha hn htk hm =>
  cases (show u = Value.ref a from rx)
  obtain ⟨mA,O,_⟩:=Xu I.hok ea
  obtain ⟨od,J,_⟩:=O.look
  exact PySem.W.kia_one (PySem.W.kitx_own (cl.get _) cl.hd ha hn htk hm) I.kIn J e (fun z=>nomatch z) h
end
end L2
namespace L2
open PySem PySem.Spec PyProof.Rows
structure Room (k:Nat) (A:Around):Prop where
 hd:A.handled = none
 dp:A.depth + 3 * k + 5 < recursionLimit
 un:A.units + 16 * k + 200 < cLine
 gd:A.guards = some []
theorem Room.mono {j k:Nat} {A:Around} (r:Room k A) (h:j≤k):Room j A:=⟨r.hd,by have:=r.dp; omega,by have:=r.un; omega,r.gd⟩
theorem Room.deeper {k:Nat} {A:Around} (r:Room (k + 1) A) (env:Env):Room k (A.deeper env) :=
 ⟨r.hd,by have:=r.dp; show A.depth + 1 + 3 * k + 5 < _; omega,by have:=r.un; show A.units + 3 + 16 * k + 200 < _; omega,r.gd⟩
theorem zbh {A:Around} {C:Addr} {us:List Value} {kw:List (Str×Value)}:(A.under (.builtin "type.__call__" ⟨.ref C :: us,kw⟩)).depth = A.depth + 1:=by
 first | rfl | simp [Around.under,Code.weight,Code.isCreation,Code.isGuard,Code.isCaller,Code.frames,Code.isFrame,guardIds]
theorem za5 {A:Around} {C:Addr} {us:List Value} {kw:List (Str×Value)}:(A.under (.builtin "type.__call__" ⟨.ref C :: us,kw⟩)).units = A.units + 1:=by
 first | rfl | simp [Around.under,Code.cUnits,Code.frames,Code.isFrame]
theorem Room.make {k:Nat} {A:Around} (r:Room (k + 1) A) (C:Addr) (us:List Value) (kw:List (Str×Value)):Room k (A.under (.builtin "type.__call__" ⟨.ref C :: us,kw⟩)) :=
 ⟨r.hd,by have:=r.dp; rw [zbh]; omega,by have:=r.un; rw [za5]; omega,by first | exact r.gd | simpa [Around.under,pushGuards,Code.guards,guardIds,Code.isGuard] using r.gd⟩
theorem Room.depth {k:Nat} {A:Around} (r:Room k A):A.depth < recursionLimit:=by have:=r.dp; omega
theorem Room.units {k:Nat} {A:Around} (r:Room k A):A.units + 64 < cLine:=by have:=r.un; omega
noncomputable def tNil:TA:=fun _ H Q=>Q [] H
noncomputable def tCons (ta:TE) (tr:TA):TA:=fun σ H Q=>ta σ H fun x H1=>tr σ H1 fun xs H2=>Q (x :: xs) H2
section
variable {X:Cx} {e:Expr} {es:List Expr} {te:TE} {t:TA} {pos:Pos}
theorem zc:PA X [] tNil:=fun _ _ _ _ H Q I h=>Calls.spliced_nil ⟨[],H,I,.nil,h⟩
theorem za (ha:PE X e te) (hr:PA X es t) (hs:starEach (e :: es) X.env = (false,eval e X.env) :: starEach es X.env:=by rfl):PA X (e :: es) (tCons te t):=by
 intro pos pins s σ H Q I h
 rw [hs]
 show wpAny _ _ (spliced ((false,eval e X.env) :: backTo pos (starEach es X.env))) _ _ s
 refine Calls.spliced_cons (thn (ha pins s σ H _ I h) fun u s1 ⟨x,H1,I1,r1,q1⟩=>?_)
 exact thn (hr pos pins s1 σ H1 _ I1 q1) fun us s2 ⟨xs,H2,I2,r2,q2⟩=>⟨x :: xs,H2,I2,.cons r1 r2,q2⟩
noncomputable def tTup (t:TA):TE:=fun σ H Q=>t σ H fun xs H1=>xs.length≤sizeLine∧∀ p,H1 p = none→Q (.ref p) (upd H1 p (.tup xs))
noncomputable def tLst (t:TA):TE:=fun σ H Q=>t σ H fun xs H1=>xs.length≤sizeLine∧∀ p,H1 p = none→Q (.ref p) (upd H1 p (.lst xs))
theorem qR {x1} (h:PA X es t):PE X (.Tuple es x1 pos) (tTup t):=by
 intro pins s σ H Q I hq
 refine wpAny_Tuple_spliced (thn (h pos pins s σ H _ I hq) fun us s1 ⟨xs,H1,I1,r,z,q⟩=>⟨by rw [← r.length]; exact z,?_⟩)
 have hf:H1 s1.heap.objs.size = none:=I1.hok.fresh (Nat.le_refl _)
 refine ⟨.ref s1.heap.objs.size,upd H1 s1.heap.objs.size (.tup xs),I1.laid (t':=s1.toks) (fun b u e=>Heap.get?_push_of_some _ e) (Nat.le_refl _) ?_,rfl,q _ hf⟩
 exact ⟨z,us,r,⟨_,Heap.get?_push_size _ rfl,rfl,_,rfl⟩⟩
theorem zM (h:PA X es t):PE X (.List es pos) (tLst t):=by
 intro pins s σ H Q I hq
 refine wpAny_List_spliced (thn (h pos pins s σ H _ I hq) fun us s1 ⟨xs,H1,I1,r,z,q⟩=>⟨by rw [← r.length]; exact z,?_⟩)
 have hf:H1 s1.heap.objs.size = none:=I1.hok.fresh (Nat.le_refl _)
 refine ⟨.ref s1.heap.objs.size,upd H1 s1.heap.objs.size (.lst xs),I1.laid (t':=s1.toks) (fun b u e=>Heap.get?_push_of_some _ e) (Nat.le_refl _) ?_,rfl,q _ hf⟩
 exact ⟨z,us,0,r,Heap.get?_push_size _ rfl⟩
end
noncomputable abbrev Sp:=List V→Hp→VK→XK→Prop
noncomputable abbrev CXT:=List Env→Hp→Shared→XK→Value→Shared→Prop
structure Env0 (P:Program) (w:World) (K:PySem.W.Frag) (mg:Str→Option Value) (base:Heap) (A:Around) (outer:List Env) (s:Shared) (H:Hp):Prop where
 frames:A.frames = some outer
 mod:Mod K mg base
 bs:∀ b o,base.get? b = some o→s.heap.get? b = some o∧H b = none
 bsz:base.objs.size≤s.heap.objs.size
 funs:s.heap.FunFrames base outer
 frf:∀ b∈frs outer,H b = none
 hok:HOk P w H s.heap
 bare:AllBare s.gens
noncomputable def CE (outer:List Env) (P:Program) (w:World) (H:Hp) (s:Shared) (Q:VK) (u:Value) (s':Shared):Prop :=
 ∃ v H',s'.os = s.os∧AllBare s'.gens∧Un (frs outer) [] H H' s.heap s'.heap∧HOk P w H' s'.heap∧RelV v u∧Q v H'
noncomputable def CR (CX:CXT) (outer:List Env) (P:Program) (w:World) (H:Hp) (s:Shared) (Q:VK) (E:XK) (r:Result) (s':Shared):Prop :=
 match r with
 | .ok (.ret u)=>CE outer P w H s Q u s'
 | .ok _=>False
 | .error e=>CX outer H s E e s'
structure FnOk (P:Program) (w:World) (K:PySem.W.Frag) (mg:Str→Option Value) (base:Heap) (CX:CXT) (k:Nat) (f:Addr) (fd:FuncData) (ps:List Str) (sp:Sp):Prop where
 len:∀ vs H Q E,sp vs H Q E→vs.length = ps.length
 run:∀ (A:Around) (outer:List Env) (s:Shared) (H:Hp) (args:Args) (us:List Value) (vs:List V) (Q:VK) (E:XK),Room k A→Env0 P w K mg base A outer s H→BindsTo s fd args (ps.zip us)→Vals vs us→sp vs H Q E →
  codeAny (model P w) A (.call (.ref f) args) (CR CX outer P w H s Q E) s
theorem FnOk.imp {P:Program} {w:World} {K:PySem.W.Frag} {mg:Str→Option Value} {base:Heap} {CX:CXT} {k:Nat} {f:Addr} {fd:FuncData} {ps:List Str} {sp sp':Sp} (F:FnOk P w K mg base CX k f fd ps sp)
  (h:∀ vs H Q E,sp' vs H Q E→sp vs H Q E):FnOk P w K mg base CX k f fd ps sp' :=
 ⟨fun vs H Q E q=>F.len vs H Q E (h _ _ _ _ q),fun A outer s H args us vs Q E hr he hb hv hs=>F.run A outer s H args us vs Q E hr he hb hv (h _ _ _ _ hs)⟩
theorem Env0.make {P:Program} {w:World} {K:PySem.W.Frag} {mg:Str→Option Value} {base:Heap} {A:Around} {outer:List Env} {s:Shared} {H:Hp} (e:Env0 P w K mg base A outer s H) (C:Addr) (us:List Value) (kw:List (Str×Value)) :
  Env0 P w K mg base (A.under (.builtin "type.__call__" ⟨.ref C :: us,kw⟩)) outer s H:=⟨by first | exact e.frames | (simpa [Around.under,Code.envs,Code.isFrame,pushEnvs] using e.frames),e.mod,e.bs,e.bsz,e.funs,e.frf,e.hok,e.bare⟩
section
variable {X:Cx} {pins:List (Addr×Obj)} {σ:St} {H:Hp} {s s':Shared}
theorem Inv.env0 (I:Inv X pins σ H s):Env0 X.prog X.w X.K X.mg X.base X.A X.stack s H :=
 ⟨I.ok.frames,I.ok.mod,I.bs,Nat.le_trans I.ok.bsz I.sz,I.stack,I.stkFree,I.hok,I.bare⟩
theorem Inv.after {Q:VK} {u:Value} (I:Inv X pins σ H s) (h:CE X.stack X.prog X.w H s Q u s'):EP X pins σ Q u s':=by
 obtain ⟨v,H',os,bare,un,hok,r,q⟩:=h
 obtain ⟨hh,g,d,t,os'⟩:=s'
 obtain rfl:os' = s.os:=os
 exact ⟨v,H',I.call (h':=hh) (g':=g) (d':=d) (t':=t) (ch:=[]) un hok bare (fun b z=>absurd z (by simp)),r,q⟩
end
noncomputable def tCall (sp:Sp) (dvs:List V) (E:XK) (t:TA):TE:=fun σ H Q=>t σ H fun vs H1=>sp (vs ++ dvs) H1 Q E
noncomputable def tMeth (C:Addr) (m:Str) (sp:Sp) (dvs:List V) (E:XK) (ta:TE) (t:TA):TE:=fun σ H Q=>ta σ H fun x H1=>∃ a dx fs,x = .ref a∧H1 a = some (.ins C dx fs)∧fs.lookup m = none ∧
 t σ H1 fun vs H2=>sp (x :: (vs ++ dvs)) H2 Q E
noncomputable def tMake (C:Addr) (sp:Sp) (dvs:List V) (E:XK) (t:TA):TE:=fun σ H Q=>t σ H fun vs H1=>∀ x dx,H1 x = none→H1 dx = none→dx≠x →
 sp (.ref x :: (vs ++ dvs)) (upd (upd H1 dx (.own x)) x (.ins C dx [])) (fun v H2=>v = .non∧Q (.ref x) H2) E
noncomputable def Binds (K:PySem.W.Frag) (fd:FuncData) (ps:List Str) (ds:List Value):Prop :=
 ∀ (s:Shared) (us:List Value),K.In s.heap→(us ++ ds).length = ps.length→BindsTo s fd ⟨us,[]⟩ (ps.zip (us ++ ds))
theorem Binds.all {K:PySem.W.Frag} {fd:FuncData} {ps:List Str} (h:∀ us:List Value,us.length = ps.length→bindArgs fd ⟨us,[]⟩ = pure (ps.zip us)):Binds K fd ps []:=fun s us _ hl=>by
 rw [List.append_nil] at hl ⊢
 exact .of_eq (h us hl)
noncomputable def Passes (CX:CXT) (X:Cx) (E:XK):Prop:=∀ (pins:List (Addr×Obj)) (σ:St) (H:Hp) (s:Shared) (e:Value) (s':Shared),Inv X pins σ H s→CX X.stack H s E e s'→X.xe e s'
section
variable {X:Cx} {CX:CXT} {k:Nat} {f C:Addr} {fd:FuncData} {ps:List Str} {sp:Sp} {dvs:List V} {ds:List Value} {E:XK} {x m:Str} {p pos apos:Pos} {e o:Expr} {es:List Expr} {ta:TE} {t:TA}
theorem zeA {pins:List (Addr×Obj)} {σ:St} {H:Hp} {s:Shared} {Q:VK} {us:List Value} {vs:List V} (F:FnOk X.prog X.w X.K X.mg X.base CX k f fd ps sp) (hr:Room k X.A) (hb:Binds X.K fd ps ds) (hd:Vals dvs ds) (hx:Passes CX X E)
  (I:Inv X pins σ H s) (r:Vals vs us) (h:sp (vs ++ dvs) H Q E):wpAny (model X.prog X.w) X.A (call (.ref f) us) (EP X pins σ Q) X.xe s:=by
 have r2:Vals (vs ++ dvs) (us ++ ds):=r.append hd
 have hl:(us ++ ds).length = ps.length:=by rw [← r2.length]; exact F.len _ _ _ _ h
 refine wpAny_call (codeAny_mono (F.run X.A X.stack s H ⟨us,[]⟩ (us ++ ds) (vs ++ dvs) Q E hr I.env0 (hb s us I.kIn hl) r2 h) fun r s' hq=>?_)
 cases r with
 | error e=>exact hx pins σ H s e s' I hq
 | ok fl =>
  cases fl with
  | ret u=>exact I.after hq
  | next=>exact False.elim hq
  | brk=>exact False.elim hq
  | cont=>exact False.elim hq
theorem zc6 (F:FnOk X.prog X.w X.K X.mg X.base CX k f fd ps sp) (hr:Room k X.A) (hg:Gl X x) (hm:X.mg x = some (.ref f)) (hk:PySem.W.keepIn X.K (.ref f) = true) (hb:Binds X.K fd ps ds) (hd:Vals dvs ds) (hx:Passes CX X E)
  (ha:PA X (e :: es) t) (hdb:(x == ("__debug__" : Str)) = false:=by decide) (he:starEach (e :: es) X.env = (false,eval e X.env) :: starEach es X.env:=by rfl) (hpl:(backTo pos (starEach es X.env)).any (·.1) = false:=by rfl) :
  PE X (.Call (.Name x p) (e :: es) [] pos) (tCall sp dvs E t):=by
 intro pins s σ H Q I h
 refine wpAny_Call_Name_kw (Zj I hg hm ?_ hdb)
 refine PySem.W.callWith_K (h₀:=X.base) I.ok.mod.kin hk (thn (ha pos pins s σ H _ I h) fun us s1 ⟨vs,H1,I1,r,q⟩=>⟨I1.kIn,?_⟩) he hpl
 exact zeA F hr hb hd hx I1 r q
theorem zgi {pl:Sem Bool} (he:PE X o ta) (c:Cls X.K C) (hm:Meth X.K C m f) (F:FnOk X.prog X.w X.K X.mg X.base CX k f fd ps sp) (hr:Room k X.A) (hb:Binds X.K fd ps ds) (hd:Vals dvs ds) (hx:Passes CX X E) (ha:PA X (e :: es) t)
  (hst:starEach (e :: es) X.env = (false,eval e X.env) :: starEach es X.env:=by rfl) (hpl:(backTo pos (starEach es X.env)).any (·.1) = false:=by rfl)
  (ht:eval (.Call (.Attribute o m apos) (e :: es) [] pos) X.env = (do
   let ov ← eval o X.env
   standAt apos.atName
   let (f,first) ← holding [ov] (getMethod ov m pl)
   callWith pos f first (backTo pos (starEach (e :: es) X.env)) (backToKw pos (keywordEach [] X.env))):=by rfl) :
  PE X (.Call (.Attribute o m apos) (e :: es) [] pos) (tMeth C m sp dvs E ta t):=by
 intro pins s σ H Q I h
 refine PySem.W.methodCall_KW (pl:=pl) (thn (he pins s σ H _ I h) fun u s1 ⟨x,H1,I1,rx,a,dx,fs,ex,ea,l,q⟩=>?_) ht
 subst ex
 obtain rfl:u = Value.ref a:=rx
 refine Yd I1 ea c hm l ?_
 refine PySem.W.callWith_K (first:=[.ref a]) (h₀:=X.base) I.ok.mod.kin hm.kp (thn (ha pos pins s1 σ H1 _ I1 q) fun us s2 ⟨vs,H2,I2,r,q2⟩=>⟨I2.kIn,?_⟩) hst hpl
 exact zeA (us:=.ref a :: us) (vs:=.ref a :: vs) F hr hb hd hx I2 (.cons rfl r) q2
structure Mk (K:PySem.W.Frag) (C f:Addr):Prop where
 makes:PySem.W.makesIn K C = true
 init:PySem.W.findIn K (.ref C) "__init__" = some (some (.ref f))
 fn:PySem.W.isFn K (.ref f) = true
 kp:PySem.W.keepIn K (.ref C) = true
theorem zdT {pins:List (Addr×Obj)} {σ:St} {H:Hp} {s:Shared} {Q:VK} {us:List Value} {vs:List V} (M:Mk X.K C f) (F:FnOk X.prog X.w X.K X.mg X.base CX k f fd ps sp) (hr:Room (k + 1) X.A) (hb:Binds X.K fd ps ds) (hd:Vals dvs ds)
  (hx:Passes CX X E) (I:Inv X pins σ H s) (r:Vals vs us)
  (h:∀ x dx,H x = none→H dx = none→dx≠x→sp (.ref x :: (vs ++ dvs)) (upd (upd H dx (.own x)) x (.ins C dx [])) (fun v H2=>v = .non∧Q (.ref x) H2) E) :
  wpAny (model X.prog X.w) X.A (call (.ref C) us) (EP X pins σ Q) X.xe s:=by
 have hq:=h (s.heap.objs.size + 1) s.heap.objs.size (I.hok.fresh (Nat.le_succ _)) (I.hok.fresh (Nat.le_refl _)) (Nat.ne_of_lt (Nat.lt_succ_self _))
 have I2:=Inv.made (C:=C) I
 have r2:Vals (V.ref (s.heap.objs.size + 1) :: (vs ++ dvs)) (Value.ref (s.heap.objs.size + 1) :: (us ++ ds)):=.cons rfl (r.append hd)
 have hl:(Value.ref (s.heap.objs.size + 1) :: us ++ ds).length = ps.length:=by
  have e:=r2.length
  rw [F.len _ _ _ _ hq] at e
  exact e.symm
 refine wpAny_call (zdH (f:=f) I.kIn M.makes M.init (beq_iff_eq.mp M.fn) (codeAny_mono (F.run _ X.stack _ _ ⟨Value.ref (s.heap.objs.size + 1) :: us,[]⟩ (Value.ref (s.heap.objs.size + 1) :: (us ++ ds)) _ _ E (hr.make C us [])
  (I2.env0.make C us []) (hb _ (Value.ref (s.heap.objs.size + 1) :: us) I2.kIn hl) r2 hq) fun r s' hq'=>?_))
 cases r with
 | error e=>exact hx pins σ _ _ e s' I2 hq'
 | ok fl =>
  cases fl with
  | ret u =>
   obtain ⟨v,H',I3,rv,ev,q3⟩:=I2.after hq'
   subst ev
   exact ⟨rv,⟨V.ref (s.heap.objs.size + 1),H',I3,rfl,q3⟩⟩
  | next=>exact False.elim hq'
  | brk=>exact False.elim hq'
  | cont=>exact False.elim hq'
theorem zdP (M:Mk X.K C f) (F:FnOk X.prog X.w X.K X.mg X.base CX k f fd ps sp) (hr:Room (k + 1) X.A) (hg:Gl X x) (hm:X.mg x = some (.ref C)) (hb:Binds X.K fd ps ds) (hd:Vals dvs ds) (hx:Passes CX X E)
  (hdb:(x == ("__debug__" : Str)) = false:=by decide):PE X (.Call (.Name x p) [] [] pos) (tMake C sp dvs E tNil):=by
 intro pins s σ H Q I h
 refine wpAny_Call_Name_kw (Zj I hg hm ?_ hdb)
 exact PySem.W.callWith_K0 I.kIn M.kp (zdT (us:=[]) M F hr hb hd hx I .nil h)
end
structure FnScope (N P:List Str) (sc:Scope):Prop where
 kind:sc.kind = .function
 co:sc.isCoroutine = false
 gen:sc.isGenerator = false
 nd:N.Nodup
 pre:N.take P.length = P
 par:∀ x∈P,sc.names.lookup x = some .local∨sc.names.lookup x = some .cell
 nofree:∀ y∈sc.names,y.2≠.free
theorem XR {kindOf:Str→Option NameKind} {x:Str}:∀ {binds:List (Str×Value)} {m:Str→Option Value},(∀ v,(x,v)∉binds)→bindL kindOf binds m x = m x
 | [],_,_=>rfl
 | (n,v) :: r,m,h=>by
  unfold bindL
  rw [XR fun w hw=>h w (List.mem_cons_of_mem _ hw)]
  split
  ·have:x≠n:=by rintro rfl; exact h v List.mem_cons_self
   simp [this]
  ·rfl
theorem Jg {kindOf:Str→Option NameKind} {x:Str}:∀ {binds:List (Str×Value)} {m:Str→Option Value},(∀ v,(x,v)∉binds)→bindC kindOf binds m x = m x
 | [],_,_=>rfl
 | (n,v) :: r,m,h=>by
  unfold bindC
  rw [Jg fun w hw=>h w (List.mem_cons_of_mem _ hw)]
  split
  ·rfl
  ·have:x≠n:=by rintro rfl; exact h v List.mem_cons_self
   simp [this]
theorem Jo {kindOf:Str→Option NameKind} {x:Str} {v:Value}:∀ {P:List Str} {vs:List Value} {i:Nat} {m:Str→Option Value},P.Nodup→P[i]? = some x→vs[i]? = some v→kindOf x = some .local →
  bindL kindOf (P.zip vs) m x = some v
 | [],_,_,_,_,h,_,_=>by simp at h
 | _ :: _,[],_,_,_,_,h,_=>by simp at h
 | p :: P,w :: vs,0,m,nd,h1,h2,hk=>by
  simp at h1 h2; subst h1; subst h2
  show bindL kindOf ((p,w) :: P.zip vs) m p = _
  unfold bindL
  rw [XR fun v hv=>(List.nodup_cons.mp nd).1 (List.of_mem_zip hv).1,if_pos hk]
  simp
 | p :: P,w :: vs,i + 1,m,nd,h1,h2,hk=>by
  show bindL kindOf ((p,w) :: P.zip vs) m x = _
  unfold bindL
  exact Jo (i:=i) (List.nodup_cons.mp nd).2 (by simpa using h1) (by simpa using h2) hk
theorem Jr {kindOf:Str→Option NameKind} {x:Str} {v:Value}:∀ {P:List Str} {vs:List Value} {i:Nat} {m:Str→Option Value},P.Nodup→P[i]? = some x→vs[i]? = some v→kindOf x≠some .local →
  bindC kindOf (P.zip vs) m x = some v
 | [],_,_,_,_,h,_,_=>by simp at h
 | _ :: _,[],_,_,_,_,h,_=>by simp at h
 | p :: P,w :: vs,0,m,nd,h1,h2,hk=>by
  simp at h1 h2; subst h1; subst h2
  show bindC kindOf ((p,w) :: P.zip vs) m p = _
  unfold bindC
  rw [Jg fun v hv=>(List.nodup_cons.mp nd).1 (List.of_mem_zip hv).1,if_neg hk]
  simp
 | p :: P,w :: vs,i + 1,m,nd,h1,h2,hk=>by
  show bindC kindOf ((p,w) :: P.zip vs) m x = _
  unfold bindC
  exact Jr (i:=i) (List.nodup_cons.mp nd).2 (by simpa using h1) (by simpa using h2) hk
noncomputable def start (N:List Str) (vs:List V):St:=vs.map some ++ List.replicate (N.length - vs.length) none
noncomputable def cxOf (CX:CXT) (P:Program) (w:World) (K:PySem.W.Frag) (mg:Str→Option Value) (base:Heap) (N:List Str) (qual:Str) (scope:Scope) (f:Addr) (cd:Value) (A:Around) (outer:List Env) (s:Shared) (H:Hp) (E:XK):Cx where
 prog:=P
 w:=w
 K:=K
 mg:=mg
 base:=base
 A:=A.deeper (envOfC qual scope s.heap.objs.size f cd)
 N:=N
 s₀:=s
 H₀:=H
 env:=envOfC qual scope s.heap.objs.size f cd
 outer:=outer
 stack:=envOfC qual scope s.heap.objs.size f cd :: outer
 ex:=[]
 calm:=true
 fn:=fun _=>true
 pn:=[]
 xe:=fun e s'=>wpAny (model P w) (A.deeper (envOfC qual scope s.heap.objs.size f cd)) (leaving (envOfC qual scope s.heap.objs.size f cd) e) (fun _ s''=>CX outer H s E e s'') (fun e' s''=>CX outer H s E e' s'') s'
theorem QZ {sc:Scope} {n:Nat} {x:Str} (h:sc.names.lookup x = some .cell):∃ c,(cellsFrom n sc.names []).lookup x = some c:=by
 have q:=PySem.W.cellsFrom_some sc.names n [] (.inl h)
 exact Option.isSome_iff_exists.mp q
theorem zdk {CX:CXT} {P:Program} {w:World} {K:PySem.W.Frag} {mg:Str→Option Value} {base:Heap} {N ps:List Str} {qual:Str} {scope:Scope} {f:Addr} {cd:Value} {A:Around} {outer:List Env} {s s1:Shared} {H:Hp} {E:XK} {us:List Value} {vs:List V}
  (S:FnScope N ps scope) (hd:A.handled = none) (e0:Env0 P w K mg base A outer s H) (hl:vs.length = ps.length) (r:Vals vs us)
  (x:InCallC s s.heap.objs.size (bindL (envOfC qual scope s.heap.objs.size f cd).kindOf (ps.zip us) fun _=>none) (cellsFrom (s.heap.objs.size + 1) scope.names []) (bindC (envOfC qual scope s.heap.objs.size f cd).kindOf (ps.zip us) fun _=>none) s1) :
  Inv (cxOf CX P w K mg base N qual scope f cd A outer s H E) [] (start N vs) H s1:=by
 have hpl:ps.length≤N.length:=by have:=congrArg List.length S.pre; rw [List.length_take] at this; omega
 obtain ⟨h1,tk,rfl,hk⟩:=x.done
 have noA:∀ b:Addr,b∉(cxOf CX P w K mg base N qual scope f cd A outer s H E).ex:=fun b z=>absurd (show b∈([]:List Addr) from z) (by simp)
 refine ⟨⟨e0.mod,S.kind,rfl,rfl,Nat.le_refl _,fun y z c h1 h2=>?_,fun y hy=>?_,fun y c _ h=>?_,fun _=>hd,Around.frames_deeper e0.frames,.inr ⟨rfl,rfl⟩,fun b z=>absurd z (noA b),e0.bs,e0.bsz,fun b _ _=>noA b,fun b z=>absurd z (noA b),e0.funs,e0.frf⟩,
  rfl,e0.bare,Un.kept hk,⟨_,x.toInCall.ns,fun i y v h1 h2 h3=>?_⟩,fun y c h=>⟨_,x.cell y c h⟩,e0.hok.fresh (Nat.le_refl _),fun y c h=>?_,fun p hp=>absurd (show p∈([]:List (Addr×Obj)) from hp) (by simp),e0.hok.kept hk,?_⟩
 ·exact name_of_addr x.apart (PySem.mem_of_lookup h1) (PySem.mem_of_lookup h2)
 ·have hy:scope.names.lookup y = some .cell∨scope.names.lookup y = some .free:=hy
  rcases hy with hy | hy
  ·exact QZ hy
  ·exact absurd rfl (S.nofree _ (PySem.mem_of_lookup hy))
 ·exact Nat.le_of_lt (x.above y c (PySem.mem_of_lookup h))
 ·have hi:i < vs.length:=by
   unfold start at h2
   by_cases hi:i < vs.length
   ·exact hi
   ·rw [List.getElem?_append_right (by simpa using hi)] at h2
    rw [List.getElem?_replicate] at h2
    split at h2 <;> cases h2
  have ha:vs[i]? = some v:=by
   unfold start at h2
   rw [List.getElem?_append_left (by simpa using hi),List.getElem?_map] at h2
   cases e:vs[i]? with
   | none=>rw [e] at h2; cases h2
   | some a=>rw [e] at h2; cases h2; rfl
  obtain ⟨u,hu,rv⟩:=r.get ha
  have hp:ps[i]? = some y:=by
   rw [← S.pre,List.getElem?_take_of_lt (by omega)]; exact h1
  have ndP:ps.Nodup:=by rw [← S.pre]; exact S.nd.sublist (List.take_sublist _ _)
  refine ⟨u,rv,?_⟩
  rcases S.par y (List.mem_of_getElem? hp) with k | k
  ·exact .inl ⟨k,Jo ndP hp hu k⟩
  ·obtain ⟨c,e⟩:=QZ (n:=s.heap.objs.size + 1) k
   refine .inr ⟨.inl k,c,e,?_⟩
   have q:=x.cell y c e
   rw [Jr ndP hp hu (by show scope.names.lookup y≠_; rw [k]; decide)] at q
   exact q
 ·exact e0.hok.fresh (Nat.le_of_lt (x.above y c (PySem.mem_of_lookup h)))
 ·unfold start
  show _ = N.length
  rw [List.length_append,List.length_map,List.length_replicate]
  omega
theorem zdX {CX:CXT} {P:Program} {w:World} {K:PySem.W.Frag} {mg:Str→Option Value} {base:Heap} {k:Nat} {f:Addr} {name qual:Str} {params:Arguments} {body:List Stmt} {scope:Scope} {dV kV doc pm cdv ct oc:Value} {an od:Option Addr}
  {osl:Array (Option Value)} {N ps:List Str} {sp:Sp} (lk:K.lookup f = some ⟨oc,od,.func (PySem.W.fnOf name qual params body scope dV kV doc pm an cdv ct),osl⟩) (hcd:PySem.W.codeIn K cdv qual = true) (S:FnScope N ps scope)
  (len:∀ vs H Q E,sp vs H Q E→vs.length = ps.length)
  (hbody:∀ (A:Around) (outer:List Env) (s:Shared) (H:Hp) (vs:List V) (Q:VK) (E:XK),Room k (A.deeper (envOfC qual scope s.heap.objs.size f cdv))→sp vs H Q E →
   ∃ t,PSs (cxOf CX P w K mg base N qual scope f cdv A outer s H E) body t∧t { nx:=fun _ H'=>Q .non H',rt:=Q } (start N vs) H) :
  FnOk P w K mg base CX (k + 1) f (PySem.W.fnOf name qual params body scope dV kV doc pm an cdv ct) ps sp:=by
 refine ⟨len,fun A outer s H args us vs Q E hr e0 hb r hsp=>?_⟩
 have hl:=len _ _ _ _ hsp
 have KX:K.In s.heap:=e0.mod.kin.keeps fun b o e=>(e0.bs b o e).1
 have lim:s.heap.NoLimit:=e0.mod.nolimit.keeps fun b o e=>(e0.bs b o e).1
 have hkind:∀ y∈ps.zip us,scope.names.lookup y.1 = some .local∨(scope.names.lookup y.1 = some .cell∧((cellsFrom (s.heap.objs.size + 1) scope.names []).lookup y.1).isSome = true):=fun ⟨n,v⟩ hy=>by
  rcases S.par n (List.of_mem_zip hy).1 with q | q
  ·exact .inl q
  ·exact .inr ⟨q,PySem.W.cellsFrom_some _ _ _ (.inl q)⟩
 refine codeAny_call_function hr.depth (KX _ _ lk) rfl S.co S.gen rfl (PySem.W.codeRec_of KX hcd) (hb _ _ _ _ ?_)
 refine wpAny_newFunctionEnv_cells S.kind hkind fun env he s1 x=>?_
 subst he
 refine ⟨lim.keeps x.toInCall.keep,codeAny_func ?_⟩
 obtain ⟨t,ht,hq⟩:=hbody A outer s H vs Q E (hr.deeper _) hsp
 have I:Inv (cxOf CX P w K mg base N qual scope f cdv A outer s H E) [] (start N vs) H s1:=zdk S hr.hd e0 hl r x
 refine wpAny_mono (ht [] s1 (start N vs) H _ I hq) (fun fl s' hs=>?_) fun e s' hs=>hs
 have fin:∀ {σ':St} {H':Hp} {v:V} {u:Value},Inv (cxOf CX P w K mg base N qual scope f cdv A outer s H E) [] σ' H' s'→RelV v u→Q v H'→CE outer P w H s Q u s' :=
  fun {σ' H' v u} J rv q=>⟨v,H',J.os,J.bare,J.base,J.hok,rv,q⟩
 cases fl with
 | ret u =>
  obtain ⟨v,σ',H',J,rv,q⟩:=hs
  exact fin J rv q
 | next =>
  obtain ⟨σ',H',J,q⟩:=hs
  exact fin (v:=V.non) (u:=Value.none) J rfl q
 | brk =>
  obtain ⟨_,_,_,q⟩:=hs
  exact False.elim q
 | cont =>
  obtain ⟨_,_,_,q⟩:=hs
  exact False.elim q
end L2
namespace L2
open PySem PySem.Spec PyProof.Rows
section
variable {X:Cx} {x:Str} {p pos:Pos} {e:Expr} {es:List Expr} {t:TA} {id T:String} {r:List V→Hp→VK→Prop}
noncomputable def tCB (r:List V→Hp→VK→Prop) (t:TA):TE:=fun σ H Q=>t σ H fun vs H1=>r vs H1 Q
theorem zv (hc:CallR X (.builtin id) r) (hg:Gl X x) (hm:X.mg x = none) (hv:bootBuiltins x = some (.builtin id)) (ha:PA X (e :: es) t) (hn:x ≠ "__name__" := by decide) (hdb:(x == ("__debug__" : Str)) = false:=by decide)
  (he:starEach (e :: es) X.env = (false,eval e X.env) :: starEach es X.env:=by rfl) (hpl:(backTo pos (starEach es X.env)).any (·.1) = false:=by rfl):PE X (.Call (.Name x p) (e :: es) [] pos) (tCB r t):=by
 intro pins s σ H Q I h
 refine wpAny_Call_Name_kw (Yi I hg hm hv ?_ hn hdb)
 exact PyProof.Rows.callWith_builtin1 (thn (ha pos pins s σ H _ I h) fun us s1 ⟨vs,H1,I1,r1,q1⟩=>hc pins s1 σ H1 vs us Q I1 r1 q1) he hpl
theorem yQ (hc:CallR X (.type T) r) (hg:Gl X x) (hm:X.mg x = none) (hv:bootBuiltins x = some (.type T)) (ha:PA X (e :: es) t) (hn:x ≠ "__name__" := by decide) (hdb:(x == ("__debug__" : Str)) = false:=by decide)
  (he:starEach (e :: es) X.env = (false,eval e X.env) :: starEach es X.env:=by rfl) (hpl:(backTo pos (starEach es X.env)).any (·.1) = false:=by rfl):PE X (.Call (.Name x p) (e :: es) [] pos) (tCB r t):=by
 intro pins s σ H Q I h
 refine wpAny_Call_Name_kw (Yi I hg hm hv ?_ hn hdb)
 exact PyProof.Rows.callWith_type1 (thn (ha pos pins s σ H _ I h) fun us s1 ⟨vs,H1,I1,r1,q1⟩=>hc pins s1 σ H1 vs us Q I1 r1 q1) he hpl
end
end L2
namespace HT
open PySem PyProof.Rows
section
variable {prog:Program} {w:World} {A:Around} {E:Value→Shared→Prop} {s:Shared}
noncomputable def sIx (n d:Nat):Option Int→Nat
 | none=>d
 | some v=>if v < 0 then (v + (n:Int)).toNat else min v.toNat n
theorem zag (n d:Nat):sIx n d none = d:=rfl
theorem Yv (n d k:Nat):sIx n d (some (k:Int)) = min k n:=by
 show (if (k:Int) < 0 then ((k:Int) + (n:Int)).toNat else min (k:Int).toNat n) = min k n
 rw [if_neg (by omega),Int.toNat_natCast]
end
end HT
namespace L2
open PySem PySem.Spec PyProof.Rows
noncomputable abbrev TO:=St→Hp→(Option Int→Hp→Prop)→Prop
noncomputable def PO (X:Cx) (e:Option Expr) (t:TO):Prop :=
 ∀ (pins:List (Addr×Obj)) (s:Shared) (σ:St) (H:Hp) (Q:Option Int→Hp→Prop),Inv X pins σ H s→t σ H Q →
  wpAny (model X.prog X.w) X.A (evalPart e X.env) (fun u s'=>∃ o H',Inv X pins σ H' s'∧IsPart u o∧Q o H') X.xe s
noncomputable def tNoPart:TO:=fun _ H Q=>Q none H
noncomputable def tPart (t:TE):TO:=fun σ H Q=>t σ H fun x H1=>∃ i,x = .int i∧Q (some i) H1
section
variable {X:Cx} {e:Expr} {te:TE} {lo hi:Option Expr} {tl th:TO} {pos p2:Pos}
theorem qH:PO X none tNoPart:=by
 intro pins s σ H Q I h
 rw [evalPart_none]
 exact wpAny_pure ⟨none,H,I,.none,h⟩
theorem jb (h:PE X e te):PO X (some e) (tPart te):=by
 intro pins s σ H Q I hw
 rw [evalPart_some]
 refine thn (h pins s σ H _ I hw) fun u s1 ⟨x,H1,I1,r1,q1⟩=>?_
 obtain ⟨i,rfl,q⟩:=q1
 obtain ⟨t,rfl⟩:=r1
 exact ⟨some i,H1,I1,.int i t,q⟩
noncomputable def SlR (X:Cx) (r:V→Option Int→Option Int→Hp→VK→Prop):Prop :=
 ∀ (pins:List (Addr×Obj)) (s:Shared) (σ:St) (H:Hp) (x:V) (v vl vu:Value) (lo hi:Option Int) (sl:Addr) (Q:VK),Inv X pins σ H s→RelV x v→s.heap.IsSliceOf sl vl vu .none→IsPart vl lo→IsPart vu hi→r x lo hi H Q →
  ∃ T id,typeLookup (.type T) "__getitem__" = pure (some (.builtin id))∧s.TypeIs v T∧wpAny (model X.prog X.w) X.A (getItem v (.ref sl)) (EP X pins σ Q) X.xe s
noncomputable def tSl (r:V→Option Int→Option Int→Hp→VK→Prop) (te:TE) (tl th:TO):TE:=fun σ H Q=>te σ H fun x H1=>tl σ H1 fun l H2=>th σ H2 fun u H3=>r x l u H3 Q
theorem xT {r:V→Option Int→Option Int→Hp→VK→Prop} (hr:SlR X r) (he:PE X e te) (hl:PO X lo tl) (hu:PO X hi th):PE X (.Subscript e (.Slice lo hi none p2) pos) (tSl r te tl th):=by
 intro pins s σ H Q I h
 refine Subscript_ (thn (he pins s σ H _ I h) fun v s1 ⟨x,H1,I1,r1,q1⟩=>?_)
 refine wpAny_Slice (thn (hl pins s1 σ H1 _ I1 q1) fun vl s2 ⟨l,H2,I2,pl,q2⟩=>thn (hu pins s2 σ H2 _ I2 q2) fun vu s3 ⟨u,H3,I3,pu,q3⟩=>?_)
 rw [evalPart_none]
 refine wpAny_pure ?_
 have I4:Inv X pins σ H3 { s3 with heap:=s3.heap.push { cls:=.type "slice",data:=.fields #[vl,vu,.none] } }:=I3.kept (t':=s3.toks) fun b ob q=>Heap.get?_push_of_some _ q
 obtain ⟨T,id,hT,ht,hg⟩:=hr pins { s3 with heap:=s3.heap.push { cls:=.type "slice",data:=.fields #[vl,vu,.none] } } σ H3 x v vl vu l u s3.heap.objs.size Q I4 r1 (Heap.IsSliceOf.new ..) pl pu q3
 show wpAny (model X.prog X.w) X.A (subscriptTail e (.Slice lo hi none p2) v (.ref s3.heap.objs.size)) (EP X pins σ Q) X.xe { s3 with heap:=s3.heap.push { cls:=.type "slice",data:=.fields #[vl,vu,.none] } }
 exact tail_any (ops:=[.ref s3.heap.objs.size,v]) ht hT hg (by with_unfolding_all rfl)
noncomputable def cutV (xs:List V) (lo hi:Option Int):List V:=(xs.drop (HT.sIx xs.length 0 lo)).take (HT.sIx xs.length xs.length hi - HT.sIx xs.length 0 lo)
theorem Qu (xs:List V) (lo hi:Option Int):(cutV xs lo hi).length≤xs.length:=by
 unfold cutV
 rw [List.length_take,List.length_drop]
 omega
end
end L2
namespace L2
open PySem PySem.Spec PyProof.Rows
noncomputable def ixN (n:Nat) (i:Int):Option Nat:=if 0≤i then (if i < n then some i.toNat else none) else if -(n:Int)≤i then some (i + n).toNat else none
noncomputable def atI {α:Type} (xs:List α) (i:Int):Option α:=(ixN xs.length i).bind fun j=>xs[j]?
theorem zfs {n:Nat} {i:Int} {j:Nat} (h:ixN n i = some j):seqIndex? i n = some j∧j < n∧-(n:Int)≤i∧i < n:=by
 unfold ixN at h
 by_cases h0:0≤i
 ·rw [if_pos h0] at h
  by_cases h1:i < n
  ·rw [if_pos h1] at h
   have e:i.toNat = j:=Option.some.inj h
   exact ⟨by rw [seqIndex_of h0 h1,e],by omega,by omega,h1⟩
  ·rw [if_neg h1] at h; cases h
 ·rw [if_neg h0] at h
  by_cases h1 : -(n:Int)≤i
  ·rw [if_pos h1] at h
   have e:(i + n).toNat = j:=Option.some.inj h
   exact ⟨by rw [seqIndex_neg (by omega) h1,e],by omega,h1,by omega⟩
  ·rw [if_neg h1] at h; cases h
theorem Qe {α:Type} {xs:List α} {i:Int} {v:α} (h:atI xs i = some v):∃ j,seqIndex? i xs.length = some j∧xs[j]? = some v∧j < xs.length∧-(xs.length:Int)≤i∧i < xs.length:=by
 unfold atI at h
 cases e:ixN xs.length i with
 | none=>rw [e] at h; cases h
 | some j =>
  rw [e] at h
  obtain ⟨h1,h2,h3,h4⟩:=zfs e
  exact ⟨j,h1,h,h2,h3,h4⟩
theorem zm {α:Type} {xs:List α} {j:Nat} {v:α} (h:xs[j]? = some v):atI xs (j:Int) = some v:=by
 have hj:j < xs.length:=(List.getElem?_eq_some_iff.mp h).1
 have e:ixN xs.length (j:Int) = some j:=by
  unfold ixN
  rw [if_pos (by omega),if_pos (by omega)]; simp
 unfold atI; rw [e]; exact h
noncomputable def PlainIx (b:Expr):Prop:=∀ o i,subscripted b false o i = operate [o,i] (getItem o i)
noncomputable def IxR (X:Cx) (r:R2):Prop :=
 ∀ (value slice:Expr) (pins:List (Addr×Obj)) (s:Shared) (σ:St) (H:Hp) (x y:V) (v u:Value) (Q:VK),Inv X pins σ H s→RelV x v→RelV y u→r x y H Q →
  subscripted slice false v u = operate [v,u] (getItem v u)→wpAny (model X.prog X.w) X.A (subscriptTail value slice v u) (EP X pins σ Q) X.xe s
noncomputable def MtR (X:Cx) (id:String) (r:V→List V→Hp→VK→Prop):Prop :=
 ∀ (pins:List (Addr×Obj)) (s:Shared) (σ:St) (H:Hp) (x:V) (xs:List V) (v:Value) (us:List Value) (Q:VK),Inv X pins σ H s→RelV x v→Vals xs us→r x xs H Q →
  wpAny (model X.prog X.w) X.A (call (.builtin id) (v :: us)) (EP X pins σ Q) X.xe s
section
variable {X:Cx} {a b:Expr} {ta tb:TE} {pos:Pos}
theorem zdW {r:R2} (hr:IxR X r) (ha:PE X a ta) (hb:PE X b tb) (hs:PlainIx b):PE X (.Subscript a b pos) (tOp r ta tb):=by
 intro pins s σ H Q I h
 exact Subscript_ (binT ha hb I h fun v u s2 x y H2 I2 rx ry q=>hr a b pins s2 σ H2 x y v u Q I2 rx ry q (hs _ _))
inductive ze3 (K:PySem.W.Frag) (x y:V) (H:Hp) (Q:VK):Prop where
 | mk (p:Addr) (xs:List V) (i:Int) (v:V) (h0_:x = .ref p) (h1_:y = .int i) (h2_:SqL K H p xs) (h3_:atI xs i = some v) (h4_:Q v H):ze3 K x y H Q
noncomputable def rIxL (K:PySem.W.Frag):R2:=fun x y H Q=>ze3 K x y H Q
inductive ze2 (K:PySem.W.Frag) (x y:V) (H:Hp) (Q:VK):Prop where
 | mk (p:Addr) (xs:List V) (i:Int) (v:V) (h0_:x = .ref p) (h1_:y = .int i) (h2_:SqT K H p xs) (h3_:atI xs i = some v) (h4_:Q v H):ze2 K x y H Q
noncomputable def rIxT (K:PySem.W.Frag):R2:=fun x y H Q=>ze2 K x y H Q
noncomputable def rIxS:R2:=fun x y H Q=>∃ z i c,x = .str z∧y = .int i∧z.length≤sizeLine∧atI z.cps.toList i = some c∧Q (.str ⟨#[c]⟩) H
theorem zbr:IxR X (rIxL X.K):=by
 intro value slice pins s σ H x y v u Q I rx ry h hs
 obtain ⟨p,xs,i,z,rfl,rfl,hq,he,q⟩:=h
 cases rx
 obtain ⟨t,rfl⟩:=ry
 obtain ⟨its,r,pl,hz⟩:=I.list hq
 obtain ⟨j,h1,h2,h3,h4,h5⟩:=Qe he
 obtain ⟨w,ew,rw'⟩:=r.get h2
 have hl:=r.length
 have hn:=line63
 have fin:EP X pins σ Q w s:=⟨z,H,I,rw',q⟩
 by_cases h0:0≤i
 ·have hj:i.toNat = j:=by
   rw [seqIndex_of h0 h5] at h1
   exact Option.some.inj h1
  exact item_listR pl.isList h0 (by omega) (by rw [hj]; simpa using ew) fin hs
 ·have hj:(i + (its.toArray.size:Int)).toNat = j:=by
   rw [seqIndex_neg (by omega) h4] at h1
   rw [List.size_toArray,← hl]
   exact Option.some.inj h1
  exact subscriptTail_builtinR (x:=w) pl.isList.typeIs slot_list_getitem.lookup
   (wpAny_getItem_list_neg (Q:=fun r s'=>r = w∧EP X pins σ Q r s') pl.isList (by omega) (by rw [List.size_toArray] <;> omega) (by omega) (by rw [hj]; simpa using ew) ⟨rfl,fin⟩) hs
theorem zhu:IxR X (rIxT X.K):=by
 intro value slice pins s σ H x y v u Q I rx ry h hs
 obtain ⟨p,xs,i,z,rfl,rfl,hq,he,q⟩:=h
 cases rx
 obtain ⟨t,rfl⟩:=ry
 obtain ⟨its,r,pl,hz⟩:=I.tuple hq
 obtain ⟨j,h1,h2,h3,h4,h5⟩:=Qe he
 obtain ⟨w,ew,rw'⟩:=r.get h2
 have hl:=r.length
 have hn:=line63
 have fin:EP X pins σ Q w s:=⟨z,H,I,rw',q⟩
 exact subscriptTail_builtinR (x:=w) pl.typeIs slot_tuple_getitem.lookup
  (getItem_tuple (j:=j) (Q:=fun r s'=>r = w∧EP X pins σ Q r s') pl (by omega) (by omega) (by rw [List.size_toArray,← hl]; exact h1) (by simpa using ew) ⟨rfl,fin⟩) hs
theorem zc0:IxR X rIxS:=by
 intro value slice pins s σ H x y v u Q I rx ry h hs
 obtain ⟨z,i,c,rfl,rfl,hz,he,q⟩:=h
 obtain ⟨t,rfl⟩:=rx
 obtain ⟨t',rfl⟩:=ry
 obtain ⟨j,h1,h2,h3,h4,h5⟩:=Qe he
 have hl:z.cps.toList.length = z.length:=by simp [Str.length]
 rw [hl] at h1 h4 h5
 have hn:=line63
 exact tail_any (typeIs_str s z t) slot_str_getitem.lookup (getItem_str (c:=c) (by
  have e1:decide (i < -(2 ^ 63:Int)) = false:=decide_eq_false (by omega)
  have e2:decide (i ≥ 2 ^ 63) = false:=decide_eq_false (by omega)
  rw [e1,e2,Bool.or_false]) (by rw [h1]; simpa using h2) ⟨.str ⟨#[c]⟩,H,I.tok _,⟨_,rfl⟩,q⟩) hs
theorem Jy (lo hi:Option Int) (n:Nat):(sliceBounds lo hi none n).1 = ((HT.sIx n 0 lo:Nat):Int)∧(sliceBounds lo hi none n).2.1 = ((HT.sIx n n hi:Nat):Int)∧(sliceBounds lo hi none n).2.2 = 1:=by
 refine ⟨?_,?_,rfl⟩
 ·cases lo with
  | none=>simp [sliceBounds,HT.sIx]
  | some i =>
   simp only [sliceBounds,HT.sIx,Option.getD_none,show (1:Int) > 0 by decide,if_true]
   by_cases h:i < 0
   ·simp only [h,if_true] <;> omega
   ·simp only [h,if_false] <;> omega
 ·cases hi with
  | none=>simp [sliceBounds,HT.sIx]
  | some i =>
   simp only [sliceBounds,HT.sIx,Option.getD_none,show (1:Int) > 0 by decide,if_true]
   by_cases h:i < 0
   ·simp only [h,if_true] <;> omega
   ·simp only [h,if_false] <;> omega
theorem YQ (its:List Value) (lo hi:Option Int):slicePick its.toArray lo hi none = ((its.drop (HT.sIx its.length 0 lo)).take (HT.sIx its.length its.length hi - HT.sIx its.length 0 lo)).toArray:=by
 obtain ⟨h1,h2,h3⟩:=Jy lo hi its.toArray.size
 unfold slicePick
 rw [h1,h2,h3]
 simp only [sliceRange_one,pick_run,List.size_toArray] <;> rfl
inductive zeD (K:PySem.W.Frag) (x:V) (lo hi:Option Int) (H:Hp) (Q:VK):Prop where
 | mk (a:Addr) (xs:List V) (h0_:x = .ref a) (h1_:SqL K H a xs) (h2_:∀ p,H p = none→Q (.ref p) (upd H p (.lst (cutV xs lo hi)))):zeD K x lo hi H Q
noncomputable def rSlL (K:PySem.W.Frag):V→Option Int→Option Int→Hp→VK→Prop:=fun x lo hi H Q=>zeD K x lo hi H Q
theorem zc4:SlR X (rSlL X.K):=by
 intro pins s σ H x v vl vu lo hi sl Q I rx hs pl pu h
 obtain ⟨a,xs,rfl,hx,q⟩:=h
 cases rx
 obtain ⟨its,r,ht,hz⟩:=I.list hx
 have hlen:=r.length
 refine ⟨"list",_,slot_list_getitem.lookup,ht.isList.typeIs,?_⟩
 refine wpAny_getItem_list_slice ht.isList hs pl pu .none (by simp) ?_ (by rw [List.size_toArray] <;> omega)
 rw [YQ,← hlen]
 refine ⟨.ref s.heap.objs.size,_,I.laid (t':=s.toks) (o:=.lst (cutV xs lo hi)) (fun b ob q=>Heap.get?_push_of_some _ q) (Nat.le_refl _) ?_,rfl,q _ (I.hok.fresh (Nat.le_refl _))⟩
 exact ⟨Nat.le_trans (Qu xs lo hi) hz,_,0,(r.drop (HT.sIx xs.length 0 lo)).take (HT.sIx xs.length xs.length hi - HT.sIx xs.length 0 lo),Heap.get?_push_size _ rfl⟩
noncomputable def flatV:V→Bool
 | .non=>true
 | .bl _=>true
 | .int _=>true
 | .str _=>true
 | _=>false
noncomputable def eqV:V→V→Bool
 | .non,.non=>true
 | .bl a,.bl b=>a == b
 | .bl a,.int b=>(if a then 1 else 0) == b
 | .int a,.bl b=>a == (if b then 1 else 0)
 | .int a,.int b=>a == b
 | .str a,.str b=>a == b
 | _,_=>false
theorem zgR {A:Around} {s:Shared} {y x:V} {u v:Value} (ry:RelV y u) (rx:RelV x v) (fy:flatV y = true) (fx:flatV x = true):SeqAt.EqAt A s u v (eqV y x):=by
 cases y with
 | non =>
  cases ry
  cases x with
  | non=>cases rx; exact SeqAt.EqAt.same _
  | bl b=>cases rx; exact SeqAt.EqAt.none_bool b
  | int b=>obtain ⟨t,rfl⟩:=rx; exact SeqAt.EqAt.none_int b t
  | str b=>obtain ⟨t,rfl⟩:=rx; exact SeqAt.EqAt.none_str b t
  | _=>exact absurd (show false = true from fx) Bool.false_ne_true
 | bl a =>
  cases ry
  cases x with
  | non=>cases rx; exact SeqAt.EqAt.bool_none a
  | bl b=>cases rx; exact SeqAt.EqAt.bool_bool a b
  | int b=>obtain ⟨t,rfl⟩:=rx; exact SeqAt.EqAt.bool_int a b t
  | str b=>obtain ⟨t,rfl⟩:=rx; exact SeqAt.EqAt.bool_str a b t
  | _=>exact absurd (show false = true from fx) Bool.false_ne_true
 | int a =>
  obtain ⟨t',rfl⟩:=ry
  cases x with
  | non=>cases rx; exact SeqAt.EqAt.int_none a t'
  | bl b=>cases rx; exact SeqAt.EqAt.int_bool a t' b
  | int b=>obtain ⟨t,rfl⟩:=rx; exact SeqAt.EqAt.int_int a t' b t
  | str b=>obtain ⟨t,rfl⟩:=rx; exact SeqAt.EqAt.int_str a t' b t
  | _=>exact absurd (show false = true from fx) Bool.false_ne_true
 | str a =>
  obtain ⟨t',rfl⟩:=ry
  cases x with
  | non=>cases rx; exact SeqAt.EqAt.str_none a t'
  | bl b=>cases rx; exact SeqAt.EqAt.str_bool a t' b
  | int b=>obtain ⟨t,rfl⟩:=rx; exact SeqAt.EqAt.str_int a t' b t
  | str b=>obtain ⟨t,rfl⟩:=rx; exact SeqAt.EqAt.str_str a t' b t
  | _=>exact absurd (show false = true from fx) Bool.false_ne_true
 | _=>exact absurd (show false = true from fy) Bool.false_ne_true
noncomputable def eqU (x:V) (u:Value):Bool:=match u with
 | .none=>eqV .non x
 | .bool b=>eqV (.bl b) x
 | .int i _=>eqV (.int i) x
 | .str z _=>eqV (.str z) x
 | _=>false
theorem zeP {x y:V} {u:Value} (r:RelV y u) (f:flatV y = true):eqU x u = eqV y x:=by
 cases y with
 | non=>cases r; rfl
 | bl b=>cases r; rfl
 | int i=>obtain ⟨t,rfl⟩:=r; rfl
 | str z=>obtain ⟨t,rfl⟩:=r; rfl
 | _=>exact absurd (show false = true from f) Bool.false_ne_true
theorem JU {x:V}:∀ {xs:List V} {us:List Value},Vals xs us→xs.all flatV = true→us.any (eqU x) = xs.any fun y=>eqV y x
 | _,_,.nil,_=>rfl
 | y :: xs,u :: us,.cons r t,f=>by
  rw [List.all_cons,Bool.and_eq_true] at f
  rw [List.any_cons,List.any_cons,zeP r f.1,JU t f.2]
theorem Ys {A:Around} {s:Shared} {x:V} {v:Value} (rx:RelV x v) (fx:flatV x = true):∀ {xs:List V} {us:List Value},Vals xs us→xs.all flatV = true→∀ u∈us,SeqAt.EqAt A s u v (eqU x u)
 | _,_,.nil,_=>fun u hu=>by cases hu
 | y :: xs,u :: us,.cons r t,f=>fun u' hu=>by
  rw [List.all_cons,Bool.and_eq_true] at f
  rcases List.mem_cons.mp hu with rfl | hu
  ·rw [zeP r f.1]; exact zgR r rx f.1 fx
  ·exact Ys rx fx t f.2 u' hu
noncomputable def inV (x:V) (xs:List V):Bool:=xs.any fun y=>eqV y x
noncomputable def rIn (K:PySem.W.Frag) (neg:Bool):R2:=fun x y H Q=>∃ p xs,y = .ref p∧(SqL K H p xs∨SqT K H p xs)∧flatV x = true∧xs.all flatV = true∧Q (.bl (if neg then !inV x xs else inV x xs)) H
theorem zbz:OpR X (compareOp .In) (rIn X.K false):=by
 intro pins s σ H x y v u Q I rx ry h
 obtain ⟨p,xs,rfl,hq,fx,fs,q⟩:=h
 cases ry
 rcases hq with hq | hq
 ·obtain ⟨its,r,pl,hz⟩:=I.list hq
  refine SeqAt.in_listAt (eqU x) pl.isList (fun w hw=>Ys rx fx r fs w (by simpa using hw)) ⟨.bl _,H,I,rfl,?_⟩
  rw [show its.toArray.any (eqU x) = its.any (eqU x) by simp,JU r fs]
  exact q
 ·obtain ⟨its,r,pl,hz⟩:=I.tuple hq
  refine SeqAt.in_tupleAt (eqU x) pl (fun w hw=>Ys rx fx r fs w (by simpa using hw)) ⟨.bl _,H,I,rfl,?_⟩
  rw [show its.toArray.any (eqU x) = its.any (eqU x) by simp,JU r fs]
  exact q
theorem XT:OpR X (compareOp .NotIn) (fun x y H Q=>∃ i j,x = .str i∧y = .str j∧Q (.bl (!(!(Builtin.Str.occurrences j i 0 j.length 1).isEmpty))) H):=by
 intro pins s σ H x y v u Q I rx ry h
 obtain ⟨i,j,rfl,rfl,q⟩:=h
 obtain ⟨t,rfl⟩:=rx
 obtain ⟨t',rfl⟩:=ry
 exact notIn_str ⟨.bl _,H,I,rfl,q⟩
theorem JO:CallR X (.builtin "len") (fun xs H Q=>∃ p ys,xs = [.ref p]∧(SqL X.K H p ys∨SqT X.K H p ys)∧Q (.int ys.length) H):=by
 intro pins s σ H xs us Q I r h
 obtain ⟨p,ys,rfl,hq,q⟩:=h
 obtain ⟨u,rfl,rx⟩:=vals1 r
 cases rx
 have hn:=line63
 rcases hq with hq | hq
 ·obtain ⟨its,r',pl,hz⟩:=I.list hq
  have hlen:=r'.length
  exact Calls.call_len_list pl.isList (by simp only [List.size_toArray] <;> omega) ⟨.int ys.length,H,I.tok _,⟨s.toks + 1,by rw [List.size_toArray,hlen]⟩,q⟩
 ·obtain ⟨its,r',pl,hz⟩:=I.tuple hq
  have hlen:=r'.length
  exact len_tuple pl (by simp only [List.size_toArray] <;> omega) ⟨.int ys.length,H,I.tok _,⟨s.toks + 1,by rw [List.size_toArray,hlen]⟩,q⟩
theorem qQ:CallR X (.builtin "len") (fun xs H Q=>∃ z,xs = [.str z]∧z.length≤sizeLine∧Q (.int z.length) H):=by
 intro pins s σ H xs us Q I r h
 obtain ⟨z,rfl,hz,q⟩:=h
 obtain ⟨u,rfl,t,rfl⟩:=vals1 r
 have hn:=line63
 exact len_str (by omega) ⟨.int z.length,H,I.tok _,⟨_,rfl⟩,q⟩
theorem XV:CallR X (.type "list") (fun xs H Q=>∃ p ys,xs = [.ref p]∧(SqL X.K H p ys∨SqT X.K H p ys)∧∀ l,H l = none→Q (.ref l) (upd H l (.lst ys))):=by
 intro pins s σ H xs us Q I r h
 obtain ⟨p,ys,rfl,hq,q⟩:=h
 obtain ⟨u,rfl,rx⟩:=vals1 r
 cases rx
 have fin:∀ (its:List Value),Vals ys its→ys.length≤sizeLine→∀ (h':Heap) (c':Nat),(∀ b o',s.heap.get? b = some o'→h'.get? b = some o') →
   h'.get? s.heap.objs.size = some { cls:=.type "list",dict:=none,data:=.seq its.toArray c',slots:=#[] }→EP X pins σ Q (.ref s.heap.objs.size) { s with heap:=h' }:=fun its r' hz h' c' kp e =>
  ⟨.ref s.heap.objs.size,_,I.laid (t':=s.toks) kp (Nat.le_refl _) (show ObjOk X.prog X.w _ h' _ (.lst ys) from ⟨hz,its,c',r',e⟩),rfl,q _ (I.hok.fresh (Nat.le_refl _))⟩
 rcases hq with hq | hq
 ·obtain ⟨its,r',pl,hz⟩:=I.list hq
  have hlen:=r'.length
  obtain ⟨o,ho,hc,n,hd⟩:=pl.isList
  exact call_list_seq p (.inl rfl) ho hc hd (fun h' c' kp e=>fin its r' hz h' c' kp e) (by simp only [List.size_toArray] <;> omega)
 ·obtain ⟨its,r',pl,hz⟩:=I.tuple hq
  have hlen:=r'.length
  obtain ⟨o,ho,hc,n,hd⟩:=pl
  exact call_list_seq p (.inr rfl) ho hc hd (fun h' c' kp e=>fin its r' hz h' c' kp e) (by simp only [List.size_toArray] <;> omega)
theorem Xg:CallR X (.type "tuple") (fun xs H Q=>∃ p ys,xs = [.ref p]∧((SqL X.K H p ys∧∀ l,H l = none→Q (.ref l) (upd H l (.tup ys)))∨(SqT X.K H p ys∧Q (.ref p) H))):=by
 intro pins s σ H xs us Q I r h
 obtain ⟨p,ys,rfl,h⟩:=h
 obtain ⟨u,rfl,rx⟩:=vals1 r
 cases rx
 rcases h with ⟨hq,q⟩ | ⟨hq,q⟩
 ·obtain ⟨its,r',pl,hz⟩:=I.list hq
  have hlen:=r'.length
  refine call_tuple_list pl.isList (fun h' kp=>?_) (by simp only [List.size_toArray] <;> omega)
  have I1:Inv X pins σ H { s with heap:=h' }:=I.kept (t':=s.toks) kp
  have I2:Inv X pins σ (upd H h'.objs.size (.tup ys)) { s with heap:=h'.push { cls:=.type "tuple",data:=.seq its.toArray } } :=
   I1.laid (t':=s.toks) (fun b o e=>Heap.get?_push_of_some _ e) (Nat.le_refl _) (show ObjOk X.prog X.w _ _ _ (.tup ys) from ⟨hz,its,r',IsTup.new _ _⟩)
  exact ⟨.ref h'.objs.size,_,I2,rfl,q _ (I1.hok.fresh (Nat.le_refl _))⟩
 ·obtain ⟨its,r',pl,hz⟩:=I.tuple hq
  exact call_tuple_same pl ⟨.ref p,H,I,rfl,q⟩
noncomputable def tyV (K:PySem.W.Frag) (T:String) (x:V) (H:Hp):Prop:=match x with
 | .str _=>T = "str"
 | .int _=>T = "int"
 | .ref p=>(T = "list" ∧ ∃ xs,SqL K H p xs)∨(T = "tuple" ∧ ∃ o,K.lookup p = some o∧o.cls = .type "tuple" ∧ o.dict = none) ∨
   (T = "dict" ∧ ((∃ kvs,H p = some (.dK kvs))∨∃ kvs,H p = some (.dT kvs)))∨(T = "set" ∧ ∃ S n,H p = some (.set S n))
 | _=>False
theorem zeQ {pins:List (Addr×Obj)} {σ:St} {H:Hp} {s:Shared} {T:String} {x:V} {v:Value} (I:Inv X pins σ H s) (r:RelV x v) (ty:tyV X.K T x H) :
  s.TypeIs v T∧∀ a,v = .ref a→∃ ob,s.heap.get? a = some ob∧ob.dict = none:=by
 cases x with
 | str z =>
  obtain ⟨t,rfl⟩:=r
  cases (show T = "str" from ty)
  exact ⟨typeIs_str s z t,fun _ e=>nomatch e⟩
 | int i =>
  obtain ⟨t,rfl⟩:=r
  cases (show T = "int" from ty)
  exact ⟨typeIs_int s i t,fun _ e=>nomatch e⟩
 | ref p =>
  cases r
  rcases ty with ⟨rfl,xs,hq⟩ | ⟨rfl,o,hk,hc,hd⟩ | ⟨rfl,hk⟩ | ⟨rfl,S,n,hk⟩
  ·obtain ⟨its,_,pl,_⟩:=I.list hq
   refine ⟨pl.isList.typeIs,fun a e=>?_⟩
   cases e
   obtain ⟨o,n,e,c,hd,_⟩:=pl
   exact ⟨o,e,hd⟩
  ·refine ⟨⟨o,I.kIn p o hk,hc⟩,fun a e=>?_⟩
   cases e
   exact ⟨o,I.kIn _ o hk,hd⟩
  ·have z:∃ o,s.heap.get? p = some o∧o.ExactDict:=by
    rcases hk with ⟨kvs,hk⟩ | ⟨kvs,hk⟩
    ·obtain ⟨_,_,_,_,o,_,_,e,ex,_⟩:=I.hok p _ hk
     exact ⟨o,e,ex⟩
    ·obtain ⟨_,_,_,_,o,_,_,e,ex,_⟩:=I.hok p _ hk
     exact ⟨o,e,ex⟩
   obtain ⟨o,e,ex⟩:=z
   refine ⟨⟨o,e,ex.1⟩,fun a e2=>?_⟩
   cases e2
   exact ⟨o,e,ex.2.1⟩
  ·obtain ⟨o,_,_,_,e,ex,_⟩:=I.hok p _ hk
   refine ⟨⟨o,e,ex.1⟩,fun a e2=>?_⟩
   cases e2
   exact ⟨o,e,ex.2.1⟩
 | _=>exact False.elim ty
noncomputable def tBM0 (K:PySem.W.Frag) (T:String) (r:V→List V→Hp→VK→Prop) (to:TE):TE:=fun σ H Q=>to σ H fun x H1=>tyV K T x H1∧r x [] H1 Q
noncomputable def tBM (K:PySem.W.Frag) (T:String) (r:V→List V→Hp→VK→Prop) (to:TE) (t:TA):TE:=fun σ H Q=>to σ H fun x H1=>tyV K T x H1∧t σ H1 fun xs H2=>r x xs H2 Q
variable {o e:Expr} {es:List Expr} {to:TE} {t:TA} {name:Str} {apos cpos:Pos} {T id:String} {r:V→List V→Hp→VK→Prop}
theorem zgm (pa:PlainAttrs T) (slot:Slot T name id) (hty:typeOf (.builtin id) = pure (.type "method_descriptor")) (hm:MtR X id r) (ho:PE X o to)
  (hbase:attributeBase o name X.env (eval o X.env) = eval o X.env:=by rfl) (hline:(apos.endLine == cpos.line) = true:=by rfl):PE X (.Call (.Attribute o name apos) [] [] cpos) (tBM0 X.K T r to):=by
 intro pins s σ H Q I h
 refine wpAny_Call_method0_late hbase hline (thn (ho pins s σ H _ I h) fun v s1 ⟨x,H1,I1,r1,ty,q1⟩=>?_)
 obtain ⟨h1,h2⟩:=zeQ I1 r1 ty
 exact ⟨T,id,pa,slot,hty,h1,h2,Calls.callWith_builtin rfl (PySem.evalArgs_none (hm pins s1 σ H1 x [] v [] Q I1 r1 .nil q1))⟩
theorem xZ (pa:PlainAttrs T) (slot:Slot T name id) (hty:typeOf (.builtin id) = pure (.type "method_descriptor")) (hm:MtR X id r) (ho:PE X o to) (ha:PA X (e :: es) t)
  (hbase:attributeBase o name X.env (eval o X.env) = eval o X.env:=by rfl)
  (hfew:((backTo cpos (starEach (e :: es) X.env)).all (fun x=>!x.1) && (backToKw cpos (keywordEach [] X.env)).all (fun x=>x.1.isSome)
   && decide ((e :: es).length + ([]:List Keyword).length + (if ([]:List Keyword).isEmpty then 0 else 1) < 30)) = true:=by rfl)
  (hline:(apos.endLine == cpos.line) = true:=by rfl) (hs:starEach (e :: es) X.env = (false,eval e X.env) :: starEach es X.env:=by rfl) (hplain:(backTo cpos (starEach es X.env)).any (·.1) = false:=by rfl) :
  PE X (.Call (.Attribute o name apos) (e :: es) [] cpos) (tBM X.K T r to t):=by
 intro pins s σ H Q I h
 refine wpAny_Call_method_late hbase hfew hline rfl (thn (ho pins s σ H _ I h) fun v s1 ⟨x,H1,I1,r1,ty,q1⟩=>?_)
 obtain ⟨h1,h2⟩:=zeQ I1 r1 ty
 refine ⟨T,id,pa,slot,hty,h1,h2,?_⟩
 have hA:=ha cpos pins s1 σ H1 _ I1 q1
 rw [hs] at hA ⊢
 refine Calls.callWith_builtin (by show (false || (backTo cpos (starEach es X.env)).any (·.1)) = false; rw [hplain] <;> rfl) (Calls.evalArgs_plain ?_)
 exact thn hA fun us s2 ⟨vs,H2,I2,r2,q2⟩=>hm pins s2 σ H2 x vs v us Q I2 r1 r2 q2
end
end L2
namespace L2
open PySem PySem.Spec PyProof.Rows
noncomputable def MtM (X:Cx) (id:String) (r:V→List V→Hp→VK→Prop):Prop :=
 ∀ (pins:List (Addr×Obj)) (s:Shared) (σ:St) (H:Hp) (x:V) (xs:List V) (v:Value) (us:List Value) (Q:VK),Inv X pins σ H s→RelV x v→Vals xs us→r x xs H Q →
  wpAny (model X.prog X.w) X.A (call (.builtin id) (v :: us)) (EP X pins σ Q) X.xe s
theorem Vals.one:∀ {x:V} {us:List Value},Vals [x] us→∃ u,us = [u]∧RelV x u
 | _,_,.cons r .nil=>⟨_,rfl,r⟩
theorem Vals.two:∀ {x y:V} {us:List Value},Vals [x,y] us→∃ u v,us = [u,v]∧RelV x u∧RelV y v
 | _,_,_,.cons r (.cons q .nil)=>⟨_,_,rfl,r,q⟩
section
variable {X:Cx} {pins:List (Addr×Obj)} {σ:St} {H:Hp} {s:Shared} {l b:Addr} {xs ys zs:List V}
theorem Inv.lset {its its':List Value} {n:Nat} {f:Array Value→Array Value} {t':Nat} (I:Inv X pins σ H s) (hH:H l = some (.lst xs))
  (e:s.heap.get? l = some { cls:=.type "list",data:=.seq its.toArray n }) (hf:f its.toArray = its'.toArray) (hv:Vals ys its') (hz:ys.length≤sizeLine) :
  Inv X pins σ (upd H l (.lst ys)) { s with heap:=s.heap.update l (Obj.mapSeq f),toks:=t' }:=by
 have q:=PySem.IsL.update e f
 rw [hf] at q
 refine I.write (x:=l) (e:=l) (by rw [hH]; exact trivial) (.inl rfl) (fun b' u hb hu=>(Heap.get?_update_other s.heap (Obj.mapSeq f) (Ne.symm hb)).trans hu) ⟨_,q⟩ ?_
 exact ⟨hz,its',_,hv,q⟩
theorem Inv.lnew {its:List Value} {t':Nat} (I:Inv X pins σ H s) (hv:Vals ys its) (hz:ys.length≤sizeLine) :
  Inv X pins σ (upd H s.heap.objs.size (.lst ys)) { s with heap:=s.heap.push { cls:=.type "list",data:=.seq its.toArray },toks:=t' } :=
 I.laid (fun _ _ q=>Heap.get?_push_of_some _ q) (Nat.le_refl _) ⟨hz,its,0,hv,Heap.get?_push_size _ rfl⟩
theorem Inv.fresh (I:Inv X pins σ H s):H s.heap.objs.size = none:=I.hok.fresh (Nat.le_refl _)
theorem Inv.lstM (I:Inv X pins σ H s) (hH:H l = some (.lst xs)):xs.length≤sizeLine∧∃ (its:List Value) (n:Nat),Vals xs its∧xs.length = its.length∧s.heap.get? l = some { cls:=.type "list",data:=.seq its.toArray n }:=by
 obtain ⟨z,its,n,r,e⟩:=I.hok l _ hH
 exact ⟨z,its,n,r,r.length,e⟩
end
section
variable {X:Cx}
inductive JK (x:V) (vs:List V) (H:Hp) (Q:VK):Prop where
 | mk (l:Addr) (xs:List V) (y:V) (h0_:x = .ref l) (h1_:vs = [y]) (h2_:H l = some (.lst xs)) (h3_:xs.length < sizeLine) (h4_:Q .non (upd H l (.lst (xs ++ [y])))):JK  x vs H Q
noncomputable def rAppend:V→List V→Hp→VK→Prop:=fun x vs H Q=>JK  x vs H Q
theorem jg:MtM X "list.append" rAppend:=by
 intro pins s σ H x vs v us Q I rx rv h
 obtain ⟨l,xs,y,rfl,rfl,hH,hz,q⟩:=h
 cases rx
 obtain ⟨u,rfl,ru⟩:=rv.one
 obtain ⟨z,its,n,r,hl,e⟩:=I.lstM hH
 refine call_meets F.slot_list_append ⟨_,e,rfl⟩ F.entry_list_append (F.args_list_append_2 _ _) (PySem.list_append l its.toArray n u (by rw [List.size_toArray]; omega)) ⟨e,?_⟩
 refine ⟨.non,_,I.lset (its':=its ++ [u]) hH e (by simp) (r.append (.cons ru .nil)) ?_,rfl,q⟩
 rw [List.length_append,List.length_singleton]
 omega
inductive zfd (x y:V) (H:Hp) (Q:VK):Prop where
 | mk (l b:Addr) (xs zs:List V) (h0_:x = .ref l) (h1_:y = .ref b) (h2_:H l = some (.lst xs)) (h3_:H b = some (.lst zs)) (h4_:xs.length + zs.length≤sizeLine) (h5_:∀ p,H p = none→Q (.ref p) (upd H p (.lst (xs ++ zs)))):zfd  x y H Q
noncomputable def rCat:R2:=fun x y H Q=>zfd  x y H Q
theorem jl:OpR X (binaryOp .Add) rCat:=by
 intro pins s σ H x y v u Q I rx ry h
 obtain ⟨l,b,xs,zs,rfl,rfl,hH,hB,hz,q⟩:=h
 cases rx
 cases ry
 obtain ⟨z,its,n,r,hl,e⟩:=I.lstM hH
 obtain ⟨z2,its2,n2,r2,hl2,e2⟩:=I.lstM hB
 refine PySem.P.add_list e e2 ?_ (by rw [List.size_toArray,List.size_toArray]; omega)
 have ea:its.toArray ++ its2.toArray = (its ++ its2).toArray:=by simp
 rw [ea]
 exact ⟨.ref _,_,I.lnew (t':=s.toks) (r.append r2) (by rw [List.length_append]; omega),rfl,q _ I.fresh⟩
end
end L2
namespace Att
open PySem PySem.W PySem.Calls PyProof.Rows
theorem Zw {P:Params} {h:Heap}:∀ (ns:List Int) (vs:List Value),WellAll P h vs (ns.map WData.int)→IntsAre vs ns:=by
 intro ns
 induction ns with
 | nil =>
  intro vs w
  rw [List.map_nil] at w
  cases w
  exact .nil
 | cons n ns ih =>
  intro vs w
  rw [List.map_cons] at w
  cases w with
  | cons a b =>
   cases a
   exact .cons _ _ (ih _ b)
theorem zcH {l:OpenLaw} {n:Nat} (hn:l.most = some n) {P:Params} {h:Heap} {args:List WData} {vals:List Value}
  (hpre:l.row.toRowW.claim.pre args = true) (hwl:WellAll P h vals args) :
  ∃ a vs ns,vals = [Value.ref a]∧args = [WData.list (ns.map WData.int)]∧h.get? a = some { cls:=.type "list",data:=.seq vs.toArray }∧IntsAre vs ns∧ns.length≤n:=by
 have hsh:WShape.hasAll [] args [.list .int] = true:=(pre_splitW hpre).1
 have hc:l.pre.holds [] { args:=args } = true:=(pre_splitW hpre).2
 obtain ⟨d,r,rfl,h1,h2⟩:=hasAllW_cons hsh
 obtain rfl:=hasAllW_nil h2
 obtain ⟨xs,rfl,h3⟩:=hasW_list h1
 obtain ⟨ns,rfl⟩:=items_int h3
 have hlen:ns.length≤n:=by
  unfold OpenLaw.pre at hc
  have h4:(WTm.not (.lt (.lit (.int (n:Int))) (.len (.arg 0)))).holds [] { args:=[.list (ns.map .int)] } = true:=by
   have h4:=(holds_andW hc).1
   rw [hn] at h4
   exact h4
  have h5:=condW_of h4 (w_not (w_lt w_lit (w_len_list (w_arg rfl))))
  rw [List.length_map] at h5
  refine Nat.le_of_not_lt fun q=>?_
  have q':(n:Int) < ((ns.length:Nat):Int):=by omega
  first
   | (rw [decide_eq_true q'] at h5; exact absurd h5 (by decide))
   | (simp at h5; omega)
 cases hwl with
 | cons w1 w2 =>
  cases w2
  cases w1 with
  | list ho hall=>exact ⟨_,_,ns,rfl,rfl,ho,Zw ns _ hall,hlen⟩
theorem zdc (l:OpenLaw) (args:List WData):l.row.toRowW.claim.post args (.bool true) args = true :=
 postW_of (r:=l.row.toRowW) (X:=(true == true))
  (show WShape.has [] (.bool true) .bool = true by first | rfl | decide | simp [WShape.has,WShape.arms,WShape.armsAll])
  (show (WTm.eq .res (.lit (.bool true))).value [] { args:=args,res:=some (.bool true),after:=args } = some (.bool (true == true)) from w_eq_bool (w_res rfl) w_lit) rfl
theorem QE {l:OpenLaw} {n:Nat} {q:Program} {loose:List Str} {XP:(Str→Option Value)→Heap→Prop} {YP:World→Heap→Prop} {d:DefRec}
  (hn:l.most = some n) (hdf:d.params.defaults = [])
  (call:∀ (w:World) (s₀ s₁:Shared) (mg mb:Str→Option Value) (fa:Addr) (o:Obj) (pm cd doc:Value) (a:Addr) (vs:List Value) (ns:List Int),
   Ground q loose [] XP w s₀ mg mb s₁.heap→YP w s₁.heap →
   s₁.heap.get? fa = some o→o.data = .func (docDef d.name d.params d.body d.scope pm cd doc)→s₁.heap.CodeRec cd d.name→mg d.name = some (.ref fa) →
   s₁.heap.get? a = some { cls:=.type "list",data:=.seq vs.toArray }→IntsAre vs ns→ns.length≤n→s₁.gens = #[] →
   codeAny (model l.prog w) callerA (.call (.ref fa) ⟨[.ref a],[]⟩) (fun r s'=>r = .ok (.ret (.bool true))∧OldK s₁.heap s'.heap∧s'.os = s₁.os∧AllBare s'.gens) s₁) :
  WalkO q loose XP YP l.row.toRowW d [] (fun f vs=>PySem.call f vs):=by
 intro w s₀ s₁ mg mb G Y fa o pm cd doc dV kV ho hd hcd hD hmg hg args vals as hpre hlay hrd hwl hlo
 obtain rfl:dV = .none:=Dflts.none hD hdf
 obtain rfl:kV = .none:=Dflts.noKw hD
 obtain ⟨a,vs,ns,rfl,rfl,hobj,hints,hlen⟩:=zcH hn hpre hwl
 refine enter_call (codeAny_mono (call w s₀ s₁ mg mb fa o pm cd doc a vs ns G Y ho (fd_plain hd) hcd hmg hobj hints hlen hg) fun r s' hq=>?_)
 obtain ⟨rfl,h2,h3,h4⟩:=hq
 exact ⟨.inl ⟨.bool true,.bool true,[],rfl,fun _=>rfl,.bool true,zdc l _,fun _=>⟨List.Pairwise.nil,fun _ hm=>(nomatch hm)⟩⟩,h2,h3,h4⟩
end Att
namespace L2
open PySem PySem.Spec PyProof.Rows
theorem Jx:∀ {vs:List Value} {ns:List Int},IntsAre vs ns→Vals (ns.map V.int) vs
 | _,_,.nil=>.nil
 | _,_,.cons n t h=>.cons ⟨t,rfl⟩ (Jx h)
noncomputable def Only (H:Hp):Prop:=∀ b,H b = none∨∃ o xs,H b = some (.frz o (.lst xs))
theorem zeb {P:Program} {w:World} {K:PySem.W.Frag} {mg mb:Str→Option Value} {CX:CXT} {k:Nat} {fa a:Addr} {fd:FuncData} {x:Str} {sp:Sp} {s₁:Shared} {vs:List Value} {ns:List Int}
  (KX:K.In s₁.heap) (hns:s₁.heap.Ns mainGlobals mg) (hb:s₁.heap.Ns builtinsNs mb) (hbb:∀ x:Str,x ≠ "__name__" → mb x = bootBuiltins x) (hlim:s₁.heap.NoLimit) (hSe:s₁.heap.NoSeer) (hg:s₁.gens = #[])
  (ha:s₁.heap.get? a = some { cls:=.type "list",data:=.seq vs.toArray }) (hi:IntsAre vs ns) (hl:ns.length≤sizeLine) (hr:Room k callerA)
  (F:∀ base:Heap,K.In base→base.Ns mainGlobals mg→base.NoSeer→FnOk P w K mg base CX k fa fd [x] sp) (hbind:∀ (s:Shared) (u:Value),BindsTo s fd ⟨[u],[]⟩ [(x,u)])
  (hsp:∀ H:Hp,Only H→SqL K H a (ns.map V.int)→sp [.ref a] H (fun v _=>v = .bl true) fun _ _ _=>False)
  (hCX:∀ H e s',CX [] H s₁ (fun _ _ _=>False) e s'→False) :
  codeAny (model P w) callerA (.call (.ref fa) ⟨[.ref a],[]⟩) (fun r s'=>r = .ok (.ret (.bool true))∧OldK s₁.heap s'.heap∧s'.os = s₁.os∧AllBare s'.gens) s₁:=by
 have rv:=Jx hi
 have lenV:=hi.length
 have core:∀ H:Hp,Only H→SqL K H a (ns.map V.int)→HOk P w H s₁.heap→(∀ b,H b≠none→b = a)→(H a≠none→K.lookup a = none) →
   codeAny (model P w) callerA (.call (.ref fa) ⟨[.ref a],[]⟩) (fun r s'=>r = .ok (.ret (.bool true))∧OldK s₁.heap s'.heap∧s'.os = s₁.os∧AllBare s'.gens) s₁:=by
  intro H hO hS hok hA hK
  have base_of:∀ {b:Addr} {o:Obj},s₁.heap.get? b = some o→H b = none→(hidT s₁.heap H).get? b = some o:=fun e n=>zeu e n
  have noA:∀ {b:Addr} {o:Obj} {es:Array DictEntry} {ep:Nat},s₁.heap.get? b = some o→o.data = .dict es ep→H b = none:=fun {b o es ep} e d=>by
   cases q:H b with
   | none=>rfl
   | some u =>
    have e':b = a:=hA b (by rw [q]; simp)
    subst e'
    rw [ha] at e; cases e
    have d':Data.seq vs.toArray _ = Data.dict es ep:=d
    cases d'
  have nsK:∀ {b:Addr} {m:Str→Option Value},s₁.heap.Ns b m→(hidT s₁.heap H).Ns b m:=fun {b m} ⟨o,es,ep,e,d,r⟩=>⟨o,es,ep,base_of e (noA e d),d,r⟩
  have hKb:K.In (hidT s₁.heap H):=fun b o e=>base_of (KX b o e) (by
   cases q:H b with
   | none=>rfl
   | some u =>
    have e':b = a:=hA b (by rw [q]; simp)
    subst e'
    rw [hK (by rw [q]; simp)] at e; cases e)
  have hM:Mod K mg (hidT s₁.heap H):=⟨hKb,nsK hns,⟨mb,nsK hb,hbb⟩,let ⟨mc,h1,h2⟩:=hlim; ⟨mc,nsK h1,h2⟩⟩
  have e0:Env0 P w K mg (hidT s₁.heap H) callerA [] s₁ H:=⟨rfl,hM,fun b o e=>zfR e,Nat.le_of_eq (zbN _ _),trivial,fun b hb=>absurd (show b∈([]:List Addr) from hb) (by simp),hok,.of_eq hg⟩
  have hSb:(hidT s₁.heap H).NoSeer:=⟨(let ⟨mc,h1,h2⟩:=hSe.statics; ⟨mc,nsK h1,h2⟩),(let ⟨mc,h1,h2⟩:=hSe.mods; ⟨mc,nsK h1,h2⟩),(let ⟨mc,h1,h2⟩:=hSe.imp; ⟨mc,nsK h1,h2⟩),by
   obtain ⟨m',bm,ob,h1,h2,h3,h4,h5⟩:=hSe.main
   refine ⟨m',bm,ob,nsK h1,h2,base_of h3 ?_,h4,h5⟩
   cases q:H bm with
   | none=>rfl
   | some u =>
    have e':bm = a:=hA bm (by rw [q]; simp)
    subst e'
    rw [ha] at h3; cases h3
    exact absurd h4 (by simp)⟩
  refine codeAny_mono ((F _ hKb (nsK hns) hSb).run callerA [] s₁ H ⟨[.ref a],[]⟩ [.ref a] [.ref a] _ _ hr e0 (hbind s₁ (.ref a)) (.cons rfl .nil) (hsp H hO hS)) fun r s' h=>?_
  cases r with
  | error e=>exact (hCX H e s' h).elim
  | ok fl =>
   cases fl with
   | next=>exact False.elim h
   | brk=>exact False.elim h
   | cont=>exact False.elim h
   | ret u =>
    obtain ⟨v,H',os,bare,un,hok',r',q⟩:=h
    have q':v = .bl true:=q
    subst q'
    obtain rfl:u = Value.bool true:=r'
    refine ⟨rfl,OldK.of_keep fun b o e=>?_,os,bare⟩
    cases q:H b with
    | none=>exact un.keep b o e q (by intro z; exact absurd (show b∈([]:List Addr) from z) (by simp)) (by simp)
    | some u =>
     rcases hO b with z | ⟨ob,xs,z⟩
     ·rw [q] at z; cases z
     ·have z2:=un.frzs b ob _ z
      obtain ⟨e1,_⟩:=hok b _ z
      obtain ⟨e2,_⟩:=hok' b _ z2
      rw [e] at e1; cases e1
      exact e2
 cases hk:K.lookup a with
 | some o =>
  have e:=KX a o hk
  rw [ha] at e
  cases e
  refine core (fun _=>none) (fun _=>.inl rfl) (.inr ⟨_,vs.toArray,_,hk,rfl,rfl,rfl,by rw [List.size_toArray,lenV]; exact hl,by simpa using rv⟩) (fun b u z=>by have z':(none:Option HO) = some u:=z; cases z') (fun b z=>absurd rfl z) fun z=>absurd rfl z
 | none =>
  refine core (fun b=>if b = a then some (.frz { cls:=.type "list",data:=.seq vs.toArray } (.lst (ns.map V.int))) else none) (fun b=>?_) (.inl (.inr ⟨{ cls:=.type "list",data:=.seq vs.toArray },if_pos rfl⟩)) (fun b u z=>?_) (fun b z=>?_) fun _=>hk
  ·by_cases hb:b = a
   ·exact .inr ⟨_,_,if_pos hb⟩
   ·exact .inl (if_neg hb)
  ·by_cases hb:b = a
   ·have z':=(if_pos hb).symm.trans z
    cases z'
    subst hb
    exact ⟨ha,by rw [List.length_map]; exact hl,vs,_,rv,ha⟩
   ·have z':=(if_neg hb).symm.trans z
    cases z'
  ·by_cases hb:b = a
   ·exact hb
   ·exact absurd (if_neg hb) z
end L2
namespace L2
open PySem PySem.Spec PyProof.Rows
end L2
namespace L2
open PySem PySem.Spec PyProof.Rows
noncomputable abbrev CX0:CXT:=fun _ _ _ _ _ _=>False
noncomputable abbrev E0:XK:=fun _ _ _=>False
theorem pass0 {X:Cx}:Passes CX0 X E0:=fun _ _ _ _ _ _ _ h=>h.elim
structure Fun (K:PySem.W.Frag) (x qual:Str) (st:Stmt) (f:Addr) (fd:FuncData):Prop where
 ex:∃ (oc:Value) (od:Option Addr) (kV doc pm:Value) (an:Option Addr) (cdv ct:Value) (osl:Array (Option Value)),
  fd = PySem.W.fnOf x qual (defArgs st) (defBody st) (defScope st) .none kV doc pm an cdv ct∧K.lookup f = some ⟨oc,od,.func fd,osl⟩∧PySem.W.codeIn K cdv qual = true
 kp:PySem.W.keepIn K (.ref f) = true
section
variable {P:Program} {w:World} {K:PySem.W.Frag} {mg:Str→Option Value} {base:Heap}
theorem Fun.ok {x qual:Str} {st:Stmt} {f:Addr} {fd:FuncData} {N ps:List Str} {k:Nat} {sp:Sp} (F:Fun K x qual st f fd) (S:FnScope N ps (defScope st)) (len:∀ vs H Q E,sp vs H Q E→vs.length = ps.length)
  (hbody:∀ (cdv:Value) (A:Around) (outer:List Env) (s:Shared) (H:Hp) (vs:List V) (Q:VK) (E:XK),Room k (A.deeper (envOfC qual (defScope st) s.heap.objs.size f cdv))→sp vs H Q E →
   ∃ t,PSs (cxOf CX0 P w K mg base N qual (defScope st) f cdv A outer s H E).nox (defBody st) t∧t { nx:=fun _ H'=>Q .non H',rt:=Q } (start N vs) H):FnOk P w K mg base CX0 (k + 1) f fd ps sp:=by
 obtain ⟨oc,od,kV,doc,pm,an,cdv,ct,osl,rfl,lk,hcd⟩:=F.ex
 refine zdX lk hcd S len fun A outer s H vs Q E hr hsp=>?_
 obtain ⟨t,h,q⟩:=hbody cdv A outer s H vs Q E hr hsp
 exact ⟨t,h.nox,q⟩
theorem Fun.binds {x qual:Str} {st:Stmt} {f:Addr} {fd:FuncData} {ps:List Str} (F:Fun K x qual st f fd)
  (h:∀ (kV doc pm:Value) (an:Option Addr) (cdv ct:Value) (us:List Value),us.length = ps.length→bindArgs (PySem.W.fnOf x qual (defArgs st) (defBody st) (defScope st) .none kV doc pm an cdv ct) ⟨us,[]⟩ = pure (ps.zip us)):Binds K fd ps []:=by
 obtain ⟨oc,od,kV,doc,pm,an,cdv,ct,osl,rfl,lk,hcd⟩:=F.ex
 exact .all (h kV doc pm an cdv ct)
theorem QS {x qual:Str} {st:Stmt} {f:Addr} {oc:Value} {od an:Option Addr} {osl:Array (Option Value)} {kV doc pm cdv ct:Value} (l:K.lookup f = some ⟨oc,od,.func (PySem.W.fnOf x qual (defArgs st) (defBody st) (defScope st) .none kV doc pm an cdv ct),osl⟩)
  (c:PySem.W.codeIn K cdv qual = true) (k:PySem.W.keepIn K (.ref f) = true):Fun K x qual st f (PySem.W.fnOf x qual (defArgs st) (defBody st) (defScope st) .none kV doc pm an cdv ct):=⟨⟨oc,od,kV,doc,pm,an,cdv,ct,osl,rfl,l,c⟩,k⟩
end
section
variable {X:Cx}
theorem pv (i:Nat) {x:Str} {pos:Pos} (hN:X.N[i]? = some x:=by rfl) (hv:Vis X.env.scope x:=by first | exact Or.inl rfl | exact Or.inr (Or.inl rfl) | exact Or.inr (Or.inr rfl)) (hd:(x == ("__debug__" : Str)) = false:=by decide)
  (hcd:(x == ("__classdict__" : Str)) = false:=by decide):PE X (.Name x pos) (tVar i):=zhh hN hv hd hcd
end
theorem iteF {A B:Prop} (h:B):if false = true then A else B:=by
 rw [if_neg Bool.false_ne_true]
 exact h
theorem iteT {A B:Prop} (h:A):if true = true then A else B:=by
 rw [if_pos rfl]
 exact h
theorem ite2 {c A B:Prop} [Decidable c] (h1:c→A) (h2:¬ c→B):if c then A else B:=by
 by_cases h:c
 ·rw [if_pos h]
  exact h1 h
 ·rw [if_neg h]
  exact h2 h
noncomputable def Same (H H':Hp):Prop:=∀ b o,H b = some o→H' b = some o
theorem Same.refl (H:Hp):Same H H:=fun _ _ h=>h
theorem Same.trans {H H1 H2:Hp} (a:Same H H1) (b:Same H1 H2):Same H H2:=fun c o h=>b c o (a c o h)
end L2
namespace Nm
noncomputable def primeB (n:Nat):Bool:=decide (1 < n) && (List.range n).all fun d=>decide (d < 2) || decide (n % d≠0)
structure PrS (k:Int):Prop where
 lo:1 < k
 hi:k < 99
 pr:primeB k.toNat = true
structure Pr (k:Int):Prop where
 lo:1 < k
 hi:k < 2305843009213693952
 cp:∀ r:Int,0 < r→r < k→Int.gcd k r = 1
noncomputable def KindOk (k:Int):Prop:=k = 0∨Pr k
noncomputable def KindS (k:Int):Prop:=k = 0∨PrS k
theorem KindOk.lt {k:Int} (h:KindOk k):0≤k∧k < 2305843009213693952:=by
 rcases h with h | h
 ·omega
 ·have:=h.lo; have:=h.hi; omega
theorem Xn:∀ k < 99,primeB k = true→∀ r < k,0 < r→Nat.gcd k r = 1:=by decide +kernel
theorem PrS.big {k:Int} (h:PrS k):Pr k:=by
 refine ⟨h.lo,by have:=h.hi; omega,fun r h0 h1=>?_⟩
 have:=Xn k.toNat (by have:=h.hi; omega) h.pr r.toNat (by omega) (by omega)
 have e1:k.natAbs = k.toNat:=by omega
 have e2:r.natAbs = r.toNat:=by omega
 rw [Int.gcd_eq_natAbs_gcd_natAbs,e1,e2]; exact this
theorem KindS.ok {k:Int} (h:KindS k):KindOk k:=h.imp id PrS.big
theorem Pr.cop {k r:Int} (h:Pr k) (h0:0 < r) (h1:r < k):Int.gcd k r = 1:=h.cp r h0 h1
theorem ZW:∀ n < 99,∀ b < 11,n < b * b→((List.range b).all fun d=>decide (d < 2) || decide (n % d≠0)) = true→decide (1 < n) = primeB n:=by decide +kernel
theorem YH (n:Nat) (hn:n < 99) (b:Nat) (hb:b < 11) (h:n < b * b) (no:∀ d < b,2≤d→n % d≠0):decide (1 < n) = primeB n:=by
 refine ZW n hn b hb h ?_
 rw [List.all_eq_true]
 intro d hd
 rw [List.mem_range] at hd
 by_cases z:d < 2
 ·simp [z]
 ·have:=no d hd (by omega)
  simp [this]
theorem ZV:∀ n < 99,∀ b < 11,2≤b→b * b≤n→n % b = 0→primeB n = false:=by decide +kernel
structure PrInv (n b:Int):Prop where
 lo:2≤b
 hi:b≤10
 no:∀ d:Nat,d < b.toNat→2≤d→n.toNat % d≠0
theorem zeg (n:Int):PrInv n 2:=⟨by omega,by omega,fun d h1 h2=>by omega⟩
theorem JH {n b:Int} (hn:0≤n) (hb:0≤b):(n % b).toNat = n.toNat % b.toNat:=by
 obtain ⟨m,rfl⟩:=Int.eq_ofNat_of_zero_le hn
 obtain ⟨c,rfl⟩:=Int.eq_ofNat_of_zero_le hb
 rw [← Int.natCast_emod,Int.toNat_natCast,Int.toNat_natCast,Int.toNat_natCast]
theorem zac {b:Int} (hb:0≤b):(b * b).toNat = b.toNat * b.toNat:=by
 obtain ⟨m,rfl⟩:=Int.eq_ofNat_of_zero_le hb
 rw [← Int.natCast_mul,Int.toNat_natCast,Int.toNat_natCast]
theorem zf9 {a b:Int} (ha:0≤a) (h:a≤b):a * a≤b * b:=Int.mul_le_mul h h ha (by omega)
theorem zfJ {n b:Int} (h:PrInv n b) (hn:0≤n) (h99:n < 99) (hs:b * b≤n) (hm:n % b≠0):PrInv n (b + 1):=by
 have h1:=h.lo
 have h2:=h.hi
 have hb:b≤9:=by
  rcases Int.lt_or_le 9 b with h' | h'
  ·have:=zf9 (by omega) (show (10:Int)≤b by omega); omega
  ·exact h'
 refine ⟨by omega,by omega,fun d hd h2=>?_⟩
 by_cases e:d = b.toNat
 ·subst e
  intro z
  have:=JH hn (show 0≤b by omega)
  rw [z] at this
  have:=Int.emod_nonneg n (show b≠0 by omega)
  omega
 ·exact h.no d (by omega) h2
theorem zfl {n b:Int} (h:PrInv n b) (hn:0≤n) (h99:n < 99) (hs:b * b≤n) (hm:n % b = 0):primeB n.toNat = false:=by
 have h1:=h.lo
 have h2:=h.hi
 refine ZV n.toNat (by omega) b.toNat (by omega) (by omega) ?_ ?_
 ·rw [← zac (by omega)]; omega
 ·rw [← JH hn (by omega),hm]; rfl
theorem zhD {n b:Int} (h:PrInv n b) (hn:0≤n) (h99:n < 99) (hs:n < b * b):decide (1 < n) = primeB n.toNat:=by
 have h1:=h.lo
 have h2:=h.hi
 rw [← YH n.toNat (by omega) b.toNat (by omega) (by rw [← zac (by omega)]; omega) h.no]
 by_cases z:1 < n
 ·rw [decide_eq_true z,decide_eq_true (by omega)]
 ·rw [decide_eq_false z,decide_eq_false (by omega)]
theorem zdI (a b:Int):Int.gcd b (a.fmod b) = Int.gcd a b:=by
 rw [Int.fmod_def,Int.gcd_sub_mul_left_right,Int.gcd_comm]
end Nm
namespace Nm
structure OvInv (p r l g ml mg:Int):Prop where
 l0:0≤l
 l1:l < 2305843009213693952
 g0:0≤g
 g1:g < 2305843009213693952
 cop:Int.gcd l g = 1
 left:p ∣ l - ml * r
 right:p ∣ g - mg * r
theorem zat {p r:Int} (h:Pr p) (h0:0 < r) (h1:r < p):OvInv p r p r 0 1:=by
 have:=h.lo; have:=h.hi
 refine ⟨by omega,by omega,by omega,by omega,h.cop h0 h1,?_,?_⟩
 ·rw [Int.zero_mul,Int.sub_zero]; exact Int.dvd_refl p
 ·rw [Int.one_mul,Int.sub_self]; exact Int.dvd_zero p
theorem zbO {p r l g ml mg:Int} (h:OvInv p r l g ml mg) (hg:g≠0):OvInv p r g (l - l / g * g) mg (ml - l / g * mg):=by
 have g0:=h.g0
 have g1:=h.g1
 have e:l - l / g * g = l % g:=by
  have:=Int.emod_add_mul_ediv l g
  rw [Int.mul_comm (l / g) g]; omega
 have m0:=Int.emod_nonneg l hg
 have m1:=Int.emod_lt_of_pos l (show 0 < g by omega)
 refine ⟨g0,g1,by omega,by omega,?_,h.right,?_⟩
 ·rw [Int.gcd_sub_mul_right_right,Int.gcd_comm]; exact h.cop
 ·have e2:l - l / g * g - (ml - l / g * mg) * r = (l - ml * r) - l / g * (g - mg * r):=by grind
  rw [e2]
  exact Int.dvd_sub h.left (Int.dvd_mul_of_dvd_right h.right)
theorem zbS {l g:Int} (g0:0≤g) (hg:g≠0):(l - l / g * g).toNat < g.toNat:=by
 have e:l - l / g * g = l % g:=by
  have:=Int.emod_add_mul_ediv l g
  rw [Int.mul_comm (l / g) g]; omega
 have m0:=Int.emod_nonneg l hg
 have m1:=Int.emod_lt_of_pos l (show 0 < g by omega)
 omega
theorem zeY {p r l ml mg:Int} (h:OvInv p r l 0 ml mg) (hp:0 < p):p ∣ ml % p * r - 1:=by
 have c:=h.cop
 rw [Int.gcd_zero] at c
 have e:l = 1:=by have:=h.l0; omega
 have d:=h.left
 rw [e] at d
 have e1:ml % p * r - 1 = -(1 - ml * r) - p * (ml / p) * r:=by
  have:=Int.emod_add_mul_ediv ml p
  grind
 rw [e1]
 exact Int.dvd_sub (Int.dvd_neg.mpr d) (Int.dvd_mul_of_dvd_left (Int.dvd_mul_right p _))
noncomputable def sg (t b:Int):Int:=if b < 0 then -((Int.gcd t b:Nat):Int) else ((Int.gcd t b:Nat):Int)
theorem zhz {t b:Int} (hb:b≠0):sg t b≠0:=by
 have:=Int.gcd_pos_of_ne_zero_right t hb
 unfold sg; split <;> omega
theorem zhp (t b:Int):(sg t b).natAbs = Int.gcd t b:=by
 unfold sg; split <;> omega
theorem Xe (t b:Int):sg t b ∣ t:=by
 unfold sg; split
 ·exact Int.neg_dvd.mpr (Int.gcd_dvd_left t b)
 ·exact Int.gcd_dvd_left t b
theorem YR (t b:Int):sg t b ∣ b:=by
 unfold sg; split
 ·exact Int.neg_dvd.mpr (Int.gcd_dvd_right t b)
 ·exact Int.gcd_dvd_right t b
theorem zch {q:Rat} {t b:Int} (hb:b≠0) (h:q.num * b = t * q.den):Rat.divInt t b = q:=by
 rw [← Rat.num_divInt_den q]
 have hd:(q.den:Int)≠0:=by have:=q.den_nz; omega
 rw [Rat.divInt_eq_divInt_iff hb hd]
 omega
theorem zer {t b:Int} (hb:b≠0):t.fdiv (sg t b) = (Rat.divInt t b).num∧b.fdiv (sg t b) = ((Rat.divInt t b).den:Nat):=by
 have hs:=zhz (t:=t) hb
 rw [Int.fdiv_eq_ediv_of_dvd (Xe t b),Int.fdiv_eq_ediv_of_dvd (YR t b)]
 have et:=Int.ediv_mul_cancel (Xe t b)
 have eb:=Int.ediv_mul_cancel (YR t b)
 have hpos:0 < b / sg t b:=by
  have hne:b / sg t b≠0:=fun z=>by rw [z,Int.zero_mul] at eb; exact hb eb.symm
  have hg:=Int.gcd_pos_of_ne_zero_right t hb
  rcases Int.lt_or_le b 0 with h | h
  ·have e:sg t b = -((Int.gcd t b:Nat):Int):=by unfold sg; rw [if_pos h]
   have:0≤b / sg t b:=Int.ediv_nonneg_of_nonpos_of_nonpos (by omega) (by omega)
   omega
  ·have e:sg t b = ((Int.gcd t b:Nat):Int):=by unfold sg; rw [if_neg (by omega)]
   have:0≤b / sg t b:=Int.ediv_nonneg (by omega) (by omega)
   omega
 have hcop:Int.gcd (t / sg t b) (b / sg t b) = 1:=by
  rw [Int.gcd_ediv (Xe t b) (YR t b),zhp]
  exact Nat.div_self (Int.gcd_pos_of_ne_zero_right t hb)
 let q:Rat:=⟨t / sg t b,(b / sg t b).toNat,by omega,by
  show Nat.gcd (t / sg t b).natAbs (b / sg t b).toNat = 1
  have:(b / sg t b).toNat = (b / sg t b).natAbs:=by omega
  rw [this]; exact hcop⟩
 have hq:Rat.divInt t b = q:=zch hb (by
  show t / sg t b * b = t * (((b / sg t b).toNat:Nat):Int)
  have e:(((b / sg t b).toNat:Nat):Int) = b / sg t b:=by omega
  rw [e]
  have:t / sg t b * b = t / sg t b * (b / sg t b * sg t b):=by rw [eb]
  have:t * (b / sg t b) = t / sg t b * sg t b * (b / sg t b):=by rw [et]
  grind)
 rw [hq]
 refine ⟨rfl,?_⟩
 show b / sg t b = (((b / sg t b).toNat:Nat):Int)
 omega
theorem zfN (x y:Rat):Rat.divInt (x.num * y.den) (x.den * y.num) = x / y:=by
 rw [Rat.div_def,Rat.inv_def,← Rat.num_divInt_den x,Rat.divInt_mul_divInt]
 simp [Rat.num_divInt_den]
end Nm
namespace L2
open PySem PySem.Spec PyProof.Rows
theorem yy:bootBuiltins "len" = some (.builtin "len"):=by decide +kernel
theorem zcg:bootBuiltins "abs" = some (.builtin "abs"):=by decide +kernel
theorem zY:bootBuiltins "isinstance" = some (.builtin "isinstance"):=by decide +kernel
theorem zeE:bootBuiltins "sum" = some (.builtin "sum"):=by decide +kernel
theorem zgU:bootBuiltins "int" = some (.type "int"):=by decide +kernel
theorem zf2:bootBuiltins "list" = some (.type "list"):=by decide +kernel
theorem zd1:bootBuiltins "tuple" = some (.type "tuple"):=by decide +kernel
theorem zgp:bootBuiltins "zip" = some (.type "zip"):=by decide +kernel
theorem XJ:bootBuiltins "enumerate" = some (.type "enumerate"):=by decide +kernel
noncomputable def Sm (n:Nat) (x:Int):Prop:=x.natAbs < 2 ^ n
theorem Sm.bits {n:Nat} {x:Int} (h:Sm n x):Builtin.Int.intBits x≤n:=by
 unfold Builtin.Int.intBits
 split
 ·exact Nat.zero_le _
 ·rename_i h0
  have h0':x.natAbs≠0:=by
   intro z
   have e:x = 0:=by omega
   rw [e] at h0
   exact h0 rfl
  have:=(Nat.log2_lt h0').mpr h
  omega
theorem Sm.mulOk {m n:Nat} {a b:Int} (ha:Sm m a) (hb:Sm n b) (h:m + n≤134217728):IntMulOk a b:=IntMulOk.of_le ha.bits hb.bits h
theorem Sm.mono {m n:Nat} {x:Int} (h:Sm m x) (hmn:m≤n):Sm n x:=Nat.lt_of_lt_of_le h (Nat.pow_le_pow_right (by decide) hmn)
theorem Sm.mul {m n:Nat} {a b:Int} (ha:Sm m a) (hb:Sm n b):Sm (m + n) (a * b):=by
 unfold Sm
 rw [Int.natAbs_mul,Nat.pow_add]
 exact Nat.mul_lt_mul'' ha hb
theorem Sm.add {n:Nat} {a b:Int} (ha:Sm n a) (hb:Sm n b):Sm (n + 1) (a + b):=by
 unfold Sm at *
 rw [Nat.pow_succ]
 have:=Int.natAbs_add_le a b
 omega
theorem Sm.le {n:Nat} {a b:Int} (ha:Sm n a) (h:b.natAbs≤a.natAbs):Sm n b:=Nat.lt_of_le_of_lt h ha
section
variable {X:Cx} {a b c:Expr} {ta tb tc:TE} {pos:Pos}
theorem ye:OpR X (binaryOp .Mult) (rI IntMulOk fun i j=>.int (i * j)):=opI fun _ _ _ _ _ _ _ hc q=>mul_int q hc
noncomputable def rIsi (K:PySem.W.Frag):List V→Hp→VK→Prop:=fun xs H Q=>∃ x n t b,xs = [x,.ty n]∧TyOf K H x t∧PySem.W.kitOne K t (.type n) = some b∧Q (.bl b) H
theorem zd2:CallR X (.builtin "isinstance") (rIsi X.K):=by
 intro pins s σ H xs us Q I r h
 obtain ⟨x,n,t,b,rfl,ty,e,q⟩:=h
 obtain ⟨u,w',rfl,r1,r2⟩:=Vals.two r
 cases r2
 exact zdj I r1 ty e fun tk=>⟨.bl b,H,I.tok tk,rfl,q⟩
theorem zf6 {x:Str} {n:String} (hg:Gl X x) (hm:X.mg x = none) (hv:bootBuiltins x = some (.type n)) (hn:x ≠ "__name__" := by decide) (hd:(x == ("__debug__" : Str)) = false:=by decide):PE X (.Name x pos) (tC (.ty n)) :=
 zgc hg hm hv rfl hn hd
end
structure Kn (P:Program) (w:World) (K:PySem.W.Frag) (mg:Str→Option Value) (base:Heap) (x:Str) (k:Nat) (ps:List Str) (sp:Sp):Prop where
 ex:∃ (f:Addr) (fd:FuncData),FnOk P w K mg base CX0 k f fd ps sp∧mg x = some (.ref f)∧PySem.W.keepIn K (.ref f) = true∧Binds K fd ps []
theorem zhX {X:Cx} {x:Str} {k:Nat} {ps:List Str} {sp:Sp} {p pos:Pos} {e:Expr} {es:List Expr} {t:TA} (D:Kn X.prog X.w X.K X.mg X.base x k ps sp) (hr:Room k X.A) (hg:Gl X x) (ha:PA X (e :: es) t)
  (hdb:(x == ("__debug__" : Str)) = false:=by decide) (he:starEach (e :: es) X.env = (false,eval e X.env) :: starEach es X.env:=by rfl) (hpl:(backTo pos (starEach es X.env)).any (·.1) = false:=by rfl) :
  PE X (.Call (.Name x p) (e :: es) [] pos) (tCall sp [] E0 t):=by
 obtain ⟨f,fd,F,hm,hk,hb⟩:=D.ex
 exact zc6 F hr hg hm hk hb .nil pass0 ha hdb he hpl
structure Df (K:PySem.W.Frag) (mg:Str→Option Value) (x:Str) (ps:List Str) (st:Stmt):Prop where
 ex:∃ (f:Addr) (fd:FuncData),Fun K x x st f fd∧mg x = some (.ref f)∧Binds K fd ps []
section
variable {P:Program} {w:World} {K:PySem.W.Frag} {mg:Str→Option Value} {base:Heap}
theorem Df.kn {x:Str} {st:Stmt} {N ps:List Str} {k:Nat} {sp:Sp} (D:Df K mg x ps st) (S:FnScope N ps (defScope st)) (len:∀ vs H Q E,sp vs H Q E→vs.length = ps.length)
  (hbody:∀ (f:Addr) (cdv:Value) (A:Around) (outer:List Env) (s:Shared) (H:Hp) (vs:List V) (Q:VK) (E:XK),Room k (A.deeper (envOfC x (defScope st) s.heap.objs.size f cdv))→sp vs H Q E →
   ∃ t,PSs (cxOf CX0 P w K mg base N x (defScope st) f cdv A outer s H E).nox (defBody st) t∧t { nx:=fun _ H'=>Q .non H',rt:=Q } (start N vs) H):Kn P w K mg base x (k + 1) ps sp:=by
 obtain ⟨f,fd,F,hm,hb⟩:=D.ex
 exact ⟨f,fd,F.ok S len (fun cdv A outer s H vs Q E hr h=>hbody f cdv A outer s H vs Q E hr h),hm,F.kp,hb⟩
theorem zhS {x:Str} {ps:List Str} {st:Stmt} {h:Heap} {f:Addr} {oc:Value} {od an:Option Addr} {osl:Array (Option Value)} {kV doc pm cdv ct:Value} (X:K.In h) (G:h.Ns mainGlobals mg)
  (a:PySem.W.nsIn K mainGlobals x = some (some (.ref f)))
  (l:K.lookup f = some ⟨oc,od,.func (PySem.W.fnOf x x (defArgs st) (defBody st) (defScope st) .none kV doc pm an cdv ct),osl⟩)
  (c:PySem.W.codeIn K cdv x = true) (k:PySem.W.keepIn K (.ref f) = true)
  (hb:∀ (kV doc pm:Value) (an:Option Addr) (cdv ct:Value) (us:List Value),us.length = ps.length→bindArgs (PySem.W.fnOf x x (defArgs st) (defBody st) (defScope st) .none kV doc pm an cdv ct) ⟨us,[]⟩ = pure (ps.zip us)):Df K mg x ps st:=by
 have F:=QS (st:=st) l c k
 exact ⟨f,_,F,PySem.W.mg_of X G a,F.binds hb⟩
end
theorem bind1 {fd:FuncData} {ps:List Str} (h:∀ a0,bindArgs fd ⟨[a0],[]⟩ = pure (ps.zip [a0])) (us:List Value) (e:us.length = 1):bindArgs fd ⟨us,[]⟩ = pure (ps.zip us):=by
 match us,e with | [a0],_=>exact h a0
theorem bind2 {fd:FuncData} {ps:List Str} (h:∀ a0 a1,bindArgs fd ⟨[a0,a1],[]⟩ = pure (ps.zip [a0,a1])) (us:List Value) (e:us.length = 2):bindArgs fd ⟨us,[]⟩ = pure (ps.zip us):=by
 match us,e with | [a0,a1],_=>exact h a0 a1
theorem bind3 {fd:FuncData} {ps:List Str} (h:∀ a0 a1 a2,bindArgs fd ⟨[a0,a1,a2],[]⟩ = pure (ps.zip [a0,a1,a2])) (us:List Value) (e:us.length = 3):bindArgs fd ⟨us,[]⟩ = pure (ps.zip us):=by
 match us,e with | [a0,a1,a2],_=>exact h a0 a1 a2
theorem bind4 {fd:FuncData} {ps:List Str} (h:∀ a0 a1 a2 a3,bindArgs fd ⟨[a0,a1,a2,a3],[]⟩ = pure (ps.zip [a0,a1,a2,a3])) (us:List Value) (e:us.length = 4):bindArgs fd ⟨us,[]⟩ = pure (ps.zip us):=by
 match us,e with | [a0,a1,a2,a3],_=>exact h a0 a1 a2 a3
noncomputable def spLaw (K:PySem.W.Frag):Sp:=fun vs H Q _=>∃ (a:Addr) (ns:List Int),vs = [.ref a]∧SqL K H a (ns.map V.int)∧ns.length≤63∧∀ H',Q (.bl true) H'
theorem zh {H:Hp} {p:Addr} (h:H p = none) (o:HO):Same H (upd H p o):=fun b u q=>by rw [zw (zB q h)]; exact q
theorem zhy {K:PySem.W.Frag} {mg:Str→Option Value} {st:Stmt} {h:Heap} {f fa:Addr} {oc:Value} {od an:Option Addr} {osl:Array (Option Value)} {kV doc pm cdv ct:Value} (X:K.In h) (G:h.Ns mainGlobals mg) (hmg:mg "law" = some (.ref fa))
  (a:PySem.W.nsIn K mainGlobals "law" = some (some (.ref f)))
  (l:K.lookup f = some ⟨oc,od,.func (PySem.W.fnOf "law" "law" (defArgs st) (defBody st) (defScope st) .none kV doc pm an cdv ct),osl⟩)
  (c:PySem.W.codeIn K cdv "law" = true) (k:PySem.W.keepIn K (.ref f) = true)
  (hb:∀ (kV doc pm:Value) (an:Option Addr) (cdv ct:Value) (v:Value),bindArgs (PySem.W.fnOf "law" "law" (defArgs st) (defBody st) (defScope st) .none kV doc pm an cdv ct) ⟨[v],[]⟩ = pure [(("_law_script" : Str),v)]) :
  ∃ fd:FuncData,Fun K "law" "law" st fa fd∧∀ (s:Shared) (v:Value),BindsTo s fd ⟨[v],[]⟩ [("_law_script",v)]:=by
 have e:=hmg.symm.trans (PySem.W.mg_of X G a)
 cases e
 exact ⟨_,QS (st:=st) l c k,fun s v=>.of_eq (hb _ _ _ _ _ _ v)⟩
end L2
namespace L2
open PySem PySem.Spec PyProof.Rows
theorem ZI:∀ (l:List Obj) (i a:Nat) (o:Obj),(fragFrom i l).lookup a = some o→∃ j,a = i + j∧l[j]? = some o∧(∀ c d sl,o≠⟨c,d,.freed,sl⟩)
 | [],i,a,o,h=>by cases h
 | p :: r,i,a,o,h=>by
  unfold fragFrom at h
  have go:(fragFrom (i + 1) r).lookup a = some o→∃ j,a = i + j∧(p :: r)[j]? = some o∧(∀ c d sl,o≠⟨c,d,.freed,sl⟩):=fun h=>by
   obtain ⟨j,e,e',n⟩:=ZI r (i + 1) a o h
   exact ⟨j + 1,by omega,by simpa using e',n⟩
  split at h
  ·exact go h
  ·rename_i hf
   rw [List.lookup_cons] at h
   split at h
   ·rename_i e
    cases h
    have e:a = i:=by simpa using e
    exact ⟨0,by omega,by simp,fun c d sl e=>hf (by rw [e])⟩
   ·exact go h
theorem zed (h:Heap):(fragH h).In h:=fun a o e=>by
 obtain ⟨j,rfl,e',n⟩:=ZI _ _ _ _ e
 unfold Heap.get?
 have e'':h.objs[0 + j]? = some o:=by
  rw [Nat.zero_add]
  simpa using e'
 rw [e'']
 obtain ⟨c,d,dt,sl⟩:=o
 cases dt <;> first | rfl | exact absurd rfl (n _ _ _)
theorem zdt {K:PySem.W.Frag} {x:Str} {st:Stmt} (e:fnSh K x = fnEx x st):∃ (f:Addr) (oc:Value) (od an:Option Addr) (osl:Array (Option Value)) (kV doc pm cdv ct:Value),
  PySem.W.nsIn K mainGlobals x = some (some (.ref f))∧K.lookup f = some ⟨oc,od,.func (PySem.W.fnOf x x (defArgs st) (defBody st) (defScope st) .none kV doc pm an cdv ct),osl⟩ ∧
  PySem.W.codeIn K cdv x = true∧PySem.W.keepIn K (.ref f) = true:=by
 unfold fnSh fnEx at e
 split at e
 ·rename_i f hf
  split at e
  ·rename_i oc od fd osl hl
   obtain ⟨nm,qn,pa,bo,sc,gl,cl,de,kd,dc,pm,an,co,ct,bi⟩:=fd
   simp only [Option.some.injEq,Prod.mk.injEq,FuncData.mk.injEq] at e
   obtain ⟨⟨rfl,rfl,rfl,rfl,rfl,rfl,rfl,rfl,-,-,-,-,-,-,rfl⟩,e1,e2⟩:=e
   exact ⟨f,oc,od,an,osl,kd,dc,pm,co,ct,hf,hl,e1,e2⟩
  ·cases e
 ·cases e
section
variable {K:PySem.W.Frag} {mg:Str→Option Value} {h:Heap}
theorem JV {x:Str} {i:Int} (X:K.In h) (G:h.Ns mainGlobals mg) (e:ctSh K x = some i):∃ t,mg x = some (.int i t):=by
 unfold ctSh at e
 split at e
 ·rename_i j t hn
  cases e
  exact ⟨t,PySem.W.mg_of X G hn⟩
 ·cases e
theorem zU {x:Str} {ps:List Str} {st:Stmt} (X:K.In h) (G:h.Ns mainGlobals mg) (e:fnSh K x = fnEx x st)
  (hb:∀ (kV doc pm:Value) (an:Option Addr) (cdv ct:Value) (us:List Value),us.length = ps.length→bindArgs (PySem.W.fnOf x x (defArgs st) (defBody st) (defScope st) .none kV doc pm an cdv ct) ⟨us,[]⟩ = pure (ps.zip us)):Df K mg x ps st:=by
 obtain ⟨f,oc,od,an,osl,kV,doc,pm,cdv,ct,a,l,c,k⟩:=zdt e
 exact zhS X G a l c k hb
theorem zg6 {st:Stmt} {fa:Addr} (X:K.In h) (G:h.Ns mainGlobals mg) (hmg:mg "law" = some (.ref fa)) (e:fnSh K "law" = fnEx "law" st)
  (hb:∀ (kV doc pm:Value) (an:Option Addr) (cdv ct:Value) (v:Value),bindArgs (PySem.W.fnOf "law" "law" (defArgs st) (defBody st) (defScope st) .none kV doc pm an cdv ct) ⟨[v],[]⟩ = pure [(("_law_script" : Str),v)]) :
  ∃ fd:FuncData,Fun K "law" "law" st fa fd∧∀ (s:Shared) (v:Value),BindsTo s fd ⟨[v],[]⟩ [("_law_script",v)]:=by
 obtain ⟨f,oc,od,an,osl,kV,doc,pm,cdv,ct,a,l,c,k⟩:=zdt e
 exact zhy X G hmg a l c k hb
end
noncomputable def nth {α:Type}:List α→Nat→Option α
 | [],_=>none
 | a :: _,0=>some a
 | _ :: r,n + 1=>nth r n
theorem zj {α:Type} {l l':List α} (h:l = l') (n:Nat) {a b:α} (x:nth l n = some a) (y:nth l' n = some b):a = b:=by
 subst h
 exact Option.some.inj (x.symm.trans y)
noncomputable def lawRec (p:Program):DefRec:=match PySem.W.defOf (lawOnly p) "law" with
 | some (d,_)=>d
 | none=>⟨"law",{ posonlyargs:=[],args:=[],vararg:=none,kwonlyargs:=[],kw_defaults:=[],kwarg:=none,defaults:=[] },[],{ kind:=.function,names:=[],isGenerator:=false,isCoroutine:=false },default⟩
theorem zcG (w:World):((PySem.W.boot_heap w.params).isNs mainGlobals && (#[]:Array GenState).size == 0) = true∧(PySem.W.boot_heap w.params).objs.size = 11∧(PySem.W.boot_heap w.params).nsMap mainGlobals "__annotations__" = some (.ref 6):=by
 refine ⟨?_,?_,?_⟩
 ·kernel_rfl
 ·kernel_rfl
 ·rw [PySem.W.Fast.te8920871248978507458]; kernel_rfl
end L2
namespace L2
open PySem PySem.Spec PyProof.Rows
structure BehindW {β:Type} (p:Program) (N:Nat) (lk:PySem.W.Frag→β) (val:World→β):Prop where
 st:∀ (w:World) (os:OsState),(runT p N w os).map (statT p w) = some true
 sn:∀ (w:World) (os:OsState),(runT p N w os).map (seenT p) = some (PySem.W.openGood (lawOnly p) (looseOf p))
 lk:∀ (w:World) (os:OsState),(runT p N w os).map (fun s=>lk (fragH s.heap)) = some (val w)
theorem followB {Pr:World→OsState→Prop} (row:String) (h1:∀ (w:World) (os:OsState),Pr (w.withFollow row true) os) (h2:∀ (w:World) (os:OsState),Pr (w.withFollow row false) os):∀ (w:World) (os:OsState),Pr w os:=fun w os=>by
 have:=World.withFollow_self w row
 rw [← this]
 cases w.params.followText row
 ·exact h2 w os
 ·exact h1 w os
end L2
namespace L2
open PySem PySem.Spec PyProof.Rows
noncomputable def closOf (cells:List (Str×Addr)):List (Str×NameKind)→List (Str×Addr)→List (Str×Addr)
 | [],acc=>acc
 | (n,k) :: r,acc=>if (k == NameKind.free) = true then closOf cells r ((n,(cells.lookup n).getD 0) :: acc) else closOf cells r acc
theorem qA {env:Env} (f:Str×NameKind→List (Str×Addr)→Sem (ForInStep (List (Str×Addr))))
  (hf:∀ name kind cs,f (name,kind) cs = if (kind == NameKind.free) = true then (do let a ← cellOf env name; pure (.yield ((name,a) :: cs))) else pure (.yield cs)) :
  ∀ (l:List (Str×NameKind)) (acc:List (Str×Addr)),(∀ x∈l,x.2 = .free→∃ c,env.cells.lookup x.1 = some c)→(forIn l acc f:Sem _) = pure (closOf env.cells l acc)
 | [],acc,_=>by rw [List.forIn_nil]; rfl
 | (n,k) :: r,acc,h=>by
  rw [List.forIn_cons,hf]
  have hr:∀ x∈r,x.2 = .free→∃ c,env.cells.lookup x.1 = some c:=fun x hx=>h x (List.mem_cons_of_mem _ hx)
  by_cases hk:(k == NameKind.free) = true
  ·obtain ⟨c,hc⟩:=h (n,k) List.mem_cons_self (by simpa using hk)
   rw [if_pos hk]
   have e:cellOf env n = pure c:=by unfold cellOf; rw [hc]
   rw [e]
   show (forIn r ((n,c) :: acc) f:Sem _) = _
   rw [qA f hf r _ hr]
   conv=>rhs; unfold closOf
   rw [if_pos hk,hc]
   rfl
  ·rw [if_neg hk]
   show (forIn r acc f:Sem _) = _
   rw [qA f hf r _ hr]
   conv=>rhs; unfold closOf
   rw [if_neg hk]
theorem jZ {scope:Scope} {env:Env} (h:∀ x∈scope.names,x.2 = .free→∃ c,env.cells.lookup x.1 = some c):closureFor scope env = pure (closOf env.cells scope.names []):=by
 simp only [closureFor]
 rw [qA (env:=env) _ (fun name kind cs=>by cases hk:kind == NameKind.free <;> simp [hk]) scope.names [] h]
 rfl
theorem qz {cells:List (Str×Addr)}:∀ {l:List (Str×NameKind)} {acc:List (Str×Addr)} {n:Str} {c:Addr},(∀ x∈l,x.2 = .free→∃ c,cells.lookup x.1 = some c)→(n,c)∈closOf cells l acc →
  (n,c)∈acc∨((n,NameKind.free)∈l∧cells.lookup n = some c)
 | [],acc,n,c,_,h=>.inl h
 | (m,k) :: r,acc,n,c,hl,h=>by
  have hr:∀ x∈r,x.2 = .free→∃ c,cells.lookup x.1 = some c:=fun x hx=>hl x (List.mem_cons_of_mem _ hx)
  unfold closOf at h
  by_cases hk:(k == NameKind.free) = true
  ·rw [if_pos hk] at h
   have hk':k = .free:=by simpa using hk
   subst hk'
   obtain ⟨c',hc'⟩:=hl (m,.free) List.mem_cons_self rfl
   rcases qz hr h with h | ⟨h1,h2⟩
   ·rcases List.mem_cons.mp h with e | h
    ·have hc2:cells.lookup m = some c':=hc'
     rw [hc2] at e
     cases e
     exact .inr ⟨List.mem_cons_self,hc'⟩
    ·exact .inl h
   ·exact .inr ⟨List.mem_cons_of_mem _ h1,h2⟩
  ·rw [if_neg hk] at h
   rcases qz hr h with h | ⟨h1,h2⟩
   ·exact .inl h
   ·exact .inr ⟨List.mem_cons_of_mem _ h1,h2⟩
theorem yA {α:Type}:∀ {l:List (Str×α)} {n:Str},(∃ c,(n,c)∈l)→∃ c,l.lookup n = some c
 | [],n,⟨c,h⟩=>nomatch h
 | (m,v) :: r,n,⟨c,h⟩=>by
  rw [List.lookup_cons]
  cases hb:n == m with
  | true=>exact ⟨v,rfl⟩
  | false =>
   rcases List.mem_cons.mp h with e | h
   ·cases e; simp at hb
   ·exact yA ⟨c,h⟩
theorem qG {cells:List (Str×Addr)}:∀ {l:List (Str×NameKind)} {acc:List (Str×Addr)} {p:Str×Addr},p∈acc→p∈closOf cells l acc
 | [],acc,p,h=>h
 | (m,k) :: r,acc,p,h=>by
  unfold closOf
  split
  ·exact qG (List.mem_cons_of_mem _ h)
  ·exact qG h
theorem jC {cells:List (Str×Addr)}:∀ {l:List (Str×NameKind)} {acc:List (Str×Addr)} {n:Str},(n,NameKind.free)∈l→∃ c,(n,c)∈closOf cells l acc
 | (m,k) :: r,acc,n,h=>by
  unfold closOf
  rcases List.mem_cons.mp h with e | h
  ·cases e
   exact ⟨_,qG List.mem_cons_self⟩
  ·split
   ·exact jC h
   ·exact jC h
theorem zN:∀ (l:List (Str×NameKind)) (n:Nat) (acc:List (Str×Addr)),cellsFrom n l acc = cellsFrom n l [] ++ acc
 | [],n,acc=>rfl
 | (m,k) :: r,n,acc=>by
  unfold cellsFrom
  split
  ·rw [zN r (n + 1) ((m,n) :: acc),zN r (n + 1) [(m,n)],List.append_assoc]; rfl
  ·exact zN r n acc
theorem xY:∀ {l:List (Str×NameKind)} {n:Nat} {x:Str} {c:Addr},(x,c)∈cellsFrom n l []→(x,NameKind.cell)∈l
 | (m,k) :: r,n,x,c,h=>by
  unfold cellsFrom at h
  by_cases hk:(k == NameKind.cell) = true
  ·rw [if_pos hk,zN] at h
   rcases List.mem_append.mp h with h | h
   ·exact List.mem_cons_of_mem _ (xY h)
   ·have e:Prod.mk x c = (m,n):=by simpa using h
    cases e
    have:k = .cell:=by simpa using hk
    subst this
    exact List.mem_cons_self
  ·rw [if_neg hk] at h
   exact List.mem_cons_of_mem _ (xY h)
theorem xX:∀ {l:List (Str×NameKind)} {n:Nat} {x:Str},(x,NameKind.cell)∈l→∃ c,(x,c)∈cellsFrom n l []
 | (m,k) :: r,n,x,h=>by
  unfold cellsFrom
  rcases List.mem_cons.mp h with e | h
  ·cases e
   rw [if_pos (by decide),zN]
   exact ⟨n,List.mem_append_right _ List.mem_cons_self⟩
  ·split
   ·rw [zN]
    obtain ⟨c,hc⟩:=xX (n:=n + 1) h
    exact ⟨c,List.mem_append_left _ hc⟩
   ·exact xX h
noncomputable def blk (X:Cx) (own fre:List Str) (scope:Scope) (L:Addr) (cells:List (Str×Addr)) (s₀:Shared) (H₀:Hp) (ex:List Addr) (pn:List (Addr×Obj)):Cx where
 prog:=X.prog
 w:=X.w
 K:=X.K
 mg:=X.mg
 base:=X.base
 A:=X.A
 N:=own ++ fre
 s₀:=s₀
 H₀:=H₀
 env:=compEnvC scope cells L X.env
 outer:=X.stack
 stack:=X.stack
 ex:=ex
 fn:=fun x=>own.contains x
 calm:=X.calm
 pn:=pn
 xe:=fun _ _=>False
noncomputable def bst (own:Nat) (idx:List Nat) (σ:St):St:=List.replicate own none ++ idx.map fun i=>(σ[i]?).join
structure BlkOk (X:Cx) (own fre:List Str) (idx:List Nat) (scope:Scope):Prop where
 kind:scope.kind = .function
 free:(scope.names.all fun x=>x.2 != .free || (X.env.kindOf x.1 == some .cell || X.env.kindOf x.1 == some .free)) = true
 loc:(scope.names.all fun x=>x.2 != .local || scope.names.lookup x.1 == some .local) = true
 ownB:(scope.names.all fun x=>x.2 != .free || !own.contains x.1) = true
 freB:((fre.zip idx).all fun p=>scope.names.lookup p.1 == some .free && X.N[p.2]? == some p.1) = true
 len:fre.length = idx.length
 nd:(scope.names.map (·.1)).Nodup
theorem zfz {l:List (Str×NameKind)}:(l.map (·.1)).Nodup→∀ {x:Str} {k1 k2:NameKind},(x,k1)∈l→(x,k2)∈l→k1 = k2:=by
 induction l with
 | nil=>intro _ x k1 k2 h; exact nomatch h
 | cons p r ih =>
  intro nd x k1 k2 h1 h2
  rw [List.map_cons,List.nodup_cons] at nd
  rcases List.mem_cons.mp h1 with e1 | h1 <;> rcases List.mem_cons.mp h2 with e2 | h2
  ·rw [← e1] at e2; cases e2; rfl
  ·exact absurd (List.mem_map.mpr ⟨_,h2,by rw [← e1]⟩) nd.1
  ·exact absurd (List.mem_map.mpr ⟨_,h1,by rw [← e2]⟩) nd.1
  ·exact ih nd.2 h1 h2
section
variable {X:Cx} {own fre:List Str} {idx:List Nat} {scope:Scope} {pins:List (Addr×Obj)} {σ:St} {H:Hp} {s:Shared}
theorem BlkOk.freeC (B:BlkOk X own fre idx scope) {x:Str×NameKind} (hx:x∈scope.names) (h:x.2 = .free):X.env.kindOf x.1 = some .cell∨X.env.kindOf x.1 = some .free:=by
 have:=List.all_eq_true.mp B.free x hx
 rw [h] at this
 simpa using this
theorem BlkOk.cells (B:BlkOk X own fre idx scope) (ok:X.Ok):∀ x∈scope.names,x.2 = .free→∃ c,X.env.cells.lookup x.1 = some c:=fun x hx h=>ok.has x.1 (B.freeC hx h)
noncomputable def rl (env:Env) (p:Str×NameKind):Str×NameKind:=if (p.2 == NameKind.free && env.scope.kind == .function && env.kindOf p.1 == some .cell) = true then (p.1,NameKind.cell) else p
theorem zeF (env:Env) (p:Str×NameKind):(rl env p).1 = p.1:=by unfold rl; split <;> rfl
theorem ze7 (env:Env) (p:Str×NameKind):(rl env p).2 = p.2∨((rl env p).2 = .cell∧p.2 = .free):=by
 unfold rl
 split
 ·rename_i hc
  rw [Bool.and_eq_true,Bool.and_eq_true] at hc
  exact .inr ⟨rfl,by simpa using hc.1.1⟩
 ·exact .inl rfl
theorem xU {α:Type} (p:Str×α) (r:List (Str×α)) (x:Str):(p :: r).lookup x = if (x == p.1) = true then some p.2 else r.lookup x:=by
 rw [show p = (p.1,p.2) from rfl,List.lookup_cons]
 cases x == p.1 <;> rfl
theorem jf {env:Env}:∀ {l:List (Str×NameKind)} {x:Str} {k:NameKind},(l.map (rl env)).lookup x = some k→(l.lookup x = some k∨(k = .cell∧l.lookup x = some .free))
 | [],x,k,h=>by simp at h
 | p :: r,x,k,h=>by
  rw [List.map_cons,xU,zeF] at h
  rw [xU]
  by_cases hx:(x == p.1) = true
  ·rw [if_pos hx] at h ⊢
   rcases ze7 env p with e | ⟨e1,e2⟩
   ·rw [e] at h; exact .inl h
   ·rw [e1] at h; cases h
    rw [e2]
    exact .inr ⟨rfl,rfl⟩
  ·rw [if_neg hx] at h ⊢
   exact jf h
theorem qK {env:Env}:∀ {l:List (Str×NameKind)} {x:Str},l.lookup x = some .free→(l.map (rl env)).lookup x = some .cell∨(l.map (rl env)).lookup x = some .free
 | [],x,h=>by simp at h
 | p :: r,x,h=>by
  rw [xU] at h
  rw [List.map_cons,xU,zeF]
  by_cases hx:(x == p.1) = true
  ·rw [if_pos hx] at h ⊢
   rcases ze7 env p with e | ⟨e1,e2⟩
   ·rw [e]; exact .inr h
   ·rw [e1]; exact .inl rfl
  ·rw [if_neg hx] at h ⊢
   exact qK h
theorem zao (B:BlkOk X own fre idx scope) (ok:X.Ok) {n:Nat} {x:Str} {c:Addr} (h:(cellsFrom n scope.names (closOf X.env.cells scope.names [])).lookup x = some c) :
  ((x,c)∈cellsFrom n scope.names []∧(x,NameKind.cell)∈scope.names)∨((x,NameKind.free)∈scope.names∧X.env.cells.lookup x = some c):=by
 have h1:=mem_of_lookup h
 rw [zN] at h1
 rcases List.mem_append.mp h1 with h1 | h1
 ·exact .inl ⟨h1,xY h1⟩
 ·rcases qz (B.cells ok) h1 with h1 | h1
  ·exact nomatch h1
  ·exact .inr h1
end
section
variable {prog:Program} {w:World} {A:Around} {E:Value→Shared→Prop} {R:Result→Shared→Prop} {s:Shared}
theorem XQ {elt target iter:Expr} {ifs:List Expr} {scope:Scope} {pos:Pos} {it acc:Value} {env:Env} (I:Nat→Shared→Prop)
  (turn:∀ n s,I n s→wpAny (model prog w) A (pyNext it) (fun r s₁=>match r with
   | none=>R (.ok .next) s₁
   | some v=>wpAny (model prog w) A (letOwnedTupleGo target it v) (fun _ s₂=>wpAny (model prog w) A (assign target env v) (fun _ s₃ =>
     wpAny (model prog w) A (forIn ifs true fun c r=>if r = true then do let ok ← isTrue c env (eval c env); pure (ForInStep.yield ok) else pure (ForInStep.yield r)) (fun ok s₄ =>
      if ok = true then wpAny (model prog w) A (eval elt env) (fun x s₅ =>
       wpAny (model prog w) A (call (.builtin "list.append") [acc,x]) (fun _ s₆=>∃ m,m < n∧I m s₆) (fun _ _=>False) s₅) (fun _ _=>False) s₄
      else ∃ m,m < n∧I m s₄) (fun _ _=>False) s₃) (fun _ _=>False) s₂) (fun _ _=>False) s₁) (fun _ _=>False) s)
  (n:Nat) (h:I n s) :
  codeAny (model prog w) A (.compLoop (.ListComp elt [⟨target,iter,ifs,0⟩] scope pos) 0 it acc env) R s:=by
 refine codeAny_loop rfl I (fun n s hI=>?_) n h
 show wpAny _ A ((compTurn (.ListComp elt [⟨target,iter,ifs,0⟩] scope pos) 0 it acc env).onRaise (fun x=>do noteFrame x env; theTreesLotGoes x)) _ _ s
 refine wpAny_noted ?_
 rw [compTurn_list]
 refine wpAny_bind (wpAny_standAt (wpAny_bind (wpAny_mono (turn n s hI) (fun r s₁ h₁=>?_) fun _ _ h'=>h'.elim)))
 cases r with
 | none=>exact wpAny_pure h₁
 | some v =>
  refine wpAny_bind (wpAny_mono h₁ (fun _ s₂ h₂=>?_) fun _ _ h'=>h'.elim)
  refine wpAny_bind (wpAny_mono h₂ (fun _ s₃ h₃=>wpAny_bind (wpAny_mono h₃ (fun ok s₄ h₄=>?_) fun _ _ h'=>h'.elim)) fun _ _ h'=>h'.elim)
  cases ok with
  | false=>exact wpAny_pure ⟨rfl,h₄⟩
  | true =>
   exact wpAny_bind (wpAny_bind (wpAny_mono h₄ (fun x s₅ h₅=>wpAny_bind (wpAny_mono h₅ (fun _ s₆ h₆=>wpAny_pure (wpAny_pure ⟨rfl,h₆⟩)) fun _ _ h'=>h'.elim)) fun _ _ h'=>h'.elim))
end
section
variable {X:Cx} {own fre:List Str} {idx:List Nat} {scope:Scope} {pins:List (Addr×Obj)} {σ:St} {H:Hp} {s:Shared}
noncomputable abbrev bcells (X:Cx) (scope:Scope) (L:Addr):List (Str×Addr):=cellsFrom (L + 1) scope.names (closOf X.env.cells scope.names [])
noncomputable abbrev dictO:Obj:={ cls:=.type "dict",data:=.dict #[] }
theorem zb0 {own:Nat} {idx:List Nat} {σ:St} {i:Nat} {v:V} (h:(bst own idx σ)[i]? = some (some v)):∃ j k,i = own + j∧idx[j]? = some k∧σ[k]? = some (some v):=by
 unfold bst at h
 by_cases hi:i < own
 ·rw [List.getElem?_append_left (by simpa using hi)] at h
  rw [List.getElem?_replicate] at h
  rw [if_pos hi] at h
  cases h
 ·rw [List.getElem?_append_right (by simpa using Nat.le_of_not_lt hi)] at h
  rw [List.length_replicate,List.getElem?_map] at h
  cases e:idx[i - own]? with
  | none=>rw [e] at h; cases h
  | some k =>
   rw [e] at h
   refine ⟨i - own,k,by omega,e,?_⟩
   have h':some ((σ[k]?).join) = some (some v):=h
   have h2:=Option.some.inj h'
   cases e2:σ[k]? with
   | none=>rw [e2] at h2; cases h2
   | some o=>rw [e2] at h2; rw [show o = some v from h2]
theorem Xz (B:BlkOk X own fre idx scope) (I:Inv X pins σ H s) {ex:List Addr} (hex:∀ b∈ex,FpOk X pins H b∧b < s.heap.objs.size) :
  Inv (blk X own fre scope s.heap.objs.size (bcells X scope s.heap.objs.size) s H ex (X.pn ++ pins)) [] (bst own.length idx σ) H { s with heap:=pushCells (s.heap.push dictO) scope.names }:=by
 have ok:=I.ok
 have hsz:(s.heap.push dictO).objs.size = s.heap.objs.size + 1:=Heap.size_push ..
 have keep:∀ b o,s.heap.get? b = some o→(pushCells (s.heap.push dictO) scope.names).get? b = some o:=fun b o e=>pushCells_keeps _ _ b o (Heap.get?_push_of_some _ e)
 have cok:=cellsFrom_ok scope.names (s.heap.push dictO) (s.heap.objs.size + 1) [] ⟨fun _ _ hm=>(nomatch hm),List.Pairwise.nil⟩ (by rw [hsz]; exact Nat.le_refl _)
 rw [hsz] at cok
 have freeLt:∀ x c,X.env.cells.lookup x = some c→c < s.heap.objs.size:=fun x c e=>let ⟨_,h⟩:=I.cell x c e; h.lt
 have cellC:∀ x c,(bcells X scope s.heap.objs.size).lookup x = some c→(s.heap.objs.size + 1≤c∧(pushCells (s.heap.push dictO) scope.names).IsCell c none∧(x,c)∈cellsFrom (s.heap.objs.size + 1) scope.names []∧(x,NameKind.cell)∈scope.names)∨(X.env.cells.lookup x = some c∧c < s.heap.objs.size∧(x,NameKind.free)∈scope.names):=fun x c e=>by
  rcases zao B ok e with ⟨h1,h2⟩ | ⟨h1,h2⟩
  ·exact .inl ⟨(cok.empty x c h1).2,(cok.empty x c h1).1,h1,h2⟩
  ·exact .inr ⟨h2,freeLt x c h2,h1⟩
 have hfs:∀ b∈frs X.stack,b < s.heap.objs.size:=fun b hb=>by
  rcases List.mem_cons.mp (I.stkSub b hb) with e | hb
  ·rw [e]; exact I.lt
  ·obtain ⟨_,o,ho,_⟩:=I.ok.funs.mem hb
   exact Nat.lt_of_lt_of_le (Heap.lt_size ho) I.sz
 have OK:(blk X own fre scope s.heap.objs.size (bcells X scope s.heap.objs.size) s H ex (X.pn ++ pins)).Ok:=by
  refine ⟨ok.mod,B.kind,ok.glob,ok.blt,Nat.le_refl _,?_,?_,?_,ok.hd,ok.frames,.inl rfl,?_,fun b o e=>I.bs b o e,Nat.le_trans ok.bsz I.sz,?_,?_,I.stack,I.stkFree⟩
  ·intro x y c e1 e2
   rcases cellC x c e1 with ⟨l1,_,m1,_⟩ | ⟨f1,l1,_⟩ <;> rcases cellC y c e2 with ⟨l2,_,m2,_⟩ | ⟨f2,l2,_⟩
   ·exact name_of_addr cok.apart m1 m2
   ·exact absurd (Nat.lt_of_lt_of_le l2 (Nat.le_of_succ_le l1)) (Nat.lt_irrefl _)
   ·exact absurd (Nat.lt_of_lt_of_le l1 (Nat.le_of_succ_le l2)) (Nat.lt_irrefl _)
   ·exact ok.inj x y c f1 f2
  ·intro x hk
   have hk':(relabel scope X.env).names.lookup x = some .cell∨(relabel scope X.env).names.lookup x = some .free:=hk
   have hor:(x,NameKind.cell)∈scope.names∨(x,NameKind.free)∈scope.names:=by
    rcases hk' with h | h
    ·rcases jf h with h | ⟨_,h⟩
     ·exact .inl (mem_of_lookup h)
     ·exact .inr (mem_of_lookup h)
    ·rcases jf h with h | ⟨h,_⟩
     ·exact .inr (mem_of_lookup h)
     ·cases h
   refine yA ?_
   show ∃ c,(x,c)∈cellsFrom (s.heap.objs.size + 1) scope.names (closOf X.env.cells scope.names [])
   rw [zN]
   rcases hor with h | h
   ·obtain ⟨c,hc⟩:=xX (n:=s.heap.objs.size + 1) h
    exact ⟨c,List.mem_append_left _ hc⟩
   ·obtain ⟨c,hc⟩:=jC (cells:=X.env.cells) (acc:=[]) h
    exact ⟨c,List.mem_append_right _ hc⟩
  ·intro x c hf e
   rcases cellC x c e with ⟨l1,_⟩ | ⟨_,_,m1⟩
   ·show s.heap.objs.size≤c
    omega
   ·have:=List.all_eq_true.mp B.ownB _ m1
    have hf':own.contains x = true:=hf
    rw [hf'] at this
    simp at this
  ·intro b hb
   obtain ⟨⟨_,_,_,_,f4,_⟩,hlt⟩:=hex b hb
   refine ⟨Nat.ne_of_lt hlt,fun x c e=>?_⟩
   rcases cellC x c e with ⟨l1,_⟩ | ⟨f1,_,_⟩
   ·exact Ne.symm (Nat.ne_of_lt (Nat.lt_of_lt_of_le hlt (Nat.le_of_succ_le l1)))
   ·exact f4 x c f1
  ·intro b o e hb
   obtain ⟨⟨_,_,_,f3,_,_⟩,_⟩:=hex b hb
   rcases f3 with f3 | f3
   ·exact ok.noex b o e f3
   ·exact absurd (Heap.lt_size (ok.bs b o e).1) (Nat.not_lt.mpr f3)
  ·intro b hb hm
   obtain ⟨⟨_,f1,f2,_⟩,_⟩:=hex b hb
   rcases List.mem_cons.mp (I.stkSub b hm) with e | hm
   ·exact f1 e
   ·exact f2 hm
 refine ⟨OK,rfl,I.bare,Un.kept keep,?_,?_,I.fresh,?_,?_,I.hok.kept keep,?_⟩
 ·refine ⟨fun _=>none,(Heap.Ns.new s.heap (.type "dict")).keeps (pushCells_keeps _ _),fun i x v e1 e2 e3=>?_⟩
  obtain ⟨j,k,rfl,hj,hk⟩:=zb0 e2
  have e1':(own ++ fre)[own.length + j]? = some x:=e1
  rw [List.getElem?_append_right (Nat.le_add_right _ _),Nat.add_sub_cancel_left] at e1'
  have hz:(x,k)∈fre.zip idx:=by
   refine List.mem_iff_getElem?.mpr ⟨j,?_⟩
   rw [List.getElem?_zip_eq_some]
   exact ⟨e1',hj⟩
  have hq:=List.all_eq_true.mp B.freB _ hz
  rw [Bool.and_eq_true] at hq
  have q1:scope.names.lookup x = some .free:=by simpa using hq.1
  have q2:X.N[k]? = some x:=by simpa using hq.2
  have kin:=B.freeC (mem_of_lookup q1) rfl
  have vis:Vis X.env.scope x:=.inr kin
  obtain ⟨m,hn,hl⟩:=I.loc
  obtain ⟨u,r,look⟩:=hl k x v q2 hk vis
  refine ⟨u,r,?_⟩
  obtain ⟨c,hc,hcell⟩ : ∃ c,X.env.cells.lookup x = some c∧s.heap.IsCell c (some u):=by
   rcases look with ⟨hk1,_⟩ | ⟨_,c,e,z⟩
   ·rcases kin with h | h <;> (rw [hk1] at h; cases h)
   ·exact ⟨c,e,z⟩
  refine .inr ⟨qK q1,c,?_,hcell.keeps keep⟩
  have hl2:∃ c',(bcells X scope s.heap.objs.size).lookup x = some c':=by
   refine yA ?_
   show ∃ c,(x,c)∈cellsFrom (s.heap.objs.size + 1) scope.names (closOf X.env.cells scope.names [])
   rw [zN]
   obtain ⟨c,hc⟩:=jC (cells:=X.env.cells) (acc:=[]) (mem_of_lookup q1)
   exact ⟨c,List.mem_append_right _ hc⟩
  obtain ⟨c',hc'⟩:=hl2
  rcases zao B ok hc' with ⟨_,h2⟩ | ⟨_,h2⟩
  ·exact nomatch zfz B.nd h2 (mem_of_lookup q1)
  ·rw [hc] at h2
   cases h2
   exact hc'
 ·intro x c e
  rcases cellC x c e with ⟨_,h,_⟩ | ⟨h,_,_⟩
  ·exact ⟨none,h⟩
  ·obtain ⟨v,z⟩:=I.cell x c h
   exact ⟨v,z.keeps keep⟩
 ·intro x c e
  rcases cellC x c e with ⟨l,_⟩ | ⟨h,_,_⟩
  ·exact I.hok.fresh (by omega)
  ·exact I.freeC x c h
 ·intro p hp
  rw [List.append_nil] at hp
  obtain ⟨h1,h2,h3,h4,h5⟩:=I.pin p hp
  refine ⟨keep _ _ h1,h2,Nat.ne_of_lt (Heap.lt_size h1),fun hm=>?_,h5⟩
  rcases List.mem_cons.mp (I.stkSub p.1 hm) with e | hm
  ·exact h3 e
  ·exact h4 hm
 ·show (bst own.length idx σ).length = (own ++ fre).length
  unfold bst
  rw [List.length_append,List.length_replicate,List.length_map,List.length_append,B.len]
theorem zb2 {L D:Addr} {cells:List (Str×Addr)} {s₀ s':Shared} {H₀ H':Hp} {fp:List Addr} {pl:List (Addr×Obj)} {σb:St} {ys:List V} {its:List Value} {n:Nat} (I:Inv X pins σ H₀ s₀) (I':Inv (blk X own fre scope L cells s₀ H₀ (D :: fp) (X.pn ++ pins)) pl σb H' s')
  (hfp:∀ b∈fp,FpOk X pins H₀ b) (hD:FpOk X pins H₀ D) (hD':H' D = none) (hv:Vals ys its) (hz:ys.length≤sizeLine) (e:s'.heap.get? D = some { cls:=.type "list",data:=.seq its.toArray n }) :
  Inv X pins σ (upd H' D (.lst ys)) s':=by
 have u:=I'.base
 have nD:H₀ D = none:=hD.1
 refine I.call' (ch:=D :: fp) (H':=upd H' D (.lst ys)) I'.os ⟨u.keep,u.slot,fun b o h1 h2 h3=>?_,u.there,fun b xs h=>?_,fun b o v h=>?_,fun b ps h=>?_⟩ (fun b o h=>?_) I'.bare fun b hb=>?_
 ·rw [zw (fun z=>h3 (by rw [z]; exact List.mem_cons_self))]
  exact u.free b o h1 h2 h3
 ·rw [zw (zB h nD)]; exact u.tups b xs h
 ·rw [zw (zB h nD)]; exact u.frzs b o v h
 ·rw [zw (zB h nD)]; exact u.tbls b ps h
 ·by_cases hb:b = D
  ·subst hb
   rw [zf] at h
   cases h
   exact ⟨hz,its,n,hv,e⟩
  ·rw [zw hb] at h
   exact (I'.hok b o h).stay (fun c v _ q=>q) (fun c q=>by rw [zw (zB q hD')]; exact q) fun c xs q=>by rw [zw (zB q hD')]; exact q
 ·rcases List.mem_cons.mp hb with rfl | hb
  ·obtain ⟨_,f1,_,f3,f4,f5⟩:=hD
   exact ⟨f3,f1,f4,f5⟩
  ·obtain ⟨_,f1,_,f3,f4,f5⟩:=hfp b hb
   exact ⟨f3,f1,f4,f5⟩
noncomputable def GOwn (k:Nat) (g:TG):Prop:=∀ v σ H Q,g v σ H Q→g v σ H fun σ' H'=>Q σ' H'∧σ'.drop k = σ.drop k∧σ'.length = σ.length
noncomputable def GOwns (k:Nat) (g:TGs):Prop:=∀ v σ H Q,g v σ H Q→g v σ H fun σ' H'=>Q σ' H'∧σ'.drop k = σ.drop k∧σ'.length = σ.length
theorem yP {k i:Nat} (h:i < k):GOwn k (gName i):=fun v σ H Q q=>⟨q,by rw [List.drop_set_of_lt h],List.length_set⟩
theorem JG {k:Nat}:GOwns k gNil:=fun v σ H Q ⟨e,q⟩=>⟨e,q,rfl,rfl⟩
theorem jE {k:Nat} {t:TG} {u:TGs} (ht:GOwn k t) (hm:∀ v σ H Q Q',(∀ σ' H',Q σ' H'→Q' σ' H')→t v σ H Q→t v σ H Q') (hu:GOwns k u):GOwns k (gCons t u):=fun vs σ H Q ⟨v,r,e,q⟩ =>
 ⟨v,r,e,hm _ _ _ _ _ (fun σ' H' ⟨q1,q2,q3⟩=>by
  have q4:=hu _ _ _ _ q1
  rw [q2,q3] at q4
  exact q4) (ht _ _ _ _ q)⟩
theorem jy {i:Nat}:∀ v σ H (Q Q':St→Hp→Prop),(∀ σ' H',Q σ' H'→Q' σ' H')→gName i v σ H Q→gName i v σ H Q':=fun _ _ _ _ _ h q=>h _ _ q
theorem zam {K:PySem.W.Frag} {k n:Nat} {t:TGs} (h:GOwns k t):GOwn k (gTup K n t):=fun v σ H Q ⟨a,xs,e,h1,h2,q⟩=>⟨a,xs,e,h1,h2,h _ _ _ _ q⟩
theorem Zd {own:Nat} {idx:List Nat} {σ σ':St} (hd:σ'.drop own = (bst own idx σ).drop own) (i:Nat) (v:V) (h:(bst own idx σ)[i]? = some (some v)):σ'[i]? = some (some v):=by
 obtain ⟨j,k,rfl,_,_⟩:=zb0 h
 rw [← List.getElem?_drop,hd,List.getElem?_drop]
 exact h
noncomputable def tCompW (own:Nat) (idx:List Nat) (wi:TI) (g:TG) (tt:TT) (te:TE) (R:List V→Hp→Prop):St→Hp→Prop:=fun σ H=>wi σ H fun J H1=>∃ W:Nat→Nat→List V→Hp→Prop,(∃ m,W 0 m [] H1)∧∀ i m ys H,W i m ys H →
 (J.stop i H∧ys.length≤sizeLine∧R ys H) ∨
 (J.go i H∧ys.length < sizeLine∧∀ x H',J.yld i H x H'→g x (bst own idx σ) H' fun σ2 H2=>tt σ2 H2 fun b H3=>if b = true then te σ2 H3 fun y H4=>∃ m',m' < m∧W (i + 1) m' (ys ++ [y]) H4 else ∃ m',m' < m∧W (i + 1) m' ys H3)
noncomputable def PTs (Y:Cx) (ifs:List Expr) (t:TT):Prop:=∀ (pins:List (Addr×Obj)) (s:Shared) (σ:St) (H:Hp) (Q:Bool→Hp→Prop),Inv Y pins σ H s→t σ H Q →
 wpAny (model Y.prog Y.w) Y.A (forIn ifs true fun c r=>if r = true then do let ok ← isTrue c Y.env (eval c Y.env); pure (ForInStep.yield ok) else pure (ForInStep.yield r)) (TP Y pins σ Q) Y.xe s
noncomputable def tTrue:TT:=fun _ H Q=>Q true H
theorem yv {Y:Cx}:PTs Y [] tTrue:=fun pins s σ H Q I h=>wpAny_tests_nil ⟨H,I,h⟩
theorem zbn {Y:Cx} {c:Expr} {t:TT} (h:PT Y c t):PTs Y [c] t:=fun pins s σ H Q I hq=>wpAny_tests_one (h pins s σ H Q I hq)
theorem QL {elt tg iter:Expr} {ifs:List Expr} {pos:Pos} {wi:TI} {g:TG} {tt:TT} {te:TE} {use:Option (Value→Sem Unit)} {R:List V→Hp→Prop} {Q:Value→Shared→Prop} (B:BlkOk X own fre idx scope) (hc:X.calm = true) (hi:PI X tg iter wi) (hg:GOwn own.length g)
  (hb:∀ (L:Addr) (cells:List (Str×Addr)) (s₀:Shared) (H₀:Hp) (ex:List Addr) (pn:List (Addr×Obj)),PG (blk X own fre scope L cells s₀ H₀ ex pn) tg g∧PTs (blk X own fre scope L cells s₀ H₀ ex pn) ifs tt∧PE (blk X own fre scope L cells s₀ H₀ ex pn) elt te)
  (hs:∀ x,foldedSetIterable iter X.env x = pure x) (I:Inv X pins σ H s) (h:tCompW own.length idx wi g tt te R σ H)
  (hq:∀ (ys:List V) (H':Hp) (s':Shared) (L D:Addr) (m:Str→Option Value),R ys H'→H' D = none→Inv X pins σ (upd H' D (.lst ys)) s'→s'.heap.Ns L m→upd H' D (.lst ys) L = none→FpOk X pins (upd H' D (.lst ys)) L →
   compPost (model X.prog X.w) X.A X.xe use Q (.ref D) L (.ok .next) s') :
  wpAny (model X.prog X.w) X.A (comprehension (.ListComp elt [⟨tg,iter,ifs,0⟩] scope pos) scope X.env (firstIterPos [⟨tg,iter,ifs,0⟩] pos) (newList []) false (eval iter X.env) use) Q X.xe s:=by
 have hnames:∀ x∈scope.names,x.2 = .local→scope.names.lookup x.1 = some .local:=fun x hx hl=>by
  have:=List.all_eq_true.mp B.loc x hx
  rw [hl] at this
  simpa using this
 refine wpAny_comprehension_free (use:=use) rfl hs (jZ (B.cells I.ok)) B.kind hnames (wpAny_mono (hi pins s σ H _ I h) (fun v s1 h1=>wpAny_mono h1 (fun itv s2 h2=>?_) fun _ _ e=>e) fun _ _ e=>e)
 obtain ⟨it,fp,tn,J,H2,rfl,I2,T,st2,f2,W,⟨m0,w0⟩,turn⟩:=h2
 refine wpAny_newObj_type ?_
 generalize hs3:({ s2 with heap:=s2.heap.push { cls:=.type "list",dict:=none,data:=.seq ([]:List Value).toArray } }:Shared) = s3
 have hD3:s3.heap.get? s2.heap.objs.size = some { cls:=.type "list",data:=.seq ([]:List Value).toArray 0 }:=by rw [← hs3]; exact Heap.get?_push_size _ rfl
 have keep23:∀ b o,s2.heap.get? b = some o→s3.heap.get? b = some o:=fun b o e=>by rw [← hs3]; exact Heap.get?_push_of_some _ e
 have I3:Inv X pins σ H2 s3:=by rw [← hs3]; exact I2.kept (t':=s2.toks) fun b o e=>Heap.get?_push_of_some _ e
 have sz3:s3.heap.objs.size = s2.heap.objs.size + 1:=by rw [← hs3]; exact Heap.size_push ..
 generalize hD:s2.heap.objs.size = D at *
 have nD:H2 D = none:=by rw [← hD]; exact I2.fresh
 have okD:FpOk X pins H2 D:=I2.fpOk (by rw [hD]; exact Nat.le_refl _) nD
 have ltfp:∀ b∈fp,b < D:=fun b hb=>by
  obtain ⟨o,ho,_⟩:=T.obj _ _ st2 b hb
  rw [← hD]; exact Heap.lt_size ho
 simp only [newFunctionEnv,Option.isSome_some,if_true]
 refine wpAny_bind (wpAny_alloc ?_)
 refine wpAny_bind (wpAny_layCells _ (fun name kind cells=>by cases hkc:kind == NameKind.cell <;> simp [hkc]) _ _ _ _ ?_)
 refine wpAny_bind (wpAny_pure (wpAny_pure ?_))
 have hL1:(s3.heap.push dictO).objs.size = s3.heap.objs.size + 1:=Heap.size_push ..
 have I4:=Xz (ex:=D :: fp) B I3 (fun b hb=>by
  rcases List.mem_cons.mp hb with rfl | hb
  ·exact ⟨okD,by rw [sz3]; exact Nat.lt_succ_self _⟩
  ·exact ⟨f2 b hb,by rw [sz3]; exact Nat.lt_succ_of_lt (ltfp b hb)⟩)
 generalize hs4:({ s3 with heap:=pushCells (s3.heap.push dictO) scope.names }:Shared) = s4 at I4
 have keep34:∀ b o,s3.heap.get? b = some o→s4.heap.get? b = some o:=fun b o e=>by rw [← hs4]; exact pushCells_keeps _ _ b o (Heap.get?_push_of_some _ e)
 generalize hY:blk X own fre scope s3.heap.objs.size (bcells X scope s3.heap.objs.size) s3 H2 (D :: fp) (X.pn ++ pins) = Y at I4
 have YA:Y.A = X.A:=by rw [← hY]; rfl
 have Yp:Y.prog = X.prog:=by rw [← hY]; rfl
 have Yw:Y.w = X.w:=by rw [← hY]; rfl
 have YK:Y.K = X.K:=by rw [← hY]; rfl
 have Yc:Y.calm = true:=by rw [← hY]; exact hc
 have Yx:Y.xe = fun _ _=>False:=by rw [← hY]; rfl
 have Yex:Y.ex = D :: fp:=by rw [← hY]; rfl
 have Ypn:Y.pn = X.pn ++ pins:=by rw [← hY]; rfl
 have YL:Y.env.locals = s3.heap.objs.size:=by rw [← hY]; rfl
 have hbY:PG Y tg g∧PTs Y ifs tt∧PE Y elt te:=by rw [← hY]; exact hb ..
 have nDY:D≠Y.env.locals:=by rw [YL,sz3]; exact Nat.ne_of_lt (Nat.lt_succ_self _)
 have okY:=I4.ok
 have fsD:D∉Y.fs:=okY.exfs D (by rw [Yex]; exact List.mem_cons_self)
 have pnD:∀ p∈Y.pn,p.1≠D:=by rw [Ypn]; exact okD.2.2.2.2.2
 have FO:∀ {H':Hp} {o:Obj},(∀ b∈fp,H' b = none)→∀ b∈fp,FpOk Y [(D,o)] H' b:=fun {H' o} hn b hb=>by
  have m:b∈Y.ex:=by rw [Yex]; exact List.mem_cons_of_mem _ hb
  refine ⟨hn b hb,(okY.exf b m).1,okY.exfs b m,.inl m,(okY.exf b m).2,fun p hp=>?_⟩
  rcases List.mem_append.mp hp with hp | hp
  ·rw [Ypn] at hp
   exact (f2 b hb).2.2.2.2.2 p hp
  ·have e:p = (D,o):=by simpa using hp
   rw [e]
   exact Ne.symm (Nat.ne_of_lt (ltfp b hb))
 have pinD:∀ {pl:List (Addr×Obj)} {σ':St} {H':Hp} {s':Shared} {o:Obj},Inv Y pl σ' H' s'→s'.heap.get? D = some o→H' D = none→(∀ v,o.data≠.cell v)→Inv Y [(D,o)] σ' H' s':=fun {pl σ' H' s' o} I' e hn hd=>I'.pins_of fun p hp=>by
  have e':p = (D,o):=by simpa using hp
  subst e'
  exact ⟨e,hn,nDY,fsD,hd⟩
 have loop:codeAny (model X.prog X.w) X.A (.compLoop (.ListComp elt [⟨tg,iter,ifs,0⟩] scope pos) 0 (.ref it) (.ref D) Y.env) (compPost (model X.prog X.w) X.A X.xe use Q (.ref D) s3.heap.objs.size) s4:=by
  refine XQ (fun n s'=>∃ i ys its k H',Inv Y [(D,({ cls:=.type "list",data:=.seq (its:List Value).toArray k }:Obj))] (bst own.length idx σ) H' s'∧tn i s'.heap∧(∀ b∈fp,H' b = none)∧Vals ys its∧ys.length≤sizeLine∧W i n ys H') ?_ m0
   ⟨0,[],[],0,H2,pinD I4 (keep34 _ _ hD3) nD (fun v z=>nomatch z),T.keep _ _ _ st2 fun b _ o e=>keep34 _ _ (keep23 _ _ e),fun b hb=>(f2 b hb).1,.nil,Nat.zero_le _,w0⟩
  rintro n s' ⟨i,ys,its,k,H',I',st',fr',hv,hz,w'⟩
  have pD:=I'.pin _ (List.mem_append_right _ List.mem_cons_self)
  rcases turn i n ys H' w' with ⟨stop,hl,hR⟩ | ⟨go,hl,step⟩
  ·have z:=T.done Y Yp Yw YK Yc i _ s' _ H' (fun _ _=>False) I' (FO fr') st' stop
   rw [YA] at z
   refine thn z fun r s5 ⟨hr,I5⟩=>?_
   subst hr
   have pD5:=I5.pin _ (List.mem_append_right _ List.mem_cons_self)
   have I5':=I5
   rw [← hY] at I5'
   have E:=zb2 I3 I5' (fun b hb=>f2 b hb) okD pD5.2.1 hv hl pD5.1
   obtain ⟨m5,hm5,_⟩:=I5.loc
   rw [YL] at hm5
   have nL:H' s3.heap.objs.size = none:=by rw [← YL]; exact I5.free
   have nL':upd H' D (.lst ys) s3.heap.objs.size = none:=by rw [zw (by rw [← YL]; exact Ne.symm nDY)]; exact nL
   exact hq ys H' s5 _ D m5 hR pD5.2.1 E hm5 nL' (I3.fpOk (Nat.le_refl _) nL')
  ·have z:=T.item Y Yp Yw YK Yc i _ s' _ H' (fun _ _=>False) I' (FO fr') st' go
   rw [YA] at z
   refine thn z fun r s5 ⟨u,hr,h5⟩=>?_
   subst hr
   refine thn h5 fun _ s6 ⟨x,H6,I6,r6,y6,st6,fr6⟩=>?_
   have I6':=I6.pinned (FO fr6) (T.obj _ _ st6)
   have z7:=hbY.1 _ s6 _ H6 x u _ I6' r6 (hg _ _ _ _ (step x H6 y6))
   rw [Yp,Yw,YA,Yx] at z7
   refine thn z7 fun _ s7 ⟨σ7,H7,I7,q7,d7,l7⟩=>?_
   have z8:=hbY.2.1 _ s7 σ7 H7 _ I7 q7
   rw [Yp,Yw,YA,Yx] at z8
   refine thn z8 fun ok s8 ⟨H8,I8,q8⟩=>?_
   have tnK:∀ {σ9:St} {H9:Hp} {s9:Shared},Inv Y ([(D,({ cls:=.type "list",data:=.seq its.toArray k }:Obj))] ++ pinsAt fp s6.heap) σ9 H9 s9→tn (i + 1) s9.heap∧∀ b∈fp,H9 b = none:=fun I9 =>
    ⟨T.keep _ _ _ st6 fun b hb o e=>(I9.pin (b,o) (List.mem_append_right _ (List.mem_append_right _ (xa hb e)))).1,fun b hb=>by
     obtain ⟨o,e,d⟩:=T.obj _ _ st6 b hb
     exact (I9.pin (b,o) (List.mem_append_right _ (List.mem_append_right _ (xa hb e)))).2.1⟩
   cases ok with
   | false =>
    rw [if_neg Bool.false_ne_true] at q8 ⊢
    obtain ⟨m',hm,w8⟩:=q8
    obtain ⟨t8,n8⟩:=tnK I8
    exact ⟨m',hm,i + 1,ys,its,k,H8,I8.unpinned.weak l7.symm (Zd d7),t8,n8,hv,hz,w8⟩
   | true =>
    rw [if_pos rfl] at q8 ⊢
    have z9:=hbY.2.2 _ s8 σ7 H8 _ I8 q8
    rw [Yp,Yw,YA,Yx] at z9
    refine thn z9 fun y s9 ⟨v9,H9,I9,r9,m',hm,w9⟩=>?_
    obtain ⟨t9,n9⟩:=tnK I9
    have pD9:=I9.pin (D,{ cls:=.type "list",data:=.seq its.toArray k }) (List.mem_append_right _ (List.mem_append_left _ List.mem_cons_self))
    refine append_at pD9.1 (fun h10 sb hD10=>?_) (by rw [List.size_toArray,← hv.length]; exact Nat.le_of_lt hl)
    have I9a:Inv Y [] σ7 H9 s9:=I9.pins_of fun p hp=>nomatch hp
    have I10:Inv Y [] σ7 H9 { s9 with heap:=h10 }:=I9a.turned (t':=s9.toks) (it:=D) (fun b o hb e=>sb.extBut b o hb e) pD9.2.1 nDY (.inl (by rw [Yex]; exact List.mem_cons_self)) (okY.exf D (by rw [Yex]; exact List.mem_cons_self)).2 (fun p hp=>by
     rw [List.append_nil] at hp
     exact pnD p hp)
    refine ⟨m',hm,i + 1,ys ++ [v9],its ++ [y],k + 1,H9,pinD (I10.weak l7.symm (Zd d7)) ?_ pD9.2.1 (fun v z=>nomatch z),?_,n9,hv.append (.cons r9 .nil),?_,w9⟩
    ·show h10.get? D = _
     rw [hD10,List.push_toArray]
    ·exact T.keep _ _ _ t9 fun b hb o e=>sb.extBut b o (Nat.ne_of_lt (ltfp b hb)) e
    ·rw [List.length_append,List.length_singleton]; exact hl
 have goal:codeAny (model X.prog X.w) X.A (.compStart (.ListComp elt [⟨tg,iter,ifs,0⟩] scope pos) 0 (.ref it) (.ref D) Y.env) (compPost (model X.prog X.w) X.A X.xe use Q (.ref D) s3.heap.objs.size) s4 :=
  codeAny_compStart_list loop (T.self X.A 0 s4 _ _ (T.keep _ _ _ st2 fun b _ o e=>keep34 _ _ (keep23 _ _ e)) loop)
 rw [← hY] at goal
 have hsz:({ s3 with heap:=s3.heap.push { cls:=.type "dict",data:=.dict #[] } }:Shared).heap.objs.size = s3.heap.objs.size + 1:=Heap.size_push ..
 rw [hsz]
 first
  | exact goal
  | (rw [← hs4] at goal; exact goal)
end
noncomputable def tComp (own:Nat) (idx:List Nat) (wi:TI) (g:TG) (tt:TT) (te:TE):TE:=fun σ H Q=>tCompW own idx wi g tt te (fun ys H'=>∀ p,H' p = none→Q (.ref p) (upd H' p (.lst ys))) σ H
section
variable {X:Cx} {scope:Scope}
theorem Qh {elt tg iter:Expr} {ifs:List Expr} {pos:Pos} {wi:TI} {g:TG} {tt:TT} {te:TE} (own fre:List Str) (idx:List Nat) (B:BlkOk X own fre idx scope) (hc:X.calm = true) (hi:PI X tg iter wi) (hg:GOwn own.length g)
  (hb:∀ (L:Addr) (cells:List (Str×Addr)) (s₀:Shared) (H₀:Hp) (ex:List Addr) (pn:List (Addr×Obj)),PG (blk X own fre scope L cells s₀ H₀ ex pn) tg g∧PTs (blk X own fre scope L cells s₀ H₀ ex pn) ifs tt∧PE (blk X own fre scope L cells s₀ H₀ ex pn) elt te)
  (hs:∀ x,foldedSetIterable iter X.env x = pure x:=by intro _; rfl):PE X (.ListComp elt [⟨tg,iter,ifs,0⟩] scope pos) (tComp own.length idx wi g tt te):=by
 intro pins s σ H Q I h
 rw [eval_ListComp]
 refine QL (use:=none) B hc hi hg hb hs I h fun ys H' s' L D m hR hD I' hn nL fL=>?_
 refine ⟨m,hn,fun h' hs'=>?_⟩
 obtain ⟨f0,f1,f2,f3,f4,f5⟩:=fL
 exact ⟨.ref D,_,I'.turned (t':=s'.toks) (it:=L) (fun b o hb e=>hs'.extBut b o hb e) f0 f1 f3 f4 f5,rfl,hR D hD⟩
noncomputable def tAsgC (own:Nat) (idx:List Nat) (wi:TI) (g:TG) (tt:TT) (te:TE) (i:Nat):TS:=fun D σ H=>tCompW own idx wi g tt te (fun ys H'=>∀ p,H' p = none→D.nx (σ.set i (some (.ref p))) (upd H' p (.lst ys))) σ H
theorem zf0 {elt tg iter:Expr} {ifs:List Expr} {pos pos' spos:Pos} {wi:TI} {g:TG} {tt:TT} {te:TE} {i:Nat} {x:Str} (hN:X.N.Nodup) (hi':X.N[i]? = some x) (hx:X.env.scope.names.lookup x = some .local) (own fre:List Str) (idx:List Nat) (B:BlkOk X own fre idx scope) (hc:X.calm = true) (hi:PI X tg iter wi) (hg:GOwn own.length g)
  (hb:∀ (L:Addr) (cells:List (Str×Addr)) (s₀:Shared) (H₀:Hp) (ex:List Addr) (pn:List (Addr×Obj)),PG (blk X own fre scope L cells s₀ H₀ ex pn) tg g∧PTs (blk X own fre scope L cells s₀ H₀ ex pn) ifs tt∧PE (blk X own fre scope L cells s₀ H₀ ex pn) elt te)
  (hsw:swapsWith (.ListComp elt [⟨tg,iter,ifs,0⟩] scope pos) (some (.Name x pos')) spos.line X.env = pure true:=by rfl)
  (hs:∀ x,foldedSetIterable iter X.env x = pure x:=by intro _; rfl):PS X (.Assign [.Name x pos'] (.ListComp elt [⟨tg,iter,ifs,0⟩] scope pos) spos) (tAsgC own.length idx wi g tt te i):=by
 intro pins s σ H D I h
 rw [exec_Assign_Name_used _ _ _ _ hsw]
 refine wpAny_bind (wpAny_standAt (wpAny_bind ?_))
 show wpAny _ X.A (do let _ ← comprehension (.ListComp elt [⟨tg,iter,ifs,0⟩] scope pos) scope X.env _ (newList []) false (eval iter X.env) (some (assign (.Name x pos') X.env))) _ _ s
 refine wpAny_bind (wpAny_mono (QL (use:=some (assign (.Name x pos') X.env)) (Q:=fun _ s'=>SP X pins D .next s') B hc hi hg hb hs I h fun ys H' s' L Da m hR hD I' hn nL fL=>?_) (fun _ s' hq=>wpAny_pure (wpAny_pure hq)) fun _ _ e=>e)
 obtain ⟨f0,f1,f2,f3,f4,f5⟩:=fL
 show wpAny _ X.A (assign (.Name x pos') X.env (.ref Da)) _ _ _
 refine wpAny_assign_Name (ZL I' hN hi' (.inl hx) (show RelV (.ref Da) (.ref Da) from rfl) (fun s2 I2 ⟨a,sb,ha⟩=>?_) (.inr hx))
 have hLa:L≠a:=by
  rcases ha with rfl | ha
  ·exact f1
  ·exact Ne.symm (f4 x a ha)
 refine ⟨m,hn.sameBut sb hLa,fun h' hs'=>?_⟩
 exact ⟨_,_,I2.turned (t':=s2.toks) (it:=L) (fun b o hb e=>hs'.extBut b o hb e) f0 f1 f3 f4 f5,hR Da hD⟩
end
end L2
namespace L2
open PySem PySem.Spec PyProof.Rows
mutual
noncomputable def Rp (H:Hp):PyData→V→Prop
 | .none,v=>v = .non
 | .bool b,v=>v = .bl b
 | .int i,v=>v = .int i
 | .str x,v=>v = .str x
 | .list ds,v=>∃ a xs,v = .ref a∧H a = some (.lst xs)∧Rps H ds xs
 | .tuple ds,v=>∃ a xs,v = .ref a∧H a = some (.tup xs)∧Rps H ds xs
 | .dict _,_=>False
noncomputable def Rps (H:Hp):List PyData→List V→Prop
 | [],xs=>xs = []
 | d :: ds,xs=>∃ x r,xs = x :: r∧Rp H d x∧Rps H ds r
end
mutual
theorem Rp.mono {H H':Hp} (g:Same H H'):∀ (d:PyData) (v:V),Rp H d v→Rp H' d v
 | .none,_,h=>by simpa only [Rp] using h
 | .bool _,_,h=>by simpa only [Rp] using h
 | .int _,_,h=>by simpa only [Rp] using h
 | .str _,_,h=>by simpa only [Rp] using h
 | .list ds,v,h=>by
  simp only [Rp] at h ⊢
  obtain ⟨a,xs,e,h1,h2⟩:=h
  exact ⟨a,xs,e,g _ _ h1,Rps.mono g ds xs h2⟩
 | .tuple ds,v,h=>by
  simp only [Rp] at h ⊢
  obtain ⟨a,xs,e,h1,h2⟩:=h
  exact ⟨a,xs,e,g _ _ h1,Rps.mono g ds xs h2⟩
 | .dict _,_,h=>by simp only [Rp] at h
theorem Rps.mono {H H':Hp} (g:Same H H'):∀ (ds:List PyData) (xs:List V),Rps H ds xs→Rps H' ds xs
 | [],xs,h=>by simpa only [Rps] using h
 | d :: ds,xs,h=>by
  simp only [Rps] at h ⊢
  obtain ⟨x,r,e,h1,h2⟩:=h
  exact ⟨x,r,e,Rp.mono g d x h1,Rps.mono g ds r h2⟩
end
section
variable {X:Cx} {pins:List (Addr×Obj)} {σ:St} {H:Hp} {s:Shared}
mutual
theorem Rp.reads (I:Inv X pins σ H s):∀ (d:PyData) (v:V) (u:Value),Rp H d v→RelV v u→∃ as,Reads s.heap u d as
 | .none,v,u,h,r=>by
  simp only [Rp] at h
  subst h
  cases (show u = Value.none from r)
  exact ⟨_,.none⟩
 | .bool b,v,u,h,r=>by
  simp only [Rp] at h
  subst h
  cases (show u = Value.bool b from r)
  exact ⟨_,.bool b⟩
 | .int i,v,u,h,r=>by
  simp only [Rp] at h
  subst h
  obtain ⟨t,e⟩:=(show ∃ t,u = Value.int i t from r)
  subst e
  exact ⟨_,.int i t⟩
 | .str x,v,u,h,r=>by
  simp only [Rp] at h
  subst h
  obtain ⟨t,e⟩:=(show ∃ t,u = Value.str x t from r)
  subst e
  exact ⟨_,.str x t⟩
 | .list ds,v,u,h,r=>by
  simp only [Rp] at h
  obtain ⟨a,xs,e,h1,h2⟩:=h
  subst e
  cases (show u = Value.ref a from r)
  obtain ⟨_,its,n,hv,hg⟩:=(show ObjOk X.prog X.w H s.heap a (.lst xs) from I.hok a _ h1)
  obtain ⟨as,q⟩:=Rps.reads I ds xs its h2 hv
  exact ⟨_,.list hg rfl rfl q⟩
 | .tuple ds,v,u,h,r=>by
  simp only [Rp] at h
  obtain ⟨a,xs,e,h1,h2⟩:=h
  subst e
  cases (show u = Value.ref a from r)
  obtain ⟨_,its,hv,o,hg,hc,n,hd⟩:=(show ObjOk X.prog X.w H s.heap a (.tup xs) from I.hok a _ h1)
  obtain ⟨as,q⟩:=Rps.reads I ds xs its h2 hv
  exact ⟨_,.tuple hg hc hd q⟩
 | .dict _,v,u,h,r=>by simp only [Rp] at h
theorem Rps.reads (I:Inv X pins σ H s):∀ (ds:List PyData) (xs:List V) (us:List Value),Rps H ds xs→Vals xs us→∃ as,ReadsAll s.heap us ds as
 | [],xs,us,h,r=>by
  simp only [Rps] at h
  subst h
  cases r
  exact ⟨_,.nil⟩
 | d :: ds,xs,us,h,r=>by
  simp only [Rps] at h
  obtain ⟨x,rr,e,h1,h2⟩:=h
  subst e
  cases r with
  | cons r1 r2 =>
   obtain ⟨as,q1⟩:=Rp.reads I d x _ h1 r1
   obtain ⟨bs,q2⟩:=Rps.reads I ds rr _ h2 r2
   exact ⟨_,.cons q1 q2⟩
end
noncomputable def rEqD (f:Bool→Bool):R2:=fun x y H Q=>∃ dx dy,Rp H dx x∧Rp H dy y∧dx.canLay0 = true∧dy.canLay0 = true∧min dx.depth dy.depth≤60∧Q (.bl (f (PyData.eqv dx dy))) H
theorem zbv {k:Nat} (hr:Room k X.A):OpR X (compareOp .Eq) (rEqD id):=by
 intro pins s σ H x y v u Q I rx ry h
 obtain ⟨dx,dy,h1,h2,l1,l2,hd,q⟩:=h
 obtain ⟨as,r1⟩:=Rp.reads I dx x v h1 rx
 obtain ⟨bs,r2⟩:=Rp.reads I dy y u h2 ry
 exact SeqAt.compareEq_reads r1 r2 l1 l2 (by have:=hr.units; omega) ⟨.bl _,H,I,rfl,q⟩
theorem zgj {k:Nat} (hr:Room k X.A):OpR X (compareOp .NotEq) (rEqD not):=by
 intro pins s σ H x y v u Q I rx ry h
 obtain ⟨dx,dy,h1,h2,l1,l2,hd,q⟩:=h
 obtain ⟨as,r1⟩:=Rp.reads I dx x v h1 rx
 obtain ⟨bs,r2⟩:=Rp.reads I dy y u h2 ry
 exact SeqAt.compareNe_reads r1 r2 l1 l2 (by have:=hr.units; omega) ⟨.bl _,H,I,rfl,q⟩
end
noncomputable def Itz (K:PySem.W.Frag) (a b:Addr):It :=
 ⟨fun i H=>∃ xs ys x y,SqL K H a xs∧SqL K H b ys∧xs[i]? = some x∧ys[i]? = some y,
   fun i H v H'=>∃ T x y,v = .ref T∧H T = none∧H' = upd H T (.tup [x,y])∧(∀ xs,SqL K H a xs→xs[i]? = some x)∧(∀ ys,SqL K H b ys→ys[i]? = some y),
   fun i H=>∃ xs ys,SqL K H a xs∧SqL K H b ys∧(xs.length≤i∨ys.length≤i)⟩
noncomputable def ZipAt (z TI TO i1 i2 a b:Addr) (i:Nat) (h:Heap):Prop:=IsZip h z TI TO .none∧IsPair h TI (.ref i1) (.ref i2)∧(∃ u v,IsPair h TO u v)∧h.IsListIter i1 a i∧h.IsListIter i2 b i
theorem zd9 {P:Program} {w:World} {K:PySem.W.Frag} {elts:List Expr} {k1:Nat} {pos:Pos} (z TI TO i1 i2 a b:Addr) (D:ZipApart z TI TO i1 i2 a b) :
  Turn P w K (.Tuple elts k1 pos) (Itz K a b) [z,TI,TO,i1,i2] z (ZipAt z TI TO i1 i2 a b) where
 mem:=by simp
 obj:=fun i h st c hc=>by
  obtain ⟨hz,hTI,⟨u,v,hTO⟩,⟨o1,e1,_,d1⟩,⟨o2,e2,_,d2⟩⟩:=st
  simp only [List.mem_cons,List.not_mem_nil,or_false] at hc
  rcases hc with rfl | rfl | rfl | rfl | rfl
  ·exact ⟨_,hz,fun v z=>nomatch z⟩
  ·exact ⟨_,hTI,fun v z=>nomatch z⟩
  ·exact ⟨_,hTO,fun v z=>nomatch z⟩
  ·exact ⟨o1,e1,fun v z=>by rw [d1] at z; cases z⟩
  ·exact ⟨o2,e2,fun v z=>by rw [d2] at z; cases z⟩
 keep:=fun i h h' st k=>by
  obtain ⟨hz,hTI,⟨u,v,hTO⟩,h1,h2⟩:=st
  exact ⟨k z (by simp) _ hz,k TI (by simp) _ hTI,⟨u,v,k TO (by simp) _ hTO⟩,h1.at fun o e=>k i1 (by simp) o e,h2.at fun o e=>k i2 (by simp) o e⟩
 item:=by
  intro X hP hw hK hc i pins s σ H E I hf st hg
  subst hP hw hK
  obtain ⟨hz,hTI,⟨u0,v0,hTO⟩,h1,h2⟩:=st
  obtain ⟨xs,ys,x,y,q1,q2,ex,ey⟩:=hg
  obtain ⟨its1,rv1,p1,_⟩:=I.list q1
  obtain ⟨its2,rv2,p2,_⟩:=I.list q2
  obtain ⟨u,hu,ru⟩:=rv1.get ex
  obtain ⟨u',hu',ru'⟩:=rv2.get ey
  refine wpAny_pyNext_zip_item D hz hTI hTO h1 h2 p1.isList p2.isList (x:=u) (y:=u') (by simpa using hu) (by simpa using hu') fun h' z' TO' i1' i2' T' sz keep=>?_
  refine ⟨_,rfl,wpAny_letOwnedTupleGo_zip (s:={ s with heap:=h' }) z' fun h'' z'' sb=>?_⟩
  have hlt:∀ c o,s.heap.get? c = some o→c < s.heap.objs.size:=fun c o e=>Heap.lt_size e
  have zlt:=hlt _ _ hz
  have TOlt:=hlt _ _ hTO
  have TIlt:=hlt _ _ hTI
  have i1lt:i1 < s.heap.objs.size:=let ⟨o,e,_⟩:=h1; hlt _ _ e
  have i2lt:i2 < s.heap.objs.size:=let ⟨o,e,_⟩:=h2; hlt _ _ e
  have fz:=hf z (by simp)
  have fTO:=hf TO (by simp)
  have f1:=hf i1 (by simp)
  have f2:=hf i2 (by simp)
  have nT:H s.heap.objs.size = none:=I.fresh
  have keep2:∀ c o,c≠z→c≠TO→c≠i1→c≠i2→s.heap.get? c = some o→h''.get? c = some o:=fun c o c1 c2 c3 c4 e=>sb.extBut c o c1 (keep c o c1 c2 c3 c4 e)
  have hT:h''.get? s.heap.objs.size = some { cls:=.type "tuple",data:=.seq #[u,u'] }:=sb.extBut _ _ (Nat.ne_of_gt zlt) T'
  have TOK:IsTup h'' s.heap.objs.size [u,u'].toArray:=⟨_,hT,rfl,_,rfl⟩
  refine ⟨.ref s.heap.objs.size,upd H s.heap.objs.size (.tup [x,y]),?_,rfl,⟨_,x,y,rfl,nT,rfl,fun zs h=>by rw [I.list_inj h q1]; exact ex,fun zs h=>by rw [I.list_inj h q2]; exact ey⟩,⟨z'',?_,⟨u,u',?_⟩,?_,?_⟩,?_⟩
  ·have nch:∀ c,H c≠none→c≠z∧c≠TO∧c≠i1∧c≠i2:=fun c hc=>⟨fun e=>hc (by rw [e]; exact fz.1),fun e=>hc (by rw [e]; exact fTO.1),fun e=>hc (by rw [e]; exact f1.1),fun e=>hc (by rw [e]; exact f2.1)⟩
   refine Inv.step (s:=s) (g':=s.gens) (d':=s.drawn) (t':=s.toks) (ch:=[z,TO,i1,i2]) (h':=h'') I (fun b hb=>?_) (fun b o _ _ hc e _=>?_) (fun b o _ _ hc e _=>⟨o.slots,?_⟩) (fun b o _ e n=>?_) (fun b o hc e=>⟨o,?_⟩) (fun b xs e=>?_) (fun b o v e=>?_) (fun b ps e=>⟨#[],?_⟩) (fun m hm=>?_) (fun b o e=>?_) I.bare
   ·simp only [List.mem_cons,List.not_mem_nil,or_false] at hb
    rcases hb with rfl | rfl | rfl | rfl
    ·exact ⟨fz.2.2.2.1,fz.2.1,fz.2.2.2.2.1,fz.2.2.2.2.2⟩
    ·exact ⟨fTO.2.2.2.1,fTO.2.1,fTO.2.2.2.2.1,fTO.2.2.2.2.2⟩
    ·exact ⟨f1.2.2.2.1,f1.2.1,f1.2.2.2.2.1,f1.2.2.2.2.2⟩
    ·exact ⟨f2.2.2.2.1,f2.2.1,f2.2.2.2.2.1,f2.2.2.2.2.2⟩
   ·simp only [List.mem_cons,List.not_mem_nil,or_false,not_or] at hc
    exact keep2 b o hc.1 hc.2.1 hc.2.2.1 hc.2.2.2 e
   ·simp only [List.mem_cons,List.not_mem_nil,or_false,not_or] at hc
    exact keep2 b o hc.1 hc.2.1 hc.2.2.1 hc.2.2.2 e
   ·rw [zw (Nat.ne_of_lt (Heap.lt_size e))]; exact n
   ·simp only [List.mem_cons,List.not_mem_nil,or_false,not_or] at hc
    exact keep2 b o hc.1 hc.2.1 hc.2.2.1 hc.2.2.2 e
   ·rw [zw (zB e nT)]; exact e
   ·rw [zw (zB e nT)]; exact e
   ·rw [zw (zB e nT)]; simpa using e
   ·obtain ⟨o,es,ep,ho,r⟩:=hm
    exact ⟨o,es,ep,keep2 _ o (Ne.symm fz.2.1) (Ne.symm fTO.2.1) (Ne.symm f1.2.1) (Ne.symm f2.2.1) ho,r⟩
   ·by_cases hb:b = s.heap.objs.size
    ·subst hb
     rw [zf] at e
     cases e
     exact ⟨by show 2≤sizeLine; decide,[u,u'],.cons ru (.cons ru' .nil),TOK⟩
    ·rw [zw hb] at e
     refine (I.hok b o e).stay (fun c v hc q=>?_) (fun c q=>by rw [zw (zB q nT)]; exact q) fun c xs q=>by rw [zw (zB q nT)]; exact q
     have hne:H c≠none:=by
      rcases hc with rfl | hc
      ·rw [e]; exact fun z=>nomatch z
      ·rw [hc]; exact fun z=>nomatch z
     obtain ⟨c1,c2,c3,c4⟩:=nch c hne
     exact keep2 c v c1 c2 c3 c4 q
  ·exact sb.extBut _ _ D.TIz (keep _ _ D.TIz D.TITO D.TIi1 D.TIi2 hTI)
  ·exact sb.extBut _ _ D.TOz TO'
  ·exact i1'.at fun o e=>sb.extBut _ _ D.i1z e
  ·exact i2'.at fun o e=>sb.extBut _ _ D.i2z e
  ·intro b hb
   rw [zw ?_]
   ·exact (hf b hb).1
   ·simp only [List.mem_cons,List.not_mem_nil,or_false] at hb
    rcases hb with rfl | rfl | rfl | rfl | rfl
    ·exact Nat.ne_of_lt zlt
    ·exact Nat.ne_of_lt TIlt
    ·exact Nat.ne_of_lt TOlt
    ·exact Nat.ne_of_lt i1lt
    ·exact Nat.ne_of_lt i2lt
 done:=by
  intro X hP hw hK hc i pins s σ H E I hf st hg
  subst hP hw hK
  obtain ⟨hz,hTI,⟨u0,v0,hTO⟩,h1,h2⟩:=st
  obtain ⟨xs,ys,q1,q2,hx⟩:=hg
  obtain ⟨its1,rv1,p1,_⟩:=I.list q1
  obtain ⟨its2,rv2,p2,_⟩:=I.list q2
  have l1:=rv1.length
  have l2:=rv2.length
  have fz:=hf z (by simp)
  have fTO:=hf TO (by simp)
  have f1:=hf i1 (by simp)
  have f2:=hf i2 (by simp)
  refine wpAny_pyNext_zip_end (I.ok.hd hc) D hz hTI hTO h1 h2 p1.isList p2.isList (by
   rcases hx with hx | hx
   ·exact .inl (by simp; omega)
   ·exact .inr (by simp; omega)) fun h' keep=>⟨rfl,?_⟩
  have nch:∀ c,H c≠none→c≠z∧c≠TO∧c≠i1∧c≠i2:=fun c hc=>⟨fun e=>hc (by rw [e]; exact fz.1),fun e=>hc (by rw [e]; exact fTO.1),fun e=>hc (by rw [e]; exact f1.1),fun e=>hc (by rw [e]; exact f2.1)⟩
  refine Inv.step (s:=s) (g':=s.gens) (d':=s.drawn) (t':=s.toks) (ch:=[z,TO,i1,i2]) (h':=h') I (fun b hb=>?_) (fun b o _ _ hc e _=>?_) (fun b o _ _ hc e _=>⟨o.slots,?_⟩) (fun b o _ e n=>n) (fun b o hc e=>⟨o,?_⟩) (fun b xs e=>e) (fun b o v e=>e) (fun b ps e=>⟨#[],by simpa using e⟩) (fun m hm=>?_) (fun b o e=>?_) I.bare
  ·simp only [List.mem_cons,List.not_mem_nil,or_false] at hb
   rcases hb with rfl | rfl | rfl | rfl
   ·exact ⟨fz.2.2.2.1,fz.2.1,fz.2.2.2.2.1,fz.2.2.2.2.2⟩
   ·exact ⟨fTO.2.2.2.1,fTO.2.1,fTO.2.2.2.2.1,fTO.2.2.2.2.2⟩
   ·exact ⟨f1.2.2.2.1,f1.2.1,f1.2.2.2.2.1,f1.2.2.2.2.2⟩
   ·exact ⟨f2.2.2.2.1,f2.2.1,f2.2.2.2.2.1,f2.2.2.2.2.2⟩
  ·simp only [List.mem_cons,List.not_mem_nil,or_false,not_or] at hc
   exact keep b o hc.1 hc.2.1 hc.2.2.1 hc.2.2.2 e
  ·simp only [List.mem_cons,List.not_mem_nil,or_false,not_or] at hc
   exact keep b o hc.1 hc.2.1 hc.2.2.1 hc.2.2.2 e
  ·simp only [List.mem_cons,List.not_mem_nil,or_false,not_or] at hc
   exact keep b o hc.1 hc.2.1 hc.2.2.1 hc.2.2.2 e
  ·obtain ⟨o,es,ep,ho,r⟩:=hm
   exact ⟨o,es,ep,keep _ o (Ne.symm fz.2.1) (Ne.symm fTO.2.1) (Ne.symm f1.2.1) (Ne.symm f2.2.1) ho,r⟩
  ·refine (I.hok b o e).stay (fun c v hc q=>?_) (fun c q=>q) fun c xs q=>q
   have hne:H c≠none:=by
    rcases hc with rfl | hc
    ·rw [e]; exact fun z=>nomatch z
    ·rw [hc]; exact fun z=>nomatch z
   obtain ⟨c1,c2,c3,c4⟩:=nch c hne
   exact keep c v c1 c2 c3 c4 q
 self:=fun _ _ _ _ _ st h=>wpAny_pyIter_zip st.1 h
section
variable {X:Cx}
noncomputable def iZip (K:PySem.W.Frag) (ta:TA):TI:=fun σ H R=>ta σ H fun vs H1=>∃ a b xs ys,vs = [.ref a,.ref b]∧SqL K H1 a xs∧SqL K H1 b ys∧R (Itz K a b) H1
theorem zgq {a b:Expr} {ta:TA} {p pos:Pos} {elts:List Expr} {k1:Nat} {tpos:Pos} (hg:Gl X "zip") (hm:X.mg "zip" = none) (ha:PA X [a,b] ta) (hs:starEach [a,b] X.env = [(false,eval a X.env),(false,eval b X.env)]:=by rfl) (hs2:starEach [b] X.env = [(false,eval b X.env)]:=by rfl) :
  PI X (.Tuple elts k1 tpos) (.Call (.Name "zip" p) [a,b] [] pos) (iZip X.K ta):=by
 intro pins s σ H R I h
 refine wpAny_Call_Name_kw (Yi I hg hm zgp ?_)
 refine PyProof.Rows.callWith_type1 (thn (ha pos pins s σ H _ I h) fun us s1 ⟨vs,H1,I1,r1,q1⟩=>?_) (by rw [hs,hs2]) (by rw [hs2]; rfl)
 obtain ⟨a1,b1,xs,ys,rfl,h1,h2,q⟩:=q1
 obtain ⟨u,w',rfl,ra,rb⟩:=Vals.two r1
 cases ra
 cases rb
 obtain ⟨its1,rv1,p1,_⟩:=I1.list h1
 obtain ⟨its2,rv2,p2,_⟩:=I1.list h2
 have l1:a1 < s1.heap.objs.size:=let ⟨_,e,_⟩:=p1.isList; Heap.lt_size e
 have l2:b1 < s1.heap.objs.size:=let ⟨_,e,_⟩:=p2.isList; Heap.lt_size e
 refine call_zip_2 p1.isList p2.isList fun h' hz hTI hTO hi1 hi2 hsz keep=>?_
 have I2:Inv X pins σ H1 { s1 with heap:=h' }:=I1.kept (t':=s1.toks) keep
 refine wpAny_pyIter_zip (s:={ s1 with heap:=h' }) hz ?_
 refine ⟨_,_,_,_,H1,rfl,I2,zd9 _ _ _ _ _ a1 b1 (zipApart_new l1 l2),⟨hz,hTI,⟨_,_,hTO⟩,hi1,hi2⟩,fun b hb=>?_,q⟩
 have hb':s1.heap.objs.size≤b:=by
  simp only [List.mem_cons,List.not_mem_nil,or_false] at hb
  rcases hb with rfl | rfl | rfl | rfl | rfl <;> omega
 exact I1.fpOk hb' (I1.hok.fresh hb')
theorem Zk (ns:List Int):∀ j,j≤ns.length→preSum (fun i=>ns.getD i 0) j = (ns.take j).sum
 | 0,_=>by simp [preSum]
 | j + 1,h=>by
  have hj:j < ns.length:=h
  rw [preSum,Zk ns j (Nat.le_of_lt hj),List.take_succ_eq_append_getElem hj,List.sum_append]
  simp [List.getD,hj]
theorem zcc (hc:X.calm = true):CallR X (.builtin "sum") (fun xs H Q=>∃ p ns,xs = [.ref p]∧SqL X.K H p ((ns:List Int).map V.int)∧Q (.int ns.sum) H):=by
 intro pins s σ H xs us Q I r h
 obtain ⟨p,ns,rfl,hq,q⟩:=h
 obtain ⟨u,rfl,ru⟩:=Vals.one r
 cases ru
 obtain ⟨its,rv,pl,_⟩:=I.list hq
 have hh:X.A.in1.handled = none:=I.ok.hd hc
 have lt:p < s.heap.objs.size:=let ⟨_,e,_⟩:=pl.isList; Heap.lt_size e
 have hl:its.length = ns.length:=by rw [← rv.length,List.length_map]
 refine call_sum_walkG (wpAny_pyIter_list pl.isList ?_)
 refine ⟨s.heap.objs.size,_,_,_,_,_,fun i=>ns.getD i 0,rfl,Walks.list hh s.heap.objs.size p (Nat.ne_of_lt lt) its.toArray,⟨⟨_,Heap.get?_push_size _ rfl,rfl,rfl⟩,pl.isList.at fun o e=>Heap.get?_push_of_some _ e⟩,fun b hb=>?_,fun i v hv=>?_,fun h' tk t' keep=>?_⟩
 ·simp only [List.mem_cons,List.not_mem_nil,or_false] at hb
  rcases hb with rfl | rfl
  ·rw [Heap.size_push]; exact Nat.lt_succ_self _
  ·rw [Heap.size_push]; exact Nat.lt_succ_of_lt lt
 ·have hv':its[i]? = some v:=by simpa using hv
  have hi:i < ns.length:=by rw [← hl]; exact (List.getElem?_eq_some_iff.mp hv').1
  obtain ⟨u,hu,ru⟩:=rv.get (i:=i) (x:=.int ns[i]) (by rw [List.getElem?_map,List.getElem?_eq_getElem hi]; rfl)
  rw [hu] at hv'
  cases hv'
  obtain ⟨t,e⟩:=ru
  refine ⟨t,?_⟩
  rw [e]
  simp [List.getD,hi]
 ·have e:preSum (fun i=>ns.getD i 0) its.toArray.size = ns.sum:=by
   rw [List.size_toArray,hl,Zk ns _ (Nat.le_refl _),List.take_length]
  rw [e]
  refine ⟨.int ns.sum,H,?_,⟨t',rfl⟩,q⟩
  exact I.kept (h':=h') (t':=tk) fun b o eb=>keep b o (by simp only [List.mem_cons,List.not_mem_nil,or_false]; exact Nat.ne_of_lt (Heap.lt_size eb)) (Heap.get?_push_of_some _ eb)
end
end L2
namespace Nm
inductive Nb where
 | q (r:Rat)
 | z (i:Int)
 deriving DecidableEq
noncomputable def Nb.ok (k:Int):Nb→Prop
 | .q _=>k = 0
 | .z i=>k≠0∧0≤i∧i < k
noncomputable def zinv (k b:Int):Int:=(((List.range k.toNat).find? fun (x:Nat)=>decide (k ∣ (x:Int) * b - 1)).getD 0:Nat)
theorem zbb {k b x y:Int} (hx0:0≤x) (hx:x < k) (hy0:0≤y) (hy:y < k) (h1:k ∣ x * b - 1) (h2:k ∣ y * b - 1):x = y:=by
 have h:k ∣ x - y:=by
  have e:x - y = y * (x * b - 1) - x * (y * b - 1):=by grind
  rw [e]
  exact Int.dvd_sub (Int.dvd_mul_of_dvd_right h1) (Int.dvd_mul_of_dvd_right h2)
 obtain ⟨c,hc⟩:=h
 rcases Int.lt_or_le c 0 with h | h
 ·have:k * c≤k * (-1):=Int.mul_le_mul_of_nonneg_left (by omega) (by omega)
  omega
 ·rcases Int.lt_or_le 0 c with h' | h'
  ·have:k * 1≤k * c:=Int.mul_le_mul_of_nonneg_left (by omega) (by omega)
   omega
  ·have:c = 0:=by omega
   rw [this,Int.mul_zero] at hc
   omega
theorem zbT {k b x:Int} (h0:0≤x) (h1:x < k) (h:k ∣ x * b - 1):zinv k b = x:=by
 unfold zinv
 cases e:(List.range k.toNat).find? fun (x:Nat)=>decide (k ∣ (x:Int) * b - 1) with
 | none =>
  rw [List.find?_eq_none] at e
  have:=e x.toNat (by rw [List.mem_range]; omega)
  rw [show ((x.toNat:Nat):Int) = x by omega] at this
  simp [h] at this
 | some y =>
  have hm:=List.mem_of_find?_eq_some e
  rw [List.mem_range] at hm
  have hp:=List.find?_some e
  have hp':k ∣ (y:Int) * b - 1:=by simpa using hp
  show ((y:Nat):Int) = x
  exact zbb (Int.natCast_nonneg y) (by omega) h0 h1 hp' h
theorem ze0 {p r:Int} (hp:0 < p):∀ (n:Nat) (l g ml mg:Int),g.toNat < n→OvInv p r l g ml mg→∃ x,0≤x∧x < p∧p ∣ x * r - 1
 | 0,_,_,_,_,h,_=>absurd h (Nat.not_lt_zero _)
 | n + 1,l,g,ml,mg,h,I=>by
  by_cases z:g = 0
  ·subst z
   exact ⟨ml % p,Int.emod_nonneg _ (by omega),Int.emod_lt_of_pos _ hp,zeY I hp⟩
  ·exact ze0 hp n _ _ _ _ (Nat.lt_of_lt_of_le (zbS I.g0 z) (by omega)) (zbO I z)
theorem Yj {k b:Int} (h:Pr k) (h0:0 < b) (h1:b < k):∃ x,0≤x∧x < k∧k ∣ x * b - 1 :=
 ze0 (by have:=h.lo; omega) _ _ _ _ _ (Nat.lt_succ_self _) (zat h h0 h1)
noncomputable def nnum (k w:Int):Nb:=if k = 0 then .q (w:Rat) else .z (w.fmod k)
noncomputable def nadd (k:Int):Nb→Nb→Nb
 | .q a,.q b=>.q (a + b)
 | .z a,.z b=>.z ((a + b).fmod k)
 | _,_=>.z 0
noncomputable def nsub (k:Int):Nb→Nb→Nb
 | .q a,.q b=>.q (a - b)
 | .z a,.z b=>.z ((a - b).fmod k)
 | _,_=>.z 0
noncomputable def nmul (k:Int):Nb→Nb→Nb
 | .q a,.q b=>.q (a * b)
 | .z a,.z b=>.z ((a * b).fmod k)
 | _,_=>.z 0
noncomputable def ndiv (k:Int):Nb→Nb→Nb
 | .q a,.q b=>.q (a / b)
 | .z a,.z b=>.z ((a * zinv k b).fmod k)
 | _,_=>.z 0
theorem XL (k a:Int):k ∣ a.fmod k - a:=by
 rw [Int.fmod_def]
 refine ⟨-(a.fdiv k),?_⟩
 grind
theorem JJ (r:Rat):(r.den:Int)≠0:=by have:=r.den_nz; omega
theorem den_pos (r:Rat):0 < (r.den:Int):=by have:=r.den_pos; omega
theorem zg1 {r:Rat} (h:r≠0):r.num≠0:=fun z=>h (Rat.num_eq_zero.mp z)
end Nm
namespace L2
open PySem PySem.Spec PyProof.Rows Nm
noncomputable def toD:Nb→PyData
 | .q r=>.tuple [.int r.num,.int (r.den:Int)]
 | .z i=>.int i
noncomputable def RN (H:Hp) (x:Nb) (v:V):Prop:=Rp H (toD x) v
theorem RN.q {H:Hp} {r:Rat} {v:V} (h:RN H (.q r) v):∃ a,v = .ref a∧H a = some (.tup [.int r.num,.int (r.den:Int)]):=by
 simp only [RN,toD,Rp,Rps] at h
 obtain ⟨a,xs,e,h1,x,r1,e1,e2,y,r2,e3,e4,e5⟩:=h
 subst e5 e4 e3 e2 e1
 exact ⟨a,e,h1⟩
theorem RN.of_q {H:Hp} {r:Rat} {a:Addr} (h:H a = some (.tup [.int r.num,.int (r.den:Int)])):RN H (.q r) (.ref a):=by
 simp only [RN,toD,Rp,Rps]
 exact ⟨a,_,rfl,h,_,_,rfl,rfl,_,_,rfl,rfl,rfl⟩
theorem RN.z {H:Hp} {i:Int} {v:V} (h:RN H (.z i) v):v = .int i:=by
 simpa only [RN,toD,Rp] using h
theorem RN.of_z {H:Hp} {i:Int}:RN H (.z i) (.int i):=by
 simp only [RN,toD,Rp]
theorem RN.mono {H H':Hp} {x:Nb} {v:V} (h:RN H x v) (g:Same H H'):RN H' x v:=Rp.mono g _ _ h
theorem zdp (x:Nb):(toD x).canLay0 = true:=by
 cases x <;> rfl
theorem zcV (x:Nb):(toD x).depth≤1:=by
 cases x <;> simp [toD,PyData.depth,PyData.depthAll]
theorem zfo (x y:Nb):PyData.eqv (toD x) (toD y) = decide (x = y):=by
 cases x with
 | q r =>
  cases y with
  | q s =>
   show ((r.num == s.num) && (((r.den:Int) == (s.den:Int)) && true)) = decide (Nb.q r = Nb.q s)
   by_cases h:r = s
   ·subst h; simp
   ·have h':¬ Nb.q r = Nb.q s:=fun z=>h (Nb.q.inj z)
    rw [decide_eq_false h']
    rw [Bool.and_eq_false_iff]
    by_cases h1:r.num = s.num
    ·right
     rw [Bool.and_true]
     have:¬ (r.den:Int) = (s.den:Int):=fun z=>h (Rat.ext h1 (by omega))
     simp [this]
    ·left; simp [h1]
  | z j=>simp [toD,PyData.eqv]
 | z i =>
  cases y with
  | q s=>simp [toD,PyData.eqv]
  | z j =>
   show (i == j) = decide (Nb.z i = Nb.z j)
   by_cases h:i = j
   ·subst h; simp
   ·have h':¬ Nb.z i = Nb.z j:=fun z=>h (Nb.z.inj z)
    rw [decide_eq_false h']; simp [h]
noncomputable def nsm (n:Nat):Nb→Prop
 | .q r=>Sm n r.num∧Sm n (r.den:Int)
 | .z i=>Sm n i
theorem zc2 {k i:Int} (h0:0≤i) (h1:i < k) (h9:k < 2305843009213693952):Sm 61 i:=by
 unfold Sm
 have:(2:Nat) ^ 61 = 2305843009213693952:=by decide
 omega
end L2
namespace L2
open PySem PySem.Spec PyProof.Rows Nm
section
variable {α β:Type} {R S:α→β→Prop}
theorem yp:∀ {xs:List α} {ys:List β},Paired R xs ys→xs.length = ys.length
 | _,_,.nil=>rfl
 | _,_,.cons _ t=>congrArg (· + 1) (yp t)
theorem jW (f:∀ a b,R a b→S a b):∀ {xs:List α} {ys:List β},Paired R xs ys→Paired S xs ys
 | _,_,.nil=>.nil
 | _,_,.cons r t=>.cons (f _ _ r) (jW f t)
theorem zau:∀ {xs xs':List α} {ys ys':List β},Paired R xs ys→Paired R xs' ys'→Paired R (xs ++ xs') (ys ++ ys')
 | _,_,_,_,.nil,s=>s
 | _,_,_,_,.cons r t,s=>.cons r (zau t s)
theorem ZH {xs:List α} {ys:List β} {a:α} {b:β} (h:Paired R xs ys) (r:R a b):Paired R (xs ++ [a]) (ys ++ [b]):=zau h (.cons r .nil)
theorem YU:∀ {xs:List α} {ys:List β} {i:Nat} {a:α},Paired R xs ys→xs[i]? = some a→∃ b,ys[i]? = some b∧R a b
 | _,_,_,_,.nil,e=>by simp at e
 | _,_,0,_,.cons r _,e=>by simp at e; subst e; exact ⟨_,rfl,r⟩
 | _,_,i + 1,a,.cons _ t,e=>by
  obtain ⟨b,h1,h2⟩:=YU (i:=i) (a:=a) t (by simpa using e)
  exact ⟨b,by simpa using h1,h2⟩
theorem qr:∀ {xs:List α} {ys:List β} {i:Nat} {b:β},Paired R xs ys→ys[i]? = some b→∃ a,xs[i]? = some a∧R a b
 | _,_,_,_,.nil,e=>by simp at e
 | _,_,0,_,.cons r _,e=>by simp at e; subst e; exact ⟨_,rfl,r⟩
 | _,_,i + 1,b,.cons _ t,e=>by
  obtain ⟨a,h1,h2⟩:=qr (i:=i) (b:=b) t (by simpa using e)
  exact ⟨a,by simpa using h1,h2⟩
theorem zeR:∀ {xs:List α} {ys:List β} {b:β},Paired R xs ys→b∈ys→∃ a∈xs,R a b
 | _,_,_,.nil,e=>nomatch e
 | _,_,b,.cons r t,e=>by
  rcases List.mem_cons.mp e with rfl | e
  ·exact ⟨_,List.mem_cons_self,r⟩
  ·obtain ⟨a,h1,h2⟩:=zeR t e
   exact ⟨a,List.mem_cons_of_mem _ h1,h2⟩
end
theorem zI {α:Type} {l:List α} {i:Nat} {x:α} (h:l[i]? = some x):l.take (i + 1) = l.take i ++ [x]:=by
 obtain ⟨hi,e⟩:=List.getElem?_eq_some_iff.mp h
 rw [List.take_succ_eq_append_getElem hi,e]
noncomputable def RowAt (H:Hp) (xs:List Nb) (a:Addr):Prop:=∃ vs,H a = some (.lst vs)∧Paired (RN H) xs vs
noncomputable def TabAt (H:Hp) (M:List (List Nb)) (top:Addr) (ras:List Addr):Prop:=H top = some (.lst (ras.map V.ref))∧Paired (RowAt H) M ras
theorem zaU {H H':Hp} (g:Same H H') {xs:List Nb} {vs:List V} (h:Paired (RN H) xs vs):Paired (RN H') xs vs:=jW (fun _ _ r=>r.mono g) h
theorem RowAt.mono {H H':Hp} {xs:List Nb} {a:Addr} (h:RowAt H xs a) (g:Same H H'):RowAt H' xs a :=
 let ⟨vs,h1,h2⟩:=h
 ⟨vs,g _ _ h1,zaU g h2⟩
theorem TabAt.mono {H H':Hp} {M:List (List Nb)} {top:Addr} {ras:List Addr} (h:TabAt H M top ras) (g:Same H H'):TabAt H' M top ras:=⟨g _ _ h.1,jW (fun _ _ r=>r.mono g) h.2⟩
theorem TabAt.row {H:Hp} {M:List (List Nb)} {top:Addr} {ras:List Addr} {i:Nat} {v:V} (h:TabAt H M top ras) (e:(ras.map V.ref)[i]? = some v):∃ xs a,M[i]? = some xs∧ras[i]? = some a∧v = .ref a∧RowAt H xs a:=by
 rw [List.getElem?_map] at e
 obtain ⟨a,ha,rfl⟩:=Option.map_eq_some_iff.mp e
 obtain ⟨xs,hx,r⟩:=qr h.2 ha
 exact ⟨xs,a,hx,ha,rfl,r⟩
noncomputable def Nxt (n i:Nat) (J:Prop):Prop:=∃ m',m' < n - i∧m' = n - (i + 1)∧i + 1≤n∧J
theorem nxt {n i:Nat} {J:Prop} (h:i < n) (j:J):Nxt n i J:=⟨n - (i + 1),by omega,rfl,h,j⟩
section
variable {K:PySem.W.Frag} {g:TG} {tt:TT} {te:TE} {R:List V→Hp→Prop} {H:Hp} {σb:St}
theorem yD {a:Addr} {xs:List V} (J:Nat→List V→Hp→Prop) (h0:J 0 [] H) (hl:∀ (i:Nat) (ys:List V) (H':Hp),i≤xs.length→J i ys H'→SqL K H' a xs∧ys.length < sizeLine)
  (hs:∀ (i:Nat) (x:V) (ys:List V) (H':Hp),xs[i]? = some x→i < xs.length→J i ys H'→g x σb H' fun σ2 H2=>tt σ2 H2 fun b H3=>if b = true then te σ2 H3 fun y H4=>Nxt xs.length i (J (i + 1) (ys ++ [y]) H4) else Nxt xs.length i (J (i + 1) ys H3))
  (hd:∀ (ys:List V) (H':Hp),J xs.length ys H'→R ys H') :
  ∃ W:Nat→Nat→List V→Hp→Prop,(∃ m,W 0 m [] H)∧∀ i m ys H,W i m ys H →
   ((Itl K a).stop i H∧ys.length≤sizeLine∧R ys H) ∨
   ((Itl K a).go i H∧ys.length < sizeLine∧∀ x H',(Itl K a).yld i H x H'→g x σb H' fun σ2 H2=>tt σ2 H2 fun b H3=>if b = true then te σ2 H3 fun y H4=>∃ m',m' < m∧W (i + 1) m' (ys ++ [y]) H4 else ∃ m',m' < m∧W (i + 1) m' ys H3):=by
 refine ⟨fun i m ys H=>m = xs.length - i∧i≤xs.length∧J i ys H,⟨xs.length,by simp,Nat.zero_le _,h0⟩,?_⟩
 rintro i m ys H1 ⟨rfl,hi,j⟩
 obtain ⟨q,hz⟩:=hl i ys H1 hi j
 by_cases hlt:i < xs.length
 ·refine .inr ⟨⟨xs,xs[i],q,by simp [hlt]⟩,hz,fun x H' y=>?_⟩
  obtain ⟨e,y⟩:=y
  subst e
  exact hs i x ys _ (y xs q) hlt j
 ·have e:i = xs.length:=by omega
  subst e
  exact .inl ⟨⟨xs,q,Nat.le_refl _⟩,Nat.le_of_lt hz,hd ys H1 j⟩
theorem qE {lo:Int} {n:Nat} (J:Nat→List V→Hp→Prop) (h0:J 0 [] H) (hl:∀ (i:Nat) (ys:List V) (H':Hp),i≤n→J i ys H'→ys.length < sizeLine)
  (hs:∀ (i:Nat) (ys:List V) (H':Hp),i < n→J i ys H'→g (.int (lo + i)) σb H' fun σ2 H2=>tt σ2 H2 fun b H3=>if b = true then te σ2 H3 fun y H4=>Nxt n i (J (i + 1) (ys ++ [y]) H4) else Nxt n i (J (i + 1) ys H3))
  (hd:∀ (ys:List V) (H':Hp),J n ys H'→R ys H') :
  ∃ W:Nat→Nat→List V→Hp→Prop,(∃ m,W 0 m [] H)∧∀ i m ys H,W i m ys H →
   ((Itr lo n).stop i H∧ys.length≤sizeLine∧R ys H) ∨
   ((Itr lo n).go i H∧ys.length < sizeLine∧∀ x H',(Itr lo n).yld i H x H'→g x σb H' fun σ2 H2=>tt σ2 H2 fun b H3=>if b = true then te σ2 H3 fun y H4=>∃ m',m' < m∧W (i + 1) m' (ys ++ [y]) H4 else ∃ m',m' < m∧W (i + 1) m' ys H3):=by
 refine ⟨fun i m ys H=>m = n - i∧i≤n∧J i ys H,⟨n,by simp,Nat.zero_le _,h0⟩,?_⟩
 rintro i m ys H1 ⟨rfl,hi,j⟩
 have hz:=hl i ys H1 hi j
 by_cases hlt:i < n
 ·refine .inr ⟨hlt,hz,fun x H' y=>?_⟩
  obtain ⟨e,y⟩:=y
  subst e y
  exact hs i ys _ hlt j
 ·have e:i = n:=by omega
  subst e
  exact .inl ⟨Nat.le_refl _,Nat.le_of_lt hz,hd ys H1 j⟩
theorem zax {a b:Addr} {xs zs:List V} (he:xs.length = zs.length) (J:Nat→List V→Hp→Prop) (h0:J 0 [] H) (hl:∀ (i:Nat) (ys:List V) (H':Hp),i≤xs.length→J i ys H'→SqL K H' a xs∧SqL K H' b zs∧ys.length < sizeLine)
  (hs:∀ (i:Nat) (x z:V) (T:Addr) (ys:List V) (H':Hp),xs[i]? = some x→zs[i]? = some z→i < xs.length→H' T = none→J i ys H'→g (.ref T) σb (upd H' T (.tup [x,z])) fun σ2 H2=>tt σ2 H2 fun b H3=>if b = true then te σ2 H3 fun y H4=>Nxt xs.length i (J (i + 1) (ys ++ [y]) H4) else Nxt xs.length i (J (i + 1) ys H3))
  (hd:∀ (ys:List V) (H':Hp),J xs.length ys H'→R ys H') :
  ∃ W:Nat→Nat→List V→Hp→Prop,(∃ m,W 0 m [] H)∧∀ i m ys H,W i m ys H →
   ((Itz K a b).stop i H∧ys.length≤sizeLine∧R ys H) ∨
   ((Itz K a b).go i H∧ys.length < sizeLine∧∀ x H',(Itz K a b).yld i H x H'→g x σb H' fun σ2 H2=>tt σ2 H2 fun b H3=>if b = true then te σ2 H3 fun y H4=>∃ m',m' < m∧W (i + 1) m' (ys ++ [y]) H4 else ∃ m',m' < m∧W (i + 1) m' ys H3):=by
 refine ⟨fun i m ys H=>m = xs.length - i∧i≤xs.length∧J i ys H,⟨xs.length,by simp,Nat.zero_le _,h0⟩,?_⟩
 rintro i m ys H1 ⟨rfl,hi,j⟩
 obtain ⟨q1,q2,hz⟩:=hl i ys H1 hi j
 by_cases hlt:i < xs.length
 ·refine .inr ⟨⟨xs,zs,xs[i],zs[i]'(by omega),q1,q2,by simp [hlt],by simp [show i < zs.length by omega]⟩,hz,fun x H' y=>?_⟩
  obtain ⟨T,u,v,rfl,hT,rfl,y1,y2⟩:=y
  exact hs i u v T ys _ (y1 xs q1) (y2 zs q2) hlt hT j
 ·have e:i = xs.length:=by omega
  subst e
  exact .inl ⟨⟨xs,zs,q1,q2,.inl (Nat.le_refl _)⟩,Nat.le_of_lt hz,hd ys H1 j⟩
end
end L2
namespace La
open Lean.Grind
section
variable {F:Type} [Field F]
variable {S T:(Nat→F)→Prop} {u v:Nat→F}
noncomputable abbrev Pv (F:Type):=Nat×(Nat→F)
variable {n:Nat} {P Q:List (Pv F)}
variable {c:Nat} {O:(Nat→F)→Prop} {D D':List (Pv F)} {W W':List (Nat→F)}
end
end La
namespace La
open Lean.Grind Nm
noncomputable def ι {F:Type} [CommRing F] (w:Int):F:=(Ring.intCast:IntCast F).intCast w
section
variable {F:Type} [CommRing F]
theorem ι_add (x y:Int):(ι (x + y):F) = ι x + ι y:=Ring.intCast_add x y
theorem ι_mul (x y:Int):(ι (x * y):F) = ι x * ι y:=Ring.intCast_mul x y
theorem ι_sub (x y:Int):(ι (x - y):F) = ι x - ι y:=Ring.intCast_sub x y
theorem ι_zero:(ι 0:F) = 0:=Ring.intCast_zero
theorem ι_one:(ι 1:F) = 1:=Ring.intCast_one
end
structure Kf (k:Int) (F:Type) [Field F] where
 to:Nb→F
 of:F→Nb
 ok:∀ x,(of x).ok k
 to_of:∀ x,to (of x) = x
 of_to:∀ x,x.ok k→of (to x) = x
 add:∀ {x y},x.ok k→y.ok k→to (nadd k x y) = to x + to y
 sub:∀ {x y},x.ok k→y.ok k→to (nsub k x y) = to x - to y
 mul:∀ {x y},x.ok k→y.ok k→to (nmul k x y) = to x * to y
 div:∀ {x y},x.ok k→y.ok k→y≠nnum k 0→to (ndiv k x y) = to x / to y
 num:∀ w:Int,to (nnum k w) = ι w
 zero:∀ w:Int,(ι w:F) = 0↔k ∣ w
 rat:∀ r:Rat,k = 0→to (.q r) * ι (r.den:Int) = ι r.num
 rest:∀ i:Int,k≠0→to (.z i) = ι i
noncomputable def zpw {F:Type} [CommRing F] (inv:F→F) (a:F):Int→F
 | .ofNat n=>a ^ n
 | .negSucc n=>inv (a ^ (n + 1))
@[reducible] noncomputable def fieldOf {F:Type} [CommRing F] (h01:(0:F)≠1) (hinv:∀ a:F,∃ b:F,(a = 0→b = 0)∧(a≠0→a * b = 1)):Field F :=
 have un:∀ a b c:F,a * b = 1→a * c = 1→b = c:=fun a b c h1 h2=>by
  have:b = b * (a * c):=by rw [h2]; grind
  have:c = c * (a * b):=by rw [h1]; grind
  grind
 let inv:F→F:=fun a=>Classical.choose (hinv a)
 have i0:∀ a,a = 0→inv a = 0:=fun a=>(Classical.choose_spec (hinv a)).1
 have i1:∀ a,a≠0→a * inv a = 1:=fun a=>(Classical.choose_spec (hinv a)).2
 have ii:∀ a,inv (inv a) = a:=fun a=>by
  by_cases h:a = 0
  ·rw [i0 a h,i0 0 rfl,h]
  ·have h':inv a≠0:=fun z=>by
    have:=i1 a h
    rw [z] at this
    exact h01 (by rw [← this]; grind)
   have e1:=i1 a h
   have e2:=i1 _ h'
   exact un (inv a) _ _ e2 (by rw [← e1]; grind)
 letI:Inv F:=⟨inv⟩
 letI:Div F:=⟨fun a b=>a * inv b⟩
 letI:HPow F Int F:=⟨zpw inv⟩
 {zpow:=⟨zpw inv⟩
  div_eq_mul_inv:=fun a b=>rfl
  zero_ne_one:=h01
  inv_zero:=i0 0 rfl
  mul_inv_cancel:=fun {a} h=>i1 a h
  zpow_zero:=fun a=>Semiring.pow_zero a
  zpow_succ:=fun a n=>Semiring.pow_succ a n
  zpow_neg:=fun a n=>by
   show zpw inv a (-n) = inv (zpw inv a n)
   match n with
   | .ofNat 0 =>
    show a ^ 0 = inv (a ^ 0)
    rw [Semiring.pow_zero]
    have:=i1 1 (Ne.symm h01)
    exact un 1 _ _ (by grind) this
   | .ofNat (m + 1)=>rfl
   | .negSucc m =>
    show a ^ (m + 1) = inv (inv (a ^ (m + 1)))
    rw [ii] }
noncomputable def kfRat:Kf 0 Rat where
 to:=fun x=>match x with | .q r=>r | .z _=>0
 of:=.q
 ok:=fun _=>rfl
 to_of:=fun _=>rfl
 of_to:=fun x h=>by cases x with
  | q r=>rfl
  | z i=>exact absurd rfl h.1
 add:=fun {x y} hx hy=>by
  cases x with
  | z i=>exact absurd rfl hx.1
  | q r=>cases y with
   | z i=>exact absurd rfl hy.1
   | q s=>rfl
 sub:=fun {x y} hx hy=>by
  cases x with
  | z i=>exact absurd rfl hx.1
  | q r=>cases y with
   | z i=>exact absurd rfl hy.1
   | q s=>rfl
 mul:=fun {x y} hx hy=>by
  cases x with
  | z i=>exact absurd rfl hx.1
  | q r=>cases y with
   | z i=>exact absurd rfl hy.1
   | q s=>rfl
 div:=fun {x y} hx hy _=>by
  cases x with
  | z i=>exact absurd rfl hx.1
  | q r=>cases y with
   | z i=>exact absurd rfl hy.1
   | q s=>rfl
 num:=fun w=>rfl
 zero:=fun w=>by
  rw [Int.zero_dvd]
  exact Rat.intCast_eq_zero_iff
 rat:=fun r _=>by
  show r * ((r.den:Int):Rat) = ((r.num:Int):Rat)
  have e:Rat.divInt r.num r.den * Rat.divInt (r.den:Int) 1 = Rat.divInt r.num 1:=by
   rw [Rat.divInt_mul_divInt,Rat.divInt_eq_divInt_iff (by have:=JJ r; omega) (by decide)]
   grind
  have o:∀ a:Int,Rat.divInt a 1 = (a:Rat):=fun a=>by
   rw [Rat.divInt_eq_div]
   show (a:Rat) / 1 = a
   grind
  rw [Rat.num_divInt_den,o,o] at e
  exact e
 rest:=fun i h=>absurd rfl h
theorem zbA {F:Type} [Field F] {a b z:F} (h:z * b = 1):a * z = a / b:=by
 have n:b≠0:=fun e=>by rw [e] at h; grind
 grind
section
variable {k:Int} {p:Nat} [NeZero p]
theorem zhR (hp:(p:Int) = k):(ι k:Fin p) = 0:=by
 subst hp
 show Fin.intCast (p:Int) = 0
 unfold Fin.intCast
 rw [if_pos (Int.natCast_nonneg p)]
 refine Fin.ext ?_
 show (p:Int).natAbs % p = 0 % p
 simp
theorem zdn (hp:(p:Int) = k) {w:Int} (h:k ∣ w):(ι w:Fin p) = 0:=by
 obtain ⟨c,rfl⟩:=h
 rw [ι_mul,zhR hp]; grind
theorem jU (hp:(p:Int) = k) {a b:Int} (h:k ∣ a - b):(ι a:Fin p) = ι b:=by
 have:=zdn hp h
 rw [ι_sub] at this
 grind
theorem zbJ (hp:(p:Int) = k) {i:Int} (h0:0≤i) (h1:i < k):((ι i:Fin p).val:Int) = i:=by
 show ((Fin.intCast i:Fin p).val:Int) = i
 unfold Fin.intCast
 rw [if_pos h0]
 show ((i.natAbs % p:Nat):Int) = i
 rw [Nat.mod_eq_of_lt (by omega)]; omega
theorem fin_ι (x:Fin p):(ι (x.val:Int):Fin p) = x:=by
 show (Fin.intCast (x.val:Int):Fin p) = x
 unfold Fin.intCast
 rw [if_pos (Int.natCast_nonneg _)]
 refine Fin.ext ?_
 show (x.val:Int).natAbs % p = x.val
 rw [Int.natAbs_natCast,Nat.mod_eq_of_lt x.isLt]
theorem zab (hp:(p:Int) = k) (w:Int):(ι w:Fin p) = 0↔k ∣ w:=by
 refine ⟨fun h=>?_,zdn hp⟩
 have k0:0 < k:=by have:=NeZero.ne p; omega
 have e:(ι w:Fin p) = ι (w % k):=jU hp ⟨w / k,by have:=Int.emod_add_mul_ediv w k; omega⟩
 have v:=zbJ (p:=p) hp (Int.emod_nonneg w (by omega)) (Int.emod_lt_of_pos w k0)
 rw [← e,h] at v
 have:w % k = 0:=by rw [← v]; rfl
 exact Int.dvd_of_emod_eq_zero this
theorem zgf (h:Pr k) (hp:(p:Int) = k) (a:Fin p):∃ b:Fin p,(a = 0→b = 0)∧(a≠0→a * b = 1):=by
 by_cases z:a = 0
 ·exact ⟨0,fun _=>rfl,fun n=>absurd z n⟩
 ·have a0:0 < (a.val:Int):=by
   have:a.val≠0:=fun e=>z (Fin.ext e)
   omega
  obtain ⟨x,x0,xk,hx⟩:=Yj h a0 (by have:=a.isLt; omega)
  refine ⟨ι x,fun e=>absurd e z,fun _=>?_⟩
  have:=jU (p:=p) hp hx
  rw [ι_mul,fin_ι,ι_one] at this
  grind
theorem zhr (h:Pr k) (hp:(p:Int) = k):(0:Fin p)≠1:=fun e=>by
 have:(ι 1:Fin p) = 0:=by rw [ι_one]; exact e.symm
 have:=(zab hp 1).mp this
 have:=Int.le_of_dvd (by decide) this
 have:=h.lo
 omega
@[reducible] noncomputable def fieldFin (h:Pr k) (hp:(p:Int) = k):Field (Fin p):=fieldOf (zhr h hp) (zgf h hp)
noncomputable def kfFin (h:Pr k) (hp:(p:Int) = k) : @Kf k (Fin p) (fieldFin h hp) :=
 letI:=fieldFin h hp
 have k1:=h.lo
 have k0:k≠0:=by omega
 have fm:∀ a:Int,(ι (a.fmod k):Fin p) = ι a:=fun a=>jU hp (XL k a)
 {to:=fun x=>match x with | .q _=>0 | .z i=>ι i
  of:=fun x=>.z x.val
  ok:=fun x=>⟨k0,Int.natCast_nonneg _,by have:=x.isLt; omega⟩
  to_of:=fun x=>fin_ι x
  of_to:=fun x hx=>by cases x with
   | q r=>exact absurd hx k0
   | z i=>exact congrArg Nb.z (zbJ hp hx.2.1 hx.2.2)
  add:=fun {x y} hx hy=>by
   cases x with
   | q r=>exact absurd hx k0
   | z i=>cases y with
    | q s=>exact absurd hy k0
    | z j=>exact (fm _).trans (ι_add i j)
  sub:=fun {x y} hx hy=>by
   cases x with
   | q r=>exact absurd hx k0
   | z i=>cases y with
    | q s=>exact absurd hy k0
    | z j=>exact (fm _).trans (ι_sub i j)
  mul:=fun {x y} hx hy=>by
   cases x with
   | q r=>exact absurd hx k0
   | z i=>cases y with
    | q s=>exact absurd hy k0
    | z j=>exact (fm _).trans (ι_mul i j)
  div:=fun {x y} hx hy ne=>by
   cases x with
   | q r=>exact absurd hx k0
   | z i=>cases y with
    | q s=>exact absurd hy k0
    | z j =>
     have j0:j≠0:=fun z=>ne (by unfold nnum; rw [if_neg k0,z,Int.zero_fmod])
     obtain ⟨x,x0,xk,hx'⟩:=Yj h (show 0 < j by have:=hy.2.1; omega) hy.2.2
     have e:=jU (p:=p) hp hx'
     rw [ι_mul,ι_one] at e
     refine Eq.trans (b:=ι i * ι x) ?_ (zbA e)
     show (ι ((i * zinv k j).fmod k):Fin p) = ι i * ι x
     rw [fm,ι_mul,zbT x0 xk hx']
  num:=fun w=>by
   unfold nnum
   rw [if_neg k0]
   exact fm w
  zero:=zab hp
  rat:=fun r e=>absurd e k0
  rest:=fun i _=>rfl }
end
theorem zdG {k:Int} (h:KindOk k):∃ (F:Type) (inst:Field F) (dec:DecidableEq F),Nonempty (Kf k F):=by
 rcases h with rfl | h
 ·exact ⟨Rat,inferInstance,inferInstance,⟨kfRat⟩⟩
 ·have k1:=h.lo
  haveI:NeZero k.toNat:=⟨by omega⟩
  have hp:((k.toNat:Nat):Int) = k:=by omega
  exact ⟨Fin k.toNat,fieldFin h hp,inferInstance,⟨kfFin h hp⟩⟩
end La
namespace La
open Lean.Grind Nm
section
variable {k:Int} {F:Type} [Field F]
noncomputable def fv (ws:List Int):Nat→F:=fun j=>ι (ws.getD j 0)
theorem zhn {ws:List Int} {j:Nat} (h:ws.length≤j):(fv ws j:F) = 0:=by
 unfold fv
 rw [List.getD_eq_getElem?_getD,List.getElem?_eq_none h]
 exact ι_zero
theorem jw {w d:Int} (h:d ∣ w) (hd:d≠0):w.fdiv d * d = w:=by
 rw [Int.fdiv_eq_ediv_of_dvd h]; exact Int.ediv_mul_cancel h
end
end La
namespace La
open Lean.Grind Nm
section
variable {k:Int} {F:Type} [Field F]
theorem xM (h:KindOk k) (w:Int):(nnum k w).ok k:=by
 unfold nnum
 split
 ·assumption
 ·rename_i n
  have:=h.lt
  exact ⟨n,Int.fmod_nonneg_of_pos w (by omega),Int.fmod_lt_of_pos w (by omega)⟩
noncomputable def OkR (k:Int) (xs:List Nb):Prop:=∀ x∈xs,x.ok k
noncomputable def nv (φ:Kf k F) (xs:List Nb):Nat→F:=fun j=>φ.to (xs.getD j (nnum k 0))
theorem Kf.num0 (φ:Kf k F):φ.to (nnum k 0) = 0:=by rw [φ.num]; exact ι_zero
theorem Kf.inj (φ:Kf k F) {x y:Nb} (hx:x.ok k) (hy:y.ok k) (h:φ.to x = φ.to y):x = y:=by rw [← φ.of_to x hx,← φ.of_to y hy,h]
theorem zgM (φ:Kf k F) {xs:List Nb} {j:Nat} (h:xs.length≤j):nv φ xs j = 0:=by
 unfold nv
 rw [List.getD_eq_getElem?_getD,List.getElem?_eq_none h]
 exact φ.num0
theorem zbi (φ:Kf k F) {xs:List Nb} {j:Nat} {x:Nb} (h:xs[j]? = some x):nv φ xs j = φ.to x:=by
 unfold nv
 rw [List.getD_eq_getElem?_getD,h]; rfl
noncomputable def dot:Nat→(Nat→F)→(Nat→F)→F
 | 0,_,_=>0
 | n + 1,u,v=>dot n u v + u n * v n
theorem zbx {n:Nat} {u u' v v':Nat→F} (h:∀ j,j < n→u j * v j = u' j * v' j):dot n u v = dot n u' v':=by
 induction n with
 | zero=>rfl
 | succ n ih=>simp only [dot]; rw [ih fun j hj=>h j (by omega),h n (by omega)]
theorem zdL (a:F) (n:Nat) (u v:Nat→F):dot n (fun j=>a * u j) v = a * dot n u v:=by
 induction n with
 | zero=>simp only [dot]; grind
 | succ n ih=>simp only [dot]; rw [ih]; grind
noncomputable def ndotF (k:Int) (l:List (Nb×Nb)):Nb:=l.foldl (fun s p=>nadd k s (nmul k p.1 p.2)) (nnum k 0)
noncomputable def ndot (k:Int) (xs ys:List Nb):Nb:=ndotF k (xs.zip ys)
theorem zfq {x y:Nb} (hk:KindOk k) (hx:x.ok k) (hy:y.ok k):(nadd k x y).ok k:=by
 have hl:=hk.lt
 cases x with
 | q r=>cases y with
  | q s=>exact hx
  | z j=>exact absurd (show k = 0 from hx) hy.1
 | z i=>cases y with
  | q s=>exact absurd (show k = 0 from hy) hx.1
  | z j=>exact ⟨hx.1,Int.fmod_nonneg_of_pos _ (by have:=hx.1; omega),Int.fmod_lt_of_pos _ (by have:=hx.1; omega)⟩
theorem zbX {x y:Nb} (hk:KindOk k) (hx:x.ok k) (hy:y.ok k):(nmul k x y).ok k:=by
 have hl:=hk.lt
 cases x with
 | q r=>cases y with
  | q s=>exact hx
  | z j=>exact absurd (show k = 0 from hx) hy.1
 | z i=>cases y with
  | q s=>exact absurd (show k = 0 from hy) hx.1
  | z j=>exact ⟨hx.1,Int.fmod_nonneg_of_pos _ (by have:=hx.1; omega),Int.fmod_lt_of_pos _ (by have:=hx.1; omega)⟩
theorem zf3 {x y:Nb} (hk:KindOk k) (hx:x.ok k) (hy:y.ok k):(ndiv k x y).ok k:=by
 have hl:=hk.lt
 cases x with
 | q r=>cases y with
  | q s=>exact hx
  | z j=>exact absurd (show k = 0 from hx) hy.1
 | z i=>cases y with
  | q s=>exact absurd (show k = 0 from hy) hx.1
  | z j=>exact ⟨hx.1,Int.fmod_nonneg_of_pos _ (by have:=hx.1; omega),Int.fmod_lt_of_pos _ (by have:=hx.1; omega)⟩
theorem zaK (l:List (Nb×Nb)) (p:Nb×Nb):ndotF k (l ++ [p]) = nadd k (ndotF k l) (nmul k p.1 p.2):=by
 unfold ndotF; rw [List.foldl_append]; rfl
theorem zaa (hk:KindOk k):∀ (l:List (Nb×Nb)),(∀ p∈l,p.1.ok k∧p.2.ok k)→(ndotF k l).ok k:=by
 intro l
 unfold ndotF
 have go:∀ (l:List (Nb×Nb)) (s:Nb),s.ok k→(∀ p∈l,p.1.ok k∧p.2.ok k)→(l.foldl (fun s p=>nadd k s (nmul k p.1 p.2)) s).ok k:=by
  intro l
  induction l with
  | nil=>intro s hs _; exact hs
  | cons p l ih=>intro s hs h; exact ih _ (zfq hk hs (zbX hk (h p List.mem_cons_self).1 (h p List.mem_cons_self).2)) fun q hq=>h q (List.mem_cons_of_mem _ hq)
 exact fun h=>go l _ (xM hk 0) h
theorem zeC {xs ys:List Nb} (hx:OkR k xs) (hy:OkR k ys):∀ p∈xs.zip ys,p.1.ok k∧p.2.ok k:=fun p hp=>by
 obtain ⟨a,b⟩:=p
 obtain ⟨h1,h2⟩:=List.of_mem_zip hp
 exact ⟨hx _ h1,hy _ h2⟩
theorem zfP (hk:KindOk k) {xs ys:List Nb} (hx:OkR k xs) (hy:OkR k ys):(ndot k xs ys).ok k:=zaa hk _ (zeC hx hy)
theorem XZ (φ:Kf k F) (hk:KindOk k) {xs ys:List Nb} (hx:OkR k xs) (hy:OkR k ys) (hl:xs.length = ys.length):∀ i,i≤xs.length→φ.to (ndotF k ((xs.zip ys).take i)) = dot i (nv φ xs) (nv φ ys)
 | 0,_=>by
  show φ.to (nnum k 0) = 0
  exact φ.num0
 | i + 1,h=>by
  have h1:i < xs.length:=h
  have h2:i < ys.length:=by omega
  have hz:i < (xs.zip ys).length:=by rw [List.length_zip]; omega
  rw [List.take_succ_eq_append_getElem hz,zaK,List.getElem_zip]
  have ih:=XZ φ hk hx hy hl i (by omega)
  have o1:=hx _ (List.getElem_mem h1)
  have o2:=hy _ (List.getElem_mem h2)
  rw [φ.add (zaa hk _ fun p hp=>zeC hx hy p (List.mem_of_mem_take hp)) (zbX hk o1 o2),ih,φ.mul o1 o2]
  simp only [dot]
  rw [zbi φ (List.getElem?_eq_getElem h1),zbi φ (List.getElem?_eq_getElem h2)]
theorem zfS (φ:Kf k F) (hk:KindOk k) {xs ys:List Nb} (hx:OkR k xs) (hy:OkR k ys) (hl:xs.length = ys.length):φ.to (ndot k xs ys) = dot xs.length (nv φ xs) (nv φ ys):=by
 have h:=XZ φ hk hx hy hl xs.length (Nat.le_refl _)
 rw [List.take_of_length_le (by rw [List.length_zip]; omega)] at h
 exact h
noncomputable def scW (b:Int):Nb→Int
 | .q r=>r.num * b.fdiv (r.den:Int)
 | .z i=>i
noncomputable def dvB (b:Int):Nb→Prop
 | .q r=>(r.den:Int) ∣ b
 | .z _=>True
structure Scl (k:Int) (xs:List Nb) (ws:List Int) (b:Int):Prop where
 eq:ws = xs.map (scW b)
 pos:0 < b
 one:k≠0→b = 1
 dv:∀ x∈xs,dvB b x
theorem Scl.len {xs:List Nb} {ws:List Int} {b:Int} (s:Scl k xs ws b):ws.length = xs.length:=by rw [s.eq,List.length_map]
theorem Scl.ne (φ:Kf k F) (hk:KindOk k) {xs:List Nb} {ws:List Int} {b:Int} (s:Scl k xs ws b):(ι b:F)≠0:=fun z=>by
 rw [φ.zero] at z
 by_cases k0:k = 0
 ·rw [k0,Int.zero_dvd] at z; have:=s.pos; omega
 ·rw [s.one k0] at z
  have:=Int.le_of_dvd (by decide) z
  rcases hk with h | h
  ·exact k0 h
  ·have:=h.lo; omega
theorem zgt (φ:Kf k F) {b:Int} (one:k≠0→b = 1) {x:Nb} (hx:x.ok k) (dv:dvB b x):(ι (scW b x):F) = φ.to x * ι b:=by
 cases x with
 | q r =>
  have k0:k = 0:=hx
  have e:=φ.rat r k0
  have d:(r.den:Int) ∣ b:=dv
  have e2:=jw d (JJ r)
  show (ι (r.num * b.fdiv (r.den:Int)):F) = _
  rw [ι_mul,← e]
  have e3:(ι (b.fdiv (r.den:Int)):F) * ι (r.den:Int) = ι b:=by rw [← ι_mul,e2]
  grind
 | z i =>
  have k0:k≠0:=hx.1
  rw [φ.rest i k0,one k0,ι_one]
  show (ι i:F) = _
  grind
theorem Scl.fv (φ:Kf k F) {xs:List Nb} {ws:List Int} {b:Int} (s:Scl k xs ws b) (hx:OkR k xs) (j:Nat):(La.fv ws j:F) = nv φ xs j * ι b:=by
 rcases Nat.lt_or_ge j xs.length with g | g
 ·have e:ws[j]? = some (scW b xs[j]):=by rw [s.eq,List.getElem?_map,List.getElem?_eq_getElem g]; rfl
  rw [zbi φ (List.getElem?_eq_getElem g),← zgt φ s.one (hx _ (List.getElem_mem g)) (s.dv _ (List.getElem_mem g))]
  unfold La.fv
  rw [List.getD_eq_getElem?_getD,e]; rfl
 ·rw [zgM φ g,zhn (by rw [s.len]; exact g)]; grind
theorem zfL (n:Nat) {ws vs:List Int} (h1:ws.length = n) (h2:vs.length = n):(ι (List.zipWith (· * ·) ws vs).sum:F) = dot n (fv ws) (fv vs):=by
 have go:∀ i,i≤n→(ι ((List.zipWith (· * ·) ws vs).take i).sum:F) = dot i (fv ws) (fv vs):=by
  intro i
  induction i with
  | zero=>intro _; rw [List.take_zero,List.sum_nil]; exact ι_zero
  | succ i ih =>
   intro hi
   have hz:i < (List.zipWith (· * ·) ws vs).length:=by rw [List.length_zipWith]; omega
   rw [List.take_succ_eq_append_getElem hz,List.sum_append,ι_add,ih (by omega),List.getElem_zipWith]
   simp only [dot]
   have e1:(fv ws i:F) = ι (ws[i]'(by omega)):=by unfold fv; rw [List.getD_eq_getElem?_getD,List.getElem?_eq_getElem (by omega)]; rfl
   have e2:(fv vs i:F) = ι (vs[i]'(by omega)):=by unfold fv; rw [List.getD_eq_getElem?_getD,List.getElem?_eq_getElem (by omega)]; rfl
   rw [e1,e2,← ι_mul]
   simp
 have:=go n (Nat.le_refl _)
 rw [List.take_of_length_le (by rw [List.length_zipWith]; omega)] at this
 exact this
theorem zfQ (φ:Kf k F) {b:Int} (h:(ι b:F)≠0):nnum k b≠nnum k 0:=fun z=>h (by rw [← φ.num,z,φ.num0])
theorem zho (hk:KindOk k) {xs ys:List Nb} {ws vs:List Int} {b c:Int} (hl:xs.length = ys.length) (s1:Scl k xs ws b) (s2:Scl k ys vs c) (hx:OkR k xs) (hy:OkR k ys) :
  nnum k (b * c)≠nnum k 0∧ndiv k (nnum k (List.zipWith (· * ·) ws vs).sum) (nnum k (b * c)) = ndot k xs ys:=by
 obtain ⟨F,_,_,⟨φ⟩⟩:=zdG hk
 have n1:=s1.ne φ hk
 have n2:=s2.ne φ hk
 have n3:(ι (b * c):F)≠0:=fun z=>by rw [ι_mul] at z; grind
 have nn:=zfQ φ n3
 refine ⟨nn,φ.inj (zf3 hk (xM hk _) (xM hk _)) (zfP hk hx hy) ?_⟩
 rw [φ.div (xM hk _) (xM hk _) nn,φ.num,φ.num,zfS φ hk hx hy hl,zfL xs.length s1.len (by rw [s2.len,hl]),ι_mul]
 have e:dot xs.length (La.fv ws) (La.fv vs) = (ι b * ι c) * dot xs.length (nv φ xs) (nv φ ys):=by
  rw [← zdL]
  exact zbx fun j _=>by rw [s1.fv φ hx,s2.fv φ hy]; grind
 rw [e]; grind
noncomputable def OkM (k:Int) (n:Nat) (M:List (List Nb)):Prop:=∀ r∈M,r.length = n∧OkR k r
end
end La
namespace L2
open PySem PySem.Spec PyProof.Rows Nm
noncomputable def TopOk (X:Cx):Prop:=∃ env l,X.stack = env :: l∧env.scope.isGenerator = false∧env.scope.isCoroutine = false∧env.builtins = builtinsNs∧env.globals = mainGlobals
theorem xJ {X:Cx} {k:Nat} (hr:Room k X.A) (hk:40≤k) (hP:X.prog.given.tree = none) (hS:X.base.NoSeer) (hT:TopOk X):OpR X (binaryOp .FloorDiv) (rI (fun _ j=>j≠0) fun i j=>.int (i.fdiv j)):=by
 intro pins s σ H x y v u Q I rx ry h
 obtain ⟨i,j,rfl,rfl,hc,q⟩:=h
 obtain ⟨t,rfl⟩:=rx
 obtain ⟨t',rfl⟩:=ry
 obtain ⟨env,l,e,h1,h2,h3,h4⟩:=hT
 have hd:X.A.depth + Builtin.pylongFrames < recursionLimit:=by
  have:=hr.dp
  have:Builtin.pylongFrames = 100:=rfl
  omega
 exact floordiv_int hc ⟨.int (i.fdiv j),H,I.tok _,⟨_,rfl⟩,q⟩ (.inr (PylongRoom.of I.nolimit hd (SeerAt.of (hS.keeps I.bk) hP (I.ok.frames.trans (congrArg some e)) h1 h2 h3 h4)))
noncomputable def IRow (H:Hp) (ws:List Int) (a:Addr):Prop:=H a = some (.lst (ws.map V.int))
theorem IRow.mono {H H':Hp} {ws:List Int} {a:Addr} (h:IRow H ws a) (g:Same H H'):IRow H' ws a:=g _ _ h
structure NewT (H H':Hp) (M:List (List Nb)) (top:Addr) (ras:List Addr):Prop where
 tab:TabAt H' M top ras
 ft:H top = none
 fr:∀ r∈ras,H r = none
 nd:ras.Nodup
 nt:top∉ras
structure NewR (H H':Hp) (xs:List Nb) (a:Addr):Prop where
 row:RowAt H' xs a
 fa:H a = none
theorem Same.none {H H':Hp} (g:Same H H') {p:Addr} (h:H' p = none):H p = none:=by
 cases e:H p with
 | none=>rfl
 | some u=>rw [g _ _ e] at h; cases h
theorem qj {H H':Hp} {p:Addr} {o:HO} (g:Same H H') (h:H p = none):Same H (upd H' p o):=fun b u q=>by
 rw [zw (zB q h)]; exact g _ _ q
theorem RowAt.len {H:Hp} {xs:List Nb} {a:Addr} (h:RowAt H xs a):∃ vs,H a = some (.lst vs)∧Paired (RN H) xs vs∧vs.length = xs.length :=
 let ⟨vs,h1,h2⟩:=h
 ⟨vs,h1,h2,(yp h2).symm⟩
theorem zgZ {α β:Type} {R:α→β→Prop}:∀ {xs:List α} {ys:List β},xs.length = ys.length→(∀ (i:Nat) (a:α) (b:β),xs[i]? = some a→ys[i]? = some b→R a b)→Paired R xs ys
 | [],[],_,_=>.nil
 | [],_ :: _,h,_=>by simp at h
 | _ :: _,[],h,_=>by simp at h
 | a :: xs,b :: ys,h,f=>.cons (f 0 a b rfl rfl) (zgZ (by simpa using h) fun i x y h1 h2=>f (i + 1) x y (by simpa using h1) (by simpa using h2))
theorem zdm {α β:Type} {R:α→β→Prop} {xs:List α} {ys:List β} {i:Nat} {a:α} {b:β} (h:Paired R xs ys) (h1:xs[i]? = some a) (h2:ys[i]? = some b):R a b:=by
 obtain ⟨b',e,r⟩:=YU h h1
 rw [h2] at e; cases e; exact r
theorem sm_one:Sm 1 1:=by unfold Sm; decide
theorem JW (n:Nat):Sm n 0:=by unfold Sm; exact Nat.pow_pos (by decide)
theorem zck {n:Nat} {w d:Int} (h:Sm n w) (hd:d ∣ w):Sm n (w.fdiv d):=by
 rw [Int.fdiv_eq_ediv_of_dvd hd]
 by_cases z:d = 0
 ·subst z; rw [Int.ediv_zero]; exact JW n
 ·have e:=Int.ediv_mul_cancel hd
  refine h.le ?_
  have h1:(w / d * d).natAbs = w.natAbs:=by rw [e]
  rw [Int.natAbs_mul] at h1
  rw [← h1]
  exact Nat.le_mul_of_pos_right _ (Int.natAbs_pos.mpr z)
theorem zff {n:Nat} {w k:Int} (k0:0 < k) (k9:k < 2305843009213693952) (hn:61≤n):Sm n (w.fmod k) :=
 (zc2 (Int.fmod_nonneg_of_pos w k0) (Int.fmod_lt_of_pos w k0) k9).mono hn
theorem zeJ {n:Nat}:∀ {ws:List Int},(∀ w∈ws,Sm n w)→Sm (n + ws.length) ws.sum
 | [],_=>by rw [List.sum_nil]; exact JW _
 | w :: ws,h=>by
  rw [List.sum_cons]
  have h1:=zeJ (ws:=ws) fun x hx=>h x (List.mem_cons_of_mem _ hx)
  have h2:=(h w List.mem_cons_self).mono (Nat.le_add_right n ws.length)
  exact (h2.add h1).mono (by rw [List.length_cons]; omega)
theorem YM {n:Nat} {k w:Int} (hk:KindOk k) (h:Sm n w) (hn:61≤n):nsm n (nnum k w):=by
 unfold nnum
 split
 ·exact ⟨h,Sm.mono (m:=1) sm_one (by omega)⟩
 ·rename_i k0
  exact zff (by have:=hk.lt; omega) hk.lt.2 hn
noncomputable def gLst (K:PySem.W.Frag) (n:Nat) (t:TGs):TG:=fun v σ H Q=>∃ a xs,v = .ref a∧SqL K H a xs∧xs.length = n∧t xs σ H Q
theorem zhc {X:Cx} {pos:Pos} {es:List Expr} {k:Nat} {t:TGs} {n:Nat} (hc:X.calm = true) (h:PGs X es t)
  (hn:(assignEach es X.env).length = n:=by rfl) (hst:(assignEach es X.env).findIdx? (·.1) = none:=by rfl):PG X (.Tuple es k pos) (gLst X.K n t):=by
 intro pins s σ H v u Q I r hw
 obtain ⟨a,xs,e1,hq,hl,hw⟩:=hw
 subst e1
 cases r
 obtain ⟨its,rv,pl,hz⟩:=I.list hq
 have e:(assignEach es X.env).length = its.toArray.size:=by simp [hn,← hl,rv.length]
 rw [assign_Tuple]
 refine wpAny_bind (wpAny_standAt ?_)
 unfold unpack
 rw [e,hst]
 refine wpAny_bind (wpAny_holding (PySem.W.kun_itemsOf (I.ok.hd hc) pl.isList fun h' hx=>?_))
 have I1:Inv X pins σ H { s with heap:=h' }:=I.kept (t':=s.toks) fun b o e=>hx b o (Nat.ne_of_lt (Heap.lt_size e)) e
 exact h pins _ σ H xs _ Q I1 (by simpa using rv) hw
theorem zem {b d:Int} (hb:0 < b) (hd:0 < d):0 < b.fdiv ((Int.gcd b d:Nat):Int) * d∧b ∣ b.fdiv ((Int.gcd b d:Nat):Int) * d∧d ∣ b.fdiv ((Int.gcd b d:Nat):Int) * d∧((Int.gcd b d:Nat):Int)≠0:=by
 have g0:0 < ((Int.gcd b d:Nat):Int):=by have:=Int.gcd_pos_of_ne_zero_left d (show b≠0 by omega); omega
 have db:((Int.gcd b d:Nat):Int) ∣ b:=Int.gcd_dvd_left b d
 have dd:((Int.gcd b d:Nat):Int) ∣ d:=Int.gcd_dvd_right b d
 have e1:=La.jw db (by omega)
 have e2:=La.jw dd (by omega)
 have p1:0 < b.fdiv ((Int.gcd b d:Nat):Int):=by
  rcases Int.lt_trichotomy 0 (b.fdiv ((Int.gcd b d:Nat):Int)) with h | h | h
  ·exact h
  ·rw [← h] at e1; omega
  ·have:=Int.mul_neg_of_neg_of_pos h g0; omega
 refine ⟨Int.mul_pos p1 hd,⟨d.fdiv ((Int.gcd b d:Nat):Int),?_⟩,Int.dvd_mul_left _ _,by omega⟩
 generalize b.fdiv ((Int.gcd b d:Nat):Int) = x at *
 generalize d.fdiv ((Int.gcd b d:Nat):Int) = y at *
 generalize ((Int.gcd b d:Nat):Int) = g at *
 rw [← e1,← e2]
 grind
theorem JC {k:Int} {H:Hp} (k0:k≠0):∀ {xs:List Nb} {vs:List V},La.OkR k xs→Paired (RN H) xs vs→∃ is:List Int,xs = is.map Nb.z∧vs = is.map V.int
 | _,_,_,.nil=>⟨[],rfl,rfl⟩
 | x :: xs,v :: vs,h,.cons r t=>by
  obtain ⟨is,e1,e2⟩:=JC k0 (fun y hy=>h y (List.mem_cons_of_mem _ hy)) t
  have hx:=h x List.mem_cons_self
  cases x with
  | q a=>exact absurd hx k0
  | z i=>exact ⟨i :: is,by rw [e1]; rfl,by rw [e2,r.z]; rfl⟩
theorem zbE {k:Int} (k0:k≠0) (is:List Int):La.Scl k (is.map Nb.z) is 1 :=
 ⟨by rw [List.map_map]; exact (List.map_id'' (fun _=>rfl) is).symm,by decide,fun _=>rfl,fun x hx=>by
  obtain ⟨i,_,rfl⟩:=List.mem_map.mp hx
  trivial⟩
theorem RN.upd {H:Hp} {x:Nb} {v:V} {t:Addr} {zs zs':List V} (h:RN H x v) (ht:H t = some (.lst zs)):RN (upd H t (.lst zs')) x v:=by
 cases x with
 | q r =>
  obtain ⟨a,rfl,ha⟩:=h.q
  exact RN.of_q (by rw [zw (fun e=>by rw [e,ht] at ha; cases ha)]; exact ha)
 | z i=>rw [h.z]; exact RN.of_z
theorem RowAt.upd {H:Hp} {xs:List Nb} {a t:Addr} {zs zs':List V} (h:RowAt H xs a) (ne:a≠t) (ht:H t = some (.lst zs)):RowAt (upd H t (.lst zs')) xs a :=
 let ⟨vs,h1,h2⟩:=h
 ⟨vs,by rw [zw ne]; exact h1,jW (fun _ _ r=>r.upd ht) h2⟩
theorem RowAt.some {H:Hp} {xs:List Nb} {a:Addr} (h:RowAt H xs a):∃ o,H a = some o:=let ⟨vs,h1,_⟩:=h; ⟨_,h1⟩
structure Grow (H H':Hp) (M:List (List Nb)) (ras:List Addr):Prop where
 same:Same H H'
 rows:Paired (RowAt H') M ras
 fr:∀ r∈ras,H r = none
 nd:ras.Nodup
theorem Grow.nil (H:Hp) {H':Hp} (g:Same H H'):Grow H H' [] []:=⟨g,.nil,fun _ h=>(nomatch h),.nil⟩
section
variable {H H' H2:Hp} {M:List (List Nb)} {ras:List Addr}
theorem Grow.mono (G:Grow H H' M ras) (g:Same H' H2):Grow H H2 M ras:=⟨G.same.trans g,jW (fun _ _ r=>r.mono g) G.rows,G.fr,G.nd⟩
theorem Grow.not_mem (G:Grow H H' M ras) {p:Addr} (hp:H' p = none):p∉ras:=fun hm=>by
 obtain ⟨xs,_,h⟩:=zeR G.rows hm
 obtain ⟨o,e⟩:=h.some
 rw [hp] at e; cases e
theorem Grow.snoc (G:Grow H H' M ras) {xs:List Nb} {vs:List V} {p:Addr} (hp:H' p = none) (hr:Paired (RN H') xs vs):Grow H (upd H' p (.lst vs)) (M ++ [xs]) (ras ++ [p]):=by
 have g:=zh hp (.lst vs)
 have G':=G.mono g
 refine ⟨G'.same,ZH G'.rows ⟨vs,zf,zaU g hr⟩,fun r hr'=>?_,?_⟩
 ·rcases List.mem_append.mp hr' with h | h
  ·exact G.fr r h
  ·rw [List.mem_singleton.mp h]; exact G.same.none hp
 ·rw [List.nodup_append]
  refine ⟨G.nd,by simp,fun a ha b hb=>?_⟩
  rw [List.mem_singleton.mp hb]
  exact fun e=>G.not_mem hp (by rw [← e]; exact ha)
theorem Grow.done (G:Grow H H' M ras) {top:Addr} (ht:H' top = none):NewT H (upd H' top (.lst (ras.map V.ref))) M top ras :=
 ⟨⟨zf,jW (fun _ _ r=>r.mono (zh ht _)) G.rows⟩,G.same.none ht,G.fr,G.nd,G.not_mem ht⟩
end
noncomputable def SclAt (H:Hp) (k:Int) (m:Nat) (xs:List Nb) (p:Addr):Prop:=∃ l ws b,H p = some (.tup [.ref l,.int b])∧IRow H ws l∧La.Scl k xs ws b∧Sm m b∧∀ w∈ws,Sm m w
theorem SclAt.mono {H H':Hp} {k:Int} {m:Nat} {xs:List Nb} {p:Addr} (h:SclAt H k m xs p) (g:Same H H'):SclAt H' k m xs p :=
 let ⟨l,ws,b,h1,h2,r⟩:=h
 ⟨l,ws,b,g _ _ h1,h2.mono g,r⟩
noncomputable def imgM (k:Int) (M:List (List Nb)) (xs:List Nb):List Nb:=M.map fun r=>La.ndot k r xs
theorem tyes {σ:St} {H:Hp} {A B:Hp→Prop} (h:A H):tTrue σ H fun b H3=>if b = true then A H3 else B H3:=by
 show if true = true then A H else B H
 exact iteT h
theorem gyes {i:Nat} {x:V} {σ:St} {H:Hp} {A B:St→Hp→Prop} (h:A (σ.set i (some x)) H):gName i x σ H fun σ2 H2=>tTrue σ2 H2 fun b H3=>if b = true then A σ2 H3 else B σ2 H3:=by
 show if true = true then A (σ.set i (some x)) H else B (σ.set i (some x)) H
 exact iteT h
noncomputable def intsD (ns:List Int):PyData:=.list (ns.map .int)
theorem QU {H:Hp}:∀ (ns:List Int),Rps H (ns.map PyData.int) (ns.map V.int)
 | []=>by simp [Rps]
 | n :: ns=>by
  simp only [List.map_cons,Rps]
  exact ⟨_,_,rfl,by simp only [Rp],QU ns⟩
theorem xw {H:Hp} {ns:List Int} {a:Addr} (h:H a = some (.lst (ns.map V.int))):Rp H (intsD ns) (.ref a):=by
 simp only [intsD,Rp]
 exact ⟨a,_,rfl,h,QU ns⟩
theorem jv {H:Hp} {d:PyData} {ds:List PyData} {v:V} {vs:List V} (h:Rp H d v) (r:Rps H ds vs):Rps H (d :: ds) (v :: vs):=by
 simp only [Rps]
 exact ⟨_,_,rfl,h,r⟩
theorem zbB {H:Hp}:Rps H [] []:=by simp only [Rps]
section
variable {X:Cx} {K:PySem.W.Frag}
theorem Ze (hK:X.K = K):IxR X (rIxL K):=hK ▸ zbr
theorem zee (hK:X.K = K):SlR X (rSlL K):=hK ▸ zc4
theorem zbC (hK:X.K = K):CallR X (.builtin "len") (fun xs H Q=>∃ p ys,xs = [.ref p]∧(SqL K H p ys∨SqT K H p ys)∧Q (.int ys.length) H):=hK ▸ JO
theorem zaA (hK:X.K = K):CallR X (.type "list") (fun xs H Q=>∃ p ys,xs = [.ref p]∧(SqL K H p ys∨SqT K H p ys)∧∀ l,H l = none→Q (.ref l) (upd H l (.lst ys))):=hK ▸ XV
theorem Ji (hK:X.K = K):CallR X (.builtin "isinstance") (rIsi K):=hK ▸ zd2
theorem XW (hc:X.calm = true) (hK:X.K = K):CallR X (.builtin "sum") (fun xs H Q=>∃ p ns,xs = [.ref p]∧SqL K H p ((ns:List Int).map V.int)∧Q (.int ns.sum) H):=hK ▸ zcc hc
theorem zgv (hK:X.K = K):OpR X (compareOp .In) (rIn K false):=hK ▸ zbz
theorem Yt {tg l:Expr} {tl:TE} (hK:X.K = K) (hl:PE X l tl):PI X tg l (iList K tl):=hK ▸ zcP hl
theorem zfO {pos:Pos} {es:List Expr} {k:Nat} {t:TGs} (n:Nat) (hK:X.K = K) (hc:X.calm = true) (h:PGs X es t)
  (hn:(assignEach es X.env).length = n:=by rfl) (hst:(assignEach es X.env).findIdx? (·.1) = none:=by rfl):PG X (.Tuple es k pos) (gTup K n t):=hK ▸ zgN hc h hn hst
theorem zfT {pos:Pos} {es:List Expr} {k:Nat} {t:TGs} (n:Nat) (hK:X.K = K) (hc:X.calm = true) (h:PGs X es t)
  (hn:(assignEach es X.env).length = n:=by rfl) (hst:(assignEach es X.env).findIdx? (·.1) = none:=by rfl):PG X (.Tuple es k pos) (gLst K n t):=hK ▸ zhc hc h hn hst
end
end L2
namespace La
open Lean.Grind Nm
end La
namespace L2
open PySem PySem.Spec PyProof.Rows Nm
end L2
namespace La
open Lean.Grind Nm
noncomputable def dB (D B:Nat):Nb→Prop
 | .q r=>∃ a:Int,r * ((D:Int):Rat) = ((a:Int):Rat)∧a.natAbs≤B
 | .z _=>True
theorem dB.mono {D B B':Nat} {x:Nb} (hx:dB D B x) (h:B≤B'):dB D B' x:=by
 cases x with
 | q r=>obtain ⟨a,ea,ha⟩:=hx; exact ⟨a,ea,Nat.le_trans ha h⟩
 | z i=>trivial
theorem dB.parts {r:Rat} {D B:Nat} (hD:D≠0) (h:dB D B (.q r)):r.den≤D∧r.num.natAbs≤B:=by
 obtain ⟨a,ea,ha⟩:=h
 have e0:=kfRat.rat r rfl
 have e0':r * ((r.den:Int):Rat) = ((r.num:Int):Rat):=e0
 have e1:r.num * (D:Int) = a * (r.den:Int):=by
  have:((r.num * (D:Int):Int):Rat) = ((a * (r.den:Int):Int):Rat):=by
   rw [Rat.intCast_mul,Rat.intCast_mul,← e0',← ea]
   grind
  exact Rat.intCast_inj.mp this
 have e2:r.num.natAbs * D = a.natAbs * r.den:=by
  have:=congrArg Int.natAbs e1
  rw [Int.natAbs_mul,Int.natAbs_mul,Int.natAbs_natCast,Int.natAbs_natCast] at this
  exact this
 have cop:Nat.Coprime r.den r.num.natAbs:=(Nat.coprime_comm.mp r.reduced)
 have dv:r.den ∣ D:=cop.dvd_of_dvd_mul_left ⟨a.natAbs,by rw [e2,Nat.mul_comm]⟩
 have le:r.den≤D:=Nat.le_of_dvd (by omega) dv
 refine ⟨le,?_⟩
 have h1:r.num.natAbs * D≤a.natAbs * D:=by rw [e2]; exact Nat.mul_le_mul_left _ le
 have h2:r.num.natAbs≤a.natAbs:=Nat.le_of_mul_le_mul_right h1 (by omega)
 omega
end La
namespace L2
open PySem PySem.Spec PyProof.Rows Nm
theorem Jq {t u:TS} {D:Ends} {σ:St} {H:Hp} (N:St→Hp→Prop) (hN:∀ σ H,N σ H→u D σ H) (h:(∀ σ H,N σ H→u D σ H)→t { D with nx:=u D } σ H):tSeq t u D σ H:=h hN
end L2
namespace La
open Lean.Grind Nm
end La
namespace L2
open PySem PySem.Spec PyProof.Rows Nm
end L2
namespace La
open Lean.Grind Nm
noncomputable def rowD (D B:Nat) (xs:List Nb):Prop:=∀ x∈xs,dB D (2 ^ B - 1) x
noncomputable def rowB (B:Nat) (xs:List Nb):Prop:=∃ D:Nat,D≠0∧D < 2 ^ B∧rowD D B xs
theorem rowB.mono {B C:Nat} {xs:List Nb} (h:rowB B xs) (hc:B≤C):rowB C xs:=by
 obtain ⟨D,d0,d1,hd⟩:=h
 have:2 ^ B≤2 ^ C:=Nat.pow_le_pow_right (by decide) hc
 exact ⟨D,d0,by omega,fun x hx=>(hd x hx).mono (by omega)⟩
theorem dB.den_dvd {D B:Nat} {r:Rat} (hD:D≠0) (h:dB D B (.q r)):(r.den:Int) ∣ (D:Int):=by
 obtain ⟨a,ea,ha⟩:=h
 have e0':r * ((r.den:Int):Rat) = ((r.num:Int):Rat):=kfRat.rat r rfl
 have e1:r.num * (D:Int) = a * (r.den:Int):=by
  have:((r.num * (D:Int):Int):Rat) = ((a * (r.den:Int):Int):Rat):=by
   rw [Rat.intCast_mul,Rat.intCast_mul,← e0',← ea]
   grind
  exact Rat.intCast_inj.mp this
 have e2:r.num.natAbs * D = a.natAbs * r.den:=by
  have:=congrArg Int.natAbs e1
  rw [Int.natAbs_mul,Int.natAbs_mul,Int.natAbs_natCast,Int.natAbs_natCast] at this
  exact this
 have cop:Nat.Coprime r.den r.num.natAbs:=(Nat.coprime_comm.mp r.reduced)
 have dv:r.den ∣ D:=cop.dvd_of_dvd_mul_left ⟨a.natAbs,by rw [e2,Nat.mul_comm]⟩
 exact Int.ofNat_dvd.mpr dv
theorem zgP {D B:Nat} {b:Int} {x:Nb} {k:Int} (hk:KindOk k) (ox:x.ok k) (h7:61≤B) (hD:D≠0) (h:dB D (2 ^ B - 1) x) (hb:0 < b) (hx:dvB b x) (hd:k = 0→b ∣ (D:Int)):(scW b x).natAbs < 2 ^ B:=by
 have p2:0 < 2 ^ B:=Nat.pow_pos (by decide)
 cases x with
 | q r =>
  obtain ⟨a,ea,ha⟩:=h
  obtain ⟨e,he⟩:=hd ox
  have hdv:(r.den:Int) ∣ b:=hx
  have e1:=jw hdv (JJ r)
  have e0':r * ((r.den:Int):Rat) = ((r.num:Int):Rat):=kfRat.rat r rfl
  have key:a = scW b (.q r) * e:=by
   show a = r.num * b.fdiv (r.den:Int) * e
   generalize b.fdiv (r.den:Int) = u at *
   have hDD:((D:Int):Rat) = (u:Rat) * ((r.den:Int):Rat) * (e:Rat):=by rw [he,← e1,Rat.intCast_mul,Rat.intCast_mul]
   have:((a:Int):Rat) = ((r.num * u * e:Int):Rat):=by
    rw [Rat.intCast_mul,Rat.intCast_mul,← ea,← e0',hDD]
    generalize ((r.den:Int):Rat) = dd
    grind
   exact Rat.intCast_inj.mp this
  have ene:e≠0:=fun z=>by rw [z,Int.mul_zero] at he; omega
  have:(scW b (.q r)).natAbs≤a.natAbs:=by
   rw [key,Int.natAbs_mul]
   exact Nat.le_mul_of_pos_right _ (Int.natAbs_pos.mpr ene)
  omega
 | z i =>
  have:=hk.lt
  obtain ⟨_,i0,i1⟩:=ox
  show i.natAbs < 2 ^ B
  have:2 ^ 61≤2 ^ B:=Nat.pow_le_pow_right (by decide) h7
  have:(2:Nat) ^ 61 = 2305843009213693952:=by decide
  omega
theorem zfg {b d D:Int} (hb:0 < b) (hd:0 < d) (h1:b ∣ D) (h2:d ∣ D):b.fdiv ((Int.gcd b d:Nat):Int) * d ∣ D:=by
 have g0:0 < ((Int.gcd b d:Nat):Int):=by have:=Int.gcd_pos_of_ne_zero_left d (show b≠0 by omega); omega
 have db:((Int.gcd b d:Nat):Int) ∣ b:=Int.gcd_dvd_left b d
 have dd:((Int.gcd b d:Nat):Int) ∣ d:=Int.gcd_dvd_right b d
 have e1:=jw db (by omega)
 have e2:=jw dd (by omega)
 have cop:Int.gcd (b.fdiv ((Int.gcd b d:Nat):Int)) (d.fdiv ((Int.gcd b d:Nat):Int)) = 1:=by
  rw [Int.fdiv_eq_ediv_of_dvd db,Int.fdiv_eq_ediv_of_dvd dd,Int.gcd_ediv db dd,Int.natAbs_natCast]
  exact Nat.div_self (by omega)
 generalize hx:b.fdiv ((Int.gcd b d:Nat):Int) = x at *
 generalize hy:d.fdiv ((Int.gcd b d:Nat):Int) = y at *
 generalize hg:((Int.gcd b d:Nat):Int) = g at *
 obtain ⟨s,hs⟩:=h1
 obtain ⟨t,ht⟩:=h2
 have e3:x * s = y * t:=by
  have:g * (x * s) = g * (y * t):=by
   have h:x * g * s = y * g * t:=by rw [e1,e2,← hs,← ht]
   grind
  exact Int.eq_of_mul_eq_mul_left (by omega) this
 have dv:y ∣ s:=by
  have:y ∣ x * s:=⟨t,e3⟩
  have h1:y.natAbs ∣ x.natAbs * s.natAbs:=by rw [← Int.natAbs_mul]; exact Int.natAbs_dvd_natAbs.mpr this
  have c1:Nat.Coprime y.natAbs x.natAbs:=by
   have:Nat.gcd x.natAbs y.natAbs = 1:=cop
   exact (Nat.coprime_comm.mp this)
  exact Int.natAbs_dvd_natAbs.mp (c1.dvd_of_dvd_mul_left h1)
 obtain ⟨u,hu⟩:=dv
 refine ⟨u,?_⟩
 rw [hs,hu,← e1,← e2]
 grind
end La
namespace La
open Lean.Grind Nm
end La
namespace La
open Lean.Grind Nm
end La
namespace La
open Lean.Grind Nm
end La
namespace La
open Lean.Grind Nm
end La
namespace L2
open PySem PySem.Spec PyProof.Rows Nm
structure ROk (k:Int) (n m:Nat) (xs:List Nb):Prop where
 len:xs.length = n
 ok:La.OkR k xs
 sz:∀ x∈xs,nsm m x
structure TOk (k:Int) (r c m:Nat) (M:List (List Nb)):Prop where
 len:M.length = r
 ok:La.OkM k c M
 sz:∀ r∈M,∀ x∈r,nsm m x
theorem TOk.row {k:Int} {r c m:Nat} {M:List (List Nb)} (h:TOk k r c m M) {x:List Nb} (hx:x∈M):ROk k c m x:=⟨(h.ok x hx).1,(h.ok x hx).2,h.sz x hx⟩
theorem ROk.app {k:Int} {n n' m:Nat} {xs ys:List Nb} (h:ROk k n m xs) (h':ROk k n' m ys):ROk k (n + n') m (xs ++ ys) :=
 ⟨by rw [List.length_append,h.len,h'.len],fun x hx=>(List.mem_append.mp hx).elim (h.ok x) (h'.ok x),fun x hx=>(List.mem_append.mp hx).elim (h.sz x) (h'.sz x)⟩
structure MOk (k:Int) (n h s m:Nat) (A B C:List (List Nb)):Prop where
 a:TOk k n n m A
 b:TOk k n h m B
 c:TOk k s n m C
structure MachAt (H:Hp) (A B C:List (List Nb)) (p ta tb tc:Addr) (ra rb rc:List Addr):Prop where
 tup:H p = some (.tup [.ref ta,.ref tb,.ref tc])
 a:TabAt H A ta ra
 b:TabAt H B tb rb
 c:TabAt H C tc rc
theorem MachAt.mono {H H':Hp} {A B C:List (List Nb)} {p ta tb tc:Addr} {ra rb rc:List Addr} (h:MachAt H A B C p ta tb tc ra rb rc) (g:Same H H'):MachAt H' A B C p ta tb tc ra rb rc:=⟨g _ _ h.tup,h.a.mono g,h.b.mono g,h.c.mono g⟩
noncomputable def augM (A B:List (List Nb)):List (List Nb):=List.zipWith (· ++ ·) A B
theorem QP {A B:List (List Nb)} {i:Nat} {a b:List Nb} (hA:A[i]? = some a) (hB:B[i]? = some b):(augM A B)[i]? = some (a ++ b):=by unfold augM; rw [List.getElem?_zipWith,hA,hB]
theorem zey {k:Int} {r c c' m:Nat} {A B:List (List Nb)} (hA:TOk k r c m A) (hB:TOk k r c' m B):TOk k r (c + c') m (augM A B):=by
 have row:∀ q∈augM A B,ROk k (c + c') m q:=fun q hq=>by
  obtain ⟨i,hi⟩:=List.mem_iff_getElem?.mp hq
  have hl:i < (augM A B).length:=(List.getElem?_eq_some_iff.mp hi).1
  unfold augM at hl
  rw [List.length_zipWith,hA.len,hB.len] at hl
  have i1:i < A.length:=by rw [hA.len]; omega
  have i2:i < B.length:=by rw [hB.len]; omega
  rw [QP (List.getElem?_eq_getElem i1) (List.getElem?_eq_getElem i2)] at hi
  cases hi
  exact (hA.row (List.getElem_mem i1)).app (hB.row (List.getElem_mem i2))
 exact ⟨by unfold augM; rw [List.length_zipWith,hA.len,hB.len]; omega,fun q hq=>⟨(row q hq).len,(row q hq).ok⟩,fun q hq=>(row q hq).sz⟩
noncomputable def nextM (k:Int) (A B:List (List Nb)) (xs us:List Nb):List Nb:=imgM k (augM A B) (xs ++ us)
noncomputable def stM (k:Int) (A B:List (List Nb)) (xs:List Nb) (U:List (List Nb)):List Nb:=U.foldl (nextM k A B) xs
theorem zdA {k:Int} {A B:List (List Nb)} {xs:List Nb} {U:List (List Nb)} {u:List Nb}:stM k A B xs (U ++ [u]) = nextM k A B (stM k A B xs U) u:=by unfold stM; rw [List.foldl_append]; rfl
noncomputable def runM (k:Int) (A B C:List (List Nb)) (xs:List Nb) (U:List (List Nb)):List (List Nb):=(List.range (U.length + 1)).map fun i=>imgM k C (stM k A B xs (U.take i))
theorem zae {k:Int} {A B C:List (List Nb)} {xs:List Nb} {U:List (List Nb)} {i:Nat} (h:i≤U.length):(runM k A B C xs U)[i]? = some (imgM k C (stM k A B xs (U.take i))):=by
 unfold runM
 rw [List.getElem?_map,List.getElem?_range (by omega)]; rfl
theorem Xb {k:Int} {A B C:List (List Nb)} {xs:List Nb} {U:List (List Nb)}:(runM k A B C xs U).length = U.length + 1:=by unfold runM; simp
theorem Grow.pushR {H H' H2:Hp} {M:List (List Nb)} {ras:List Addr} (G:Grow H H' M ras) {t p:Addr} {xs:List Nb} {zs zs':List V} (tn:H t = none) (ht:H' t = some (.lst zs)) (tr:t∉ras) (g:Same H' H2) (hp:H' p = none) (hr:RowAt H2 xs p) :
  Grow H (upd H2 t (.lst zs')) (M ++ [xs]) (ras ++ [p])∧t∉ras ++ [p]:=by
 have ht2:H2 t = some (.lst zs):=g _ _ ht
 have tp:t≠p:=fun e=>by rw [e,hp] at ht; cases ht
 have nm:t∉ras ++ [p]:=fun h=>by
  rcases List.mem_append.mp h with h | h
  ·exact tr h
  ·exact tp (List.mem_singleton.mp h)
 have R:Paired (RowAt H2) (M ++ [xs]) (ras ++ [p]):=ZH (G.mono g).rows hr
 refine ⟨⟨qj (G.same.trans g) tn,?_,fun r hr'=>?_,?_⟩,nm⟩
 ·refine zgZ (yp R) fun i x a h1 h2=>(zdm R h1 h2).upd (fun e=>nm ?_) ht2
  rw [← e]
  exact List.mem_of_getElem? h2
 ·rcases List.mem_append.mp hr' with h | h
  ·exact G.fr r h
  ·rw [List.mem_singleton.mp h]; exact G.same.none hp
 ·rw [List.nodup_append]
  refine ⟨G.nd,by simp,fun a ha b hb=>?_⟩
  rw [List.mem_singleton.mp hb]
  exact fun e=>G.not_mem hp (by rw [← e]; exact ha)
end L2
namespace L2
open PySem PySem.Spec PyProof.Rows Nm
end L2
namespace L2
open PySem PySem.Spec PyProof.Rows Nm
end L2
namespace L2
open PySem PySem.Spec PyProof.Rows Nm
end L2
namespace L2
open PySem PySem.Spec PyProof.Rows Nm
section
variable {X:Cx} {K:PySem.W.Frag}
theorem JP (hK:X.K = K):CallR X (.type "tuple") (fun xs H Q=>∃ p ys,xs = [.ref p]∧((SqL K H p ys∧∀ l,H l = none→Q (.ref l) (upd H l (.tup ys)))∨(SqT K H p ys∧Q (.ref p) H))):=hK ▸ Xg
end
end L2
namespace L2
open PySem PySem.Spec PyProof.Rows
section
variable {P:Program} {w:World} {K:PySem.W.Frag} {mg:Str→Option Value} {base:Heap}
theorem zfp {h:Heap} {C:Addr} {bmB:List Value} {newId:String} (X:K.In h) (q:PySem.W.excIn K C bmB newId = true) :
  ∃ bm N nm q bs hdct sn sub ab col dd k0 k1 k2 k3 k5 mN,h.get? C = some (excClassObj nm q C N bs bm hdct sn sub ab col dd k0 k1 k2 k3 k5 newId)∧h.Ns N mN∧mN (Str.ofString "__init__") = none∧OwnTail h bmB bm:=by
 unfold PySem.W.excIn at q
 split at q
 ·rename_i dict cd sl hl
  split at q
  ·rename_i C' bm a b c d n e hm hs
   simp only [Bool.and_eq_true,beq_iff_eq,Bool.not_eq_true'] at q
   obtain ⟨⟨⟨⟨⟨rfl,rfl⟩,hdel⟩,ht⟩,hok⟩,hni⟩:=q
   obtain ⟨nm,bs,mro,ns,qn,hd,sn,sub,ab,col,del⟩:=cd
   obtain ⟨sl⟩:=sl
   simp only at hm hs hdel hok hni
   subst hm hs hdel
   exact ⟨bm,ns,nm,qn,bs,hd,sn,sub,ab,col,dict,a,b,c,d,e,h.nsMap ns,X _ _ hl,Heap.Ns.of_isNs (PySem.W.isNs_of_in X hok),PySem.W.nsMap_none_of_in X hok hni,PySem.W.tail_of_in X ht⟩
  ·cases q
 ·cases q
noncomputable abbrev bmVE:List Value:=[Value.type "ValueError",Value.type "Exception",Value.type "BaseException",Value.type "object"]
structure Ec (K:PySem.W.Frag) (mg:Str→Option Value) (x:Str) (C:Addr):Prop where
 bound:mg x = some (.ref C)
 own:PySem.W.excIn K C bmVE "ValueError.__new__" = true
theorem yb {h b1:Heap}:∀ {l:List Env} {b:Addr},h.FunFrames b1 l→b∈frs l→∃ o,h.get? b = some o∧b1.get? b = none∧∀ vs,o.data≠Data.fields vs
 | [],b,_,hb=>by simp [frs] at hb
 | env :: l,b,F,hb=>by
  obtain ⟨_,⟨L,o,e1,e2,e3,e4⟩,F'⟩:=F
  have hb':b = L∨b∈frs l:=by
   unfold frs at hb ⊢
   rw [List.filterMap_cons_some e1] at hb
   exact List.mem_cons.mp hb
  rcases hb' with rfl | hb'
  ·exact ⟨o,e3,e2,e4⟩
  ·exact yb F' hb'
theorem Yn {h b1:Heap} {as:List Addr}:∀ {l:List Env},h.FunFrames b1 l→(∀ b∈frs l,b∈as)→h.FunFrames (PySem.W.hideAll h as) l
 | [],_,_=>trivial
 | env :: l,F,hs=>by
  obtain ⟨k,⟨L,o,e1,e2,e3,e4⟩,F'⟩:=F
  have em:frs (env :: l) = L :: frs l:=by unfold frs; rw [List.filterMap_cons_some e1]
  rw [em] at hs
  exact ⟨k,⟨L,o,e1,PySem.W.hideAll_none as (hs L List.mem_cons_self),e3,e4⟩,Yn F' fun b hb=>hs b (List.mem_cons_of_mem _ hb)⟩
theorem ObjOk.there {H:Hp} {h:Heap} {a:Addr} {o:HO} (x:ObjOk P w H h a o):∃ ob,h.get? a = some ob:=by
 cases o with
 | lst xs=>obtain ⟨_,_,_,_,e⟩:=x; exact ⟨_,e⟩
 | tup xs=>obtain ⟨_,_,_,_,e,_⟩:=x; exact ⟨_,e⟩
 | dK kvs=>obtain ⟨_,_,_,_,o,_,_,e,_⟩:=x; exact ⟨_,e⟩
 | dT kvs=>obtain ⟨_,_,_,_,o,_,_,e,_⟩:=x; exact ⟨_,e⟩
 | set S n=>obtain ⟨o,_,_,_,e,_⟩:=x; exact ⟨_,e⟩
 | ins C dx fs=>obtain ⟨_,_,_,e,_⟩:=x; exact ⟨_,e⟩
 | own y=>obtain ⟨_,e⟩:=x; exact ⟨_,e⟩
 | xd fs=>obtain ⟨_,⟨_,_,_,e,_⟩,_⟩:=x; exact ⟨_,e⟩
 | rng lo hi=>obtain ⟨_,_,_,e⟩:=x; exact ⟨_,e⟩
 | frz ob u=>obtain ⟨e,_⟩:=x; exact ⟨_,e⟩
 | tbl ps=>exact ⟨_,(show h.get? a = some _ from x)⟩
 | met f y=>exact ⟨_,(show h.get? a = some _ from x)⟩
 | ext φ=>obtain ⟨_,⟨_,e⟩,_⟩:=x; exact ⟨_,e⟩
structure Fly (P:Program) (w:World) (outer:List Env) (H:Hp) (s:Shared) (H':Hp) (b1:Heap) (e C:Addr) (h:Heap):Prop where
 fl:∃ t,b1.FlyingW outer e (.ref C) t h
 un:Un (frs outer) [] H H' s.heap h
 hok:HOk P w H' h
 kb:∀ b o,h.get? b = some o→(s.heap.get? b≠none∨H' b≠none)→b∉frs outer→b1.get? b = some o
 fr:∀ b∈frs outer,H' b = none
 new:s.heap.get? e = none∧H' e = none
theorem Fly.step {outer:List Env} {H H':Hp} {s:Shared} {b1 h h':Heap} {e C:Addr} (F:Fly P w outer H s H' b1 e C h) (st:b1.StaysIn h') (fl:∃ t,b1.FlyingW outer e (.ref C) t h') (u:h.UpToSlots h'):Fly P w outer H s H' b1 e C h':=by
 obtain ⟨t,_,_,ff,_⟩:=F.fl
 have thr:∀ b,s.heap.get? b≠none→∃ o,h.get? b = some o:=fun b hb=>by
  cases q:s.heap.get? b with
  | none=>exact absurd q hb
  | some o=>exact F.un.there b o q (by simp)
 have thr2:∀ b,H' b≠none→∃ o,h.get? b = some o:=fun b hb=>by
  cases q:H' b with
  | none=>exact absurd q hb
  | some o=>exact (F.hok b o q).there
 have kp:∀ b o,h.get? b = some o→(s.heap.get? b≠none∨H' b≠none)→b∉frs outer→h'.get? b = some o:=fun b o q c n=>st b o (F.kb b o q c n)
 refine ⟨fl,⟨fun b o q n hb _=>?_,fun b o q n hb _=>?_,F.un.free,fun b o q _=>?_,F.un.tups,F.un.frzs,F.un.tbls⟩,fun a o q=>?_,fun b o q c n=>?_,F.fr,F.new⟩
 ·exact kp b o (F.un.keep b o q n hb (by simp)) (.inl (by rw [q]; simp)) hb
 ·obtain ⟨sl,q1⟩:=F.un.slot b o q n hb (by simp)
  obtain ⟨o',e1,_,e3⟩:=yb ff hb
  rw [q1] at e1; cases e1
  obtain ⟨sl',q2⟩:=u b _ q1 e3
  exact ⟨sl',q2⟩
 ·obtain ⟨o',q1⟩:=F.un.there b o q (by simp)
  by_cases hb:b∈frs outer
  ·obtain ⟨o2,e1,_,e3⟩:=yb ff hb
   obtain ⟨sl',q2⟩:=u b _ e1 e3
   exact ⟨_,q2⟩
  ·exact ⟨o',kp b o' q1 (.inl (by rw [q]; simp)) hb⟩
 ·refine (F.hok a o q).stay (fun b u' hb q1=>?_) (fun _ z=>z) fun _ _ z=>z
  have nn:H' b≠none:=by
   rcases hb with rfl | hb
   ·rw [q]; simp
   ·rw [hb]; simp
  exact kp b u' q1 (.inr nn) fun z=>nn (F.fr b z)
 ·obtain ⟨o1,q1⟩ : ∃ o1,h.get? b = some o1:=by
   rcases c with c | c
   ·exact thr b c
   ·exact thr2 b c
  have q2:=kp b o1 q1 c n
  have e12:o1 = o:=Option.some.inj (q2.symm.trans q)
  rw [← e12]
  exact F.kb b o1 q1 c n
noncomputable def CX1 (P:Program) (w:World):CXT:=fun outer H s E e s'=>∃ (a C:Addr) (H':Hp) (b1:Heap),e = .ref a∧s'.os = s.os∧AllBare s'.gens∧Fly P w outer H s H' b1 a C s'.heap∧E (.ref C) none H'
theorem pass1 {X:Cx}:Passes (CX1 X.prog X.w) X E0:=fun _ _ _ _ _ _ _ h=>by
 obtain ⟨_,_,_,_,_,_,_,_,z⟩:=h
 exact z.elim
end
section
variable {X:Cx} {x:Str} {C:Addr} {np cpos pos:Pos} {e:Expr} {es:List Expr} {ta:TA}
theorem PS.nox {st:Stmt} {t:TS} (h:PS X.nox st t):PS X st t:=fun pins s σ H D I hw =>
 wpAny_mono (h pins s σ H D (I.wish _) hw) (fun _ _ q=>q.unwish) fun _ _ z=>z.elim
noncomputable def Raises (X:Cx) (C:Addr) (R:Hp→Prop):Prop:=∀ (pins:List (Addr×Obj)) (σ:St) (H:Hp) (s:Shared) (h':Heap) (a:Addr) (vs:List Value),Inv X pins σ H s→s.heap.MadeExcOf h' a (.ref C) vs→R H→X.xe (.ref a) { s with heap:=h' }
noncomputable def tRaise (ta:TA) (R:Hp→Prop):TS:=fun _ σ H=>ta σ H fun vs H1=>vs.length≤sizeLine∧R H1
theorem yf {R:Hp→Prop} (c:Ec X.K X.mg x C) (hg:Gl X x) (hc:X.calm = true) (hx:Raises X C R) (ha:PA X (e :: es) ta) (hdb:(x == ("__debug__" : Str)) = false:=by decide)
  (he:starEach (e :: es) X.env = (false,eval e X.env) :: starEach es X.env:=by rfl) (hpl:(backTo cpos (starEach (e :: es) X.env)).any (·.1) = false:=by rfl)
  (hb:backTo cpos ((false,eval e X.env) :: starEach es X.env) = (false,eval e X.env) :: backTo cpos (starEach es X.env):=by rfl) :
  PS X (.Raise (some (.Call (.Name x np) (e :: es) [] cpos)) none pos) (tRaise ta R):=by
 intro pins s σ H D I h
 obtain ⟨bm,N,nm,q,bs,hdct,sn,sub,ab,col,dd,k0,k1,k2,k3,k5,mN,hC,hN,hi,hT⟩:=zfp I.ok.mod.kin c.own
 refine wpAny_Raise_call_subT (nm:=nm) (q:=q) (C:=C) (N:=N) (bs:=bs) (bm:=bm) (hdct:=hdct) (sn:=sn) (sub:=sub) (ab:=ab) (col:=col) (dd:=dd) (k0:=k0) (k1:=k1) (k2:=k2) (k3:=k3) (k5:=k5) (mN:=mN)
  PySem.F.excBase_ValueError (hT.hasType rfl) (I.ok.hd hc) hpl hi ?_
 refine Zj I hg c.bound ⟨rfl,?_⟩ hdb
 have hA:=ha cpos pins s σ H _ I h
 rw [he] at hA ⊢
 refine Calls.evalArgs_plain (thn hA fun us s1 ⟨vs,H1,I1,r,hl,hR⟩=>?_)
 exact ⟨rfl,by rw [← r.length]; exact hl,I1.bk _ _ hC,hN.keeps I1.bk,hT.keeps I1.bk,fun h' a m=>hx pins σ H1 s1 h' a us I1 m hR⟩
end
section
variable {P:Program} {w:World} {K:PySem.W.Frag} {mg:Str→Option Value} {base:Heap}
theorem zS {N:List Str} {qual:Str} {scope:Scope} {f:Addr} {cd:Value} {A:Around} {outer:List Env} {s:Shared} {H:Hp} {E:XK} {C:Addr} :
  Raises (cxOf (CX1 P w) P w K mg base N qual scope f cd A outer s H E) C fun H'=>E (.ref C) none H':=by
 intro pins σ H' s1 h1 a vs I m hE
 have ff:=I.stack
 have hst:frs (envOfC qual scope s.heap.objs.size f cd :: outer) = s.heap.objs.size :: frs outer:=rfl
 have nL:∀ b o,s.heap.get? b = some o→b≠s.heap.objs.size:=fun b o q z=>Nat.lt_irrefl _ (z ▸ Heap.lt_size q)
 refine wpAny_leaves_madeW (outer:=outer) (L:=s.heap.objs.size) (base:=PySem.W.hideAll s1.heap (s.heap.objs.size :: frs outer)) (h:=s1.heap) I.ok.frames rfl (fun b o q=>PySem.W.of_hideAll _ q)
  (Yn ff fun b hb=>by rw [← hst]; exact hb) m fun h' t fl ht _ up=>?_
 have st:=fl.1
 have kp:∀ b o,s1.heap.get? b = some o→b∉s.heap.objs.size :: frs outer→h'.get? b = some o:=fun b o q n=>st b o (PySem.W.hideAll_get _ q n)
 have nf:∀ b,H' b≠none→b∉s.heap.objs.size :: frs outer:=fun b hb z=>hb (I.stkFree b (by rw [← hst] at z; exact z))
 have u:Un (frs outer) [] H H' s.heap s1.heap:=I.base
 refine ⟨a,C,H',_,rfl,I.os,I.bare,⟨⟨_,fl⟩,⟨fun b o q n hb _=>?_,fun b o q n hb _=>?_,u.free,fun b o q _=>?_,u.tups,u.frzs,u.tbls⟩,fun b o q=>?_,fun b o q c n=>?_,fun b hb=>I.stkFree b (List.mem_cons_of_mem _ hb),?_,?_⟩,hE⟩
 ·exact kp b o (u.keep b o q n hb (by simp)) fun z=>(List.mem_cons.mp z).elim (nL b o q) hb
 ·obtain ⟨sl,q1⟩:=u.slot b o q n hb (by simp)
  obtain ⟨o',e1,_,e3⟩:=yb ff (List.mem_cons_of_mem _ hb)
  rw [q1] at e1; cases e1
  obtain ⟨sl',q2⟩:=up b _ (m.keeps _ _ q1) e3
  exact ⟨sl',q2⟩
 ·obtain ⟨o',q1⟩:=u.there b o q (by simp)
  by_cases hb:b∈frs outer
  ·obtain ⟨o2,e1,_,e3⟩:=yb ff (List.mem_cons_of_mem _ hb)
   obtain ⟨sl',q2⟩:=up b _ (m.keeps _ _ e1) e3
   exact ⟨_,q2⟩
  ·exact ⟨o',kp b o' q1 fun z=>(List.mem_cons.mp z).elim (nL b o q) hb⟩
 ·refine (I.hok b o q).stay (fun c u' hc q1=>?_) (fun _ z=>z) fun _ _ z=>z
  refine kp c u' q1 (nf c ?_)
  rcases hc with rfl | hc
  ·rw [q]; simp
  ·rw [hc]; simp
 ·obtain ⟨o1,q1⟩ : ∃ o1,s1.heap.get? b = some o1:=by
   rcases c with c | c
   ·cases q':s.heap.get? b with
    | none=>exact absurd q' c
    | some o=>exact u.there b o q' (by simp)
   ·cases q':H' b with
    | none=>exact absurd q' c
    | some o=>exact (I.hok b o q').there
  have n':b∉s.heap.objs.size :: frs outer:=by
   rcases c with c | c
   ·cases q':s.heap.get? b with
    | none=>exact absurd q' c
    | some o=>exact fun z=>(List.mem_cons.mp z).elim (nL b o q') n
   ·exact nf b c
  have e12:o1 = o:=Option.some.inj ((kp b o1 q1 n').symm.trans q)
  rw [← e12]
  exact PySem.W.hideAll_get _ q1 n'
 ·cases q':s.heap.get? a with
  | none=>rfl
  | some o =>
   obtain ⟨o',q1⟩:=u.there a o q' (by simp)
   rw [m.new] at q1; cases q1
 ·cases q':H' a with
  | none=>rfl
  | some o =>
   obtain ⟨o',q1⟩:=(I.hok a o q').there
   rw [m.new] at q1; cases q1
end
structure Kx (P:Program) (w:World) (K:PySem.W.Frag) (mg:Str→Option Value) (base:Heap) (x:Str) (k:Nat) (ps:List Str) (sp:Sp):Prop where
 ex:∃ (f:Addr) (fd:FuncData),FnOk P w K mg base (CX1 P w) k f fd ps sp∧mg x = some (.ref f)∧PySem.W.keepIn K (.ref f) = true∧Binds K fd ps []
section
variable {P:Program} {w:World} {K:PySem.W.Frag} {mg:Str→Option Value} {base:Heap}
theorem Df.kx {x:Str} {st:Stmt} {N ps:List Str} {k:Nat} {sp:Sp} (D:Df K mg x ps st) (S:FnScope N ps (defScope st)) (len:∀ vs H Q E,sp vs H Q E→vs.length = ps.length)
  (hbody:∀ (f:Addr) (cdv:Value) (A:Around) (outer:List Env) (s:Shared) (H:Hp) (vs:List V) (Q:VK) (E:XK),Room k (A.deeper (envOfC x (defScope st) s.heap.objs.size f cdv))→sp vs H Q E →
   ∃ t,PSs (cxOf (CX1 P w) P w K mg base N x (defScope st) f cdv A outer s H E) (defBody st) t∧t { nx:=fun _ H'=>Q .non H',rt:=Q } (start N vs) H):Kx P w K mg base x (k + 1) ps sp:=by
 obtain ⟨f,fd,F,hm,hb⟩:=D.ex
 have F':=F
 obtain ⟨oc,od,kV,doc,pm,an,cdv,ct,osl,rfl,lk,hcd⟩:=F.ex
 exact ⟨f,_,zdX lk hcd S len fun A outer s H vs Q E hr hsp=>hbody f cdv A outer s H vs Q E hr hsp,hm,F'.kp,hb⟩
end
noncomputable abbrev Cx.marked (X:Cx) (v:Option Value):Cx:={ X with A:=X.A.mark v,calm:=false,xe:=fun _ _=>False }
section
variable {X:Cx} {pins:List (Addr×Obj)} {σ:St} {H H':Hp} {s s':Shared} {b1:Heap} {a C:Addr} {v:Option Value}
theorem Inv.mark (I:Inv X pins σ H s):Inv (X.marked v) pins σ H s :=
 ⟨⟨I.ok.mod,I.ok.kind,I.ok.glob,I.ok.blt,I.ok.above,I.ok.inj,I.ok.has,I.ok.cab,(fun z=>nomatch z),I.ok.frames,I.ok.stk,I.ok.exf,I.ok.bs,I.ok.bsz,I.ok.noex,I.ok.exfs,I.ok.funs,I.ok.frf⟩,
  I.os,I.bare,I.base,I.loc,I.cell,I.free,I.freeC,I.pin,I.hok,I.len⟩
theorem Inv.unmark (ok:X.Ok) (I:Inv (X.marked v) pins σ H s):Inv X pins σ H s:=⟨ok,I.os,I.bare,I.base,I.loc,I.cell,I.free,I.freeC,I.pin,I.hok,I.len⟩
theorem Fly.inv (F:Fly X.prog X.w X.stack H s H' b1 a C s'.heap) (I:Inv X pins σ H s) (ho:s'.os = s.os) (hg:AllBare s'.gens):Inv X pins σ H' s' :=
 I.call' (ch:=[]) ho F.un F.hok hg fun b z=>absurd z (by simp)
end
end L2
namespace La
open Lean.Grind Nm
end La
namespace L2
open PySem PySem.Spec PyProof.Rows Nm
end L2
namespace La
open Lean.Grind Nm
end La
namespace L2
open PySem PySem.Spec PyProof.Rows Nm La Lean.Grind
end L2
namespace La
open Lean.Grind Nm
end La
namespace La
open Lean.Grind Nm
end La
namespace La
open Lean.Grind Nm
end La
namespace La
open Lean.Grind Nm
end La
namespace L2
open PySem PySem.Spec PyProof.Rows Nm La Lean.Grind
theorem cutTo {xs:List V} (N:Nat):cutV xs none (some (N:Int)) = xs.take N:=by
 unfold cutV
 rw [HT.zag,Nat.sub_zero,List.drop_zero,HT.Yv]
 rcases Nat.lt_or_ge N xs.length with h | h
 ·rw [Nat.min_eq_left (by omega)]
 ·rw [Nat.min_eq_right (by omega),List.take_of_length_le (Nat.le_refl _),List.take_of_length_le h]
end L2
set_option maxHeartbeats 2000000
namespace L2
open PySem PySem.Spec PyProof.Rows
structure Ek (K:PySem.W.Frag) (C:Addr):Prop where
 ga:PySem.W.findIn K (.ref C) "__getattribute__" = some (some (.builtin "BaseException.__getattribute__"))
 gh:PySem.W.findIn K (.ref C) "__getattr__" = some none
 cl:PySem.W.findIn K (.ref C) "__class__" = some (some (.builtin "object.__class__"))
 gt:PySem.W.specialIn K (.builtin "object.__class__") "__get__" = some (some (.builtin "getset_descriptor.__get__"))
 tk:PySem.W.takesIn K (.builtin "object.__class__") = some true
 mB:PySem.W.mroIn K C (.type "BaseException") = some true
 mO:PySem.W.mroIn K C (.type "object") = some true
noncomputable def ExAt (a C:Addr) (h:Heap):Prop:=∃ o,h.get? a = some o∧o.cls = .ref C
section
variable {prog:Program} {w:World} {A:Around} {E:Value→Shared→Prop} {s:Shared} {K:PySem.W.Frag} {x C:Addr}
theorem ExAt.type {M:Model} {h:Heap} (I:ExAt x C h):PySem.W.Looks M h (typeOf (.ref x)) (.ref C):=by
 obtain ⟨o,h1,h2⟩:=I
 exact h2 ▸ (PySem.W.Looks.ld h1).andThen .now
open PySem.W PySem.Builtin.ObjectAttr in
theorem zec {M:Model} {h:Heap} (X:K.In h) (k:Ek K C):Looks M h (find (.ref x) (.ref C) "__class__") (.bind (.builtin "getset_descriptor.__get__") (.builtin "object.__class__")):=by
 have a3:=looks_takesIn (M:=M) X k.tk
 unfold find
 refine (looks_findIn X k.cl).andThen ((looks_specialIn X k.gt).andThen ?_)
 refine Looks.andThen (a:=some (Value.builtin "getset_descriptor.__get__",Value.builtin "object.__class__")) (a3.andThen .now) ?_
 exact Looks.tag .now
open PySem.W in
theorem zfE {tp:Value} {R:Result→Shared→Prop} (X:K.In s.heap) (I:ExAt x C s.heap) (k:Ek K C) (h:R (.ok (.ret (.ref C))) s):codeAny (model prog w) A (.call (.builtin "getset_descriptor.__get__") ⟨[.builtin "object.__class__",.ref x,tp],[]⟩) R s:=by
 obtain ⟨hh,g,d,t,os⟩:=s
 have a0:=I.type (M:=model prog w)
 have a5:=looks_mroIn (M:=model prog w) X k.mO
 refine codeAny_call_builtin KF.slot_gs.plain KF.entry_gs (KF.slot_gs.check _ _ _ _ (.builtin "object.__class__") [.ref x,tp] [] _ KF.type_class (KF.args_gs _ _ tp) ?_)
 have d1:=dga_obj (.builtin "object.__class__") tp x
 simp only [Builtin.«getset_descriptor.__get__»,PySem.Builtin.Getset_descriptor.descrGet,d1]
 refine wpAny_bind (wpAny_pure ?_)
 simp only [PySem.Builtin.Getset_descriptor.descrGetter,PySem.Builtin.Getset_descriptor.descrCheckInstance,PySem.Builtin.Getset_descriptor.descrNameAndClass,isInstance,KF.owner_class]
 repeat lk
 refine And.intro (Code.quiet_builtin _ (by decide +kernel)) (codeAny_builtin KF.entry_class ?_)
 simp only [Builtin.«object.__class__»,shownTypeOf]
 repeat lk
 exact h
open PySem.W PySem.Builtin.ObjectAttr in
theorem zfh {Q:Option Value→Shared→Prop} (X:K.In s.heap) (I:ExAt x C s.heap) (k:Ek K C) (h:Q (some (.ref C)) { s with toks:=s.toks + 1 }):wpAny (model prog w) A (getAttr? (.ref x) "__class__") Q E s:=by
 obtain ⟨hh,g,d,t,os⟩:=s
 have a0:=I.type (M:=model prog w)
 have a1:=looks_findIn (M:=model prog w) X k.ga
 have a2:=looks_findIn (M:=model prog w) X k.gh
 have a3:=zec (M:=model prog w) (x:=x) X k
 have a4:=looks_mroIn (M:=model prog w) X k.mB
 have a5:=looks_mroIn (M:=model prog w) X k.mO
 unfold getAttr? getAttrBy? getAttrBy
 refine wpAny_bind (wpAny_mkText (wpAny_bind (wpAny_attempt (wpAny_holding (wpAny_bind (a0.at (wpAny_bind (a1.at ?_))))))))
 have e1:(onTheHeap (Value.ref C) && Value.builtin "BaseException.__getattribute__" == Value.builtin "object.__getattribute__") = false:=by
  rw [show (Value.builtin "BaseException.__getattribute__" == Value.builtin "object.__getattribute__") = false from by decide +kernel]; rfl
 dsimp only
 rw [if_neg (by rw [e1]; decide)]
 unfold getAttrByItsOwn hookBefore
 refine wpAny_bind ?_
 rw [if_pos (show onTheHeap (Value.ref C) = true from rfl)]
 refine a2.at (wpAny_bind (wpAny_attempt (wpAny_holding ?_)))
 unfold callGetattribute boundAndCalled
 rw [if_neg (by decide),PySem.F.attr_ValueError.ga.bind]
 refine wpAny_bind (wpAny_pure ?_)
 dsimp only [List.cons_append,List.nil_append]
 refine wpAny_call (codeAny_call_builtin PySem.F.attr_ValueError.ga.plain PySem.F.entry_bexc_ga ?_)
 have a6:Looks (model prog w) hh (isInstance (.ref x) (.type "BaseException")) true:=a0.andThen a4
 simp only [checkBuiltinCall,show builtinKind "BaseException.__getattribute__" = some .slot by decide +kernel,show splitId "BaseException.__getattribute__" = some ("BaseException", "__getattribute__") by decide +kernel]
 refine wpAny_bind (a6.at ?_)
 simp only [Bool.not_true,Bool.false_eq_true,if_false]
 have a7:=PySem.F.args_bexc_ga (.ref x) (.str "__class__" t)
 unfold argsOk at a7
 have a8:∀ m:Sem Unit,m = pure ()→wpAny (model prog w) A.in1 m (fun _ s₁=>wpAny (model prog w) A.in1 (Builtin.«object.__getattribute__» ⟨[.ref x,.str "__class__" t],[]⟩) (fun fin s'=>match fin with
   | .done (.ret v)=>v = .ref C∧s' = { heap:=hh,gens:=g,drawn:=d,toks:=t + 1,os:=os }
   | _=>False) (fun _ _=>False) s₁) (fun _ _=>False) { heap:=hh,gens:=g,drawn:=d,toks:=t + 1,os:=os }:=fun m hm=>by
  rw [hm]
  refine wpAny_pure ?_
  unfold Builtin.«object.__getattribute__»
  iterate 14 lk
  refine wpAny_bind (a0.at (wpAny_bind (a3.at ?_)))
  refine wpAny_bind (wpAny_holding (wpAny_call (zfE X I k (wpAny_pure ⟨rfl,rfl⟩))))
 refine wpAny_mono (a8 _ ?_) (fun _ s1 z=>wpAny_mono z (fun fin s' z'=>?_) fun _ _ z=>z.elim) fun _ _ z=>z.elim
 ·split
  ·rename_i sig hs
   rw [hs] at a7
   exact a7
  ·rfl
 ·rcases fin with (_ | _ | _ | v) | _
  all_goals first | exact z'.elim | skip
  obtain ⟨rfl,rfl⟩:=z'
  exact wpAny_pure (wpAny_pure h)
open PySem.W in
theorem qL {M:Model} {h:Heap} {b:Value} {r:Bool} (X:K.In h) (e:mroIn K C b = some r):Looks M h (isType (.ref C)) true:=by
 obtain ⟨cd,hc,_⟩:=Option.bind_eq_some_iff.mp e
 unfold clsIn at hc
 split at hc
 ·rename_i ho
  intro A' Q' E' s' k q
  unfold isType loadHead
  exact wpAny_bind (wpAny_loadPart (k _ _ (X _ _ ho)) (wpAny_pure q))
 ·cases hc
open PySem.W in
theorem zdZ (k:Ek K C):KitX K (.ref x) (.ref C) (ExAt x C) where
 ty:=fun M h _ p=>p.type
 it:=fun M h X _=>qL X k.mO
 ne:=fun h tp dd its n sl X ht=>by
  refine Bool.eq_false_iff.mpr fun q=>?_
  cases beq_iff_eq.mp q
  obtain ⟨cd,hc,_⟩:=Option.bind_eq_some_iff.mp k.mO
  unfold clsIn at hc
  split at hc
  ·rename_i ho
   have:=X _ _ ho
   rw [ht] at this
   cases this
  ·cases hc
 ca:=fun X p q=>zfh X p k q
end
structure Eb (K:PySem.W.Frag) (B C:Addr):Prop where
 ty:PySem.W.typeIn K (.ref B) = some (.type "type")
 mB:PySem.W.mroIn K B (.type "BaseException") = some true
 sub:PySem.W.mroIn K C (.ref B) = some true
section
variable {prog:Program} {w:World} {A:Around} {E:Value→Shared→Prop} {s:Shared} {K:PySem.W.Frag} {x B C:Addr}
open PySem.W in
theorem QB {Q:Bool→Shared→Prop} (X:K.In s.heap) (I:ExAt x C s.heap) (b:Eb K B C) (h:Q true s):wpAny (model prog w) A (excMatches (.ref x) (.ref B)) Q E s:=by
 obtain ⟨hh,g,d,t,os⟩:=s
 have a0:=I.type (M:=model prog w)
 have a1:=looks_typeIn (M:=model prog w) X b.ty
 have a2:=looks_mroIn (M:=model prog w) X b.mB
 have a3:=looks_mroIn (M:=model prog w) X b.sub
 have a4:=qL (M:=model prog w) X b.mB
 have a5:Looks (model prog w) hh (isInstance (.ref B) (.type "tuple")) false:=a1.andThen (Looks.of_pure tc_notTuple)
 have a6:Looks (model prog w) hh (isExcClass (.ref B)) true:=a4.andThen a2
 unfold excMatches
 refine wpAny_bind (a5.at ?_)
 repeat lk
 exact h
end
section
variable {X:Cx} {pins:List (Addr×Obj)} {σ:St} {H H':Hp} {s s':Shared} {b1:Heap} {a C:Addr}
theorem zfY {M:Model} {A:Around} {E:Value→Shared→Prop} {i:Nat} {y:Str} {pos:Pos} {Q:Unit→Shared→Prop} (I:Inv X pins σ H s) (hN:X.N.Nodup) (hi:X.N[i]? = some y) (hk:X.env.scope.names.lookup y = some .local)
  (h:∀ s',Inv X pins (σ.set i none) H s'→Q () s'):wpAny M A (do bindName X.env y .none; unbindBehindTheSuite X.env y pos) Q E s:=by
 have hp:(X.env.scope.kind == .class || (X.env.scope.kind == .module && X.env.locals != X.env.globals)) = false:=by rw [I.ok.kind]; rfl
 have hl:X.env.kindOf y = some .local:=hk
 have hiσ:i < σ.length:=by rw [I.len]; exact (List.getElem?_eq_some_iff.mp hi).1
 refine wpAny_bind (wpAny_bindName (qp (v:=.non) I hN hi (.inl hk) rfl (fun s1 I1=>?_) (.inr hk)))
 unfold unbindBehindTheSuite unbindName
 refine wpAny_onRaise (wpAny_bind (wpAny_point (wpAny_bind ?_)))
 obtain ⟨m,hn,hm⟩:=id I1.loc
 have hy:m y = some Value.none:=by
  obtain ⟨u,ru,q⟩:=hm i y .non hi (List.getElem?_set_self hiσ) (.inl hk)
  cases (show u = Value.none from ru)
  rcases q with ⟨_,e⟩ | ⟨k,_⟩
  ·exact e
  ·rw [hl] at k; rcases k with k | k <;> cases k
 unfold deleteName
 simp only [hl,hp]
 rw [if_neg (by decide)]
 refine wpAny_bind (wpAny_nsDel_keeps hn fun h2 v hn2 hs=>?_)
 rw [hy]
 have cne:=I1.cne
 obtain ⟨oL,_,_,hoL,_⟩:=id hn
 have I2:Inv X pins (σ.set i none) H { s1 with heap:=h2 }:=by
  have nb:∀ b o,X.s₀.heap.get? b = some o→b≠X.env.locals:=fun b o e=>Nat.ne_of_lt (Nat.lt_of_lt_of_le (Heap.lt_size e) I1.ok.above)
  refine ⟨I1.ok,I1.os,I1.bare,⟨fun b o e n hb hx=>(hs.2 b (nb b o e)).trans (I1.base.keep b o e n hb hx),fun b o e n hb hx=>?_,I1.base.free,fun b o e hx=>?_,I1.base.tups,I1.base.frzs,I1.base.tbls⟩,⟨_,hn2,fun j z v' e1 e2 e3=>?_⟩,fun z c e=>?_,I1.free,I1.freeC,fun p hq=>?_,fun b ob e=>?_,by simpa using I1.len⟩
  ·obtain ⟨sl,e1⟩:=I1.base.slot b o e n hb hx
   exact ⟨sl,(hs.2 b (nb b o e)).trans e1⟩
  ·obtain ⟨o',e1⟩:=I1.base.there b o e hx
   exact ⟨o',(hs.2 b (nb b o e)).trans e1⟩
  ·by_cases hj:j = i
   ·rw [hj,List.getElem?_set_self hiσ] at e2
    cases e2
   ·rw [List.getElem?_set_ne (Ne.symm hj)] at e2
    obtain ⟨u',r',q⟩:=hm j z v' e1 (by rw [List.getElem?_set_ne (Ne.symm hj)]; exact e2) e3
    refine ⟨u',r',?_⟩
    rcases q with ⟨k,e⟩ | ⟨k,c,e,zz⟩
    ·refine .inl ⟨k,?_⟩
     have:z≠y:=fun e=>hj (Xo hN e1 (e ▸ hi))
     simp [this,e]
    ·exact .inr ⟨k,c,e,zz.sameBut hs (cne z c e)⟩
  ·obtain ⟨w',zz⟩:=I1.cell z c e
   exact ⟨w',zz.sameBut hs (cne z c e)⟩
  ·obtain ⟨e,n,ne,nf,d⟩:=I1.pin p hq
   exact ⟨(hs.2 p.1 ne).trans e,n,ne,nf,d⟩
  ·refine (I1.hok b ob e).stay (fun c w' hc q=>(hs.2 c ?_).trans q) (fun _ q=>q) fun _ _ q=>q
   rintro rfl
   have fr:=I1.free
   rcases hc with rfl | hc
   ·rw [fr] at e; cases e
   ·rw [fr] at hc; cases hc
 simp only [if_true,Option.isSome_some,Bool.not_true,Bool.false_eq_true,if_false]
 exact wpAny_pure (wpAny_point (h _ I2))
theorem Inv.know {φ:Heap→Prop} (I:Inv X pins σ H s) (J:Inv X pins σ H' s') (n0:s.heap.get? a = none) (nH:H' a = none) (hex:X.ex = []) (new:ObjOk X.prog X.w (upd H' a (.ext φ)) s'.heap a (.ext φ)):Inv X pins σ (upd H' a (.ext φ)) s':=by
 have na:∀ b o,s.heap.get? b = some o→b≠a:=fun b o e z=>by rw [z,n0] at e; cases e
 have old:∀ b,b≠a→upd H' a (.ext φ) b = H' b:=fun b hb=>zw hb
 have nh:∀ b o,H' b = some o→b≠a:=fun b o e z=>by rw [z,nH] at e; cases e
 have na0:∀ b o,X.s₀.heap.get? b = some o→b≠a:=fun b o e=>by
  obtain ⟨o',e'⟩:=I.base.there b o e (by rw [hex]; simp)
  exact na b o' e'
 refine ⟨J.ok,J.os,J.bare,⟨J.base.keep,J.base.slot,fun b o e n hx=>?_,J.base.there,fun b xs e=>?_,fun b o u e=>?_,fun b ps e=>?_⟩,J.loc,J.cell,?_,fun x c e=>?_,fun p hp=>?_,fun b o e=>?_,J.len⟩
 ·rw [old b (na0 b o e)]; exact J.base.free b o e n hx
 ·have:=J.base.tups b xs e
  rw [old b (nh b _ this)]; exact this
 ·have:=J.base.frzs b o u e
  rw [old b (nh b _ this)]; exact this
 ·obtain ⟨more,this⟩:=J.base.tbls b ps e
  exact ⟨more,by rw [old b (nh b _ this)]; exact this⟩
 ·obtain ⟨m,hn,_⟩:=id I.loc
  obtain ⟨oL,_,_,hoL,_⟩:=hn
  rw [old _ (na _ _ hoL)]; exact J.free
 ·obtain ⟨v,oc,hoc,_⟩:=I.cell x c e
  rw [old _ (na _ _ hoc)]; exact J.freeC x c e
 ·obtain ⟨e0,_⟩:=I.pin p hp
  obtain ⟨e,n,ne,nf,d⟩:=J.pin p hp
  exact ⟨e,by rw [old _ (na _ _ e0)]; exact n,ne,nf,d⟩
 ·by_cases hb:b = a
  ·subst hb
   rw [zf] at e
   cases e
   exact new
  ·rw [old b hb] at e
   exact (J.hok b o e).stay (fun _ _ _ q=>q) (fun c q=>by rw [old c (nh c _ q)]; exact q) fun c xs q=>by rw [old c (nh c _ q)]; exact q
theorem zgY {P:Program} {w:World} {h:Heap} (e:ExAt a C h):ObjOk P w H h a (.ext (ExAt a C)):=by
 obtain ⟨o,h1,h2⟩:=id e
 refine ⟨e,⟨o,h1⟩,fun ha hb ⟨o',e1,e2⟩ k=>⟨o',k o' e1,e2⟩⟩
end
section
variable {X:Cx}
noncomputable def rIsiE (K:PySem.W.Frag):List V→Hp→VK→Prop:=fun xs H Q=>∃ (a C:Addr) (c:V) (cv:Value) (b:Bool),xs = [.ref a,c]∧H a = some (.ext (ExAt a C))∧Ek K C∧(∀ u,RelV c u→u = cv)∧PySem.W.kitOne K (.ref C) cv = some b∧Q (.bl b) H
theorem zb5:CallR X (.builtin "isinstance") (rIsiE X.K):=by
 intro pins s σ H xs us Q I r h
 obtain ⟨a,C,c,cv,b,rfl,ha,ek,hc,e,q⟩:=h
 obtain ⟨u,w',rfl,r1,r2⟩:=Vals.two r
 cases (show u = Value.ref a from r1)
 cases hc _ r2
 obtain ⟨p,_,_⟩:=(show ObjOk X.prog X.w H s.heap a (.ext (ExAt a C)) from I.hok a _ ha)
 exact PySem.W.kia_one (zdZ ek) I.kIn p e (fun z=>nomatch z) fun tk=>⟨.bl b,H,I.tok tk,rfl,q⟩
theorem xE {K:PySem.W.Frag} (hK:X.K = K):CallR X (.builtin "isinstance") (rIsiE K):=hK ▸ zb5
end
end L2
namespace L2
open PySem PySem.Spec PyProof.Rows Nm Builtin Builtin.Str
section
variable {X:Cx}
theorem Yz:MtR X "str.startswith" (fun x vs H Q=>∃ a b,x = .str a∧vs = [.str b]∧Q (.bl (Txt.startswith a b)) H):=by
 intro pins s σ H x vs v us Q I rx rv h
 obtain ⟨a,b,rfl,rfl,q⟩:=h
 obtain ⟨t,rfl⟩:=rx
 obtain ⟨u,rfl,t2,rfl⟩:=vals1 rv
 exact SC.startswith ⟨.bl _,H,I,rfl,q⟩
theorem zet:MtR X "str.zfill" (fun x vs H Q=>∃ a i,x = .str a∧vs = [.int i]∧PadOk i = true∧Q (.str (Txt.zfill a i)) H):=by
 intro pins s σ H x vs v us Q I rx rv h
 obtain ⟨a,i,rfl,rfl,hp,q⟩:=h
 obtain ⟨t,rfl⟩:=rx
 obtain ⟨u,rfl,t2,rfl⟩:=vals1 rv
 exact SC.zfill hp fun t' k=>⟨.str _,H,I.tok _,⟨_,rfl⟩,q⟩
theorem XC:∀ {xs:List Str} {us:List Value},Vals (xs.map V.str) us→∃ l,us = strValues l∧l.map (·.1) = xs
 | [],_,.nil=>⟨[],rfl,rfl⟩
 | x :: xs,_,.cons r t=>by
  obtain ⟨tk,rfl⟩:=r
  obtain ⟨l,rfl,e⟩:=XC (xs:=xs) t
  exact ⟨(x,tk) :: l,rfl,by rw [List.map_cons,e]⟩
theorem ZJ:∀ (l:List (Str×Tok)),Vals ((l.map (·.1)).map V.str) (strValues l)
 | []=>.nil
 | p :: l=>.cons ⟨p.2,rfl⟩ (ZJ l)
theorem zfK:MtR X "str.join" (fun x vs H Q=>∃ a l ys,x = .str a∧vs = [.ref l]∧SqL X.K H l (ys.map V.str)∧JoinOk a ys = true∧Q (.str (Txt.join a ys)) H):=by
 intro pins s σ H x vs v us Q I rx rv h
 obtain ⟨a,l,ys,rfl,rfl,hl,ok,q⟩:=h
 obtain ⟨t,rfl⟩:=rx
 obtain ⟨u,rfl,r1⟩:=vals1 rv
 cases (show u = Value.ref l from r1)
 obtain ⟨its,r,pl,z⟩:=I.list hl
 obtain ⟨m,rfl,e⟩:=XC r
 exact SC.join pl.isList e ok fun t' k=>⟨.str _,H,I.tok _,⟨_,rfl⟩,q⟩
theorem qY:MtR X "str.split" (fun x vs H Q=>∃ a b,x = .str a∧vs = [.str b]∧b.length≠0∧a.length≤sizeLine∧(partsBetween a (occurrences a b 0 a.length (a.length + 1)) b.length).length≤sizeLine∧(Txt.split a b).length≤sizeLine∧∀ p,H p = none→Q (.ref p) (upd H p (.lst ((Txt.split a b).map V.str)))):=by
 intro pins s σ H x vs v us Q I rx rv h
 obtain ⟨a,b,rfl,rfl,hb,ha,hz2,hz,q⟩:=h
 obtain ⟨t,rfl⟩:=rx
 obtain ⟨u,rfl,t2,rfl⟩:=vals1 rv
 have hy:(b.length == 0) = false:=by simpa using hb
 have fin:∀ (l:List (Str×Tok)) (k:Nat),l.map (·.1) = Txt.split a b→EP X pins σ Q (.ref s.heap.objs.size) { s with toks:=k,heap:=s.heap.push { cls:=.type "list",data:=.seq (strValues l).toArray } }:=fun l k e=>by
  refine ⟨.ref s.heap.objs.size,_,I.laid (t':=k) (o:=.lst ((Txt.split a b).map V.str)) (fun b ob q=>Heap.get?_push_of_some _ q) (Nat.le_refl _) ?_,rfl,q _ (I.hok.fresh (Nat.le_refl _))⟩
  refine ⟨by rw [List.length_map]; exact hz,_,0,?_,Heap.get?_push_size _ rfl⟩
  rw [← e]; exact ZJ l
 cases h1:(decide (a.length < b.length) || decide (strKind a < strKind b))
 ·cases hf:(occurrences a b 0 a.length (a.length + 1)).isEmpty
  ·refine call_meets F.slot_str_split (typeIs_str _ _ _) F.entry_str_split (F.args_str_split_2 _ _) (meets_str_split_sep a b t t2 h1 hy hf ha hz2) ?_
   show wants _ _ _ { s with toks:=_,heap:=s.heap.push { cls:=.type "list",data:=.seq (strsFrom s.toks (partsBetween a (occurrences a b 0 a.length (a.length + 1)) b.length)).toArray } }
   rw [strsFrom_eq]
   exact fin _ _ ((numbered_texts _ _).trans ((if_neg (ne_true_of_eq_false h1)).trans (if_neg (ne_true_of_eq_false hf))).symm)
  ·exact call_meets F.slot_str_split (typeIs_str _ _ _) F.entry_str_split (F.args_str_split_2 _ _) (meets_str_split_not_found a b t t2 h1 hy hf) (fin [(a,t)] _ ((if_neg (ne_true_of_eq_false h1)).trans (if_pos hf)).symm)
 ·exact call_meets F.slot_str_split (typeIs_str _ _ _) F.entry_str_split (F.args_str_split_2 _ _) (meets_str_split_cannot_occur a b t t2 h1) (fin [(a,t)] _ (if_pos h1).symm)
theorem qN:MtR X "str.partition" (fun x vs H Q=>∃ a b,x = .str a∧vs = [.str b]∧b.length≠0∧a.length≤sizeLine∧∀ p,H p = none→Q (.ref p) (upd H p (.tup [.str (Txt.partition a b).1,.str (Txt.partition a b).2.1,.str (Txt.partition a b).2.2]))):=by
 intro pins s σ H x vs v us Q I rx rv h
 obtain ⟨a,b,rfl,rfl,hb,ha,q⟩:=h
 obtain ⟨t,rfl⟩:=rx
 obtain ⟨u,rfl,t2,rfl⟩:=vals1 rv
 have hy:(b.length == 0) = false:=by simpa using hb
 have fin:∀ (t1 t2 t3 k:Nat) (p1 p2 p3:Str),Txt.partition a b = (p1,p2,p3)→EP X pins σ Q (.ref s.heap.objs.size) { s with toks:=k,heap:=s.heap.push { cls:=.type "tuple",data:=.seq [.str p1 t1,.str p2 t2,.str p3 t3].toArray } }:=fun t1 t2 t3 k p1 p2 p3 e=>by
  rw [e] at q
  refine ⟨.ref s.heap.objs.size,_,I.laid (t':=k) (o:=.tup [.str p1,.str p2,.str p3]) (fun b ob q=>Heap.get?_push_of_some _ q) (Nat.le_refl _) ?_,rfl,q _ (I.hok.fresh (Nat.le_refl _))⟩
  exact ⟨(by show 3≤sizeLine; decide),_,.cons ⟨_,rfl⟩ (.cons ⟨_,rfl⟩ (.cons ⟨_,rfl⟩ .nil)),IsTup.new _ _⟩
 refine call_meets F.slot_str_partition (typeIs_str _ _ _) F.entry_str_partition (F.args_str_partition_2 _ _) (meets_str_partition a b t t2 hy ha) ?_
 have fin':=fin
 unfold Txt.partition at fin'
 revert fin'
 cases occurrences a b 0 a.length 1 with
 | nil=>intro fin'; exact fin' _ _ _ _ _ _ _ rfl
 | cons i r=>intro fin'; exact fin' _ _ _ _ _ _ _ rfl
theorem Xi:CallR X (.type "int") (fun xs H Q=>∃ x n,xs = [.str x]∧PySem.intText? x = some n∧x.length≤640∧Q (.int n) H):=by
 intro pins s σ H xs us Q I r h
 obtain ⟨x,n,rfl,hn,hl,q⟩:=h
 obtain ⟨u,rfl,t,rfl⟩:=vals1 r
 exact PySem.W.KIN.call_text hn hl ⟨.int n,H,I.tok _,⟨_,rfl⟩,q⟩
theorem zah:SlR X (fun x lo hi H Q=>∃ a,x = .str a∧a.length≤sizeLine∧Q (.str (Txt.slice a lo hi)) H):=by
 intro pins s σ H x v vl vu lo hi sl Q I rx hs pl pu h
 obtain ⟨a,rfl,ha,q⟩:=h
 obtain ⟨t,rfl⟩:=rx
 refine ⟨"str",_,F.slot_str_getitem.lookup,typeIs_str _ _ _,?_⟩
 obtain ⟨o,ho,hc,hd⟩:=hs
 cases pl with
 | none =>
  cases pu with
  | none=>exact wpAny_getItem_str_slice (l:=none) (u:=none) (st:=none) ⟨o,ho,hc,hd⟩ rfl (post_val_or_str ⟨Nat.le_trans (Txt.slice_le a _ _) ha,fun t' k=>⟨.str _,H,I.tok _,⟨_,rfl⟩,q⟩⟩)
  | int j uj=>exact wpAny_getItem_str_slice (l:=none) (u:=some (j,uj)) (st:=none) ⟨o,ho,hc,hd⟩ rfl (post_val_or_str ⟨Nat.le_trans (Txt.slice_le a _ _) ha,fun t' k=>⟨.str _,H,I.tok _,⟨_,rfl⟩,q⟩⟩)
 | int i ui =>
  cases pu with
  | none=>exact wpAny_getItem_str_slice (l:=some (i,ui)) (u:=none) (st:=none) ⟨o,ho,hc,hd⟩ rfl (post_val_or_str ⟨Nat.le_trans (Txt.slice_le a _ _) ha,fun t' k=>⟨.str _,H,I.tok _,⟨_,rfl⟩,q⟩⟩)
  | int j uj=>exact wpAny_getItem_str_slice (l:=some (i,ui)) (u:=some (j,uj)) (st:=none) ⟨o,ho,hc,hd⟩ rfl (post_val_or_str ⟨Nat.le_trans (Txt.slice_le a _ _) ha,fun t' k=>⟨.str _,H,I.tok _,⟨_,rfl⟩,q⟩⟩)
end
end L2
namespace L2
open PySem PySem.Spec PyProof.Rows Nm
noncomputable def Its (x:Str):It:=⟨fun i _=>i < x.cps.size,fun i H v H'=>H' = H∧∃ c,x.cps[i]? = some c∧v = .str ⟨#[c]⟩,fun i _=>x.cps.size≤i⟩
noncomputable def StrIt (it:Addr) (x:Str) (t:Tok) (i:Nat) (h:Heap):Prop:=h.IsStrIter it "str_ascii_iterator" x t i∨h.IsStrIter it "str_iterator" x t i
theorem zd7 {P:Program} {w:World} {K:PySem.W.Frag} {tg:Expr} (x:Str) (t:Tok) (it:Addr):Turn P w K tg (Its x) [it] it (fun i h=>StrIt it x t i h) where
 mem:=by simp
 obj:=fun i h st b hb=>by
  have e:b = it:=by simpa using hb
  subst e
  rcases st with ⟨o,e,c,d⟩ | ⟨o,e,c,d⟩ <;> exact ⟨o,e,fun v z=>by rw [d] at z; cases z⟩
 keep:=fun i h h' st k=>by
  rcases st with ⟨o,e,c,d⟩ | ⟨o,e,c,d⟩
  ·exact .inl ⟨o,k it (by simp) o e,c,d⟩
  ·exact .inr ⟨o,k it (by simp) o e,c,d⟩
 item:=by
  intro X hP hw hK hc i pins s σ H E I hf st hg
  subst hP hw hK
  have hi:i < x.cps.size:=hg
  obtain ⟨f0,f1,f2,f3,f4,f5⟩:=hf it (by simp)
  rcases st with st | st
  ·refine wpAny_pyNext_ascii_item st (c:=x.cps[i]) (by simp [hi]) fun h' st' sb=>?_
   have I1:Inv X pins σ H { s with heap:=h',toks:=s.toks + 1 }:=I.turned (fun b o hb e=>sb.extBut b o hb e) f0 f1 f3 f4 f5
   obtain ⟨o,e,c,d⟩:=id st'
   exact ⟨_,rfl,zdl (s:={ s with heap:=h',toks:=s.toks + 1 }) e c d (by decide) ⟨.str ⟨#[x.cps[i]]⟩,H,I1,⟨_,rfl⟩,⟨rfl,_,by simp [hi],rfl⟩,.inl st',fun b hb=>(hf b hb).1⟩⟩
  ·refine wpAny_pyNext_wide_item st (c:=x.cps[i]) (by simp [hi]) fun h' st' sb=>?_
   have I1:Inv X pins σ H { s with heap:=h',toks:=s.toks + 1 }:=I.turned (fun b o hb e=>sb.extBut b o hb e) f0 f1 f3 f4 f5
   obtain ⟨o,e,c,d⟩:=id st'
   exact ⟨_,rfl,zdl (s:={ s with heap:=h',toks:=s.toks + 1 }) e c d (by decide) ⟨.str ⟨#[x.cps[i]]⟩,H,I1,⟨_,rfl⟩,⟨rfl,_,by simp [hi],rfl⟩,.inr st',fun b hb=>(hf b hb).1⟩⟩
 done:=by
  intro X hP hw hK hc i pins s σ H E I hf st hg
  subst hP hw hK
  have hi:x.cps.size≤i:=hg
  obtain ⟨f0,f1,f2,f3,f4,f5⟩:=hf it (by simp)
  rcases st with st | st
  ·exact wpAny_pyNext_ascii_end (I.ok.hd hc) st (by simpa using hi) fun h' eb=>⟨rfl,I.turned (t':=s.toks) (fun b o hb e=>eb b o hb e) f0 f1 f3 f4 f5⟩
  ·exact wpAny_pyNext_wide_end (I.ok.hd hc) st (by simpa using hi) fun h' eb=>⟨rfl,I.turned (t':=s.toks) (fun b o hb e=>eb b o hb e) f0 f1 f3 f4 f5⟩
 self:=fun _ _ _ _ _ st h=>by
  rcases st with st | st
  ·exact wpAny_pyIter_striter_ascii st h
  ·exact wpAny_pyIter_striter_wide st h
section
variable {X:Cx} {tg:Expr}
noncomputable def iStr (tl:TE):TI:=fun σ H R=>tl σ H fun x H1=>∃ a,x = .str a∧R (Its a) H1
theorem zez {l:Expr} {tl:TE} (hl:PE X l tl):PI X tg l (iStr tl):=by
 intro pins s σ H R I h
 refine thn (hl pins s σ H _ I h) fun v s1 ⟨x,H1,I1,r1,q1⟩=>?_
 obtain ⟨a,e,q⟩:=q1
 subst e
 obtain ⟨t,rfl⟩:=r1
 have fin:∀ o:Obj,StrIt s1.heap.objs.size a t 0 (s1.heap.push o)→PIE X pins σ tg R (.ref s1.heap.objs.size) { s1 with heap:=s1.heap.push o }:=fun o st=>by
  refine ⟨s1.heap.objs.size,[s1.heap.objs.size],_,_,H1,rfl,I1.kept (t':=s1.toks) fun b o e=>Heap.get?_push_of_some _ e,zd7 a t _,st,fun b hb=>?_,q⟩
  have e:b = s1.heap.objs.size:=by simpa using hb
  subst e
  exact I1.fpOk (Nat.le_refl _) (I1.hok.fresh (Nat.le_refl _))
 cases ha:a.cps.all (· < 128)
 ·exact wpAny_pyIter_wide ha (fin _ (.inr ⟨_,Heap.get?_push_size _ rfl,rfl,rfl⟩))
 ·exact wpAny_pyIter_ascii ha (fin _ (.inl ⟨_,Heap.get?_push_size _ rfl,rfl,rfl⟩))
end
section
variable {K:PySem.W.Frag} {g:TG} {tt:TT} {te:TE} {R:List V→Hp→Prop} {H:Hp} {σb:St}
theorem Xv {x:Str} (J:Nat→List V→Hp→Prop) (h0:J 0 [] H) (hl:∀ (i:Nat) (ys:List V) (H':Hp),i≤x.cps.size→J i ys H'→ys.length < sizeLine)
  (hs:∀ (i c:Nat) (ys:List V) (H':Hp),x.cps[i]? = some c→i < x.cps.size→J i ys H'→g (.str ⟨#[c]⟩) σb H' fun σ2 H2=>tt σ2 H2 fun b H3=>if b = true then te σ2 H3 fun y H4=>Nxt x.cps.size i (J (i + 1) (ys ++ [y]) H4) else Nxt x.cps.size i (J (i + 1) ys H3))
  (hd:∀ (ys:List V) (H':Hp),J x.cps.size ys H'→R ys H') :
  ∃ W:Nat→Nat→List V→Hp→Prop,(∃ m,W 0 m [] H)∧∀ i m ys H,W i m ys H →
   ((Its x).stop i H∧ys.length≤sizeLine∧R ys H) ∨
   ((Its x).go i H∧ys.length < sizeLine∧∀ v H',(Its x).yld i H v H'→g v σb H' fun σ2 H2=>tt σ2 H2 fun b H3=>if b = true then te σ2 H3 fun y H4=>∃ m',m' < m∧W (i + 1) m' (ys ++ [y]) H4 else ∃ m',m' < m∧W (i + 1) m' ys H3):=by
 refine ⟨fun i m ys H=>m = x.cps.size - i∧i≤x.cps.size∧J i ys H,⟨x.cps.size,by simp,Nat.zero_le _,h0⟩,?_⟩
 rintro i m ys H1 ⟨rfl,hi,j⟩
 have hz:=hl i ys H1 hi j
 by_cases hlt:i < x.cps.size
 ·refine .inr ⟨hlt,hz,fun v H' y=>?_⟩
  obtain ⟨e,c,hc,rfl⟩:=y
  subst e
  exact hs i c ys _ hc hlt j
 ·have e:i = x.cps.size:=by omega
  subst e
  exact .inl ⟨Nat.le_refl _,Nat.le_of_lt hz,hd ys H1 j⟩
end
end L2
namespace L2
open PySem PySem.Spec PyProof.Rows Nm
section
variable {P:Program} {w:World} {K:PySem.W.Frag} {mg:Str→Option Value} {base:Heap}
theorem zT {N:List Str} {qual:Str} {scope:Scope} {f:Addr} {cd:Value} {A:Around} {outer:List Env} {s:Shared} {H:Hp} {E:XK} :
  Passes (CX1 P w) (cxOf (CX1 P w) P w K mg base N qual scope f cd A outer s H E) E:=by
 intro pins σ H1 s1 e s2 I h
 obtain ⟨a,C,H2,b1,rfl,ho,hg,F,hE⟩:=h
 have I2:=F.inv I ho hg
 have ff:=I2.stack
 have hst:frs (envOfC qual scope s.heap.objs.size f cd :: outer) = s.heap.objs.size :: frs outer:=rfl
 have nL:∀ b o,s.heap.get? b = some o→b≠s.heap.objs.size:=fun b o q z=>Nat.lt_irrefl _ (z ▸ Heap.lt_size q)
 have u:Un (frs outer) [] H H2 s.heap s2.heap:=I2.base
 have u1:Un (frs outer) [] H H1 s.heap s1.heap:=I.base
 obtain ⟨t,fl0⟩:=F.fl
 refine wpAny_leaves_onW (outer:=outer) (L:=s.heap.objs.size) (base:=b1) I.ok.frames rfl fl0 fun h' fl up=>?_
 have st:=fl.1
 have th1:∀ b,s.heap.get? b≠none→s1.heap.get? b≠none:=fun b hb=>by
  cases q':s.heap.get? b with
  | none=>exact absurd q' hb
  | some o =>
   obtain ⟨o',q1⟩:=u1.there b o q' (by simp)
   rw [q1]; simp
 have nf:∀ b,H2 b≠none→b∉s.heap.objs.size :: frs outer:=fun b hb z=>hb (I2.stkFree b (by rw [← hst] at z; exact z))
 have kp:∀ b o,s2.heap.get? b = some o→(s.heap.get? b≠none∨H2 b≠none)→b∉s.heap.objs.size :: frs outer→h'.get? b = some o:=fun b o q c n =>
  st b o (F.kb b o q (c.imp (th1 b) id) n)
 refine ⟨a,C,H2,b1,rfl,ho.trans I.os,hg,⟨⟨t,fl⟩,⟨fun b o q n hb _=>?_,fun b o q n hb _=>?_,u.free,fun b o q _=>?_,u.tups,u.frzs,u.tbls⟩,fun b o q=>?_,fun b o q c n=>?_,fun b hb=>I2.stkFree b (List.mem_cons_of_mem _ hb),?_,F.new.2⟩,hE⟩
 ·exact kp b o (u.keep b o q n hb (by simp)) (.inl (by rw [q]; simp)) fun z=>(List.mem_cons.mp z).elim (nL b o q) hb
 ·obtain ⟨sl,q1⟩:=u.slot b o q n hb (by simp)
  obtain ⟨o',e1,_,e3⟩:=yb ff (List.mem_cons_of_mem _ hb)
  rw [q1] at e1; cases e1
  obtain ⟨sl',q2⟩:=up b _ q1 e3
  exact ⟨sl',q2⟩
 ·obtain ⟨o',q1⟩:=u.there b o q (by simp)
  by_cases hb:b∈frs outer
  ·obtain ⟨o2,e1,_,e3⟩:=yb ff (List.mem_cons_of_mem _ hb)
   obtain ⟨sl',q2⟩:=up b _ e1 e3
   exact ⟨_,q2⟩
  ·exact ⟨o',kp b o' q1 (.inl (by rw [q]; simp)) fun z=>(List.mem_cons.mp z).elim (nL b o q) hb⟩
 ·refine (I2.hok b o q).stay (fun c u' hc q1=>?_) (fun _ z=>z) fun _ _ z=>z
  have nn:H2 c≠none:=by
   rcases hc with rfl | hc
   ·rw [q]; simp
   ·rw [hc]; simp
  exact kp c u' q1 (.inr nn) (nf c nn)
 ·obtain ⟨o1,q1⟩ : ∃ o1,s2.heap.get? b = some o1:=by
   rcases c with c | c
   ·cases q':s.heap.get? b with
    | none=>exact absurd q' c
    | some o=>exact u.there b o q' (by simp)
   ·cases q':H2 b with
    | none=>exact absurd q' c
    | some o=>exact (I2.hok b o q').there
  have n':b∉s.heap.objs.size :: frs outer:=by
   rcases c with c | c
   ·cases q':s.heap.get? b with
    | none=>exact absurd q' c
    | some o=>exact fun z=>(List.mem_cons.mp z).elim (nL b o q') n
   ·exact nf b c
  have e12:o1 = o:=Option.some.inj ((kp b o1 q1 c n').symm.trans q)
  rw [← e12]
  exact F.kb b o1 q1 (c.imp (th1 b) id) n'
 ·cases q':s.heap.get? a with
  | none=>rfl
  | some o=>exact absurd F.new.1 (th1 a (by rw [q']; simp))
end
end L2
namespace Tx
open PySem PySem.NumText L2
noncomputable def dec (n:Nat):List Nat:=(Nat.toDigits 10 n).map Char.toNat
noncomputable def shI (i:Int):List Nat:=if i < 0 then 45 :: dec i.natAbs else dec i.natAbs
noncomputable def allD (cs:List Nat):Bool:=cs.all fun c=>decide (48≤c∧c≤57)
theorem Yy (cs:List Nat):allD cs = true↔AllDigits cs:=by
 unfold allD
 rw [List.all_eq_true]
 exact ⟨fun h c hc=>of_decide_eq_true (h c hc),fun h c hc=>decide_eq_true (h c hc)⟩
noncomputable def rdW (w:List Nat):Option Int :=
 if w.head? = some 45 then (if (1≤w.tail.length∧w.tail.length≤20)∧allD w.tail = true then some (-(digitsVal w.tail:Int)) else none)
 else (if (1≤w.length∧w.length≤20)∧allD w = true then some (digitsVal w:Int) else none)
noncomputable def shQ (q:Rat):List Nat:=shI q.num ++ if q.den = 1 then [] else 47 :: dec q.den
noncomputable def headP (w:List Nat):List Nat:=w.takeWhile (· != 47)
noncomputable def restP (w:List Nat):List Nat:=w.dropWhile (· != 47)
theorem zek {a r:List Nat} (h:∀ c∈a,(c != 47) = true):headP (a ++ 47 :: r) = a∧restP (a ++ 47 :: r) = 47 :: r:=by
 unfold headP restP
 constructor
 ·rw [List.takeWhile_append_of_pos h]; simp
 ·rw [List.dropWhile_append_of_pos h]; simp
theorem zdz {a:List Nat} (h:∀ c∈a,(c != 47) = true):headP a = a∧restP a = []:=by
 unfold headP restP
 constructor
 ·have:=List.takeWhile_append_of_pos (l₂:=[]) h; simpa using this
 ·have:=List.dropWhile_append_of_pos (l₂:=[]) h; simpa using this
theorem Jm (w:List Nat):headP w ++ restP w = w:=List.takeWhile_append_dropWhile
noncomputable def rdF (w:List Nat):Option Rat :=
 match (if restP w = [] then some 1 else rdW (restP w).tail) with
 | none=>none
 | some b=>if b < 1 then none else match rdW (headP w) with
  | none=>none
  | some t=>some (Rat.divInt t b)
noncomputable def rdQ (w:List Nat):Option Rat:=match rdF w with
 | none=>none
 | some q=>if shQ q = w then some q else none
noncomputable def rdR (k:Nat) (w:List Nat):Option Nat:=match rdW w with
 | none=>none
 | some v=>if dec (v.fmod (k:Int)).toNat = w then some (v.fmod (k:Int)).toNat else none
end Tx
namespace Tx
open PySem PySem.NumText L2 Builtin Builtin.Str
theorem zhE {l:List Nat} {i:Nat} (h:l[i]? = some 47) (hn:∀ k,k < i→l[k]?≠some 47):headP l = l.take i∧restP l = 47 :: l.drop (i + 1):=by
 have hi:=(List.getElem?_eq_some_iff.mp h).1
 have e:l = l.take i ++ 47 :: l.drop (i + 1):=by
  have e1:l.drop i = 47 :: l.drop (i + 1):=by
   rw [List.drop_eq_getElem_cons hi]
   rw [(List.getElem?_eq_some_iff.mp h).2]
  rw [← e1,List.take_append_drop]
 have free:∀ c∈l.take i,(c != 47) = true:=fun c hc=>by
  obtain ⟨k,hk,ek⟩:=List.getElem_of_mem hc
  rw [List.length_take] at hk
  have h2:=hn k (by omega)
  rw [List.getElem_take] at ek
  rw [List.getElem?_eq_getElem (by omega),ek] at h2
  have:c≠47:=fun z=>h2 (by rw [z])
  simpa using this
 have:=zek (a:=l.take i) (r:=l.drop (i + 1)) free
 rw [← e] at this
 exact this
theorem zdu {l:List Nat} (hn:∀ i:Nat,l[i]?≠some 47):headP l = l∧restP l = []:=zdz fun c hc=>by
 obtain ⟨k,hk,ek⟩:=List.getElem_of_mem hc
 have h2:=hn k
 rw [List.getElem?_eq_getElem hk,ek] at h2
 have:c≠47:=fun z=>h2 (by rw [z])
 simpa using this
theorem part47 (x:Str):(Txt.partition x ⟨#[47]⟩).1.cps.toList = headP x.cps.toList∧(restP x.cps.toList = []→(Txt.partition x ⟨#[47]⟩).2.1 = Str.empty)∧(restP x.cps.toList≠[]→(Txt.partition x ⟨#[47]⟩).2.1 = ⟨#[47]⟩∧(Txt.partition x ⟨#[47]⟩).2.2.cps.toList = (restP x.cps.toList).tail):=by
 have at_:∀ i,StrLaws.At x ⟨#[47]⟩ x.length i↔x.cps.toList[i]? = some 47:=fun i=>StrLaws.subAt_one x 47 i
 unfold Txt.partition
 rcases StrLaws.occ_head x ⟨#[47]⟩ 1 (Nat.le_refl 1) with ⟨h0,hn⟩ | ⟨i,r,h0,hi,hn⟩
 ·rw [h0]
  obtain ⟨e1,e2⟩:=zdu (l:=x.cps.toList) fun i z=>hn i ((at_ i).mpr z)
  exact ⟨e1.symm,fun _=>rfl,fun z=>absurd e2 z⟩
 ·rw [h0]
  obtain ⟨e1,e2⟩:=zhE ((at_ i).mp hi) fun k hk z=>hn k hk ((at_ k).mpr z)
  refine ⟨?_,(fun z=>by rw [e2] at z; cases z),fun _=>⟨rfl,?_⟩⟩
  ·rw [e1]
   show (strSub x 0 i).cps.toList = _
   unfold strSub
   simp
  ·rw [e2]
   show (strSub x (i + 1) x.length).cps.toList = x.cps.toList.drop (i + 1)
   unfold strSub
   simp [Str.length]
   exact List.take_of_length_le (by simp)
theorem zbj (i:Int):(Str.ofString (toString i)).cps.toList = shI i:=by
 unfold shI
 by_cases c:i < 0
 ·obtain ⟨m,rfl⟩ : ∃ m:Nat,i = Int.negSucc m:=by
   cases i with
   | ofNat m=>exact absurd c (by simp)
   | negSucc m=>exact ⟨m,rfl⟩
  rw [if_pos c,PyProof.Rows.signs_ofString]
  show (("-" ++ Nat.repr (m + 1)).toList).map Char.toNat = _
  rw [String.toList_append,List.map_append,Nat.toList_repr]
  rfl
 ·obtain ⟨m,rfl⟩:=Int.eq_ofNat_of_zero_le (show 0≤i by omega)
  rw [if_neg c]
  exact PySem.W.KIN.signs_num m
end Tx
namespace Tx
open PySem PySem.NumText L2 Builtin Builtin.Str
theorem xR (x:Str):x.cps.toList.length = x.length:=by simp [Str.length]
theorem Yq (x:Str) (n:Nat):(Txt.slice x (some (n:Int)) none).cps.toList = x.cps.toList.drop n:=by
 rcases Nat.le_total n x.length with h | h
 ·have e:=PyProof.Rows.slice_closes_fromL (x:=x) (i:=(n:Int)) (b:=x.length) (by omega) (by omega) rfl
  rw [beq_iff_eq.mp e]
  show (x.cps.toList.drop (n:Int).toNat).take ((x.length:Int) - n).toNat = _
  rw [Int.toNat_natCast]
  exact List.take_of_length_le (by rw [List.length_drop,xR]; omega)
 ·rw [PyProof.Rows.slice_from_beyond (by omega),List.drop_of_length_le (by rw [xR]; exact h)]
theorem Zg (x:Str) (n:Nat):(Txt.slice x none (some (n:Int))).cps.toList = x.cps.toList.take n:=by
 rcases Nat.le_total n x.length with h | h
 ·have e:=PyProof.Rows.slice_closes_toL (x:=x) (j:=(n:Int)) (by omega) (by omega)
  rw [beq_iff_eq.mp e]
  show (x.cps.toList.drop (0:Int).toNat).take ((n:Int) - 0).toNat = _
  rw [Int.sub_zero,Int.toNat_natCast]; rfl
 ·have e:=PyProof.Rows.slice_closes_toL (x:=x) (j:=(x.length:Int)) (by omega) (by omega)
  rw [PyProof.Rows.slice_to_beyond (by omega),beq_iff_eq.mp e]
  show (x.cps.toList.drop (0:Int).toNat).take ((x.length:Int) - 0).toNat = _
  rw [Int.sub_zero,Int.toNat_natCast]
  show x.cps.toList.take x.length = x.cps.toList.take n
  rw [List.take_of_length_le (by rw [xR]; exact Nat.le_refl _),List.take_of_length_le (by rw [xR]; exact h)]
theorem zba (x:Str) (c:Nat):Txt.startswith x ⟨#[c]⟩ = decide (x.cps.toList.head? = some c):=by
 rw [Bool.eq_iff_iff,decide_eq_true_eq]
 have h:=StrLaws.subAt_one x c 0
 rw [show x.cps.toList.head? = x.cps.toList[0]? by rw [List.head?_eq_getElem?]]
 rw [← h]
 unfold Txt.startswith
 rw [Bool.and_eq_true,decide_eq_true_eq]
theorem Ym (c:Nat):(!(occurrences (Str.ofString "0123456789") ⟨#[c]⟩ 0 (Str.ofString "0123456789").length 1).isEmpty) = decide (48≤c∧c≤57):=by
 rw [StrLaws.found_one,decide_eq_decide]
 have e:(Str.ofString "0123456789").cps.toList = [48,49,50,51,52,53,54,55,56,57]:=by decide +kernel
 rw [e]
 constructor
 ·intro h
  simp only [List.mem_cons,List.not_mem_nil,or_false] at h
  omega
 ·intro h
  simp only [List.mem_cons,List.not_mem_nil,or_false]
  omega
theorem QI {x:Str} {v:Int} (h:rdW x.cps.toList = some v):intText? x = some v∧x.length≤21:=by
 unfold rdW at h
 split at h
 ·rename_i hd
  split at h
  ·rename_i c
   obtain ⟨⟨l1,l2⟩,ad⟩:=c
   have v':=Option.some.inj h
   cases e:x.cps.toList with
   | nil=>rw [e] at hd; cases hd
   | cons a r =>
    rw [e] at hd l1 l2 ad v'
    have ha:a = 45:=by simpa using hd
    subst ha
    have lx:x.length≤21:=by
     rw [← xR,e]
     show r.length + 1≤21
     have:r.length≤20:=l2
     omega
    refine ⟨?_,lx⟩
    rw [← v']
    exact intText_neg e ((Yy r).mp ad) (fun z=>by rw [z] at l1; exact absurd l1 (by decide)) (by omega)
  ·cases h
 ·split at h
  ·rename_i c
   obtain ⟨⟨l1,l2⟩,ad⟩:=c
   have v':=Option.some.inj h
   have lx:x.length≤21:=by rw [← xR]; omega
   refine ⟨?_,lx⟩
   rw [← v']
   exact intText_digits ((Yy _).mp ad) (fun z=>by rw [z] at l1; exact absurd l1 (by decide)) (by omega)
  ·cases h
end Tx
namespace L2
open PySem PySem.Spec PyProof.Rows Nm
section
variable {P:Program} {w:World} {K:PySem.W.Frag} {mg:Str→Option Value} {base:Heap}
theorem ji {X:Cx} {x:Str} {k:Nat} {ps:List Str} {sp:Sp} {E:XK} {p pos:Pos} {e:Expr} {es:List Expr} {t:TA} (D:Kx X.prog X.w X.K X.mg X.base x k ps sp) (hr:Room k X.A) (hg:Gl X x) (hx:Passes (CX1 X.prog X.w) X E) (ha:PA X (e :: es) t)
  (hdb:(x == ("__debug__" : Str)) = false:=by decide) (he:starEach (e :: es) X.env = (false,eval e X.env) :: starEach es X.env:=by rfl) (hpl:(backTo pos (starEach es X.env)).any (·.1) = false:=by rfl) :
  PE X (.Call (.Name x p) (e :: es) [] pos) (tCall sp [] E t):=by
 obtain ⟨f,fd,F,hm,hk,hb⟩:=D.ex
 exact zc6 F hr hg hm hk hb .nil hx ha hdb he hpl
theorem zaH {N:List Str} {qual:Str} {scope:Scope} {f:Addr} {cd:Value} {A:Around} {outer:List Env} {s:Shared} {H:Hp} {E:XK} {pins:List (Addr×Obj)} {σ:St} {H2:Hp} {s2:Shared} {b1:Heap} {a C:Addr} {t:Value}
  (I2:Inv (cxOf (CX1 P w) P w K mg base N qual scope f cd A outer s H E) pins σ H2 s2) (hh:b1.HeldW (envOfC qual scope s.heap.objs.size f cd :: outer) a (.ref C) t s.heap.objs.size s2.heap)
  (kb:∀ b o,s2.heap.get? b = some o→(s.heap.get? b≠none∨H2 b≠none)→b∉frs (envOfC qual scope s.heap.objs.size f cd :: outer)→b1.get? b = some o) (n1:s.heap.get? a = none) (n2:H2 a = none) (hE:E (.ref C) none H2) :
  (cxOf (CX1 P w) P w K mg base N qual scope f cd A outer s H E).xe (.ref a) s2:=by
 have ff:=I2.stack
 have hst:frs (envOfC qual scope s.heap.objs.size f cd :: outer) = s.heap.objs.size :: frs outer:=rfl
 have nL:∀ b o,s.heap.get? b = some o→b≠s.heap.objs.size:=fun b o q z=>Nat.lt_irrefl _ (z ▸ Heap.lt_size q)
 have u:Un (frs outer) [] H H2 s.heap s2.heap:=I2.base
 show wpAny _ _ (leaving (envOfC qual scope s.heap.objs.size f cd) (.ref a)) _ _ s2
 unfold leaving
 refine wpAny_bind (wpAny_noteFrame_againW (L:=s.heap.objs.size) rfl hh.2.2.2 ?_)
 refine wpAny_landsW hh fun h' fl0 up=>?_
 obtain ⟨k1,k2,⟨_,_,k3⟩,k4⟩:=fl0
 have fl:b1.FlyingW outer a (.ref C) t h':=⟨k1,k2,k3,k4⟩
 have st:=fl.1
 have nf:∀ b,H2 b≠none→b∉s.heap.objs.size :: frs outer:=fun b hb z=>hb (I2.stkFree b (by rw [← hst] at z; exact z))
 have kp:∀ b o,s2.heap.get? b = some o→(s.heap.get? b≠none∨H2 b≠none)→b∉s.heap.objs.size :: frs outer→h'.get? b = some o:=fun b o q c n=>st b o (kb b o q c n)
 refine ⟨a,C,H2,b1,rfl,I2.os,I2.bare,⟨⟨t,fl⟩,⟨fun b o q n hb _=>?_,fun b o q n hb _=>?_,u.free,fun b o q _=>?_,u.tups,u.frzs,u.tbls⟩,fun b o q=>?_,fun b o q c n=>?_,fun b hb=>I2.stkFree b (List.mem_cons_of_mem _ hb),n1,n2⟩,hE⟩
 ·exact kp b o (u.keep b o q n hb (by simp)) (.inl (by rw [q]; simp)) fun z=>(List.mem_cons.mp z).elim (nL b o q) hb
 ·obtain ⟨sl,q1⟩:=u.slot b o q n hb (by simp)
  obtain ⟨o',e1,_,e3⟩:=yb ff (List.mem_cons_of_mem _ hb)
  rw [q1] at e1; cases e1
  obtain ⟨sl',q2⟩:=up b _ q1 e3
  exact ⟨sl',q2⟩
 ·obtain ⟨o',q1⟩:=u.there b o q (by simp)
  by_cases hb:b∈frs outer
  ·obtain ⟨o2,e1,_,e3⟩:=yb ff (List.mem_cons_of_mem _ hb)
   obtain ⟨sl',q2⟩:=up b _ e1 e3
   exact ⟨_,q2⟩
  ·exact ⟨o',kp b o' q1 (.inl (by rw [q]; simp)) fun z=>(List.mem_cons.mp z).elim (nL b o q) hb⟩
 ·refine (I2.hok b o q).stay (fun c u' hc q1=>?_) (fun _ z=>z) fun _ _ z=>z
  have nn:H2 c≠none:=by
   rcases hc with rfl | hc
   ·rw [q]; simp
   ·rw [hc]; simp
  exact kp c u' q1 (.inr nn) (nf c nn)
 ·obtain ⟨o1,q1⟩ : ∃ o1,s2.heap.get? b = some o1:=by
   rcases c with c | c
   ·cases q':s.heap.get? b with
    | none=>exact absurd q' c
    | some o=>exact u.there b o q' (by simp)
   ·cases q':H2 b with
    | none=>exact absurd q' c
    | some o=>exact (I2.hok b o q').there
  have n':b∉s.heap.objs.size :: frs outer:=by
   rcases c with c | c
   ·cases q':s.heap.get? b with
    | none=>exact absurd q' c
    | some o=>exact fun z=>(List.mem_cons.mp z).elim (nL b o q') n
   ·exact nf b c
  have e12:o1 = o:=Option.some.inj ((kp b o1 q1 c n').symm.trans q)
  rw [← e12]
  exact kb b o1 q1 c n'
end
end L2
namespace L2
open PySem PySem.Spec PyProof.Rows
noncomputable def K0:PySem.W.Frag:=[]
section
variable {X:Cx} {K:PySem.W.Frag}
theorem SqL.up {H:Hp} {a:Addr} {xs:List V} (h:SqL K0 H a xs):SqL K H a xs:=by
 rcases h with h | ⟨o,its,n,hl,_⟩
 ·exact .inl h
 ·cases hl
theorem SqT.up {H:Hp} {a:Addr} {xs:List V} (h:SqT K0 H a xs):SqT K H a xs:=by
 rcases h with h | ⟨o,its,n,hl,_⟩
 ·exact .inl h
 ·cases hl
theorem zgs {T:String} {x:V} {H:Hp} (h:tyV K0 T x H):tyV K T x H:=by
 cases x with
 | ref p =>
  rcases h with ⟨e,xs,hx⟩ | ⟨e,o,ho,_⟩ | h | h
  ·exact .inl ⟨e,xs,hx.up⟩
  ·cases ho
  ·exact .inr (.inr (.inl h))
  ·exact .inr (.inr (.inr h))
 | _=>exact h
noncomputable def mo (t:TE):TE:=fun σ H Q=>∃ Q0:VK,t σ H Q0∧∀ x H',Q0 x H'→Q x H'
noncomputable def moA (t:TA):TA:=fun σ H Q=>∃ Q0:List V→Hp→Prop,t σ H Q0∧∀ x H',Q0 x H'→Q x H'
theorem PE.mo {e:Expr} {t:TE} (h:PE X e t):PE X e (mo t):=fun pins s σ H Q I ⟨Q0,h0,hq⟩ =>
 thn (h pins s σ H Q0 I h0) fun v s1 ⟨x,H1,I1,r,q⟩=>⟨x,H1,I1,r,hq x H1 q⟩
theorem PA.mo {es:List Expr} {t:TA} (h:PA X es t):PA X es (moA t):=fun pos pins s σ H Q I ⟨Q0,h0,hq⟩ =>
 thn (h pos pins s σ H Q0 I h0) fun v s1 ⟨x,H1,I1,r,q⟩=>⟨x,H1,I1,r,hq x H1 q⟩
theorem zo:IxR X (rIxL K0):=fun value slice pins s σ H x y v u Q I rx ry ⟨p,xs,i,w,e1,e2,h,e3,q⟩ hs =>
 zbr value slice pins s σ H x y v u Q I rx ry ⟨p,xs,i,w,e1,e2,h.up,e3,q⟩ hs
theorem zJ:IxR X (rIxT K0):=fun value slice pins s σ H x y v u Q I rx ry ⟨p,xs,i,w,e1,e2,h,e3,q⟩ hs =>
 zhu value slice pins s σ H x y v u Q I rx ry ⟨p,xs,i,w,e1,e2,h.up,e3,q⟩ hs
theorem zaw:SlR X (rSlL K0):=fun pins s σ H x v vl vu lo hi sl Q I rx hs p1 p2 ⟨a,xs,e,h,q⟩ =>
 zc4 pins s σ H x v vl vu lo hi sl Q I rx hs p1 p2 ⟨a,xs,e,h.up,q⟩
inductive ILen (xs:List V) (H:Hp) (Q:VK):Prop where
 | mk (p:Addr) (ys:List V) (e:xs = [.ref p]) (h:SqL K0 H p ys∨SqT K0 H p ys) (q:Q (.int (ys.length:Int)) H):ILen xs H Q
theorem zL:CallR X (.builtin "len") ILen :=
 fun pins s σ H xs us Q I vs ⟨p,ys,e,h,q⟩=>zbC (K:=X.K) rfl pins s σ H xs us Q I vs ⟨p,ys,e,h.imp SqL.up SqT.up,q⟩
theorem za8:CallR X (.type "list") (fun xs H Q=>∃ p ys,xs = [.ref p]∧(SqL K0 H p ys∨SqT K0 H p ys)∧∀ l,H l = none→Q (.ref l) (upd H l (.lst ys))) :=
 fun pins s σ H xs us Q I vs ⟨p,ys,e,h,q⟩=>zaA (K:=X.K) rfl pins s σ H xs us Q I vs ⟨p,ys,e,h.imp SqL.up SqT.up,q⟩
theorem zda (hc:X.calm = true):CallR X (.builtin "sum") (fun xs H Q=>∃ p ns,xs = [.ref p]∧SqL K0 H p (List.map V.int ns)∧Q (.int ns.sum) H) :=
 fun pins s σ H xs us Q I vs ⟨p,ys,e,h,q⟩=>XW (K:=X.K) hc rfl pins s σ H xs us Q I vs ⟨p,ys,e,h.up,q⟩
theorem Qn:CallR X (.type "tuple") (fun xs H Q=>∃ p ys,xs = [.ref p]∧((SqL K0 H p ys∧∀ l,H l = none→Q (.ref l) (upd H l (.tup ys)))∨(SqT K0 H p ys∧Q (.ref p) H))) :=
 fun pins s σ H xs us Q I vs ⟨p,ys,e,h⟩=>JP (K:=X.K) rfl pins s σ H xs us Q I vs ⟨p,ys,e,h.imp (fun h=>⟨h.1.up,h.2⟩) (fun h=>⟨h.1.up,h.2⟩)⟩
theorem zds:OpR X (compareOp .In) (rIn K0 false):=fun pins s σ H x y v u Q I rx ry ⟨p,xs,e,h,q⟩ =>
 zgv (K:=X.K) rfl pins s σ H x y v u Q I rx ry ⟨p,xs,e,h.imp SqL.up SqT.up,q⟩
theorem Qa {pos:Pos} {es:List Expr} {k:Nat} {t:TGs} (n:Nat) (hc:X.calm = true) (hg:PGs X es t) (hn:(assignEach es X.env).length = n:=by rfl) (hs:(assignEach es X.env).findIdx? (fun x=>x.fst) = none:=by rfl):PG X (.Tuple es k pos) (gTup K0 n t) :=
 fun pins s σ H v u Q I r ⟨a,xs,e,h,l,q⟩=>zfO (K:=X.K) n rfl hc hg hn hs pins s σ H v u Q I r ⟨a,xs,e,h.up,l,q⟩
structure It.le (J0 J:It):Prop where
 go:∀ i H,J0.go i H→J.go i H
 stop:∀ i H,J0.stop i H→J.stop i H
 yld:∀ i H x H',J.yld i H x H'→J0.yld i H x H'
theorem Turn.weaken {P:Program} {w:World} {tg:Expr} {J J0:It} {fp:List Addr} {it:Addr} {tn:Nat→Heap→Prop} (T:Turn P w K tg J fp it tn) (l:It.le J0 J):Turn P w K tg J0 fp it tn where
 mem:=T.mem
 obj:=T.obj
 keep:=T.keep
 self:=T.self
 item:=fun X p1 p2 p3 p4 i pins s σ H E I f t g=>thn (T.item X p1 p2 p3 p4 i pins s σ H E I f t (l.go i H g)) fun r s1 ⟨u,e,hw⟩=>⟨u,e,thn hw fun _ s2 ⟨x,H',a,b,y,c⟩=>⟨x,H',a,b,l.yld _ _ _ _ y,c⟩⟩
 done:=fun X p1 p2 p3 p4 i pins s σ H E I f t g=>T.done X p1 p2 p3 p4 i pins s σ H E I f t (l.stop i H g)
theorem zgD (a:Addr):It.le (Itl K0 a) (Itl K a):=⟨fun i H ⟨xs,x,h,e⟩=>⟨xs,x,h.up,e⟩,fun i H ⟨xs,h,e⟩=>⟨xs,h.up,e⟩,fun i H x H' ⟨e,h⟩=>⟨e,fun xs hx=>h xs hx.up⟩⟩
theorem zht (a b:Addr):It.le (Itz K0 a b) (Itz K a b):=⟨fun i H ⟨xs,ys,x,y,h,h2,e⟩=>⟨xs,ys,x,y,h.up,h2.up,e⟩,fun i H ⟨xs,ys,h,h2,e⟩=>⟨xs,ys,h.up,h2.up,e⟩,
 fun i H v H' ⟨T,x,y,e1,e2,e3,h1,h2⟩=>⟨T,x,y,e1,e2,e3,fun xs hx=>h1 xs hx.up,fun ys hy=>h2 ys hy.up⟩⟩
theorem zeT {pins:List (Addr×Obj)} {σ:St} {tg:Expr} {R:It→Hp→Prop} {itv:Value} {s:Shared} (h:PIE X pins σ tg (fun J H=>∃ J0,It.le J0 J∧R J0 H) itv s):PIE X pins σ tg R itv s:=by
 obtain ⟨it,fp,tn,J,H',e,I2,T,t0,fo,J0,l,q⟩:=h
 exact ⟨it,fp,tn,J0,H',e,I2,T.weaken l,t0,fo,q⟩
theorem yB {tg l:Expr} {tl:TE} (hl:PE X l tl):PI X tg l (iList K0 tl):=fun pins s σ H R I h =>
 thn (zcP hl.mo pins s σ H (fun J H=>∃ J0,It.le J0 J∧R J0 H) I ⟨_,h,fun x H1 ⟨a,e,⟨xs,hx⟩,q⟩=>⟨a,e,⟨xs,hx.up⟩,_,zgD a,q⟩⟩) fun _ _ hw=>thn hw fun _ _ hp=>zeT hp
theorem zc3 {a b:Expr} {ta:TA} {p pos:Pos} {elts:List Expr} {k1:Nat} {tpos:Pos} (hg:Gl X "zip") (hm:X.mg "zip" = none) (ha:PA X [a,b] ta) (hs:starEach [a,b] X.env = [(false,eval a X.env),(false,eval b X.env)]:=by rfl) (hs2:starEach [b] X.env = [(false,eval b X.env)]:=by rfl) :
  PI X (.Tuple elts k1 tpos) (.Call (.Name "zip" p) [a,b] [] pos) (iZip K0 ta):=fun pins s σ H R I h =>
 thn (zgq hg hm ha.mo hs hs2 pins s σ H (fun J H=>∃ J0,It.le J0 J∧R J0 H) I ⟨_,h,fun x H1 ⟨a,b,xs,ys,e,hx,hy,q⟩=>⟨a,b,xs,ys,e,hx.up,hy.up,_,zht a b,q⟩⟩) fun _ _ hw=>thn hw fun _ _ hp=>zeT hp
theorem bm0 {o e':Expr} {T:String} {r:V→List V→Hp→VK→Prop} {to:TE} {t:TA} (h:∀ to',PE X o to'→PE X e' (tBM X.K T r to' t)) (ho:PE X o to):PE X e' (tBM K0 T r to t):=fun pins s σ H Q I hh =>
 h (mo to) ho.mo pins s σ H Q I ⟨_,hh,fun x H1 ⟨a,b⟩=>⟨zgs a,b⟩⟩
end
end L2
namespace L2
open PySem PySem.Spec PyProof.Rows
section
variable {X:Cx}
inductive IAll (xs:List V) (H:Hp) (Q:VK):Prop where
 | mk (p:Addr) (bs:List Bool) (e:xs = [.ref p]) (h:H p = some (.lst (bs.map V.bl))) (q:Q (.bl (bs.all id)) H):IAll xs H Q
theorem zcm (bs:List Bool):∀ n,n = bs.length→(List.range n).all (fun i=>bs.getD i true) = bs.all id:=by
 intro n e
 subst e
 rw [Bool.eq_iff_iff,List.all_eq_true,List.all_eq_true]
 refine ⟨fun h x hx=>?_,fun h i hi=>?_⟩
 ·obtain ⟨i,hi,rfl⟩:=List.getElem_of_mem hx
  have:=h i (List.mem_range.mpr hi)
  simpa [List.getD,hi] using this
 ·have hi':=List.mem_range.mp hi
  have:=h bs[i] (List.getElem_mem hi')
  simpa [List.getD,hi'] using this
theorem zdb (hc:X.calm = true):CallR X (.builtin "all") IAll:=by
 intro pins s σ H xs us Q I r h
 obtain ⟨p,bs,rfl,hq,q⟩:=h
 obtain ⟨u,rfl,ru⟩:=Vals.one r
 cases ru
 obtain ⟨its,rv,pl,_⟩:=I.list (SqL.of (K:=X.K) hq)
 have hh:X.A.in1.handled = none:=I.ok.hd hc
 have lt:p < s.heap.objs.size:=let ⟨_,e,_⟩:=pl.isList; Heap.lt_size e
 have hl:its.length = bs.length:=by rw [← rv.length,List.length_map]
 refine call_all_walk (wpAny_pyIter_list pl.isList ?_)
 refine ⟨s.heap.objs.size,_,_,_,_,_,fun i=>bs.getD i true,rfl,Walks.list hh s.heap.objs.size p (Nat.ne_of_lt lt) its.toArray,⟨⟨_,Heap.get?_push_size _ rfl,rfl,rfl⟩,pl.isList.at fun o e=>Heap.get?_push_of_some _ e⟩,fun i v s' Q' E' hv hQ=>?_,fun h' tk keep=>?_⟩
 ·have hv':its[i]? = some v:=by simpa using hv
  have hi:i < bs.length:=by rw [← hl]; exact (List.getElem?_eq_some_iff.mp hv').1
  obtain ⟨u,hu,ru⟩:=rv.get (i:=i) (x:=.bl bs[i]) (by rw [List.getElem?_map,List.getElem?_eq_getElem hi]; rfl)
  rw [hu] at hv'
  cases hv'
  cases ru
  refine wpAny_truthy_bool ?_
  simpa [List.getD,hi] using hQ
 ·rw [zcm bs _ (by rw [List.size_toArray]; exact hl)]
  refine ⟨.bl (bs.all id),H,?_,rfl,q⟩
  exact I.kept (h':=h') (t':=tk) fun b o eb=>keep b o (by simp only [List.mem_cons,List.not_mem_nil,or_false]; exact Nat.ne_of_lt (Heap.lt_size eb)) (Heap.get?_push_of_some _ eb)
end
end L2
namespace L2
open PySem PySem.Spec PyProof.Rows Nm
section
variable {X:Cx}
theorem zde (bs:List Bool) (n:Nat) (h:n = bs.length):(List.range n).any (fun i=>bs.getD i false) = bs.any id:=by
 subst h
 rw [Bool.eq_iff_iff,List.any_eq_true,List.any_eq_true]
 constructor
 ·rintro ⟨i,hi,e⟩
  have hi':=List.mem_range.mp hi
  refine ⟨bs[i],List.getElem_mem hi',?_⟩
  simpa [List.getD,hi'] using e
 ·rintro ⟨b,hb,e⟩
  obtain ⟨i,hi,rfl⟩:=List.getElem_of_mem hb
  exact ⟨i,List.mem_range.mpr hi,by simpa [List.getD,hi] using e⟩
theorem Jn (hc:X.calm = true):CallR X (.builtin "any") (fun xs H Q=>∃ (p:Addr) (bs:List Bool),xs = [.ref p]∧H p = some (.lst (bs.map V.bl))∧Q (.bl (bs.any id)) H):=by
 intro pins s σ H xs us Q I r h
 obtain ⟨p,bs,rfl,hq,q⟩:=h
 obtain ⟨u,rfl,ru⟩:=Vals.one r
 cases ru
 obtain ⟨its,rv,pl,_⟩:=I.list (SqL.of (K:=X.K) hq)
 have hh:X.A.in1.handled = none:=I.ok.hd hc
 have lt:p < s.heap.objs.size:=let ⟨_,e,_⟩:=pl.isList; Heap.lt_size e
 have hl:its.length = bs.length:=by rw [← rv.length,List.length_map]
 refine call_any_walk (wpAny_pyIter_list pl.isList ?_)
 refine ⟨s.heap.objs.size,_,_,_,_,_,fun i=>bs.getD i false,rfl,Walks.list hh s.heap.objs.size p (Nat.ne_of_lt lt) its.toArray,⟨⟨_,Heap.get?_push_size _ rfl,rfl,rfl⟩,pl.isList.at fun o e=>Heap.get?_push_of_some _ e⟩,fun i v s' Q' E' hv hQ=>?_,fun h' tk keep=>?_⟩
 ·have hv':its[i]? = some v:=by simpa using hv
  have hi:i < bs.length:=by rw [← hl]; exact (List.getElem?_eq_some_iff.mp hv').1
  obtain ⟨u,hu,ru⟩:=rv.get (i:=i) (x:=.bl bs[i]) (by rw [List.getElem?_map,List.getElem?_eq_getElem hi]; rfl)
  rw [hu] at hv'
  cases hv'
  cases ru
  refine wpAny_truthy_bool ?_
  simpa [List.getD,hi] using hQ
 ·rw [zde bs _ (by rw [List.size_toArray]; exact hl)]
  refine ⟨.bl (bs.any id),H,?_,rfl,q⟩
  exact I.kept (h':=h') (t':=tk) fun b o eb=>keep b o (by simp only [List.mem_cons,List.not_mem_nil,or_false]; exact Nat.ne_of_lt (Heap.lt_size eb)) (Heap.get?_push_of_some _ eb)
end
end L2
namespace L2
open PySem PySem.Spec PyProof.Rows Nm
section
variable {prog:Program} {w:World} {A:Around} {E:Value→Shared→Prop} {R:Result→Shared→Prop} {s:Shared}
theorem Xr {elt tg iter:Expr} {ifs:List Expr} {scope:Scope} {pos:Pos} {it ac:Value} {env:Env} (E:Value→Shared→Prop) (herr:∀ e s',E e s'→notedBy (model prog w) A env (fun x s''=>R (.error x) s'') e s') (I:Nat→Shared→Prop)
  (turn:∀ n s,I n s→wpAny (model prog w) A (pyNext it) (fun r s₁=>match r with
   | none=>R (.ok .next) s₁
   | some v=>wpAny (model prog w) A (letOwnedTupleGo tg it v) (fun _ s₂=>wpAny (model prog w) A (assign tg env v) (fun _ s₃ =>
     wpAny (model prog w) A (forIn ifs true fun c r=>if r = true then do let ok ← isTrue c env (eval c env); pure (ForInStep.yield ok) else pure (ForInStep.yield r)) (fun ok s₄ =>
      if ok = true then wpAny (model prog w) A (eval elt env) (fun x s₅ =>
       wpAny (model prog w) A (call (.builtin "list.append") [ac,x]) (fun _ s₆=>∃ m,m < n∧I m s₆) E s₅) E s₄
      else ∃ m,m < n∧I m s₄) E s₃) E s₂) E s₁) E s)
  (n:Nat) (h:I n s) :
  codeAny (model prog w) A (.compLoop (.ListComp elt [⟨tg,iter,ifs,0⟩] scope pos) 0 it ac env) R s:=by
 refine codeAny_loop rfl I (fun n s hJ=>?_) n h
 show wpAny _ A ((compTurn (.ListComp elt [⟨tg,iter,ifs,0⟩] scope pos) 0 it ac env).onRaise (fun x=>do noteFrame x env; theTreesLotGoes x)) _ _ s
 refine wpAny_noted ?_
 rw [compTurn_list]
 refine wpAny_bind (wpAny_standAt (wpAny_bind (wpAny_mono (turn n s hJ) (fun r s₁ h₁=>?_) herr)))
 cases r with
 | none=>exact wpAny_pure h₁
 | some v =>
  refine wpAny_bind (wpAny_mono h₁ (fun _ s₂ h₂=>?_) herr)
  refine wpAny_bind (wpAny_mono h₂ (fun _ s₃ h₃=>wpAny_bind (wpAny_mono h₃ (fun ok s₄ h₄=>?_) herr)) herr)
  cases ok with
  | false=>exact wpAny_pure ⟨rfl,h₄⟩
  | true =>
   exact wpAny_bind (wpAny_bind (wpAny_mono h₄ (fun x s₅ h₅=>wpAny_bind (wpAny_mono h₅ (fun _ s₆ h₆=>wpAny_pure (wpAny_pure ⟨rfl,h₆⟩)) herr)) herr))
end
end L2
namespace L2
open PySem PySem.Spec PyProof.Rows Nm
theorem zcO {α:Type} {P P':Program} {w w':World} {A A':Around} {m:Sem α} {Q:α→Shared→Prop} {E:Value→Shared→Prop} {s:Shared} (h1:P' = P) (h2:w' = w) (h3:A' = A) (z:wpAny (model P' w') A' m Q E s):wpAny (model P w) A m Q E s:=by
 subst h1 h2 h3; exact z
noncomputable def cpF (fr:Option Addr) (M:Model) (A:Around) (E:Value→Shared→Prop) (use:Option (Value→Sem Unit)) (Q:Value→Shared→Prop) (acc:Value) (C:Addr) (r:Result) (s':Shared):Prop :=
 match r with
 | .ok f=>compPost M A E use Q acc C (.ok f) s'
 | .error x=>∃ m,s'.heap.Ns C m∧∀ h',Heap.SameBut C s'.heap h'→∀ cenv:Env,cenv.locals = C→cenv.frame = fr→wpAny M A (PySem.passOn "comprehension.variables-let-go" x cenv:Sem Value) Q E { s' with heap:=h' }
theorem zaX {M:Model} {A:Around} {E:Value→Shared→Prop} {s:Shared} {env:Env} {e:Expr} {scope:Scope} {pos:Pos} {newAcc first:Sem Value} {g:Comprehension} {gs:List Comprehension} {cl:List (Str×Addr)} {use:Option (Value→Sem Unit)} {Q:Value→Shared→Prop} (hcl:clausesOf e = g :: gs) (hs:∀ x,foldedSetIterable g.iter env x = pure x) (hclos:closureFor scope env = pure cl) (hkind:scope.kind = .function)
  (hnames:∀ x∈scope.names,x.2 = .local→scope.names.lookup x.1 = some .local)
  (h:wpAny M A first (fun x s₁=>wpAny M A (pyIter x) (fun it s₂=>wpAny M A newAcc (fun acc s₃=>wpAny M A (newFunctionEnv scope env.globals cl [] env.qual none Value.none (some env)) (fun cenv s₄ =>
   codeAny M A (.compStart e 0 it acc { cenv with scope:=relabel scope env }) (cpF cenv.frame M A E use Q acc cenv.locals) s₄) E s₃) E s₂) E s₁) E s) :
  wpAny M A (comprehension e scope env pos newAcc false first use) Q E s:=by
 have hk2:∀ vs:List (Str×NameKind),(∀ x∈vs,x∈scope.names)→∀ (cenv:Env),cenv.scope = relabel scope env→∀ x∈vs,x.2 = NameKind.local→cenv.kindOf x.1 = some NameKind.local:=fun vs hv cenv hc x hx hl=>by
  have h1:=hnames x (hv x hx) hl
  show cenv.scope.names.lookup x.1 = some NameKind.local
  rw [hc]
  show List.lookup x.1 (List.map _ scope.names) = some NameKind.local
  have gen:∀ l:List (Str×NameKind),l.lookup x.1 = some NameKind.local→List.lookup x.1 (l.map fun (n,k)=>if (k == NameKind.free && env.scope.kind == ScopeKind.function && env.kindOf n == some NameKind.cell) = true then (n,NameKind.cell) else (n,k)) = some NameKind.local:=by
   intro l
   induction l with
   | nil=>intro h; exact h
   | cons p l ih =>
    obtain ⟨n,k⟩:=p
    intro h
    rw [List.lookup_cons] at h
    rw [List.map_cons]
    by_cases c:(x.1 == n) = true
    ·rw [c] at h
     have:k = NameKind.local:=Option.some.inj h
     subst this
     have e1:(NameKind.local == NameKind.free) = false:=by decide
     simp only [e1,Bool.false_and,Bool.false_eq_true,if_false]
     rw [List.lookup_cons,c]
    ·have c':(x.1 == n) = false:=by simpa using c
     rw [c'] at h
     have ih:=ih h
     by_cases d:(k == NameKind.free && env.scope.kind == ScopeKind.function && env.kindOf n == some NameKind.cell) = true
     ·dsimp only
      rw [if_pos d,List.lookup_cons,c']; exact ih
     ·dsimp only
      rw [if_neg d,List.lookup_cons,c']; exact ih
  exact gen _ h1
 have sub:∀ x∈(List.filter (fun x:Str×NameKind=>(x.2 == NameKind.local || x.2 == NameKind.cell) && x.1 != Str.ofString ".0") scope.names),x∈scope.names:=fun x hx=>(List.mem_filter.mp hx).1
 unfold comprehension
 rw [hclos]
 refine wpAny_bind (wpAny_mono h (fun x s₁ h₁=>?_) fun _ _ z=>z)
 refine wpAny_bind (wpAny_standAt ?_)
 rw [hcl]
 dsimp only
 rw [hs]
 refine wpAny_bind (wpAny_pure ?_)
 refine wpAny_bind (wpAny_holding ?_)
 rw [if_neg Bool.false_ne_true]
 refine wpAny_mono h₁ (fun it s₂ h₂=>?_) fun _ _ z=>z
 refine wpAny_standIf ?_
 refine wpAny_bind (wpAny_mono h₂ (fun acc s₃ h₃=>?_) fun _ _ z=>z)
 refine wpAny_bind (wpAny_pure ?_)
 refine wpAny_bind (wpAny_mono h₃ (fun cenv s₄ h₄=>?_) fun _ _ z=>z)
 refine wpAny_holding (wpAny_bind (wpAny_attempt (wpAny_holding (wpAny_run (codeAny_mono h₄ fun r s' h5=>?_)))))
 cases r with
 | ok f =>
  cases use with
  | none =>
   obtain ⟨m,hm,hq⟩:=h5
   refine wpAny_bind (wpAny_holding (wpAny_comp_letGo hkind _ _ m (hk2 _ (fun x hx=>sub x (List.mem_reverse.mp hx)) _ rfl) hm fun h' m' _ sb=>?_))
   exact wpAny_pure (hq h' sb)
  | some u =>
   refine wpAny_bind (wpAny_rule ?_)
   refine wpAny_bind (wpAny_holding (wpAny_mono h5 (fun _ s6 h6=>?_) fun _ _ z=>z))
   obtain ⟨m,hm,hq⟩:=h6
   refine wpAny_bind (wpAny_comp_letGo hkind _ _ m (hk2 _ (fun x hx=>sub x (by
    rcases List.mem_append.mp hx with h | h
    ·exact List.mem_reverse.mp (List.mem_of_mem_drop h)
    ·exact List.mem_reverse.mp (List.mem_of_mem_take h))) _ rfl) hm fun h' m' _ sb=>?_)
   exact wpAny_pure (hq h' sb)
 | error x =>
  obtain ⟨m,hm,hq⟩:=h5
  refine wpAny_bind (wpAny_holding (wpAny_comp_letGo hkind _ _ m (hk2 _ (fun x hx=>sub x (List.mem_reverse.mp hx)) _ rfl) hm fun h' m' _ sb=>?_))
  exact hq h' sb _ rfl rfl
section
variable {X:Cx} {own fre:List Str} {idx:List Nat} {scope:Scope} {pins:List (Addr×Obj)} {σ:St} {H:Hp} {s:Shared}
theorem Jw {elt tg iter:Expr} {ifs:List Expr} {pos:Pos} {wi:TI} {g:TG} {tt:TT} {te:TE} {use:Option (Value→Sem Unit)} {R:List V→Hp→Prop} {Q:Value→Shared→Prop} (XE:Addr→List (Str×Addr)→Shared→Hp→List Addr→List (Addr×Obj)→Value→Shared→Prop) (B:BlkOk X own fre idx scope) (hc:X.calm = true) (hi:PI X tg iter wi) (hg:GOwn own.length g)
  (hb:∀ (L:Addr) (cells:List (Str×Addr)) (s₀:Shared) (H₀:Hp) (ex:List Addr) (pn:List (Addr×Obj)),PG ((blk X own fre scope L cells s₀ H₀ ex pn).wish (XE L cells s₀ H₀ ex pn)) tg g∧PTs ((blk X own fre scope L cells s₀ H₀ ex pn).wish (XE L cells s₀ H₀ ex pn)) ifs tt∧PE ((blk X own fre scope L cells s₀ H₀ ex pn).wish (XE L cells s₀ H₀ ex pn)) elt te)
  (hx:∀ (L D:Addr) (cells:List (Str×Addr)) (s₀:Shared) (H₀:Hp) (fp:List Addr),Inv X pins σ H₀ s₀→(∀ b∈D :: fp,FpOk X pins H₀ b)→s₀.heap.objs.size = L→∀ e s',XE L cells s₀ H₀ (D :: fp) (X.pn ++ pins) e s'→notedBy (model X.prog X.w) X.A (compEnvC scope cells L X.env) (fun x s''=>cpF X.env.frame (model X.prog X.w) X.A X.xe use Q (.ref D) L (.error x) s'') e s')
  (hs:∀ x,foldedSetIterable iter X.env x = pure x) (I:Inv X pins σ H s) (h:tCompW own.length idx wi g tt te R σ H)
  (hq:∀ (ys:List V) (H':Hp) (s':Shared) (L D:Addr) (m:Str→Option Value),R ys H'→H' D = none→Inv X pins σ (upd H' D (.lst ys)) s'→s'.heap.Ns L m→upd H' D (.lst ys) L = none→FpOk X pins (upd H' D (.lst ys)) L →
   compPost (model X.prog X.w) X.A X.xe use Q (.ref D) L (.ok .next) s') :
  wpAny (model X.prog X.w) X.A (comprehension (.ListComp elt [⟨tg,iter,ifs,0⟩] scope pos) scope X.env (firstIterPos [⟨tg,iter,ifs,0⟩] pos) (newList []) false (eval iter X.env) use) Q X.xe s:=by
 have hnames:∀ x∈scope.names,x.2 = .local→scope.names.lookup x.1 = some .local:=fun x hx hl=>by
  have:=List.all_eq_true.mp B.loc x hx
  rw [hl] at this
  simpa using this
 refine zaX (use:=use) rfl hs (jZ (B.cells I.ok)) B.kind hnames (wpAny_mono (hi pins s σ H _ I h) (fun v s1 h1=>wpAny_mono h1 (fun itv s2 h2=>?_) fun _ _ e=>e) fun _ _ e=>e)
 obtain ⟨it,fp,tn,J,H2,rfl,I2,T,st2,f2,W,⟨m0,w0⟩,turn⟩:=h2
 refine wpAny_newObj_type ?_
 generalize hs3:({ s2 with heap:=s2.heap.push { cls:=.type "list",dict:=none,data:=.seq ([]:List Value).toArray } }:Shared) = s3
 have hD3:s3.heap.get? s2.heap.objs.size = some { cls:=.type "list",data:=.seq ([]:List Value).toArray 0 }:=by rw [← hs3]; exact Heap.get?_push_size _ rfl
 have keep23:∀ b o,s2.heap.get? b = some o→s3.heap.get? b = some o:=fun b o e=>by rw [← hs3]; exact Heap.get?_push_of_some _ e
 have I3:Inv X pins σ H2 s3:=by rw [← hs3]; exact I2.kept (t':=s2.toks) fun b o e=>Heap.get?_push_of_some _ e
 have sz3:s3.heap.objs.size = s2.heap.objs.size + 1:=by rw [← hs3]; exact Heap.size_push ..
 generalize hD:s2.heap.objs.size = D at *
 have nD:H2 D = none:=by rw [← hD]; exact I2.fresh
 have okD:FpOk X pins H2 D:=I2.fpOk (by rw [hD]; exact Nat.le_refl _) nD
 have ltfp:∀ b∈fp,b < D:=fun b hb=>by
  obtain ⟨o,ho,_⟩:=T.obj _ _ st2 b hb
  rw [← hD]; exact Heap.lt_size ho
 simp only [newFunctionEnv,Option.isSome_some,if_true]
 refine wpAny_bind (wpAny_alloc ?_)
 refine wpAny_bind (wpAny_layCells _ (fun name kind cells=>by cases hkc:kind == NameKind.cell <;> simp [hkc]) _ _ _ _ ?_)
 refine wpAny_bind (wpAny_pure (wpAny_pure ?_))
 have hL1:(s3.heap.push dictO).objs.size = s3.heap.objs.size + 1:=Heap.size_push ..
 have I4:=Xz (ex:=D :: fp) B I3 (fun b hb=>by
  rcases List.mem_cons.mp hb with rfl | hb
  ·exact ⟨okD,by rw [sz3]; exact Nat.lt_succ_self _⟩
  ·exact ⟨f2 b hb,by rw [sz3]; exact Nat.lt_succ_of_lt (ltfp b hb)⟩)
 generalize hs4:({ s3 with heap:=pushCells (s3.heap.push dictO) scope.names }:Shared) = s4 at I4
 have keep34:∀ b o,s3.heap.get? b = some o→s4.heap.get? b = some o:=fun b o e=>by rw [← hs4]; exact pushCells_keeps _ _ b o (Heap.get?_push_of_some _ e)
 generalize hY:blk X own fre scope s3.heap.objs.size (bcells X scope s3.heap.objs.size) s3 H2 (D :: fp) (X.pn ++ pins) = Y at I4
 have YA:Y.A = X.A:=by rw [← hY]; rfl
 have Yp:Y.prog = X.prog:=by rw [← hY]; rfl
 have Yw:Y.w = X.w:=by rw [← hY]; rfl
 have YK:Y.K = X.K:=by rw [← hY]; rfl
 have Yc:Y.calm = true:=by rw [← hY]; exact hc
 have Yex:Y.ex = D :: fp:=by rw [← hY]; rfl
 have Ypn:Y.pn = X.pn ++ pins:=by rw [← hY]; rfl
 have YL:Y.env.locals = s3.heap.objs.size:=by rw [← hY]; rfl
 generalize hYE:XE s3.heap.objs.size (bcells X scope s3.heap.objs.size) s3 H2 (D :: fp) (X.pn ++ pins) = YE at *
 have hbY:PG (Y.wish YE) tg g∧PTs (Y.wish YE) ifs tt∧PE (Y.wish YE) elt te:=by rw [← hY,← hYE]; exact hb ..
 have hxY:∀ e s',YE e s'→notedBy (model X.prog X.w) X.A Y.env (fun x s''=>cpF X.env.frame (model X.prog X.w) X.A X.xe use Q (.ref D) s3.heap.objs.size (.error x) s'') e s':=by
  rw [← hY,← hYE]
  exact hx s3.heap.objs.size D (bcells X scope s3.heap.objs.size) s3 H2 fp I3 (fun b hb=>by
   rcases List.mem_cons.mp hb with rfl | hb
   ·exact okD
   ·exact f2 b hb) rfl
 have nDY:D≠Y.env.locals:=by rw [YL,sz3]; exact Nat.ne_of_lt (Nat.lt_succ_self _)
 have okY:=I4.ok
 have fsD:D∉Y.fs:=okY.exfs D (by rw [Yex]; exact List.mem_cons_self)
 have pnD:∀ p∈Y.pn,p.1≠D:=by rw [Ypn]; exact okD.2.2.2.2.2
 have FO:∀ {H':Hp} {o:Obj},(∀ b∈fp,H' b = none)→∀ b∈fp,FpOk Y [(D,o)] H' b:=fun {H' o} hn b hb=>by
  have m:b∈Y.ex:=by rw [Yex]; exact List.mem_cons_of_mem _ hb
  refine ⟨hn b hb,(okY.exf b m).1,okY.exfs b m,.inl m,(okY.exf b m).2,fun p hp=>?_⟩
  rcases List.mem_append.mp hp with hp | hp
  ·rw [Ypn] at hp
   exact (f2 b hb).2.2.2.2.2 p hp
  ·have e:p = (D,o):=by simpa using hp
   rw [e]
   exact Ne.symm (Nat.ne_of_lt (ltfp b hb))
 have pinD:∀ {pl:List (Addr×Obj)} {σ':St} {H':Hp} {s':Shared} {o:Obj},Inv Y pl σ' H' s'→s'.heap.get? D = some o→H' D = none→(∀ v,o.data≠.cell v)→Inv Y [(D,o)] σ' H' s':=fun {pl σ' H' s' o} I' e hn hd=>I'.pins_of fun p hp=>by
  have e':p = (D,o):=by simpa using hp
  subst e'
  exact ⟨e,hn,nDY,fsD,hd⟩
 have loop:codeAny (model X.prog X.w) X.A (.compLoop (.ListComp elt [⟨tg,iter,ifs,0⟩] scope pos) 0 (.ref it) (.ref D) Y.env) (cpF X.env.frame (model X.prog X.w) X.A X.xe use Q (.ref D) s3.heap.objs.size) s4:=by
  refine Xr YE hxY (fun n s'=>∃ i ys its k H',Inv Y [(D,({ cls:=.type "list",data:=.seq (its:List Value).toArray k }:Obj))] (bst own.length idx σ) H' s'∧tn i s'.heap∧(∀ b∈fp,H' b = none)∧Vals ys its∧ys.length≤sizeLine∧W i n ys H') ?_ m0
   ⟨0,[],[],0,H2,pinD I4 (keep34 _ _ hD3) nD (fun v z=>nomatch z),T.keep _ _ _ st2 fun b _ o e=>keep34 _ _ (keep23 _ _ e),fun b hb=>(f2 b hb).1,.nil,Nat.zero_le _,w0⟩
  rintro n s' ⟨i,ys,its,k,H',I',st',fr',hv,hz,w'⟩
  have pD:=I'.pin _ (List.mem_append_right _ List.mem_cons_self)
  rcases turn i n ys H' w' with ⟨stop,hl,hR⟩ | ⟨go,hl,step⟩
  ·have z:=T.done Y Yp Yw YK Yc i _ s' _ H' YE I' (FO fr') st' stop
   rw [YA] at z
   refine thn z fun r s5 ⟨hr,I5⟩=>?_
   subst hr
   have pD5:=I5.pin _ (List.mem_append_right _ List.mem_cons_self)
   have I5':=I5
   rw [← hY] at I5'
   have E:=zb2 I3 I5' (fun b hb=>f2 b hb) okD pD5.2.1 hv hl pD5.1
   obtain ⟨m5,hm5,_⟩:=I5.loc
   rw [YL] at hm5
   have nL:H' s3.heap.objs.size = none:=by rw [← YL]; exact I5.free
   have nL':upd H' D (.lst ys) s3.heap.objs.size = none:=by rw [zw (by rw [← YL]; exact Ne.symm nDY)]; exact nL
   exact hq ys H' s5 _ D m5 hR pD5.2.1 E hm5 nL' (I3.fpOk (Nat.le_refl _) nL')
  ·have z:=T.item Y Yp Yw YK Yc i _ s' _ H' YE I' (FO fr') st' go
   rw [YA] at z
   refine thn z fun r s5 ⟨u,hr,h5⟩=>?_
   subst hr
   refine thn h5 fun _ s6 ⟨x,H6,I6,r6,y6,st6,fr6⟩=>?_
   have I6':=I6.pinned (FO fr6) (T.obj _ _ st6)
   have z7:=hbY.1 _ s6 _ H6 x u _ (I6'.wish _) r6 (hg _ _ _ _ (step x H6 y6))
   refine thn (zcO Yp Yw YA z7) fun _ s7 ⟨σ7,H7,I7,q7,d7,l7⟩=>?_
   have z8:=hbY.2.1 _ s7 σ7 H7 _ I7 q7
   refine thn (zcO Yp Yw YA z8) fun ok s8 ⟨H8,I8w,q8⟩=>?_
   have I8:=I8w.unwish
   have tnK:∀ {σ9:St} {H9:Hp} {s9:Shared},Inv Y ([(D,({ cls:=.type "list",data:=.seq its.toArray k }:Obj))] ++ pinsAt fp s6.heap) σ9 H9 s9→tn (i + 1) s9.heap∧∀ b∈fp,H9 b = none:=fun I9 =>
    ⟨T.keep _ _ _ st6 fun b hb o e=>(I9.pin (b,o) (List.mem_append_right _ (List.mem_append_right _ (xa hb e)))).1,fun b hb=>by
     obtain ⟨o,e,d⟩:=T.obj _ _ st6 b hb
     exact (I9.pin (b,o) (List.mem_append_right _ (List.mem_append_right _ (xa hb e)))).2.1⟩
   cases ok with
   | false =>
    rw [if_neg Bool.false_ne_true] at q8 ⊢
    obtain ⟨m',hm,w8⟩:=q8
    obtain ⟨t8,n8⟩:=tnK I8
    exact ⟨m',hm,i + 1,ys,its,k,H8,I8.unpinned.weak l7.symm (Zd d7),t8,n8,hv,hz,w8⟩
   | true =>
    rw [if_pos rfl] at q8 ⊢
    have z9:=hbY.2.2 _ s8 σ7 H8 _ I8w q8
    refine thn (zcO Yp Yw YA z9) fun y s9 ⟨v9,H9,I9w,r9,m',hm,w9⟩=>?_
    have I9:=I9w.unwish
    obtain ⟨t9,n9⟩:=tnK I9
    have pD9:=I9.pin (D,{ cls:=.type "list",data:=.seq its.toArray k }) (List.mem_append_right _ (List.mem_append_left _ List.mem_cons_self))
    refine append_at pD9.1 (fun h10 sb hD10=>?_) (by rw [List.size_toArray,← hv.length]; exact Nat.le_of_lt hl)
    have I9a:Inv Y [] σ7 H9 s9:=I9.pins_of fun p hp=>nomatch hp
    have I10:Inv Y [] σ7 H9 { s9 with heap:=h10 }:=I9a.turned (t':=s9.toks) (it:=D) (fun b o hb e=>sb.extBut b o hb e) pD9.2.1 nDY (.inl (by rw [Yex]; exact List.mem_cons_self)) (okY.exf D (by rw [Yex]; exact List.mem_cons_self)).2 (fun p hp=>by
     rw [List.append_nil] at hp
     exact pnD p hp)
    refine ⟨m',hm,i + 1,ys ++ [v9],its ++ [y],k + 1,H9,pinD (I10.weak l7.symm (Zd d7)) ?_ pD9.2.1 (fun v z=>nomatch z),?_,n9,hv.append (.cons r9 .nil),?_,w9⟩
    ·show h10.get? D = _
     rw [hD10,List.push_toArray]
    ·exact T.keep _ _ _ t9 fun b hb o e=>sb.extBut b o (Nat.ne_of_lt (ltfp b hb)) e
    ·rw [List.length_append,List.length_singleton]; exact hl
 have goal:codeAny (model X.prog X.w) X.A (.compStart (.ListComp elt [⟨tg,iter,ifs,0⟩] scope pos) 0 (.ref it) (.ref D) Y.env) (cpF X.env.frame (model X.prog X.w) X.A X.xe use Q (.ref D) s3.heap.objs.size) s4 :=
  codeAny_compStart_list loop (T.self X.A 0 s4 _ _ (T.keep _ _ _ st2 fun b _ o e=>keep34 _ _ (keep23 _ _ e)) loop)
 rw [← hY] at goal
 have hsz:({ s3 with heap:=s3.heap.push { cls:=.type "dict",data:=.dict #[] } }:Shared).heap.objs.size = s3.heap.objs.size + 1:=Heap.size_push ..
 rw [hsz]
 first
  | exact goal
  | (rw [← hs4] at goal; exact goal)
end
end L2
namespace L2
open PySem PySem.Spec PyProof.Rows Nm
theorem Yo {h h' b1:Heap} {D:Addr} (keep:∀ b o,b≠D→h.get? b = some o→h'.get? b = some o):∀ {l:List Env},h.FunFrames b1 l→D∉frs l→h'.FunFrames (PySem.W.hideAll b1 [D]) l
 | [],_,_=>trivial
 | env :: l,F,hs=>by
  obtain ⟨k,⟨L,o,e1,e2,e3,e4⟩,F'⟩:=F
  have em:frs (env :: l) = L :: frs l:=by unfold frs; rw [List.filterMap_cons_some e1]
  rw [em] at hs
  have nL:L≠D:=fun z=>hs (by rw [z]; exact List.mem_cons_self)
  refine ⟨k,⟨L,o,e1,?_,keep L o nL e3,e4⟩,Yo keep F' fun hb=>hs (List.mem_cons_of_mem _ hb)⟩
  cases q:(PySem.W.hideAll b1 [D]).get? L with
  | none=>rfl
  | some o'=>rw [PySem.W.of_hideAll _ q] at e2; cases e2
theorem QW {b1:Heap} {D a:Addr} (h:b1.get? a = none):(PySem.W.hideAll b1 [D]).get? a = none:=by
 cases q:(PySem.W.hideAll b1 [D]).get? a with
 | none=>rfl
 | some o'=>rw [PySem.W.of_hideAll _ q] at h; cases h
theorem zdR {h h' b1:Heap} {D e L:Addr} {l:List Env} {cls a0:Value} (hh:b1.HeldW l e cls a0 L h) (keep:∀ b o,b≠D→h.get? b = some o→h'.get? b = some o) (nf:D∉frs l) (hD:∃ o,h.get? D = some o∧∀ vs,o.data≠Data.fields vs) :
  (PySem.W.hideAll b1 [D]).HeldW l e cls a0 L h':=by
 obtain ⟨k1,k2,k3,oe,vs,T,oT,ts,he,hc,hd,h1,hnT,hTe,hT,hdT,h3⟩:=hh
 obtain ⟨oD,hoD,hnD⟩:=hD
 have ne:e≠D:=fun z=>by rw [z,hoD] at he; cases he; exact hnD vs hd
 have nT:T≠D:=fun z=>by rw [z,hoD] at hT; cases hT; exact hnD ts hdT
 refine ⟨fun b o q=>?_,QW k2,Yo keep k3 nf,oe,vs,T,oT,ts,keep e oe ne he,hc,hd,h1,QW hnT,hTe,keep T oT nT hT,hdT,h3⟩
 have nb:b≠D:=fun z=>by
  rw [z,PySem.W.hideAll_none [D] List.mem_cons_self] at q; cases q
 exact keep b o nb (k1 b o (PySem.W.of_hideAll _ q))
end L2
namespace L2
open PySem PySem.Spec PyProof.Rows Nm
theorem zb7 {α:Type} {M:Model} {A:Around} {E:Value→Shared→Prop} {Q:α→Shared→Prop} {s:Shared} {b1:Heap} {l:List Env} {e L:Addr} {cls a0:Value} {env:Env} {what:String} (hf:env.frame = some L) (hh:b1.HeldW l e cls a0 L s.heap)
  (hE:∀ h',b1.HeldW l e cls a0 L h'→(∀ b o,s.heap.get? b = some o→(∀ vs,o.data≠.fields vs)→h'.get? b = some o)→E (.ref e) { s with heap:=h' }):wpAny M A (PySem.passOn what (.ref e) env:Sem α) Q E s:=by
 obtain ⟨k1,k2,k3,oe,vs,T,oT,ts,he,hc,hd,h1,hnT,hTe,hT,hdT,h3⟩:=hh
 have hz:3 < ts.size:=(Array.getElem?_eq_some_iff.mp h3).1
 have oth:∀ b,b≠T→(s.heap.update T (Obj.mapFields fun q=>q.setIfInBounds 3 (rawInt L))).get? b = s.heap.get? b:=fun b hb=>Heap.get?_update_other _ _ (Ne.symm hb)
 have pl:∀ b o,s.heap.get? b = some o→(∀ vs,o.data≠.fields vs)→b≠T:=fun b o q n z=>by
  subst z
  rw [hT] at q
  cases q
  exact n ts hdT
 unfold PySem.passOn
 refine wpAny_bind (wpAny_field he hd h1 ?_)
 rw [if_neg (by simp)]
 refine wpAny_bind ?_
 unfold setFlight
 refine wpAny_bind (wpAny_field he hd h1 ?_)
 rw [hf,if_pos (by simp)]
 refine wpAny_setField hT hdT hz (wpAny_throw (hE _ ⟨fun b o q=>?_,k2,k3.of_keeps fun b o q n=>⟨o,(oth b (pl b o q n)).trans q,rfl⟩,oe,vs,T,_,_,(oth e (Ne.symm hTe)).trans he,hc,hd,h1,hnT,hTe,Heap.get?_update_self _ hT (Obj.isFreed_of_fields (Obj.data_mapFields hdT _)),Obj.data_mapFields hdT _,by simp [hz]⟩ fun b o q n=>(oth b (pl b o q n)).trans q))
 exact (oth b fun z=>by rw [z,hnT] at q; cases q).trans (k1 b o q)
end L2
namespace L2
open PySem PySem.Spec PyProof.Rows Nm
theorem YD {e:Value} {env env':Env} (h:env'.frame = env.frame):noteFrame e env' = noteFrame e env:=by
 unfold noteFrame PySem.frameOf
 rw [h]
theorem zbG {M:Model} {A:Around} {E:Value→Shared→Prop} {Q:Unit→Shared→Prop} {s:Shared} {b1:Heap} {env env':Env} {outer:List Env} {L e:Addr} {cls a0:Value} (he:env'.frame = env.frame) (hfr:A.frames = some (env :: outer)) (hf:env.frame = some L) (hfl:b1.FlyingW (env :: outer) e cls a0 s.heap)
  (hQ:∀ h',b1.HeldW (env :: outer) e cls a0 L h'→s.heap.UpToSlots h'→Q () { s with heap:=h' }):wpAny M A (noteFrame (.ref e) env') Q E s:=by
 rw [YD he]
 exact wpAny_looks_onW hfr hf hfl hQ
theorem zby {M:Model} {A:Around} {E:Value→Shared→Prop} {Q:Unit→Shared→Prop} {s:Shared} {b1:Heap} {env':Env} {l:List Env} {L e:Addr} {cls a0:Value} (hf:env'.frame = some L) (hh:b1.HeldW l e cls a0 L s.heap) (hQ:Q () s):wpAny M A (noteFrame (.ref e) env') Q E s :=
 wpAny_noteFrame_againW hf hh.2.2.2 hQ
end L2
namespace L2
open PySem PySem.Spec PyProof.Rows Nm
structure Dp (X:Cx) (L0:Addr):Prop where
 st:∃ env0 outer0,X.stack = env0 :: outer0∧env0.frame = some L0
 fr:X.env.frame = some L0
noncomputable def Still (Z:Cx) (H2:Hp) (b1 h:Heap):Prop:=∀ b o,h.get? b = some o→((Z.s₀.heap.get? b≠none∧b∉Z.ex)∨H2 b≠none)→b∉frs Z.stack→b1.get? b = some o
noncomputable def HeldX (L0:Addr) (Z:Cx) (E:XK) (e:Value) (s':Shared):Prop:=∃ (pins:List (Addr×Obj)) (σ:St) (H2:Hp) (a C:Addr) (b1:Heap) (t:Value),e = .ref a∧Inv Z pins σ H2 s'∧b1.HeldW Z.stack a (.ref C) t L0 s'.heap∧Still Z H2 b1 s'.heap∧(∀ o,Z.s₀.heap.get? a = some o→a∈Z.ex)∧H2 a = none∧E (.ref C) none H2
noncomputable def XH (L0:Addr) (Z:Cx) (E:XK) (e:Value) (s':Shared):Prop:=∃ (pins:List (Addr×Obj)) (σ:St) (H2:Hp) (a C:Addr) (b1:Heap) (t:Value),e = .ref a∧Inv Z pins σ H2 s'∧(b1.FlyingW Z.stack a (.ref C) t s'.heap∨b1.HeldW Z.stack a (.ref C) t L0 s'.heap)∧Still Z H2 b1 s'.heap∧(∀ o,Z.s₀.heap.get? a = some o→a∈Z.ex)∧H2 a = none∧E (.ref C) none H2
theorem HeldX.xh {L0:Addr} {Z:Cx} {E:XK} {e:Value} {s':Shared} (h:HeldX L0 Z E e s'):XH L0 Z E e s':=by
 obtain ⟨pins,σ,H2,a,C,b1,t,he,I,hh,r⟩:=h
 exact ⟨pins,σ,H2,a,C,b1,t,he,I,.inr hh,r⟩
theorem HeldX.unwish {L0:Addr} {Z:Cx} {F:Value→Shared→Prop} {E:XK} {e:Value} {s':Shared} (h:HeldX L0 (Z.wish F) E e s'):HeldX L0 Z E e s':=by
 obtain ⟨pins,σ,H2,a,C,b1,t,he,I,hh,r⟩:=h
 exact ⟨pins,σ,H2,a,C,b1,t,he,I.unwish,hh,r⟩
theorem zaL {Z:Cx} {L0:Addr} {E:XK}:Passes (CX1 Z.prog Z.w) (Z.wish (XH L0 Z E)) E:=by
 intro pins σ H1 s1 e s2 I h
 obtain ⟨a,C,H2,b1,rfl,ho,hg,F,hE⟩:=h
 have I1:=I.unwish
 have I2:Inv Z pins σ H2 s2:=Fly.inv (X:=Z) F I1 ho hg
 obtain ⟨t,fl⟩:=F.fl
 have th:∀ b,Z.s₀.heap.get? b≠none→b∉Z.ex→s1.heap.get? b≠none:=fun b hb nx=>by
  cases q:Z.s₀.heap.get? b with
  | none=>exact absurd q hb
  | some o =>
   obtain ⟨o',q'⟩:=I1.base.there b o q nx
   rw [q']; simp
 refine ⟨pins,σ,H2,a,C,b1,t,rfl,I2,.inl fl,fun b o q c n=>?_,fun o q=>?_,F.new.2,hE⟩
 ·exact F.kb b o q (c.imp (fun z=>th b z.1 z.2) id) n
 ·exact Classical.byContradiction fun nx=>absurd F.new.1 (th a (by rw [q]; simp) nx)
theorem zeK {X:Cx} {own fre:List Str} {scope:Scope} {pins:List (Addr×Obj)} {σ:St} {L0:Addr} {E:XK} {use:Option (Value→Sem Unit)} {Q:Value→Shared→Prop} (hd:Dp X L0) (out:∀ e s',HeldX L0 X E e s'→X.xe e s')
  (L D:Addr) (cells:List (Str×Addr)) (s₀:Shared) (H₀:Hp) (fp:List Addr) (I:Inv X pins σ H₀ s₀) (hfp:∀ b∈D :: fp,FpOk X pins H₀ b) (hL:s₀.heap.objs.size = L) (e:Value) (s':Shared) (h:XH L0 (blk X own fre scope L cells s₀ H₀ (D :: fp) (X.pn ++ pins)) E e s') :
  notedBy (model X.prog X.w) X.A (compEnvC scope cells L X.env) (fun x s''=>cpF X.env.frame (model X.prog X.w) X.A X.xe use Q (.ref D) L (.error x) s'') e s':=by
 obtain ⟨pl,σb,H2,a,C,b1,t,rfl,I',fh,kb,n1,n2,hE⟩:=h
 obtain ⟨env0,outer0,hst,hf0⟩:=hd.st
 have u:Un (frs X.stack) (D :: fp) H₀ H2 s₀.heap s'.heap:=I'.base
 have nL0:s₀.heap.get? L = none:=by
  cases q:s₀.heap.get? L with
  | none=>rfl
  | some o=>exact absurd (Heap.lt_size q) (by rw [hL]; exact Nat.lt_irrefl _)
 have nLb:∀ b o,s₀.heap.get? b = some o→b≠L:=fun b o q z=>by rw [z,nL0] at q; cases q
 have H2L:H2 L = none:=I'.free
 have nLH:∀ b,H2 b≠none→b≠L:=fun b hb z=>hb (by rw [z]; exact H2L)
 have stk:∀ b∈frs X.stack,H2 b = none:=fun b hb=>I'.stkFree b hb
 have exX:∀ b∈D :: fp,b∈X.ex∨X.s₀.heap.objs.size≤b:=fun b hb=>(hfp b hb).2.2.2.1
 have key:∀ h1:Heap,b1.HeldW X.stack a (.ref C) t L0 h1→s'.heap.UpToSlots h1→cpF X.env.frame (model X.prog X.w) X.A X.xe use Q (.ref D) L (.error (.ref a)) { s' with heap:=h1 }:=fun h1 hh up=>by
  obtain ⟨m,⟨oL,es,ep,hoL,rL⟩,_⟩:=id I'.loc
  have hoL':s'.heap.get? L = some oL:=hoL
  have ndL:∀ vs,oL.data≠Data.fields vs:=fun vs z=>by
   obtain ⟨r1,_⟩:=rL
   first
    | (rw [z] at r1; cases r1)
    | (simp [z] at r1)
  obtain ⟨sl,hoL1⟩:=up L oL hoL' ndL
  refine ⟨m,⟨_,es,ep,hoL1,rL⟩,fun h2 sb cenv hl hfr=>?_⟩
  have keep12:∀ b o,b≠L→h1.get? b = some o→h2.get? b = some o:=fun b o nb q=>(sb.2 b nb).trans q
  have nfL:L∉frs X.stack:=fun hb=>by
   have:=I.stkSub L hb
   rcases List.mem_cons.mp this with z | z
   ·have lt:=I.lt
    rw [← z,hL] at lt
    exact Nat.lt_irrefl _ lt
   ·obtain ⟨_,o,ho,_⟩:=I.ok.funs.mem z
    have lt:=Nat.lt_of_lt_of_le (Heap.lt_size ho) I.sz
    rw [hL] at lt
    exact Nat.lt_irrefl _ lt
  have hh2:=zdR hh keep12 nfL ⟨_,hoL1,ndL⟩
  refine zb7 (hfr.trans hd.fr) hh2 fun h3 hh3 kp3=>out _ _ ?_
  have st3:∀ b o,b1.get? b = some o→b≠L→h3.get? b = some o:=fun b o q nb=>hh3.1 b o (PySem.W.hideAll_get _ q (by simpa using nb))
  have kp:∀ b o,s'.heap.get? b = some o→((s₀.heap.get? b≠none∧b∉D :: fp)∨H2 b≠none)→b∉frs X.stack→h3.get? b = some o:=fun b o q c n=>by
   refine st3 b o (kb b o q c n) ?_
   rcases c with c | c
   ·cases q':s₀.heap.get? b with
    | none=>exact absurd q' c.1
    | some o'=>exact nLb b o' q'
   ·exact nLH b c
  have slot:∀ b o,s₀.heap.get? b = some o→H₀ b = none→b∈frs X.stack→b∉D :: fp→∃ sl,h3.get? b = some { o with slots:=sl }:=fun b o q n hb hx=>by
   obtain ⟨sl1,q1⟩:=u.slot b o q n hb hx
   obtain ⟨o',e1,_,e3⟩:=yb I'.stack hb
   rw [q1] at e1; cases e1
   obtain ⟨sl2,q2⟩:=up b _ q1 e3
   have q3:=keep12 b _ (nLb b o q) q2
   exact ⟨sl2,kp3 b _ q3 e3⟩
  have thr:∀ b o,s₀.heap.get? b = some o→b∉D :: fp→∃ o',h3.get? b = some o':=fun b o q hx=>by
   by_cases hb:b∈frs X.stack
   ·cases q0:H₀ b with
    | none =>
     obtain ⟨sl,q'⟩:=slot b o q q0 hb hx
     exact ⟨_,q'⟩
    | some v =>
     have:=I.stkFree b hb
     rw [q0] at this; cases this
   ·obtain ⟨o',q'⟩:=u.there b o q hx
    exact ⟨o',kp b o' q' (.inl ⟨by rw [q]; simp,hx⟩) hb⟩
  have I3:Inv X [] σ H2 { s' with heap:=h3 }:=by
   have Iw:Inv X [] σ H₀ s₀:=I.pins_of fun p hp=>nomatch hp
   refine Iw.call' (ch:=D :: fp) (s':={ s' with heap:=h3 }) I'.os ⟨fun b o q n hb hx=>?_,slot,u.free,fun b o q hx=>thr b o q hx,u.tups,u.frzs,u.tbls⟩ (fun b o q=>?_) I'.bare fun b hb=>?_
   ·exact kp b o (u.keep b o q n hb hx) (.inl ⟨by rw [q]; simp,hx⟩) hb
   ·refine (I'.hok b o q).stay (fun c u' hc q1=>?_) (fun _ z=>z) fun _ _ z=>z
    have nn:H2 c≠none:=by
     rcases hc with rfl | hc
     ·rw [q]; simp
     ·rw [hc]; simp
    exact kp c u' q1 (.inr nn) fun z=>nn (stk c z)
   ·obtain ⟨f0,f1,f2,f3,f4,f5⟩:=hfp b hb
    exact ⟨f3,f1,f4,fun p hp=>f5 p (by
     rw [List.append_nil] at hp
     exact List.mem_append_left _ hp)⟩
  have old:∀ b o,X.s₀.heap.get? b = some o→b∉X.ex→(∃ o',s₀.heap.get? b = some o')∧b∉D :: fp:=fun b o q nx=>by
   refine ⟨I.base.there b o q nx,fun hb=>?_⟩
   rcases exX b hb with z | z
   ·exact nx z
   ·exact absurd (Heap.lt_size q) (Nat.not_lt.mpr z)
  refine ⟨[],σ,H2,a,C,PySem.W.hideAll b1 [L],t,rfl,I3,hh3,fun b o q c n=>?_,fun o q=>?_,n2,hE⟩
  ·have nb:b≠L:=by
    rcases c with c | c
    ·cases q':X.s₀.heap.get? b with
     | none=>exact absurd q' c.1
     | some o' =>
      obtain ⟨⟨o2,q2⟩,_⟩:=old b o' q' c.2
      exact nLb b o2 q2
    ·exact nLH b c
   have c':(s₀.heap.get? b≠none∧b∉D :: fp)∨H2 b≠none:=c.imp (fun z=>by
    cases q':X.s₀.heap.get? b with
    | none=>exact absurd q' z.1
    | some o' =>
     obtain ⟨⟨o2,q2⟩,nx⟩:=old b o' q' z.2
     exact ⟨by rw [q2]; simp,nx⟩) id
   obtain ⟨o1,q1⟩ : ∃ o1,s'.heap.get? b = some o1:=by
    rcases c' with z | z
    ·cases q':s₀.heap.get? b with
     | none=>exact absurd q' z.1
     | some o'=>exact u.there b o' q' z.2
    ·cases q':H2 b with
     | none=>exact absurd q' z
     | some o'=>exact (I'.hok b o' q').there
   have k1:=kb b o1 q1 c' n
   have e12:o1 = o:=Option.some.inj ((st3 b o1 k1 nb).symm.trans q)
   rw [← e12]
   exact PySem.W.hideAll_get _ k1 (by simpa using nb)
  ·refine Classical.byContradiction fun nx=>?_
   obtain ⟨⟨o2,q2⟩,nx2⟩:=old a o q nx
   exact nx2 (n1 o2 q2)
 have hfr0:(compEnvC scope cells L X.env).frame = some L0:=hd.fr
 show wpAny _ _ (noteFrame (.ref a) (compEnvC scope cells L X.env)) _ _ s'
 rcases fh with fl | hh
 ·refine zbG (env:=env0) (outer:=outer0) (L:=L0) (hfr0.trans hf0.symm) (by rw [← hst]; exact I.ok.frames) hf0 (by rw [← hst]; exact fl) fun h1 hh1 up=>key h1 (by rw [hst]; exact hh1) up
 ·exact zby hfr0 hh (key s'.heap hh fun b o q _=>⟨o.slots,q⟩)
end L2
namespace L2
open PySem PySem.Spec PyProof.Rows
section
variable {X:Cx} {scope:Scope}
theorem zE {x:Str} {k j:Nat} {ps:List Str} {sp:Sp} {p pos:Pos} {e:Expr} {es:List Expr} {t:TA} (D:Kn X.prog X.w X.K X.mg X.base x k ps sp) (hr:Room j X.A) (ha:PA X (e :: es) t) (hj:k≤j:=by decide) (hg:Gl X x:=by rfl)
  (hdb:(x == ("__debug__" : Str)) = false:=by decide) (he:starEach (e :: es) X.env = (false,eval e X.env) :: starEach es X.env:=by rfl) (hpl:(backTo pos (starEach es X.env)).any (·.1) = false:=by rfl) :
  PE X (.Call (.Name x p) (e :: es) [] pos) (tCall sp [] E0 t):=zhX D (hr.mono hj) hg ha hdb he hpl
theorem ZT {y:Str} {elt iter:Expr} {ifs:List Expr} {pos posn:Pos} {wi:TI} {tt:TT} {te:TE} (fre:List Str) (idx:List Nat) (hi:PI X (.Name y posn) iter wi)
  (hb:∀ (L:Addr) (cells:List (Str×Addr)) (s₀:Shared) (H₀:Hp) (ex:List Addr) (pn:List (Addr×Obj)),PTs (blk X [y] fre scope L cells s₀ H₀ ex pn) ifs tt∧PE (blk X [y] fre scope L cells s₀ H₀ ex pn) elt te)
  (B:BlkOk X [y] fre idx scope:=by exact ⟨rfl,rfl,rfl,rfl,rfl,rfl,by decide +kernel⟩) (hc:X.calm = true:=by rfl)
  (hg:∀ (L:Addr) (cells:List (Str×Addr)) (s₀:Shared) (H₀:Hp) (ex:List Addr) (pn:List (Addr×Obj)),PG (blk X [y] fre scope L cells s₀ H₀ ex pn) (.Name y posn) (gName 0):=by exact fun _ _ _ _ _ _=>yd (i:=0) (by dsimp only [blk]; decide) rfl (by first | exact Or.inl rfl | exact Or.inr rfl))
  (hs:∀ x,foldedSetIterable iter X.env x = pure x:=by intro _; rfl):PE X (.ListComp elt [⟨.Name y posn,iter,ifs,0⟩] scope pos) (tComp [y].length idx wi (gName 0) tt te) :=
 Qh [y] fre idx B hc hi (yP (Nat.zero_lt_one)) (fun a b c d e f=>⟨hg a b c d e f,hb a b c d e f⟩) hs
theorem zhw {y:Str} {elt iter:Expr} {ifs:List Expr} {pos pos' spos posn:Pos} {wi:TI} {tt:TT} {te:TE} (i:Nat) {x:Str} (hN:X.N.Nodup) (fre:List Str) (idx:List Nat) (hi:PI X (.Name y posn) iter wi)
  (hb:∀ (L:Addr) (cells:List (Str×Addr)) (s₀:Shared) (H₀:Hp) (ex:List Addr) (pn:List (Addr×Obj)),PTs (blk X [y] fre scope L cells s₀ H₀ ex pn) ifs tt∧PE (blk X [y] fre scope L cells s₀ H₀ ex pn) elt te)
  (hi':X.N[i]? = some x:=by rfl) (hx:X.env.scope.names.lookup x = some .local:=by rfl)
  (B:BlkOk X [y] fre idx scope:=by exact ⟨rfl,rfl,rfl,rfl,rfl,rfl,by decide +kernel⟩) (hc:X.calm = true:=by rfl)
  (hg:∀ (L:Addr) (cells:List (Str×Addr)) (s₀:Shared) (H₀:Hp) (ex:List Addr) (pn:List (Addr×Obj)),PG (blk X [y] fre scope L cells s₀ H₀ ex pn) (.Name y posn) (gName 0):=by exact fun _ _ _ _ _ _=>yd (i:=0) (by dsimp only [blk]; decide) rfl (by first | exact Or.inl rfl | exact Or.inr rfl))
  (hsw:swapsWith (.ListComp elt [⟨.Name y posn,iter,ifs,0⟩] scope pos) (some (.Name x pos')) spos.line X.env = pure true:=by rfl)
  (hs:∀ x,foldedSetIterable iter X.env x = pure x:=by intro _; rfl):PS X (.Assign [.Name x pos'] (.ListComp elt [⟨.Name y posn,iter,ifs,0⟩] scope pos) spos) (tAsgC [y].length idx wi (gName 0) tt te i) :=
 zf0 hN hi' hx [y] fre idx B hc hi (yP (Nat.zero_lt_one)) (fun a b c d e f=>⟨hg a b c d e f,hb a b c d e f⟩) hsw hs
theorem zu {a b:Expr} {pos:Pos} {ta tb:TE} {r:R2} (hr:IxR X r) (ha:PE X a ta) (hb:PE X b tb) (hs:PlainIx b:=by exact fun _ _=>rfl):PE X (.Subscript a b pos) (tOp r ta tb):=zdW hr ha hb hs
end
end L2
namespace L2
open PySem PySem.Spec PyProof.Rows Nm
section
variable {X:Cx} {scope:Scope}
structure Lets (X:Cx) (L0:Addr) (E:XK):Prop where
 dp:Dp X L0
 out:∀ e s',HeldX L0 X E e s'→X.xe e s'
noncomputable abbrev bw (X:Cx) (own fre:List Str) (scope:Scope) (L0:Addr) (E:XK) (L:Addr) (cells:List (Str×Addr)) (s₀:Shared) (H₀:Hp) (ex:List Addr) (pn:List (Addr×Obj)):Cx:=(blk X own fre scope L cells s₀ H₀ ex pn).wish (XH L0 (blk X own fre scope L cells s₀ H₀ ex pn) E)
theorem Lets.blk {L0:Addr} {E:XK} (h:Lets X L0 E) {own fre:List Str} {L:Addr} {cells:List (Str×Addr)} {s₀:Shared} {H₀:Hp} {ex:List Addr} {pn:List (Addr×Obj)}:Lets (bw X own fre scope L0 E L cells s₀ H₀ ex pn) L0 E :=
 ⟨⟨h.dp.st,h.dp.fr⟩,fun _ _ q=>q.unwish.xh⟩
theorem Xy {L0:Addr} {E:XK} {own fre:List Str} {L:Addr} {cells:List (Str×Addr)} {s₀:Shared} {H₀:Hp} {ex:List Addr} {pn:List (Addr×Obj)}:Passes (CX1 X.prog X.w) (bw X own fre scope L0 E L cells s₀ H₀ ex pn) E:=zaL (Z:=L2.blk X own fre scope L cells s₀ H₀ ex pn)
theorem zes {elt tg iter:Expr} {ifs:List Expr} {pos:Pos} {wi:TI} {g:TG} {tt:TT} {te:TE} {L0:Addr} {E:XK} (lt:Lets X L0 E) (own fre:List Str) (idx:List Nat) (B:BlkOk X own fre idx scope) (hc:X.calm = true) (hi:PI X tg iter wi) (hg:GOwn own.length g)
  (hb:∀ (L:Addr) (cells:List (Str×Addr)) (s₀:Shared) (H₀:Hp) (ex:List Addr) (pn:List (Addr×Obj)),PG (bw X own fre scope L0 E L cells s₀ H₀ ex pn) tg g∧PTs (bw X own fre scope L0 E L cells s₀ H₀ ex pn) ifs tt∧PE (bw X own fre scope L0 E L cells s₀ H₀ ex pn) elt te)
  (hs:∀ x,foldedSetIterable iter X.env x = pure x:=by intro _; rfl):PE X (.ListComp elt [⟨tg,iter,ifs,0⟩] scope pos) (tComp own.length idx wi g tt te):=by
 intro pins s σ H Q I h
 rw [eval_ListComp]
 refine Jw (use:=none) (fun L cells s₀ H₀ ex pn=>XH L0 (L2.blk X own fre scope L cells s₀ H₀ ex pn) E) B hc hi hg hb (fun L D cells s₀ H₀ fp I hfp hL e s' h=>zeK lt.dp lt.out L D cells s₀ H₀ fp I hfp hL e s' h) hs I h fun ys H' s' L D m hR hD I' hn nL fL=>?_
 refine ⟨m,hn,fun h' hs'=>?_⟩
 obtain ⟨f0,f1,f2,f3,f4,f5⟩:=fL
 exact ⟨.ref D,_,I'.turned (t':=s'.toks) (it:=L) (fun b o hb e=>hs'.extBut b o hb e) f0 f1 f3 f4 f5,rfl,hR D hD⟩
theorem zdy {elt tg iter:Expr} {ifs:List Expr} {pos pos' spos:Pos} {wi:TI} {g:TG} {tt:TT} {te:TE} {i:Nat} {x:Str} {L0:Addr} {E:XK} (lt:Lets X L0 E) (hN:X.N.Nodup) (hi':X.N[i]? = some x) (hx:X.env.scope.names.lookup x = some .local) (own fre:List Str) (idx:List Nat) (B:BlkOk X own fre idx scope) (hc:X.calm = true) (hi:PI X tg iter wi) (hg:GOwn own.length g)
  (hb:∀ (L:Addr) (cells:List (Str×Addr)) (s₀:Shared) (H₀:Hp) (ex:List Addr) (pn:List (Addr×Obj)),PG (bw X own fre scope L0 E L cells s₀ H₀ ex pn) tg g∧PTs (bw X own fre scope L0 E L cells s₀ H₀ ex pn) ifs tt∧PE (bw X own fre scope L0 E L cells s₀ H₀ ex pn) elt te)
  (hsw:swapsWith (.ListComp elt [⟨tg,iter,ifs,0⟩] scope pos) (some (.Name x pos')) spos.line X.env = pure true:=by rfl)
  (hs:∀ x,foldedSetIterable iter X.env x = pure x:=by intro _; rfl):PS X (.Assign [.Name x pos'] (.ListComp elt [⟨tg,iter,ifs,0⟩] scope pos) spos) (tAsgC own.length idx wi g tt te i):=by
 intro pins s σ H D I h
 rw [exec_Assign_Name_used _ _ _ _ hsw]
 refine wpAny_bind (wpAny_standAt (wpAny_bind ?_))
 show wpAny _ X.A (do let _ ← comprehension (.ListComp elt [⟨tg,iter,ifs,0⟩] scope pos) scope X.env _ (newList []) false (eval iter X.env) (some (assign (.Name x pos') X.env))) _ _ s
 refine wpAny_bind (wpAny_mono (Jw (use:=some (assign (.Name x pos') X.env)) (Q:=fun _ s'=>SP X pins D .next s') (fun L cells s₀ H₀ ex pn=>XH L0 (L2.blk X own fre scope L cells s₀ H₀ ex pn) E) B hc hi hg hb (fun L D cells s₀ H₀ fp I hfp hL e s' h=>zeK lt.dp lt.out L D cells s₀ H₀ fp I hfp hL e s' h) hs I h fun ys H' s' L Da m hR hD I' hn nL fL=>?_) (fun _ s' hq=>wpAny_pure (wpAny_pure hq)) fun _ _ e=>e)
 obtain ⟨f0,f1,f2,f3,f4,f5⟩:=fL
 show wpAny _ X.A (assign (.Name x pos') X.env (.ref Da)) _ _ _
 refine wpAny_assign_Name (ZL I' hN hi' (.inl hx) (show RelV (.ref Da) (.ref Da) from rfl) (fun s2 I2 ⟨a,sb,ha⟩=>?_) (.inr hx))
 have hLa:L≠a:=by
  rcases ha with rfl | ha
  ·exact f1
  ·exact Ne.symm (f4 x a ha)
 refine ⟨m,hn.sameBut sb hLa,fun h' hs'=>?_⟩
 exact ⟨_,_,I2.turned (t':=s2.toks) (it:=L) (fun b o hb e=>hs'.extBut b o hb e) f0 f1 f3 f4 f5,hR Da hD⟩
theorem zgH {y:Str} {elt iter:Expr} {ifs:List Expr} {pos posn:Pos} {wi:TI} {tt:TT} {te:TE} {L0:Addr} {E:XK} (lt:Lets X L0 E) (fre:List Str) (idx:List Nat) (hi:PI X (.Name y posn) iter wi)
  (hb:∀ (L:Addr) (cells:List (Str×Addr)) (s₀:Shared) (H₀:Hp) (ex:List Addr) (pn:List (Addr×Obj)),PTs (bw X [y] fre scope L0 E L cells s₀ H₀ ex pn) ifs tt∧PE (bw X [y] fre scope L0 E L cells s₀ H₀ ex pn) elt te)
  (B:BlkOk X [y] fre idx scope:=by exact ⟨rfl,rfl,rfl,rfl,rfl,rfl,by decide +kernel⟩) (hc:X.calm = true:=by rfl)
  (hg:∀ (L:Addr) (cells:List (Str×Addr)) (s₀:Shared) (H₀:Hp) (ex:List Addr) (pn:List (Addr×Obj)),PG (bw X [y] fre scope L0 E L cells s₀ H₀ ex pn) (.Name y posn) (gName 0):=by exact fun _ _ _ _ _ _=>yd (i:=0) (by dsimp only [bw,L2.blk,Cx.wish]; decide) rfl (by first | exact Or.inl rfl | exact Or.inr rfl))
  (hs:∀ x,foldedSetIterable iter X.env x = pure x:=by intro _; rfl):PE X (.ListComp elt [⟨.Name y posn,iter,ifs,0⟩] scope pos) (tComp [y].length idx wi (gName 0) tt te) :=
 zes lt [y] fre idx B hc hi (yP (Nat.zero_lt_one)) (fun a b c d e f=>⟨hg a b c d e f,hb a b c d e f⟩) hs
theorem zhZ {y:Str} {elt iter:Expr} {ifs:List Expr} {pos pos' spos posn:Pos} {wi:TI} {tt:TT} {te:TE} {L0:Addr} {E:XK} (lt:Lets X L0 E) (i:Nat) {x:Str} (hN:X.N.Nodup) (fre:List Str) (idx:List Nat) (hi:PI X (.Name y posn) iter wi)
  (hb:∀ (L:Addr) (cells:List (Str×Addr)) (s₀:Shared) (H₀:Hp) (ex:List Addr) (pn:List (Addr×Obj)),PTs (bw X [y] fre scope L0 E L cells s₀ H₀ ex pn) ifs tt∧PE (bw X [y] fre scope L0 E L cells s₀ H₀ ex pn) elt te)
  (hi':X.N[i]? = some x:=by rfl) (hx:X.env.scope.names.lookup x = some .local:=by rfl)
  (B:BlkOk X [y] fre idx scope:=by exact ⟨rfl,rfl,rfl,rfl,rfl,rfl,by decide +kernel⟩) (hc:X.calm = true:=by rfl)
  (hg:∀ (L:Addr) (cells:List (Str×Addr)) (s₀:Shared) (H₀:Hp) (ex:List Addr) (pn:List (Addr×Obj)),PG (bw X [y] fre scope L0 E L cells s₀ H₀ ex pn) (.Name y posn) (gName 0):=by exact fun _ _ _ _ _ _=>yd (i:=0) (by dsimp only [bw,L2.blk,Cx.wish]; decide) rfl (by first | exact Or.inl rfl | exact Or.inr rfl))
  (hsw:swapsWith (.ListComp elt [⟨.Name y posn,iter,ifs,0⟩] scope pos) (some (.Name x pos')) spos.line X.env = pure true:=by rfl)
  (hs:∀ x,foldedSetIterable iter X.env x = pure x:=by intro _; rfl):PS X (.Assign [.Name x pos'] (.ListComp elt [⟨.Name y posn,iter,ifs,0⟩] scope pos) spos) (tAsgC [y].length idx wi (gName 0) tt te i) :=
 zdy lt hN hi' hx [y] fre idx B hc hi (yP (Nat.zero_lt_one)) (fun a b c d e f=>⟨hg a b c d e f,hb a b c d e f⟩) hsw hs
end
section
variable {P:Program} {w:World} {K:PySem.W.Frag} {mg:Str→Option Value} {base:Heap}
theorem lets_of {N:List Str} {qual:Str} {scope:Scope} {f:Addr} {cd:Value} {A:Around} {outer:List Env} {s:Shared} {H:Hp} {E:XK}:Lets (cxOf (CX1 P w) P w K mg base N qual scope f cd A outer s H E) s.heap.objs.size E:=by
 refine ⟨⟨⟨_,_,rfl,rfl⟩,rfl⟩,fun e s' h=>?_⟩
 obtain ⟨pins,σ,H2,a,C,b1,t,rfl,I,hh,kb,n1,n2,hE⟩:=h
 refine zaH I hh (fun b o q c n=>kb b o q (c.imp (fun z=>⟨z,by show b∉([]:List Addr); simp⟩) id) n) ?_ n2 hE
 cases q:s.heap.get? a with
 | none=>rfl
 | some o=>exact absurd (show a∈([]:List Addr) from n1 o q) (by simp)
end
end L2
namespace L2
open PySem PySem.Spec PyProof.Rows Nm
end L2
namespace Tx
open PySem PySem.NumText L2 Builtin Builtin.Str PyProof.Rows Nm
noncomputable abbrev cl (x:Str):List Nat:=x.cps.toList
theorem zC (a b:Str):cl (a ++ b) = cl a ++ cl b:=by
 show (a.cps ++ b.cps).toList = _
 simp
theorem xD {a b:Str} (h:cl a = cl b):a = b:=PyProof.Rows.str_of_list h
theorem zF (x:Str):(cl x).length = x.length:=xR x
theorem zbD {n k:Nat} (hk:1≤k) (h:n < 10 ^ k):(dec n).length≤k:=by
 unfold dec
 rw [List.length_map]
 exact toDigits_len_pow (by decide) hk h
theorem Zn {i:Int} {k:Nat} (hk:1≤k) (h:i.natAbs < 10 ^ k):(shI i).length≤k + 1:=by
 have:=zbD hk h
 unfold shI
 split
 ·show (dec i.natAbs).length + 1≤_; omega
 ·omega
noncomputable def shN:Nb→List Nat
 | .q r=>shQ r
 | .z i=>shI i
noncomputable def SmN (x:Nb):Prop:=match x with
 | .q r=>r.num.natAbs < 10 ^ 21∧r.den < 10 ^ 21
 | .z i=>i.natAbs < 10 ^ 21
theorem zcU {x:Nb} (h:SmN x):(shN x).length≤45:=by
 cases x with
 | z i=>exact Nat.le_trans (Zn (k:=21) (by decide) h) (by decide)
 | q r =>
  have h1:=Zn (k:=21) (by decide) h.1
  have h2:=zbD (k:=21) (by decide) h.2
  show (shI r.num ++ if r.den = 1 then [] else 47 :: dec r.den).length≤45
  rw [List.length_append]
  split
  ·show _ + 0≤45; omega
  ·show _ + ((dec r.den).length + 1)≤45; omega
noncomputable def joinN (sep:List Nat):List (List Nat)→List Nat
 | []=>[]
 | [a]=>a
 | a :: b :: r=>a ++ sep ++ joinN sep (b :: r)
theorem Xj (sep:Str):∀ xs:List Str,cl (sep.join xs) = joinN (cl sep) (xs.map cl)
 | []=>rfl
 | [a]=>rfl
 | a :: b :: r=>by
  rw [join_cons_cons,zC,zC,Xj sep (b :: r)]; rfl
theorem Qp (sep:Str) (xs:List Str):cl (Txt.join sep xs) = joinN (cl sep) (xs.map cl):=by
 show cl (glued sep xs) = _
 rw [StrLaws.glued_eq_join]; exact Xj sep xs
theorem JF {sep:List Nat} {m:Nat}:∀ {l:List (List Nat)},(∀ a∈l,a.length≤m)→(joinN sep l).length≤l.length * (m + sep.length)
 | [],_=>Nat.zero_le _
 | [a],h=>by
  have:=h a List.mem_cons_self
  show a.length≤1 * (m + sep.length); omega
 | a :: b :: r,h=>by
  have h1:=h a List.mem_cons_self
  have h2:=JF (sep:=sep) (m:=m) (l:=b :: r) fun x hx=>h x (List.mem_cons_of_mem _ hx)
  show (a ++ sep ++ joinN sep (b :: r)).length≤((b :: r).length + 1) * (m + sep.length)
  rw [List.length_append,List.length_append,Nat.add_mul,Nat.one_mul]; omega
theorem Xk {sep:Str} {xs:List Str} (h1:xs.length≤500) (h2:∀ x∈xs,x.length≤33000) (h3:sep.length≤500):JoinOk sep xs = true:=by
 have e:=joinOk_few (sep:=sep) (as:=xs) (pz:=fun _=>true) (f:=fun s=>if s.length≤33000 then s else Str.empty) h1 (fun a=>by
  split
  ·assumption
  ·exact Nat.zero_le _) h3
 have e2:List.map (fun s:Str=>if s.length≤33000 then s else Str.empty) (List.filter (fun _=>true) xs) = xs:=by
  rw [List.filter_eq_self.mpr (fun _ _=>rfl)]
  conv=>rhs; rw [← List.map_id xs]
  exact List.map_congr_left fun s hs=>if_pos (h2 s hs)
 rw [e2] at e
 exact e
noncomputable def shRow (r:List Nb):List Nat:=joinN [32] (r.map shN)
noncomputable def shT (M:List (List Nb)):List Nat:=joinN [59,32] (M.map shRow)
theorem zbZ {r:List Nb} (h:∀ x∈r,SmN x) (hl:r.length≤13):(shRow r).length≤598:=by
 have:=JF (sep:=[32]) (m:=45) (l:=r.map shN) fun a ha=>by
  obtain ⟨x,hx,rfl⟩:=List.mem_map.mp ha
  exact zcU (h x hx)
 rw [List.length_map] at this
 exact Nat.le_trans this (Nat.le_trans (Nat.mul_le_mul_right _ hl) (by decide))
theorem qI {x y p:Str} (h:p∈Txt.split x y):p.length≤x.length:=by
 have e:=StrLaws.join_split x y
 have s:=len_join_ge_sum y (Txt.split x y)
 have e2:Txt.join y (Txt.split x y) = x:=by
  show glued y _ = x
  rw [StrLaws.glued_eq_join]; exact e
 rw [e2] at s
 have:∀ l:List Str,p∈l→p.length≤(l.map fun x=>x.length).sum:=by
  intro l
  induction l with
  | nil=>intro h; cases h
  | cons a l ih =>
   intro h
   rw [List.map_cons,List.sum_cons]
   rcases List.mem_cons.mp h with rfl | h
   ·omega
   ·have:=ih h; omega
 exact Nat.le_trans (this _ h) s
theorem qZ {x y:Str} (hx:x.length≤100000):(partsBetween x (occurrences x y 0 x.length (x.length + 1)) y.length).length≤sizeLine∧(Txt.split x y).length≤sizeLine:=by
 have szl:sizeLine = 16777216:=by decide
 have h1:=StrLaws.occ_length_le x y 0 x.length (x.length + 1)
 have h2:=len_partsBetween x (occurrences x y 0 x.length (x.length + 1)) y.length
 have h3:=(fact_split x y).2
 omega
noncomputable def rdN (k:Int) (w:List Nat):Option Nb:=if k = 0 then (rdQ w).map Nb.q else (rdR k.toNat w).map fun n=>Nb.z (n:Int)
noncomputable def okT (W:List (List (Option Nb))):Option (List (List Nb)) :=
 if (∀ r∈W,(∀ x∈r,x≠none)∧r.length = (W.headD []).length)∧(W.headD []).length≤12∧W.length≤12 then some (W.map fun r=>r.map fun x=>x.getD (.z 0)) else none
noncomputable def wordsT (x:Str):List (List Str):=(Txt.split x (Str.ofString "; ")).map fun p=>Txt.split p (Str.ofString " ")
end Tx
namespace L2
open PySem PySem.Spec PyProof.Rows Nm Tx
theorem zeU {n:Nat} (h:n < 10 ^ 64):n.log2 < 1920:=by
 by_cases z:n = 0
 ·rw [z]; decide
 ·exact (Nat.log2_lt z).mpr (Nat.lt_of_lt_of_le h (Nat.le_trans (show 10 ^ 64≤2 ^ 250 by decide) (Nat.pow_le_pow_right (by decide) (by decide))))
theorem zb1 {n:Nat} (h:n < 10 ^ 21):n < 10 ^ 64:=Nat.lt_trans h (by decide)
theorem zc5 (i:Int) (h:i.natAbs < 10 ^ 21):(Str.ofString (toString i)).length≤22:=by
 rw [← zF,show cl (Str.ofString (toString i)) = shI i from zbj i]
 exact Zn (k:=21) (by decide) h
section
variable {X:Cx}
theorem Za:MtR X "str.join" (fun x vs H Q=>∃ a l ys,x = .str a∧vs = [.ref l]∧H l = some (.lst (ys.map V.str))∧JoinOk a ys = true∧Q (.str (Txt.join a ys)) H):=by
 intro pins s σ H x vs v us Q I rx rv h
 obtain ⟨a,l,ys,h1,h2,h3,h4,h5⟩:=h
 exact zfK pins s σ H x vs v us Q I rx rv ⟨a,l,ys,h1,h2,SqL.of h3,h4,h5⟩
end
end L2
namespace Tx
open PySem PySem.NumText L2 Builtin Builtin.Str PyProof.Rows Nm
noncomputable def rdT (k:Int) (x:Str):Option (List (List Nb)):=okT ((wordsT x).map fun r=>r.map fun w=>rdN k (cl w))
theorem zdw {W:List (List (Option Nb))} {r:List (Option Nb)} (hr:r∈W) (hx:none∈r):okT W = none:=if_neg fun z=>((z.1 r hr).1 none hx) rfl
theorem zfV (M:List (List Nb)):okT (M.map fun r=>r.map some) = if (∀ r∈M,r.length = (M.headD []).length)∧(M.headD []).length≤12∧M.length≤12 then some M else none:=by
 have hh:((M.map fun r=>r.map some).headD ([]:List (Option Nb))).length = (M.headD []).length:=by
  cases M with
  | nil=>rfl
  | cons a r=>show (a.map some).length = a.length; rw [List.length_map]
 have em:((M.map fun r=>r.map some).map fun r=>r.map fun x:Option Nb=>x.getD (.z 0)) = M:=by
  rw [List.map_map]
  conv=>rhs; rw [← List.map_id M]
  refine List.map_congr_left fun r _=>?_
  show (r.map some).map _ = r
  rw [List.map_map]
  conv=>rhs; rw [← List.map_id r]
  exact List.map_congr_left fun x _=>rfl
 unfold okT
 rw [hh,em,List.length_map]
 congr 1
 rw [eq_iff_iff]
 constructor
 ·rintro ⟨h1,h2⟩
  refine ⟨fun r hr=>?_,h2⟩
  have:=(h1 _ (List.mem_map.mpr ⟨r,hr,rfl⟩)).2
  rwa [List.length_map] at this
 ·rintro ⟨h1,h2⟩
  refine ⟨fun r hr=>?_,h2⟩
  obtain ⟨r',hr',rfl⟩:=List.mem_map.mp hr
  refine ⟨fun x hx=>?_,by rw [List.length_map]; exact h1 r' hr'⟩
  obtain ⟨y,_,rfl⟩:=List.mem_map.mp hx
  exact fun z=>nomatch z
theorem Jv (x:Str):1≤(wordsT x).length:=by
 unfold wordsT
 rw [List.length_map]; exact (fact_split x _).1
end Tx
namespace L2
open PySem PySem.Spec PyProof.Rows
section
variable {κ:Type} [DecidableEq κ]
noncomputable def valV (kvs:List (κ×V)) (k:κ):Option V:=(kvs.find? fun kv=>decide (kv.1 = k)).map (·.2)
noncomputable def putK (kvs:List (κ×V)) (k:κ) (v:V):List (κ×V) :=
 if (kvs.any fun kv=>decide (kv.1 = k)) = true then kvs.map (fun kv=>if kv.1 = k then (kv.1,v) else kv) else kvs ++ [(k,v)]
theorem zex {k:κ}:valV ([]:List (κ×V)) k = none:=rfl
theorem yu {p:κ×V} {r:List (κ×V)} {k:κ} (e:p.1 = k):valV (p :: r) k = some p.2:=by simp [valV,List.find?_cons,e]
theorem yt {p:κ×V} {r:List (κ×V)} {k:κ} (e:¬ p.1 = k):valV (p :: r) k = valV r k:=by simp [valV,List.find?_cons,e]
theorem Zb (k:κ):∀ kvs:List (κ×V),(kvs.any fun kv=>decide (kv.1 = k)) = (valV kvs k).isSome
 | []=>rfl
 | p :: r=>by
  rw [List.any_cons]
  by_cases e:p.1 = k
  ·simp only [yu e,decide_eq_true e,Bool.true_or,Option.isSome_some]
  ·rw [yt e,decide_eq_false e,Bool.false_or]; exact Zb k r
theorem zar (k j:κ) (y:V):∀ kvs:List (κ×V),valV (kvs.map fun kv=>if kv.1 = k then (kv.1,y) else kv) j = (valV kvs j).map fun x=>if j = k then y else x
 | []=>rfl
 | p :: r=>by
  have ih:=zar k j y r
  rw [List.map_cons]
  by_cases h:p.1 = k
  ·rw [if_pos h]
   by_cases e:p.1 = j
   ·rw [yu (p:=(p.1,y)) e,yu e,Option.map_some,if_pos (e.symm.trans h)]
   ·rw [yt (p:=(p.1,y)) e,yt e,ih]
  ·rw [if_neg h]
   by_cases e:p.1 = j
   ·rw [yu (p:=p) e,yu e,Option.map_some,if_neg (fun z=>h (e.trans z))]
   ·rw [yt (p:=p) e,yt e,ih]
theorem Jf (k j:κ) (y:V):∀ kvs:List (κ×V),valV kvs k = none→valV (kvs ++ [(k,y)]) j = if j = k then some y else valV kvs j
 | [],_=>by
  by_cases e:k = j
  ·rw [if_pos e.symm]; exact yu (p:=(k,y)) e
  ·rw [if_neg (fun z=>e z.symm)]; exact yt (p:=(k,y)) e
 | p :: r,hn=>by
  rw [List.cons_append]
  have hk:¬ p.1 = k:=fun z=>by rw [yu z] at hn; cases hn
  rw [yt hk] at hn
  have ih:=Jf k j y r hn
  by_cases e:p.1 = j
  ·rw [yu e,yu e,if_neg (fun z=>hk (e.trans z))]
  ·rw [yt e,yt e,ih]
theorem qk (kvs:List (κ×V)) (k j:κ) (y:V):valV (putK kvs k y) j = if j = k then some y else valV kvs j:=by
 unfold putK
 by_cases a:(kvs.any fun kv=>decide (kv.1 = k)) = true
 ·rw [if_pos a,zar]
  rw [Zb] at a
  by_cases e:j = k
  ·obtain ⟨x,hx⟩:=Option.isSome_iff_exists.mp a
   rw [if_pos e,e,hx,Option.map_some,if_pos rfl]
  ·rw [if_neg e]
   cases valV kvs j with
   | none=>rfl
   | some x=>rw [Option.map_some,if_neg e]
 ·rw [if_neg a]
  refine Jf k j y kvs ?_
  rw [Zb] at a
  cases q:valV kvs k with
  | none=>rfl
  | some x=>rw [q] at a; exact (a rfl).elim
theorem xf (kvs:List (κ×V)) (k:κ) (v:V):(putK kvs k v).length≤kvs.length + 1:=by
 unfold putK
 split
 ·rw [List.length_map]; omega
 ·rw [List.length_append,List.length_cons,List.length_nil]; omega
theorem RelO.isSome_eq {o:Option V} {u:Option Value} (r:RelO o u):o.isSome = u.isSome:=by
 cases o with
 | none=>cases u with
  | none=>rfl
  | some _=>exact (show False from r).elim
 | some _=>cases u with
  | none=>exact (show False from r).elim
  | some _=>rfl
theorem KV.val {kvs:List (κ×V)} {vs:List (κ×Value)} (r:KV kvs vs) (k:κ):RelO (valV kvs k) (valueAt vs k):=by
 unfold KV at r
 induction r with
 | nil=>exact True.intro
 | @cons p q ps qs h t ih =>
  obtain ⟨h1,h2⟩:=h
  by_cases e:p.1 = k
  ·have e':q.1 = k:=h1.symm.trans e
   have b:valueAt (q :: qs) k = some q.2:=by simp [valueAt,List.find?_cons,e']
   rw [yu e,b]; exact h2
  ·have e':¬ q.1 = k:=fun z=>e (h1.trans z)
   have b:valueAt (q :: qs) k = valueAt qs k:=by simp [valueAt,List.find?_cons,e']
   rw [yt e,b]; exact ih
theorem KV.any {kvs:List (κ×V)} {vs:List (κ×Value)} (r:KV kvs vs) (k:κ):(kvs.any fun kv=>decide (kv.1 = k)) = vs.any fun kv=>decide (kv.1 = k):=by
 unfold KV at r
 induction r with
 | nil=>rfl
 | cons h t ih=>rw [List.any_cons,List.any_cons,ih,h.1]
theorem KV.repl {kvs:List (κ×V)} {vs:List (κ×Value)} (r:KV kvs vs) (k:κ) {y:V} {u:Value} (ry:RelV y u) :
  KV (kvs.map fun kv=>if kv.1 = k then (kv.1,y) else kv) (vs.map fun kv=>if kv.1 = k then (kv.1,u) else kv):=by
 unfold KV at r ⊢
 induction r with
 | nil=>exact .nil
 | @cons p q ps qs h t ih =>
  rw [List.map_cons,List.map_cons]
  refine .cons ?_ ih
  obtain ⟨h1,h2⟩:=h
  by_cases e:p.1 = k
  ·rw [if_pos e,if_pos (h1.symm.trans e)]; exact ⟨h1,ry⟩
  ·rw [if_neg e,if_neg (fun z=>e (h1.trans z))]; exact ⟨h1,h2⟩
theorem KV.put {kvs:List (κ×V)} {vs:List (κ×Value)} (r:KV kvs vs) (k:κ) {y:V} {u:Value} (ry:RelV y u):KV (putK kvs k y) (stored vs k u):=by
 unfold putK stored
 rw [r.any k]
 by_cases e:(vs.any fun kv=>decide (kv.1 = k)) = true
 ·rw [if_pos e,if_pos e]; exact r.repl k ry
 ·rw [if_neg e,if_neg e]; exact Paired.snoc r ⟨rfl,ry⟩
theorem KV.length {kvs:List (κ×V)} {vs:List (κ×Value)} (r:KV kvs vs):kvs.length = vs.length:=Paired.length r
end
theorem zbf {P:Program} {w:World} {k:Key} {u:Value} (r:RelV (kV k) u):(mixKind P w).is k u = true:=by
 cases k with
 | inl i=>obtain ⟨t,e⟩:=(show ∃ t,u = Value.int i t from r); subst e; exact Qx P w i t
 | inr x=>obtain ⟨t,e⟩:=(show ∃ t,u = Value.str x t from r); subst e; exact ZF P w x t
theorem Jl {P:Program} {w:World}:∀ {ks:List Key} {us:List Value},Vals (ks.map kV) us→ItemsAre (mixKind P w) ks us
 | [],_,r=>by rw [List.map_nil] at r; cases r; exact .nil
 | k :: ks,_,r=>by
  rw [List.map_cons] at r
  cases r with
  | cons h t=>exact .cons (zbf h) (Jl t)
noncomputable abbrev KT (H:Hp):List (List Key×V)→List (List Key×Addr×Value)→Prop:=Paired fun p q=>p.1 = q.1∧H q.2.1 = some (.tup (p.1.map kV))∧RelV p.2 q.2.2
theorem KT.val {H:Hp} {kvs:List (List Key×V)} {xs:List (List Key×Addr×Value)} (r:KT H kvs xs) (k:List Key):RelO (valV kvs k) ((atKey xs k).map (·.2)):=by
 induction r with
 | nil=>exact True.intro
 | @cons p q ps qs h t ih =>
  obtain ⟨h1,_,h2⟩:=h
  by_cases e:p.1 = k
  ·have e':q.1 = k:=h1.symm.trans e
   have b:atKey (q :: qs) k = some q.2:=by simp [atKey,List.find?_cons,e']
   rw [yu e,b]; exact h2
  ·have e':¬ q.1 = k:=fun z=>e (h1.trans z)
   have b:atKey (q :: qs) k = atKey qs k:=by simp [atKey,List.find?_cons,e']
   rw [yt e,b]; exact ih
theorem KT.repl {H:Hp} {kvs:List (List Key×V)} {xs:List (List Key×Addr×Value)} (r:KT H kvs xs) (k:List Key) {y:V} {u:Value} (ry:RelV y u) :
  KT H (kvs.map fun kv=>if kv.1 = k then (kv.1,y) else kv) (xs.map (putAt k u)):=by
 induction r with
 | nil=>exact .nil
 | @cons p q ps qs h t ih =>
  rw [List.map_cons,List.map_cons]
  refine .cons ?_ ih
  obtain ⟨h1,h2,h3⟩:=h
  unfold putAt
  by_cases e:p.1 = k
  ·rw [if_pos e,if_pos (h1.symm.trans e)]; exact ⟨h1,h2,ry⟩
  ·rw [if_neg e,if_neg (fun z=>e (h1.trans z))]; exact ⟨h1,h2,h3⟩
theorem KT.put {H:Hp} {kvs:List (List Key×V)} {xs:List (List Key×Addr×Value)} (r:KT H kvs xs) (k:List Key) {b:Addr} {y:V} {u:Value} (hb:H b = some (.tup (k.map kV))) (ry:RelV y u) :
  KT H (putK kvs k y) (storedH xs k b u):=by
 have e:(kvs.any fun kv=>decide (kv.1 = k)) = (atKey xs k).isSome:=by
  rw [Zb,(r.val k).isSome_eq,Option.isSome_map]
 unfold putK storedH
 rw [e]
 by_cases q:(atKey xs k).isSome = true
 ·rw [if_pos q,if_pos q]; exact r.repl k ry
 ·rw [if_neg q,if_neg q]; exact Paired.snoc r ⟨rfl,hb,ry⟩
theorem KT.keeps {H H':Hp} {kvs:List (List Key×V)} {xs:List (List Key×Addr×Value)} (r:KT H kvs xs) (ht:∀ b ys,H b = some (.tup ys)→H' b = some (.tup ys)):KT H' kvs xs :=
 Paired.mapP r fun _ _ z=>⟨z.1,ht _ _ z.2.1,z.2.2⟩
section
variable {P:Program} {w:World} {H:Hp} {h:Heap} {a:Addr}
theorem zhk {u:HO} (ok:HOk P w H h) (e:Rd H a u):ObjOk P w H h a u:=e.ok ok
theorem zew {kvs:List (Key×V)} (ok:HOk P w H h) (e:Rd H a (.dK kvs)):kvs.length≤sizeLine∧(a == sysModules) = false∧∃ vs,KV kvs vs∧h.DictOf (mixKind P w) a vs :=
 show ObjOk P w H h a (.dK kvs) from zhk ok e
theorem zhW {kvs:List (Key×V)} (ok:HOk P w H h) (e:H a = some (.dK kvs)):kvs.length≤sizeLine∧(a == sysModules) = false∧∃ vs,KV kvs vs∧h.DictOf (mixKind P w) a vs:=zew ok (.inl e)
theorem zaq {ks:List Key} (ok:HOk P w H h) (e:H a = some (.tup (ks.map kV))):(tupleKind (mixKind P w)).is h ks a:=by
 obtain ⟨_,its,r,o,h1,h2,n,h3⟩:=(show ObjOk P w H h a (.tup (ks.map kV)) from ok a _ e)
 exact ⟨o,its.toArray,n,h1,h2,h3,by simpa using Jl r⟩
theorem zev {kvs:List (List Key×V)} (ok:HOk P w H h) (e:Rd H a (.dT kvs)):kvs.length≤sizeLine∧(a == sysModules) = false ∧
  ∃ xs,KT H kvs xs∧h.DictOfH (tupleKind (mixKind P w)) a xs:=by
 obtain ⟨z,y,xs,r,o,es,ep,h1,h2,h3,h4,h5⟩:=(show ObjOk P w H h a (.dT kvs) from zhk ok e)
 refine ⟨z,y,xs,r,o,es,ep,h1,h2,h3,h4,fun x hx=>?_,h5⟩
 have all:∀ {l:List (List Key×V)} {m:List (List Key×Addr×Value)},KT H l m→∀ x∈m,(tupleKind (mixKind P w)).is h x.1 x.2.1:=by
  intro l m q
  induction q with
  | nil=>intro x hx; exact nomatch hx
  | @cons p q ps qs hq t ih =>
   intro x hx
   rcases List.mem_cons.mp hx with e | hx
   ·subst e
    exact zaq ok (by rw [← hq.1]; exact hq.2.1)
   ·exact ih x hx
 exact all r x hx
theorem zh0 {kvs:List (List Key×V)} (ok:HOk P w H h) (e:H a = some (.dT kvs)):kvs.length≤sizeLine∧(a == sysModules) = false ∧
  ∃ xs,KT H kvs xs∧h.DictOfH (tupleKind (mixKind P w)) a xs:=zev ok (.inl e)
end
noncomputable def DGet (H:Hp) (a:Addr) (y:V) (r:Option V):Prop :=
 (∃ kvs k,Rd H a (.dK kvs)∧y = kV k∧r = valV kvs k)∨∃ kvs k b,Rd H a (.dT kvs)∧y = .ref b∧H b = some (.tup (k.map kV))∧r = valV kvs k
noncomputable def DPut (H:Hp) (a:Addr) (y v:V) (H':Hp):Prop :=
 (∃ kvs k,H a = some (.dK kvs)∧y = kV k∧kvs.length < sizeLine∧H' = upd H a (.dK (putK kvs k v))) ∨
 ∃ kvs k b,H a = some (.dT kvs)∧y = .ref b∧H b = some (.tup (k.map kV))∧kvs.length < sizeLine∧H' = upd H a (.dT (putK kvs k v))
theorem DGet.k {H:Hp} {a:Addr} {kvs:List (Key×V)} {k:Key} (e:H a = some (.dK kvs)):DGet H a (kV k) (valV kvs k):=.inl ⟨kvs,k,.inl e,rfl,rfl⟩
theorem DPut.k {H:Hp} {a:Addr} {kvs:List (Key×V)} {k:Key} {v:V} (e:H a = some (.dK kvs)) (hl:kvs.length < sizeLine):DPut H a (kV k) v (upd H a (.dK (putK kvs k v))):=.inl ⟨kvs,k,e,rfl,hl,rfl⟩
section
variable {X:Cx} {pins:List (Addr×Obj)} {σ:St} {H:Hp} {s:Shared} {a:Addr} {y v:V} {u r:Value} {o:Option V} {A:Around} {E:Value→Shared→Prop}
theorem Inv.big (I:Inv X pins σ H s):sysModules < s.heap.objs.size:=by
 have h:mainGlobals < s.heap.objs.size:=(I.mod.glob.keeps I.bk).lt
 exact Nat.lt_trans (by decide) h
theorem zcN {Q:Value→Shared→Prop} (hu:A.units + 1 < cLine) (I:Inv X pins σ H s) (g:DGet H a y (some v)) (ry:RelV y u) (h:∀ w' s',Inv X pins σ H s'→RelV v w'→Q w' s') :
  wpAny (model X.prog X.w) A (getItem (.ref a) u) Q E s:=by
 rcases g with ⟨kvs,k,e,ey,l⟩ | ⟨kvs,k,b,e,ey,eb,l⟩
 ·subst ey
  obtain ⟨z,hd,vs,rel,dd⟩:=zew I.hok e
  obtain ⟨w',hw,rw'⟩:=RelO.some_of (v:=v) (o:=valueAt vs k) (by rw [l]; exact rel.val k)
  exact wpAny_getItem_of (zbf ry) dd.mapOf hw (h w' _ (I.tok _) rw')
 ·subst ey
  cases (show u = Value.ref b from ry)
  obtain ⟨z,hd,xs,rel,dd⟩:=zev I.hok e
  obtain ⟨w',hw,rw'⟩:=RelO.some_of (v:=v) (o:=(atKey xs k).map (·.2)) (by rw [l]; exact rel.val k)
  obtain ⟨p,hp,hp2⟩:=Option.map_eq_some_iff.mp hw
  refine wpAny_getItem_heap (tupleKind_room_in1 hu) (zaq I.hok eb) dd hp ?_
  rw [hp2]
  exact h w' _ (I.tok _) rw'
theorem zfw {Q:Value→Shared→Prop} (hu:A.units + 1 < cLine) (I:Inv X pins σ H s) (g:DGet H a y o) (ry:RelV y u) (h:∀ s',Inv X pins σ H s'→Q (.bool (!o.isSome)) s') :
  wpAny (model X.prog X.w) A (compareOp .NotIn u (.ref a)) Q E s:=by
 rcases g with ⟨kvs,k,e,ey,l⟩ | ⟨kvs,k,b,e,ey,eb,l⟩
 ·subst ey
  obtain ⟨z,hd,vs,rel,dd⟩:=zew I.hok e
  refine wpAny_notIn_of (zbf ry) hd dd.mapOf ?_
  rw [← (rel.val k).isSome_eq,← l]
  exact h _ (I.tok _)
 ·subst ey
  cases (show u = Value.ref b from ry)
  obtain ⟨z,hd,xs,rel,dd⟩:=zev I.hok e
  refine wpAny_notIn_heap (tupleKind_room_in1 hu) (zaq I.hok eb) hd dd ?_
  have q:=(rel.val k).isSome_eq
  rw [Option.isSome_map] at q
  rw [← q,← l]
  exact h _ (I.tok _)
theorem zbR {h':Heap} {t':Nat} {ob:HO} (I:Inv X pins σ H s) (mu:Mut (H a)) (hs:Heap.SameBut a s.heap h') (he:∃ q,h'.get? a = some q) (new:ObjOk X.prog X.w (upd H a ob) h' a ob) :
  Inv X pins σ (upd H a ob) { s with heap:=h',toks:=t' } :=
 I.write (x:=a) (e:=a) mu (.inl rfl) (fun b q hb z=>(hs.2 b hb).trans z) he new
theorem zg2 {P:Program} {w:World} {H':Hp} {h':Heap} {kvs:List (Key×V)} {vs:List (Key×Value)} (z:kvs.length≤sizeLine) (hd:(a == sysModules) = false) (rel:KV kvs vs) (dd:h'.DictOf (mixKind P w) a vs) :
  ObjOk P w H' h' a (.dK kvs):=⟨z,hd,vs,rel,dd⟩
theorem zdf {H':Hp} {Q:Unit→Shared→Prop} (hu:A.units + 1 < cLine) (I:Inv X pins σ H s) (g:DPut H a y v H') (ry:RelV y u) (rv:RelV v r) (h:∀ s',Inv X pins σ H' s'→Q () s') :
  wpAny (model X.prog X.w) A (setItem (.ref a) u r) Q E s:=by
 rcases g with ⟨kvs,k,e,ey,l,eH⟩ | ⟨kvs,k,b,e,ey,eb,l,eH⟩
 ·subst ey eH
  obtain ⟨z,hd,vs,rel,dd⟩:=zhW I.hok e
  have hz:vs.length≤sizeLine:=by rw [← rel.length]; exact z
  have hl:(putK kvs k v).length≤sizeLine:=by have:=xf kvs k v; omega
  refine wpAny_setItem_pairs (hsz:=hz) (zbf ry) dd fun h' dd' hs=>h _ ?_
  have he:∃ q,h'.get? a = some q:=let ⟨q,_,_,hq,_⟩:=dd'; ⟨q,hq⟩
  exact zbR I (by rw [e]; exact True.intro) hs he (zg2 hl hd (rel.put k rv) dd')
 ·subst ey eH
  cases (show u = Value.ref b from ry)
  obtain ⟨z,hd,xs,rel,dd⟩:=zh0 I.hok e
  have hz:xs.length≤sizeLine:=by rw [← Paired.length rel]; exact z
  have hl:(putK kvs k v).length≤sizeLine:=by have:=xf kvs k v; omega
  refine wpAny_setItem_heap (hsz:=hz) (tupleKind_room_in1 hu) (zaq I.hok eb) dd fun h' dd' hs=>h _ ?_
  obtain ⟨q,es,ep,hq,h2,h3,h4,_,h5⟩:=dd'
  refine zbR I (by rw [e]; exact True.intro) hs ⟨q,hq⟩ ⟨hl,hd,_,(rel.put k eb rv).keeps fun c ys ec=>?_,q,es,ep,hq,h2,h3,h4,h5⟩
  rw [zw (zhK ec e (fun z=>nomatch z))]
  exact ec
end
noncomputable def NoSl (i:Expr):Prop:=∀ ov iv,subscripted i false ov iv = operate [ov,iv] (getItem ov iv)
theorem zcf {prog:Program} {w:World} {A:Around} {E:Value→Shared→Prop} {s:Shared} {env:Env} {value slice:Expr} {pos:Pos} {T id:String} {Q:Value→Shared→Prop}
  (hl:typeLookup (.type T) "__getitem__" = pure (some (.builtin id))) (hs:NoSl slice)
  (h:wpAny (model prog w) A (eval value env) (fun o s₁=>wpAny (model prog w) A (eval slice env) (fun i s₂=>s₂.TypeIs o T∧wpAny (model prog w) A (getItem o i) Q E s₂) E s₁) E s) :
  wpAny (model prog w) A (eval (.Subscript value slice pos) env) Q E s:=by
 refine Subscript_ (wpAny_mono h (fun o s₁ h₁=>wpAny_mono h₁ (fun i s₂ h₂=>?_) fun _ _ x=>x) fun _ _ x=>x)
 obtain ⟨hT,h₂⟩:=h₂
 unfold subscriptTail
 refine wpAny_bind ?_
 rw [getitemInPython_of_ne hT.not_modules]
 refine wpAny_bind (wpAny_specialOf hT hl ?_)
 have fin:wpAny (model prog w) A (subscripted slice false o i) (fun r s₃=>wpAny (model prog w) A (letTemporaryGo value o r >>= fun _=>pure r) Q E s₃) E s₂:=by
  rw [hs o i]
  exact wpAny_operating (wpAny_mono h₂ (fun r s₃ h₃=>wpAny_bind (wpAny_letTemporaryGo (wpAny_pure h₃))) fun _ _ x=>x)
 first
  | exact wpAny_pure (wpAny_bind fin)
  | exact wpAny_bind (wpAny_pure (wpAny_bind fin))
  | exact wpAny_bind fin
theorem Qj {X:Cx} {pins:List (Addr×Obj)} {σ:St} {H:Hp} {s:Shared} {a:Addr} {y:V} {o:Option V} (I:Inv X pins σ H s) (g:DGet H a y o):s.TypeIs (.ref a) "dict" := by
 rcases g with ⟨kvs,k,e,_,_⟩ | ⟨kvs,k,b,e,_,_,_⟩
 ·obtain ⟨_,_,vs,_,dd⟩:=zew I.hok e
  exact dd.typeIs
 ·obtain ⟨_,_,xs,_,dd⟩:=zev I.hok e
  exact dd.typeIs
noncomputable def tDGet (td ty:TE):TE:=fun σ H Q=>td σ H fun x H1=>ty σ H1 fun y H2=>∃ a v,x = .ref a∧DGet H2 a y (some v)∧Q v H2
noncomputable def sDPut (td ty tv:TE):TS:=fun D σ H=>tv σ H fun v H1=>td σ H1 fun x H2=>ty σ H2 fun y H3=>∃ a H4,x = .ref a∧DPut H3 a y v H4∧D.nx σ H4
section
variable {X:Cx} {o i e value:Expr} {pos pos' tpos:Pos} {td ty tv:TE}
theorem Ql (hu:X.A.units + 1 < cLine) (ho:PE X o td) (hi:PE X i ty) (hs:NoSl i):PE X (.Subscript o i pos) (tDGet td ty):=by
 intro pins s σ H Q I h
 refine zcf PySem.F.slot_dict_getitem.lookup hs (thn (ho pins s σ H _ I h) fun u s1 ⟨x,H1,I1,rx,q1⟩=>thn (hi pins s1 σ H1 _ I1 q1) fun iv s2 ⟨y,H2,I2,ry,a,v,ex,g,q2⟩=>?_)
 subst ex
 obtain rfl:u = Value.ref a:=rx
 exact ⟨Qj I2 g,zcN hu I2 g ry fun w' s3 I3 rw'=>⟨v,H2,I3,rw',q2⟩⟩
theorem zfe (hu:X.A.units + 1 < cLine) (ho:PE X o td) (hi:PE X i ty) (hv:PE X value tv) (hs:swapsWith value (some (.Subscript o i pos')) pos.line X.env = pure false) :
  PS X (.Assign [.Subscript o i pos'] value pos) (sDPut td ty tv):=by
 intro pins s σ H D I h
 refine wpAny_Assign_Subscript (thn (hv pins s σ H _ I h) fun r s1 ⟨v,H1,I1,rv,q1⟩=>thn (ho pins s1 σ H1 _ I1 q1) fun u s2 ⟨x,H2,I2,rx,q2⟩=>thn (hi pins s2 σ H2 _ I2 q2) fun iv s3 ⟨y,H3,I3,ry,a,H4,ex,g,q3⟩=>?_) hs
 subst ex
 obtain rfl:u = Value.ref a:=rx
 exact zdf hu I3 g ry rv fun s4 I4=>⟨σ,H4,I4,q3⟩
end
theorem zei {P:Program} {w:World} {H:Hp} (h:Heap) (hb:sysModules < h.objs.size):ObjOk P w H (h.push { cls:=.type "dict",data:=.dict #[] }) h.objs.size (.dK []) :=
 ⟨Nat.zero_le _,beq_eq_false_iff_ne.mpr (Ne.symm (Nat.ne_of_lt hb)),[],.nil,Heap.DictOf.new h⟩
noncomputable def tDNewK:TE:=fun _ H Q=>∀ p,H p = none→Q (.ref p) (upd H p (.dK []))
section
variable {X:Cx} {pos:Pos}
theorem QX:PE X (.Dict [] [] pos) tDNewK:=fun pins s σ H Q I h =>
 wpAny_Dict_empty ⟨.ref s.heap.objs.size,_,I.laid (a:=s.heap.objs.size) (o:=.dK []) (t':=s.toks) (fun _ _ q=>Heap.get?_push_of_some _ q) (Nat.le_refl _) (zei s.heap I.big),rfl,h _ (I.hok.fresh (Nat.le_refl _))⟩
end
end L2
namespace L2
open PySem PySem.Spec PyProof.Rows Nm
structure Dm (K:PySem.W.Frag) (C:Addr) (m qual:Str) (ps:List Str) (st:Stmt):Prop where
 ex:∃ (f:Addr) (fd:FuncData),Fun K m qual st f fd∧Meth K C m f∧Binds K fd ps []
structure Mx (P:Program) (w:World) (K:PySem.W.Frag) (mg:Str→Option Value) (base:Heap) (C:Addr) (m:Str) (k:Nat) (ps:List Str) (sp:Sp):Prop where
 ex:∃ (f:Addr) (fd:FuncData),FnOk P w K mg base (CX1 P w) k f fd ps sp∧Meth K C m f∧Binds K fd ps []
section
variable {P:Program} {w:World} {K:PySem.W.Frag} {mg:Str→Option Value} {base:Heap} {C:Addr}
theorem Dm.mx {m qual:Str} {st:Stmt} {N ps:List Str} {k:Nat} {sp:Sp} (D:Dm K C m qual ps st) (S:FnScope N ps (defScope st)) (len:∀ vs H Q E,sp vs H Q E→vs.length = ps.length)
  (hbody:∀ (f:Addr) (cdv:Value) (A:Around) (outer:List Env) (s:Shared) (H:Hp) (vs:List V) (Q:VK) (E:XK),Room k (A.deeper (envOfC qual (defScope st) s.heap.objs.size f cdv))→sp vs H Q E →
   ∃ t,PSs (cxOf (CX1 P w) P w K mg base N qual (defScope st) f cdv A outer s H E) (defBody st) t∧t { nx:=fun _ H'=>Q .non H',rt:=Q } (start N vs) H):Mx P w K mg base C m (k + 1) ps sp:=by
 obtain ⟨f,fd,F,hm,hb⟩:=D.ex
 obtain ⟨oc,od,kV,doc,pm,an,cdv,ct,osl,rfl,lk,hcd⟩:=F.ex
 exact ⟨f,_,zdX lk hcd S len fun A outer s H vs Q E hr hsp=>hbody f cdv A outer s H vs Q E hr hsp,hm,hb⟩
theorem zh1 {m qual:Str} {ps:List Str} {st:Stmt} {f:Addr} {oc:Value} {od an:Option Addr} {osl:Array (Option Value)} {kV doc pm cdv ct:Value}
  (a:PySem.W.findIn K (.ref C) m = some (some (.ref f))) (a2:PySem.W.isFn K (.ref f) = true)
  (l:K.lookup f = some ⟨oc,od,.func (PySem.W.fnOf m qual (defArgs st) (defBody st) (defScope st) .none kV doc pm an cdv ct),osl⟩)
  (c:PySem.W.codeIn K cdv qual = true) (k:PySem.W.keepIn K (.ref f) = true)
  (hb:∀ (kV doc pm:Value) (an:Option Addr) (cdv ct:Value) (us:List Value),us.length = ps.length→bindArgs (PySem.W.fnOf m qual (defArgs st) (defBody st) (defScope st) .none kV doc pm an cdv ct) ⟨us,[]⟩ = pure (ps.zip us)):Dm K C m qual ps st:=by
 have F:=QS (st:=st) l c k
 exact ⟨f,_,F,⟨a,a2,k⟩,F.binds hb⟩
end
section
variable {X:Cx} {k:Nat} {C:Addr} {ps:List Str} {sp:Sp} {E:XK} {m:Str} {pos apos:Pos} {e o:Expr} {es:List Expr} {ta:TE} {t:TA}
theorem zcJ {pl:Sem Bool} (D:Mx X.prog X.w X.K X.mg X.base C m k ps sp) (hr:Room k X.A) (c:Cls X.K C) (hx:Passes (CX1 X.prog X.w) X E) (he:PE X o ta) (ha:PA X (e :: es) t)
  (hst:starEach (e :: es) X.env = (false,eval e X.env) :: starEach es X.env:=by rfl) (hpl:(backTo pos (starEach es X.env)).any (·.1) = false:=by rfl)
  (ht:eval (.Call (.Attribute o m apos) (e :: es) [] pos) X.env = (do
   let ov ← eval o X.env
   standAt apos.atName
   let (f,first) ← holding [ov] (getMethod ov m pl)
   callWith pos f first (backTo pos (starEach (e :: es) X.env)) (backToKw pos (keywordEach [] X.env))):=by rfl) :
  PE X (.Call (.Attribute o m apos) (e :: es) [] pos) (tMeth C m sp [] E ta t):=by
 obtain ⟨f,fd,F,hm,hb⟩:=D.ex
 exact zgi he c hm F hr hb .nil hx ha hst hpl ht
variable {x y z:Str} {B:Addr} {i j:Nat} {np npos hp cpos p2:Pos} {b₀:Stmt} {suite:List Stmt} {ts:TS}
noncomputable def tTryM (sp:Sp) (De:Addr→Prop) (Cl:Addr) (m:Str) (j i:Nat) (to:TE) (ta:TA) (ts:TS):TS:=fun Dn σ H=>to σ H fun x H1=>∃ a dx fs,x = .ref a∧H1 a = some (.ins Cl dx fs)∧fs.lookup m = none ∧
 ta σ H1 fun vs H2=>sp (x :: vs) H2 (fun v H3=>Dn.nx (σ.set j (some v)) H3) fun c _ H3=>∃ E,c = .ref E∧De E∧∀ a,H3 a = none→ts { nx:=fun σ' H'=>Dn.nx (σ'.set i none) H',rt:=fun _ _=>False } (σ.set i (some (.ref a))) (upd H3 a (.ext (ExAt a E)))
theorem zfZ {pl:Sem Bool} {Cl:Addr} {De:Addr→Prop} (D:Mx X.prog X.w X.K X.mg X.base Cl m k ps sp) (hr:Room k X.A) (c:Cls X.K Cl) (cb:X.mg x = some (.ref B)) (eb:∀ E,De E→Eb X.K B E) (hgx:Gl X x) (ho:PE X.nox o ta) (ha:PA X.nox (e :: es) t) (hN:X.N.Nodup) (hi:X.N[i]? = some y) (hk:X.env.scope.names.lookup y = some .local) (hj:X.N[j]? = some z) (hz:Loc X.env.scope z) (hs:∀ v,PSs (X.marked v) (b₀ :: suite) ts)
  (hst:X.stack = X.env :: X.outer:=by rfl) (hfr:X.env.frame = some X.env.locals:=by rfl) (hex:X.ex = []:=by rfl) (hf:X.fn z = true∨X.env.scope.names.lookup z = some .local:=by first | exact .inl rfl | exact .inr rfl | assumption)
  (hsw:swapsWith (.Call (.Attribute o m apos) (e :: es) [] cpos) (some (.Name z np)) npos.line X.env = pure false:=by rfl)
  (hdx:(x == ("__debug__" : Str)) = false:=by decide) (he:starEach (e :: es) X.env = (false,eval e X.env) :: starEach es X.env:=by rfl) (hpl:(backTo cpos (starEach es X.env)).any (·.1) = false:=by rfl)
  (ht:eval (.Call (.Attribute o m apos) (e :: es) [] cpos) X.env = (do
   let ov ← eval o X.env
   standAt apos.atName
   let (f,first) ← holding [ov] (getMethod ov m pl)
   callWith cpos f first (backTo cpos (starEach (e :: es) X.env)) (backToKw cpos (keywordEach [] X.env))):=by rfl) :
  PS X (.Try [.Assign [.Name z np] (.Call (.Attribute o m apos) (e :: es) [] cpos) npos] [.ExceptHandler (some (.Name x p2)) (some y) (b₀ :: suite) hp] [] [] pos) (tTryM sp De Cl m j i ta t ts):=by
 intro pins s σ H Dn I h
 obtain ⟨fa,fd,F,hm,hb⟩:=D.ex
 refine wpAny_Try_except (wpAny_execs_cons (wpAny_Assign_Name (PySem.W.methodCall_KW (pl:=pl) (wpAny_mono (ho pins s σ H _ (I.wish _) h) (fun u s0 ⟨ov,H0,I0',rx,a0,dx,fs,ex,ea,l,q0⟩=>?_) fun _ _ z=>z.elim) ht) hsw))
 have I0:Inv X pins σ H0 s0:=I0'.unwish
 subst ex
 obtain rfl:u = Value.ref a0:=rx
 refine Yd I0 ea c hm l ?_
 refine PySem.W.callWith_K (first:=[.ref a0]) (h₀:=X.base) I.ok.mod.kin hm.kp (wpAny_mono (ha cpos pins s0 σ H0 _ (I0.wish _) q0) (fun us s1 ⟨vs,H1,I1',r,q⟩=>?_) fun _ _ z=>z.elim) he hpl
 have I1:Inv X pins σ H1 s1:=I1'.unwish
 refine ⟨I1.kIn,?_⟩
 have r':Vals (V.ref a0 :: vs) (Value.ref a0 :: us):=.cons rfl r
 have hl:(Value.ref a0 :: us).length = ps.length:=by rw [← r'.length]; exact F.len _ _ _ _ q
 have hbn:=hb s1 (Value.ref a0 :: us) I1.kIn (by rw [List.append_nil]; exact hl)
 rw [List.append_nil] at hbn
 refine wpAny_call (codeAny_mono (F.run X.A X.stack s1 H1 ⟨.ref a0 :: us,[]⟩ (.ref a0 :: us) (.ref a0 :: vs) _ _ hr I1.env0 hbn r' q) fun rr s2 hq=>?_)
 cases rr with
 | error ex =>
  obtain ⟨a,C',H2,b1,rfl,ho',hgb,Fl,E',hC,hD,hT⟩:=hq
  cases hC
  obtain ⟨t,fl⟩:=Fl.fl
  rw [hst] at fl
  refine wpAny_looks_onW (outer:=X.outer) (L:=X.env.locals) (by rw [I1.ok.frames,hst]) hfr fl fun h1 hh1 u1=>?_
  refine wpAny_landsW hh1 fun h2 fl2 u2=>?_
  have F2:Fly X.prog X.w X.stack H1 s1 H2 b1 a C' h2:=Fl.step fl2.1 ⟨t,by rw [hst]; exact fl2⟩ (u1.trans u2)
  have I2:Inv X pins σ H2 { s2 with heap:=h2 }:=Fly.inv (s':={ s2 with heap:=h2 }) F2 I1 ho' hgb
  refine wpAny_handleBy_cons (codeAny_handlers_test ?_) (by intro z; cases z)
  refine Zj (X:=X.marked (some (.ref a))) I2.mark hgx cb ?_ hdx
  refine QB I2.kIn fl2.there (eb _ hD) ?_
  refine codeAny_handlers_suite_as (lands_againW fl2 fun h3 fl3 u3=>?_)
  have F3:Fly X.prog X.w X.stack H1 s1 H2 b1 a C' h3:=F2.step fl3.1 ⟨t,by rw [hst]; exact fl3⟩ u3
  have I3:Inv X pins σ H2 { s2 with heap:=h3 }:=Fly.inv (s':={ s2 with heap:=h3 }) F3 I1 ho' hgb
  have K3:=Inv.know I1 I3 F3.new.1 F3.new.2 hex (zgY (a:=a) (C:=C') fl3.there)
  refine qp (X:=X.marked (some (.ref a))) (v:=.ref a) K3.mark hN hi (.inl hk) rfl (fun s4 I4=>?_) (.inr hk)
  refine wpAny_mono (hs (some (.ref a)) pins s4 _ _ _ I4 (hT a F3.new.2)) (fun fl s5 z=>?_) fun _ _ z=>z.elim
  cases fl with
  | next =>
   obtain ⟨σ',H',I5,q5⟩:=z
   exact zfY (I5.unmark I.ok) hN hi hk fun s6 I6=>⟨_,_,I6,q5⟩
  | brk=>obtain ⟨_,_,_,q5⟩:=z; exact q5.elim
  | cont=>obtain ⟨_,_,_,q5⟩:=z; exact q5.elim
  | ret u=>obtain ⟨_,_,_,_,_,q5⟩:=z; exact q5.elim
 | ok fl =>
  cases fl with
  | ret u =>
   obtain ⟨v,H2,I2,rv,qv⟩:=I1.after hq
   refine qp I2 hN hj hz rv (fun s3 I3=>wpAny_execs_nil (wpAny_execs_nil ⟨_,H2,I3,qv⟩)) hf
  | next=>exact False.elim hq
  | brk=>exact False.elim hq
  | cont=>exact False.elim hq
end
end L2
namespace L2
open PySem PySem.Spec PySem.NumText PyProof.Rows Nm Tx Builtin Builtin.Str
noncomputable def posL (c:Nat) (l:List Nat) (n:Nat):List Nat:=(List.range n).filter fun i=>l[i]? == some c
theorem YC (x:Str) (c limit:Nat):∀ (l:List Nat) (found:Array Nat) (free:Nat),(∀ i∈l,free≤i)→l.Pairwise (· < ·)→(forIn l (found,free) (StrLaws.occBody x ⟨#[c]⟩ x.length limit)).run.fst.toList = found.toList ++ (l.filter fun i=>(cl x)[i]? == some c).take (limit - found.size)
 | [],found,free,_,_=>by simp
 | a :: l,found,free,h,pw=>by
  rw [List.forIn_cons]
  have h1:=StrLaws.subAt_one x c a
  have fa:=h a List.mem_cons_self
  have pa:=List.pairwise_cons.1 pw
  unfold StrLaws.occBody
  by_cases e:(cl x)[a]? = some c
  ·have e1:=h1.mpr e
   rw [List.filter_cons_of_pos (by simpa using e)]
   by_cases z:found.size < limit
   ·rw [if_pos ⟨⟨⟨z,fa⟩,e1.1⟩,e1.2⟩]
    have ih:=YC x c limit l (found.push a) (a + (⟨#[c]⟩ : Str).length) (fun i hi=>pa.1 i hi) pa.2
    unfold StrLaws.occBody at ih
    refine ih.trans ?_
    rw [Array.toList_push,Array.size_push,List.append_assoc,show limit - found.size = (limit - (found.size + 1)) + 1 by omega,List.take_succ_cons]
    rfl
   ·rw [if_neg fun q=>z q.1.1.1]
    have ih:=YC x c limit l found free (fun i hi=>h i (List.mem_cons_of_mem _ hi)) pa.2
    unfold StrLaws.occBody at ih
    refine ih.trans ?_
    rw [show limit - found.size = 0 by omega,List.take_zero,List.take_zero]
  ·rw [if_neg fun q=>e (h1.mp ⟨q.1.2,q.2⟩),List.filter_cons_of_neg (by simpa using e)]
   have ih:=YC x c limit l found free (fun i hi=>h i (List.mem_cons_of_mem _ hi)) pa.2
   unfold StrLaws.occBody at ih
   exact ih
theorem zbW (x:Str) (c limit:Nat):occurrences x ⟨#[c]⟩ 0 x.length limit = (posL c (cl x) (x.length + 1)).take limit:=by
 rw [StrLaws.occ_eq,YC x c limit _ _ _ (fun i hi=>Nat.zero_le _) (by rw [← List.range_eq_range']; exact List.pairwise_lt_range)]
 unfold posL
 rw [List.range_eq_range']
 simp
theorem YF (c:Nat) (l:List Nat):∀ (a:List Nat) (n:Nat),(∀ d∈a,d≠c)→posL c (a ++ l) (a.length + n) = (posL c l n).map (a.length + ·):=fun a n h=>by
 unfold posL
 rw [List.range_add,List.filter_append,List.filter_map]
 have e1:(List.range a.length).filter (fun i=>(a ++ l)[i]? == some c) = []:=by
  rw [List.filter_eq_nil_iff]
  intro i hi
  rw [List.mem_range] at hi
  rw [List.getElem?_append_left hi,List.getElem?_eq_getElem hi]
  simpa using h _ (List.getElem_mem hi)
 rw [e1,List.nil_append]
 congr 1
 refine List.filter_congr fun i _=>?_
 show ((a ++ l)[a.length + i]? == some c) = _
 rw [List.getElem?_append_right (by omega),Nat.add_sub_cancel_left]
theorem Zc (c:Nat) (l:List Nat) (n:Nat):posL c (c :: l) (n + 1) = 0 :: (posL c l n).map (1 + ·):=by
 unfold posL
 rw [Nat.add_comm n 1,List.range_add,List.filter_append,List.filter_map]
 simp
 congr 1
 refine List.filter_congr fun i _=>?_
 show ((c :: l)[1 + i]? == some c) = _
 rw [Nat.add_comm 1 i,List.getElem?_cons_succ]
theorem qX (c:Nat) (l:List Nat) (n:Nat) (h:∀ d∈l,d≠c):posL c l n = []:=by
 unfold posL
 rw [List.filter_eq_nil_iff]
 intro i hi z
 have z':l[i]? = some c:=by simpa using z
 exact h c (List.mem_of_getElem? z') rfl
theorem QO {c:Nat}:∀ {a b s t:List Nat},(∀ d∈a,d≠c)→(∀ d∈b,d≠c)→a ++ c :: s = b ++ c :: t→a = b∧s = t
 | [],[],s,t,_,_,e=>⟨rfl,(List.cons.inj e).2⟩
 | [],d :: b,s,t,_,hb,e=>absurd (List.cons.inj e).1.symm (hb d List.mem_cons_self)
 | d :: a,[],s,t,ha,_,e=>absurd (List.cons.inj e).1 (ha d List.mem_cons_self)
 | d :: a,d' :: b,s,t,ha,hb,e=>by
  obtain ⟨e1,e2⟩:=List.cons.inj e
  obtain ⟨e3,e4⟩:=QO (fun x hx=>ha x (List.mem_cons_of_mem _ hx)) (fun x hx=>hb x (List.mem_cons_of_mem _ hx)) e2
  exact ⟨by rw [e1,e3],e4⟩
theorem XA {c:Nat}:∀ {A B:List (List Nat)},A≠[]→B≠[]→(∀ a∈A,∀ d∈a,d≠c)→(∀ a∈B,∀ d∈a,d≠c)→joinN [c] A = joinN [c] B→A = B
 | [],_,h,_,_,_,_=>absurd rfl h
 | _,[],_,h,_,_,_=>absurd rfl h
 | [a],[b],_,_,_,_,e=>by rw [show a = b from e]
 | [a],b :: b2 :: r,_,_,ha,_,e=>by
  have e:a = b ++ [c] ++ joinN [c] (b2 :: r):=e
  exact absurd rfl (ha a List.mem_cons_self c (by rw [e]; simp))
 | a :: a2 :: r,[b],_,_,_,hb,e=>by
  have e:a ++ [c] ++ joinN [c] (a2 :: r) = b:=e
  exact absurd rfl (hb b List.mem_cons_self c (by rw [← e]; simp))
 | a :: a2 :: r,b :: b2 :: q,_,_,ha,hb,e=>by
  have e:a ++ [c] ++ joinN [c] (a2 :: r) = b ++ [c] ++ joinN [c] (b2 :: q):=e
  rw [List.append_assoc,List.append_assoc] at e
  obtain ⟨e1,e2⟩:=QO (ha a List.mem_cons_self) (hb b List.mem_cons_self) e
  rw [e1,XA (List.cons_ne_nil _ _) (List.cons_ne_nil _ _) (fun x hx=>ha x (List.mem_cons_of_mem _ hx)) (fun x hx=>hb x (List.mem_cons_of_mem _ hx)) e2]
theorem ZE {x:Str} {c:Nat} {ws:List Str} (ne:ws≠[]) (fr:∀ w∈ws,∀ d∈cl w,d≠c) (e:cl x = joinN [c] (ws.map cl)):Txt.split x ⟨#[c]⟩ = ws:=by
 have hf:=StrLaws.split_free x c
 have hj:joinN [c] ((Txt.split x ⟨#[c]⟩).map cl) = cl x:=by
  have:=Xj ⟨#[c]⟩ (Txt.split x ⟨#[c]⟩)
  rw [StrLaws.join_split] at this
  exact this.symm
 have hp:=PyProof.Rows.split_pos x ⟨#[c]⟩
 have q:(Txt.split x ⟨#[c]⟩).map cl = ws.map cl:=by
  refine XA (fun z=>?_) (fun z=>ne (List.map_eq_nil_iff.1 z)) (fun a ha d hd z=>?_) (fun a ha d hd=>?_) (hj.trans e)
  ·rw [List.map_eq_nil_iff.1 z] at hp; simp at hp
  ·obtain ⟨p,hp',rfl⟩:=List.mem_map.1 ha
   exact hf p hp' (by rw [← z]; exact hd)
  ·obtain ⟨p,hp',rfl⟩:=List.mem_map.1 ha
   exact fr p hp' d hd
 have inj:∀ {A B:List Str},A.map cl = B.map cl→A = B:=fun {A B} h=>by
  induction A generalizing B with
  | nil=>cases B with
   | nil=>rfl
   | cons b r=>cases h
  | cons a r ih=>cases B with
   | nil=>cases h
   | cons b q =>
    obtain ⟨e1,e2⟩:=List.cons.inj h
    rw [xD e1,ih e2]
 exact inj q
theorem Zl (x:Str) (c:Nat) (k:Nat) (hk:strKind x < strKind ⟨#[c]⟩→False):Txt.splitMax x ⟨#[c]⟩ (k:Int) = if (posL c (cl x) (x.length + 1)).take k = [] then [x] else partsBetween x ((posL c (cl x) (x.length + 1)).take k) 1:=by
 have lm:limitOf x (k:Int) = k:=by unfold limitOf; rw [if_neg (by omega)]; rfl
 unfold Txt.splitMax
 rw [lm,zbW]
 by_cases h:(decide (x.length < (⟨#[c]⟩ : Str).length) || decide (strKind x < strKind ⟨#[c]⟩)) = true
 ·rw [if_pos h]
  have h0:x.length = 0:=by
   rcases Bool.or_eq_true _ _ ▸ h with z | z
   ·have:x.length < 1:=of_decide_eq_true z
    omega
   ·exact (hk (of_decide_eq_true z)).elim
  have e:cl x = []:=List.eq_nil_of_length_eq_zero (by rw [zF]; exact h0)
  rw [e,qX c [] _ (fun d hd=>nomatch hd),if_pos (by simp)]
 ·rw [if_neg h]
  by_cases z:(posL c (cl x) (x.length + 1)).take k = []
  ·rw [if_pos z,if_pos (by rw [z]; rfl)]
  ·rw [if_neg z,if_neg (by simpa using z)]
   rfl
theorem Yk {x:Str} {a b r:List Nat} (e:cl x = a ++ b ++ r):cl (strSub x a.length (a.length + b.length)) = b:=by
 show (strSub x a.length (a.length + b.length)).cps.toList = b
 rw [StrLaws.strSub_toList,show x.cps.toList = a ++ b ++ r from e,List.append_assoc,List.drop_left,Nat.add_sub_cancel_left,List.take_left]
theorem zf8 {x:Str} {c:Nat} {a b r:List Nat} (hk:strKind x < strKind ⟨#[c]⟩→False) (fa:∀ d∈a,d≠c) (fb:∀ d∈b,d≠c) (e:cl x = a ++ c :: (b ++ c :: r)):(Txt.splitMax x ⟨#[c]⟩ 2).map cl = [a,b,r]:=by
 have ln:x.length + 1 = a.length + (1 + (b.length + (1 + (r.length + 1)))):=by
  rw [← zF,e]; simp; omega
 have hp:(posL c (cl x) (x.length + 1)).take 2 = [a.length,a.length + (1 + b.length)]:=by
  rw [ln,e,YF c _ a _ fa,Nat.add_comm 1,Zc,YF c _ b _ fb,Nat.add_comm 1,Zc]
  simp
 have m:=Zl x c 2 hk
 rw [hp,if_neg (by simp)] at m
 rw [show (2:Int) = ((2:Nat):Int) from rfl,m]
 show [cl (strSub x 0 a.length),cl (strSub x (a.length + 1) (a.length + (1 + b.length))),cl (strSub x (a.length + (1 + b.length) + 1) x.length)] = [a,b,r]
 have e1:cl (strSub x 0 a.length) = a:=by
  have:=Yk (x:=x) (a:=[]) (b:=a) (r:=c :: (b ++ c :: r)) (by rw [e]; rfl)
  simpa using this
 have e2:cl (strSub x (a.length + 1) (a.length + (1 + b.length))) = b:=by
  have:=Yk (x:=x) (a:=a ++ [c]) (b:=b) (r:=c :: r) (by rw [e]; simp)
  simpa [Nat.add_assoc] using this
 have e3:cl (strSub x (a.length + (1 + b.length) + 1) x.length) = r:=by
  have:=Yk (x:=x) (a:=a ++ [c] ++ b ++ [c]) (b:=r) (r:=[]) (by rw [e]; simp)
  have l:(a ++ [c] ++ b ++ [c]).length = a.length + (1 + b.length) + 1:=by simp; omega
  rw [l,show a.length + (1 + b.length) + 1 + r.length = x.length by omega] at this
  exact this
 rw [e1,e2,e3]
theorem zfu {x:Str} {c:Nat} {a b:List Nat} (hk:strKind x < strKind ⟨#[c]⟩→False) (fa:∀ d∈a,d≠c) (fb:∀ d∈b,d≠c) (e:cl x = a ++ c :: b):(Txt.splitMax x ⟨#[c]⟩ 2).map cl = [a,b]:=by
 have ln:x.length + 1 = a.length + (1 + (b.length + 1)):=by
  rw [← zF,e]; simp; omega
 have hp:(posL c (cl x) (x.length + 1)).take 2 = [a.length]:=by
  rw [ln,e,YF c _ a _ fa,Nat.add_comm 1,Zc,qX c b _ fb]
  simp
 have m:=Zl x c 2 hk
 rw [hp,if_neg (by simp)] at m
 rw [show (2:Int) = ((2:Nat):Int) from rfl,m]
 show [cl (strSub x 0 a.length),cl (strSub x (a.length + 1) x.length)] = [a,b]
 have e1:cl (strSub x 0 a.length) = a:=by
  have:=Yk (x:=x) (a:=[]) (b:=a) (r:=c :: b) (by rw [e]; rfl)
  simpa using this
 have e2:cl (strSub x (a.length + 1) x.length) = b:=by
  have:=Yk (x:=x) (a:=a ++ [c]) (b:=b) (r:=[]) (by rw [e]; simp)
  have l:(a ++ [c]).length = a.length + 1:=by simp
  rw [l,show a.length + 1 + b.length = x.length by omega] at this
  exact this
 rw [e1,e2]
theorem zeh {x:Str} {c:Nat} (hk:strKind x < strKind ⟨#[c]⟩→False) (fa:∀ d∈cl x,d≠c):Txt.splitMax x ⟨#[c]⟩ 2 = [x]:=by
 have m:=Zl x c 2 hk
 rw [qX c _ _ fa,if_pos (by simp)] at m
 exact m
end L2
namespace L2
open PySem PySem.Spec PySem.NumText PyProof.Rows Nm Tx Builtin Builtin.Str
structure KDi (P:Program) (w:World) (K:PySem.W.Frag) (a:Addr) (kvs:List (Key×V)):Prop where
 sm:(a == sysModules) = false
 di:∀ h:Heap,K.In h→∃ vs,KV kvs vs∧h.DictOf (mixKind P w) a vs
section
variable {X:Cx} {o i:Expr} {pos:Pos} {td ty:TE} {a:Addr} {kvs:List (Key×V)}
noncomputable def tKGet (a:Addr) (kvs:List (Key×V)) (td ty:TE):TE:=fun σ H Q=>td σ H fun x H1=>ty σ H1 fun y H2=>∃ k v,x = .ref a∧y = kV k∧valV kvs k = some v∧Q v H2
theorem zfC (D:KDi X.prog X.w X.K a kvs) (ho:PE X o td) (hi:PE X i ty) (hs:NoSl i):PE X (.Subscript o i pos) (tKGet a kvs td ty):=by
 intro pins s σ H Q I h
 refine zcf PySem.F.slot_dict_getitem.lookup hs (thn (ho pins s σ H _ I h) fun u s1 ⟨x,H1,I1,rx,q1⟩=>thn (hi pins s1 σ H1 _ I1 q1) fun iv s2 ⟨y,H2,I2,ry,k,v,ex,ey,l,q2⟩=>?_)
 subst ex ey
 obtain rfl:u = Value.ref a:=rx
 obtain ⟨vs,rel,dd⟩:=D.di _ I2.kIn
 refine ⟨dd.typeIs,?_⟩
 obtain ⟨w',hw,rw'⟩:=RelO.some_of (v:=v) (o:=valueAt vs k) (by rw [← l]; exact rel.val k)
 exact wpAny_getItem_of (zbf ry) dd.mapOf hw ⟨v,H2,I2.tok _,rw',q2⟩
noncomputable def rKIn (a:Addr) (kvs:List (Key×V)) (neg:Bool):R2:=fun x y H Q=>∃ k,y = .ref a∧x = kV k∧Q (.bl (if neg then !(valV kvs k).isSome else (valV kvs k).isSome)) H
theorem zdg (D:KDi X.prog X.w X.K a kvs):OpR X (compareOp .NotIn) (rKIn a kvs true):=by
 intro pins s σ H x y v u Q I rx ry ⟨k,ey,ex,q⟩
 subst ex ey
 obtain rfl:u = Value.ref a:=ry
 obtain ⟨vs,rel,dd⟩:=D.di _ I.kIn
 refine wpAny_notIn_of (zbf rx) D.sm dd.mapOf ?_
 rw [← (rel.val k).isSome_eq]
 exact ⟨.bl (!(valV kvs k).isSome),H,I.tok _,rfl,q⟩
noncomputable def rDIn (neg:Bool):R2:=fun x y H Q=>∃ a o,y = .ref a∧DGet H a x o∧Q (.bl (if neg then !o.isSome else o.isSome)) H
theorem zcE {k:Nat} (hr:Room k X.A):OpR X (compareOp .NotIn) (rDIn true):=by
 intro pins s σ H x y v u Q I rx ry ⟨b,o,ey,g,q⟩
 subst ey
 obtain rfl:u = Value.ref b:=ry
 exact zfw (by have:=hr.un; omega) I g rx fun s3 I3=>⟨.bl (!o.isSome),H,I3,rfl,q⟩
theorem zcq:MtR X "str.split" (fun x vs H Q=>∃ (a b:Str) (k:Int),x = .str a∧vs = [.str b,.int k]∧(decide (k < -(2 ^ 63:Int)) || decide (k ≥ 2 ^ 63)) = false∧b.length≠0∧a.length≤sizeLine∧(partsBetween a (occurrences a b 0 a.length (limitOf a k)) b.length).length≤sizeLine∧(Txt.splitMax a b k).length≤sizeLine∧∀ p,H p = none→Q (.ref p) (upd H p (.lst ((Txt.splitMax a b k).map V.str)))):=by
 intro pins s σ H x vs v us Q I rx rv h
 obtain ⟨a,b,k,rfl,rfl,hk,hb,ha,hz2,hz,q⟩:=h
 obtain ⟨t,rfl⟩:=rx
 obtain ⟨u,u3,rfl,⟨t2,rfl⟩,⟨t3,rfl⟩⟩ : ∃ u u3,us = [u,u3]∧RelV (.str b) u∧RelV (.int k) u3:=by
  match us,rv with
  | [u,u3],.cons r1 (.cons r2 .nil)=>exact ⟨u,u3,rfl,r1,r2⟩
 have hy:(b.length == 0) = false:=by simpa using hb
 have fin:∀ (l:List (Str×Tok)) (m:Nat),l.map (·.1) = Txt.splitMax a b k→EP X pins σ Q (.ref s.heap.objs.size) { s with toks:=m,heap:=s.heap.push { cls:=.type "list",data:=.seq (strValues l).toArray } }:=fun l m e=>by
  refine ⟨.ref s.heap.objs.size,_,I.laid (t':=m) (o:=.lst ((Txt.splitMax a b k).map V.str)) (fun b ob q=>Heap.get?_push_of_some _ q) (Nat.le_refl _) ?_,rfl,q _ (I.hok.fresh (Nat.le_refl _))⟩
  refine ⟨by rw [List.length_map]; exact hz,_,0,?_,Heap.get?_push_size _ rfl⟩
  rw [← e]; exact ZJ l
 cases h1:(decide (a.length < b.length) || decide (strKind a < strKind b))
 ·cases hf:(occurrences a b 0 a.length (limitOf a k)).isEmpty
  ·refine call_meets F.slot_str_split (typeIs_str _ _ _) F.entry_str_split (F.args_str_split_3 _ _ _) (meets_str_split_sep_max a b k t t2 t3 hk h1 hy hf ha hz2) ?_
   show wants _ _ _ { s with toks:=_,heap:=s.heap.push { cls:=.type "list",data:=.seq (strsFrom s.toks (partsBetween a (occurrences a b 0 a.length (limitOf a k)) b.length)).toArray } }
   rw [strsFrom_eq]
   exact fin _ _ ((numbered_texts _ _).trans ((if_neg (ne_true_of_eq_false h1)).trans (if_neg (ne_true_of_eq_false hf))).symm)
  ·exact call_meets F.slot_str_split (typeIs_str _ _ _) F.entry_str_split (F.args_str_split_3 _ _ _) (meets_str_split_max_not_found a b k t t2 t3 hk h1 hy hf) (fin [(a,t)] _ ((if_neg (ne_true_of_eq_false h1)).trans (if_pos hf)).symm)
 ·exact call_meets F.slot_str_split (typeIs_str _ _ _) F.entry_str_split (F.args_str_split_3 _ _ _) (meets_str_split_max_cannot_occur a b k t t2 t3 hk h1) (fin [(a,t)] _ (if_pos h1).symm)
end
theorem zfk {X:Cx} {K:PySem.W.Frag} {tg l:Expr} {tl:TE} (hK:X.K = K) (hl:PE X l tl):PI X tg l (iTup K tl):=hK ▸ zg3 hl
end L2
namespace L2
open PySem PySem.Spec PySem.NumText PyProof.Rows Nm Tx Builtin Builtin.Str
noncomputable def Ite (K:PySem.W.Frag) (a:Addr):It :=
 ⟨fun i H=>∃ xs x,SqL K H a xs∧xs[i]? = some x,
   fun i H v H'=>∃ T x,v = .ref T∧H T = none∧H' = upd H T (.tup [.int (i:Int),x])∧(∀ xs,SqL K H a xs→xs[i]? = some x),
   fun i H=>∃ xs,SqL K H a xs∧xs.length≤i⟩
noncomputable def EnumAt (e it a:Addr) (i:Nat) (h:Heap):Prop:=(∃ old,IsEnum h e it (i:Int) old)∧h.IsListIter it a i
theorem zcQ {P:Program} {w:World} {K:PySem.W.Frag} {elts:List Expr} {k1:Nat} {pos:Pos} (e it a:Addr) (D:e≠it) :
  Turn P w K (.Tuple elts k1 pos) (Ite K a) [e,it] e (EnumAt e it a) where
 mem:=by simp
 obj:=fun i h st c hc=>by
  obtain ⟨⟨old,he⟩,⟨o1,e1,_,d1⟩⟩:=st
  simp only [List.mem_cons,List.not_mem_nil,or_false] at hc
  rcases hc with rfl | rfl
  ·exact ⟨_,he,fun v z=>nomatch z⟩
  ·exact ⟨o1,e1,fun v z=>by rw [d1] at z; cases z⟩
 keep:=fun i h h' st k=>by
  obtain ⟨⟨old,he⟩,h1⟩:=st
  exact ⟨⟨old,k e (by simp) _ he⟩,h1.at fun o e=>k it (by simp) o e⟩
 item:=by
  intro X hP hw hK hc i pins s σ H E I hf st hg
  subst hP hw hK
  obtain ⟨⟨old,he⟩,h1⟩:=st
  obtain ⟨xs,x,q1,ex⟩:=hg
  obtain ⟨its1,rv1,p1,_⟩:=I.list q1
  obtain ⟨u,hu,ru⟩:=rv1.get ex
  refine wpAny_pyNext_enum_item he h1 p1.isList (x:=u) (by simpa using hu) D fun h' z' i1' T' sz keep=>?_
  refine ⟨_,rfl,wpAny_letOwnedTupleGo_enum (s:={ s with heap:=h',toks:=s.toks + 1 }) z' fun h'' z'' sb=>?_⟩
  have hlt:∀ c o,s.heap.get? c = some o→c < s.heap.objs.size:=fun c o e=>Heap.lt_size e
  have elt:=hlt _ _ he
  have i1lt:it < s.heap.objs.size:=let ⟨o,e,_⟩:=h1; hlt _ _ e
  have fe:=hf e (by simp)
  have f1:=hf it (by simp)
  have nT:H s.heap.objs.size = none:=I.fresh
  have keep2:∀ c o,c≠e→c≠it→s.heap.get? c = some o→h''.get? c = some o:=fun c o c1 c2 q=>sb.extBut c o c1 (keep c o c1 c2 q)
  have hT:h''.get? s.heap.objs.size = some { cls:=.type "tuple",data:=.seq #[.int i s.toks,u] }:=sb.extBut _ _ (Nat.ne_of_gt elt) T'
  have TOK:IsTup h'' s.heap.objs.size [.int i s.toks,u].toArray:=⟨_,hT,rfl,_,rfl⟩
  refine ⟨.ref s.heap.objs.size,upd H s.heap.objs.size (.tup [.int (i:Int),x]),?_,rfl,⟨_,x,rfl,nT,rfl,fun zs h=>by rw [I.list_inj h q1]; exact ex⟩,⟨⟨u,?_⟩,?_⟩,?_⟩
  ·have nch:∀ c,H c≠none→c≠e∧c≠it:=fun c hc=>⟨fun q=>hc (by rw [q]; exact fe.1),fun q=>hc (by rw [q]; exact f1.1)⟩
   refine Inv.step (s:=s) (g':=s.gens) (d':=s.drawn) (t':=s.toks + 1) (ch:=[e,it]) (h':=h'') I (fun b hb=>?_) (fun b o _ _ hc q _=>?_) (fun b o _ _ hc q _=>⟨o.slots,?_⟩) (fun b o _ q n=>?_) (fun b o hc q=>⟨o,?_⟩) (fun b xs q=>?_) (fun b o v q=>?_) (fun b ps q=>⟨#[],?_⟩) (fun m hm=>?_) (fun b o q=>?_) I.bare
   ·simp only [List.mem_cons,List.not_mem_nil,or_false] at hb
    rcases hb with rfl | rfl
    ·exact ⟨fe.2.2.2.1,fe.2.1,fe.2.2.2.2.1,fe.2.2.2.2.2⟩
    ·exact ⟨f1.2.2.2.1,f1.2.1,f1.2.2.2.2.1,f1.2.2.2.2.2⟩
   ·simp only [List.mem_cons,List.not_mem_nil,or_false,not_or] at hc
    exact keep2 b o hc.1 hc.2 q
   ·simp only [List.mem_cons,List.not_mem_nil,or_false,not_or] at hc
    exact keep2 b o hc.1 hc.2 q
   ·rw [zw (Nat.ne_of_lt (Heap.lt_size q))]; exact n
   ·simp only [List.mem_cons,List.not_mem_nil,or_false,not_or] at hc
    exact keep2 b o hc.1 hc.2 q
   ·rw [zw (zB q nT)]; exact q
   ·rw [zw (zB q nT)]; exact q
   ·rw [zw (zB q nT)]; simpa using q
   ·obtain ⟨o,es,ep,ho,r⟩:=hm
    exact ⟨o,es,ep,keep2 _ o (Ne.symm fe.2.1) (Ne.symm f1.2.1) ho,r⟩
   ·by_cases hb:b = s.heap.objs.size
    ·subst hb
     rw [zf] at q
     cases q
     exact ⟨by show 2≤sizeLine; decide,[.int i s.toks,u],.cons ⟨_,rfl⟩ (.cons ru .nil),TOK⟩
    ·rw [zw hb] at q
     refine (I.hok b o q).stay (fun c v hc q'=>?_) (fun c q'=>by rw [zw (zB q' nT)]; exact q') fun c xs q'=>by rw [zw (zB q' nT)]; exact q'
     have hne:H c≠none:=by
      rcases hc with rfl | hc
      ·rw [q]; exact fun z=>nomatch z
      ·rw [hc]; exact fun z=>nomatch z
     obtain ⟨c1,c2⟩:=nch c hne
     exact keep2 c v c1 c2 q'
  ·exact z''
  ·exact i1'.at fun o q=>sb.extBut _ _ (Ne.symm D) q
  ·intro b hb
   rw [zw ?_]
   ·exact (hf b hb).1
   ·simp only [List.mem_cons,List.not_mem_nil,or_false] at hb
    rcases hb with rfl | rfl
    ·exact Nat.ne_of_lt elt
    ·exact Nat.ne_of_lt i1lt
 done:=by
  intro X hP hw hK hc i pins s σ H E I hf st hg
  subst hP hw hK
  obtain ⟨⟨old,he⟩,h1⟩:=st
  obtain ⟨xs,q1,hx⟩:=hg
  obtain ⟨its1,rv1,p1,_⟩:=I.list q1
  have l1:=rv1.length
  have f1:=hf it (by simp)
  refine wpAny_pyNext_enum_end (I.ok.hd hc) he h1 p1.isList (by simp; omega) fun h' keep=>⟨rfl,?_⟩
  have nch:∀ c,H c≠none→c≠it:=fun c hc q=>hc (by rw [q]; exact f1.1)
  refine Inv.step (s:=s) (g':=s.gens) (d':=s.drawn) (t':=s.toks) (ch:=[it]) (h':=h') I (fun b hb=>?_) (fun b o _ _ hc q _=>?_) (fun b o _ _ hc q _=>⟨o.slots,?_⟩) (fun b o _ q n=>n) (fun b o hc q=>⟨o,?_⟩) (fun b xs q=>q) (fun b o v q=>q) (fun b ps q=>⟨#[],by simpa using q⟩) (fun m hm=>?_) (fun b o q=>?_) I.bare
  ·rw [List.mem_singleton] at hb
   subst hb
   exact ⟨f1.2.2.2.1,f1.2.1,f1.2.2.2.2.1,f1.2.2.2.2.2⟩
  ·rw [List.mem_singleton] at hc
   exact keep b o hc q
  ·rw [List.mem_singleton] at hc
   exact keep b o hc q
  ·rw [List.mem_singleton] at hc
   exact keep b o hc q
  ·obtain ⟨o,es,ep,ho,r⟩:=hm
   exact ⟨o,es,ep,keep _ o (Ne.symm f1.2.1) ho,r⟩
  ·refine (I.hok b o q).stay (fun c v hc q'=>?_) (fun c q=>q) fun c xs q=>q
   have hne:H c≠none:=by
    rcases hc with rfl | hc
    ·rw [q]; exact fun z=>nomatch z
    ·rw [hc]; exact fun z=>nomatch z
   exact keep c v (nch c hne) q'
 self:=fun _ _ _ _ _ st h=>by obtain ⟨⟨old,he⟩,_⟩:=st; exact wpAny_pyIter_enum he h
section
variable {X:Cx}
noncomputable def iEnum (K:PySem.W.Frag) (ta:TA):TI:=fun σ H R=>ta σ H fun vs H1=>∃ a xs,vs = [.ref a]∧SqL K H1 a xs∧R (Ite K a) H1
theorem zgb {a:Expr} {ta:TA} {p pos:Pos} {elts:List Expr} {k1:Nat} {tpos:Pos} (hg:Gl X "enumerate") (hm:X.mg "enumerate" = none) (ha:PA X [a] ta) (hs:starEach [a] X.env = [(false,eval a X.env)]:=by rfl) :
  PI X (.Tuple elts k1 tpos) (.Call (.Name "enumerate" p) [a] [] pos) (iEnum X.K ta):=by
 intro pins s σ H R I h
 refine wpAny_Call_Name_kw (Yi I hg hm XJ ?_)
 refine PyProof.Rows.callWith_type1 (thn (ha pos pins s σ H _ I h) fun us s1 ⟨vs,H1,I1,r1,q1⟩=>?_) (by rw [hs]; rfl) (by rfl)
 obtain ⟨a1,xs,rfl,h1,q⟩:=q1
 obtain ⟨u,rfl,ra⟩:=vals1 r1
 cases ra
 obtain ⟨its1,rv1,p1,_⟩:=I1.list h1
 refine call_enumerate_list p1.isList fun h' hz hi1 hsz keep=>?_
 have I2:Inv X pins σ H1 { s1 with heap:=h' }:=I1.kept (t':=s1.toks) keep
 refine wpAny_pyIter_enum (s:={ s1 with heap:=h' }) hz ?_
 refine ⟨_,_,_,_,H1,rfl,I2,zcQ (s1.heap.objs.size + 1) s1.heap.objs.size a1 (Nat.succ_ne_self _),⟨⟨_,hz⟩,hi1⟩,fun b hb=>?_,q⟩
 have hb':s1.heap.objs.size≤b:=by
  simp only [List.mem_cons,List.not_mem_nil,or_false] at hb
  rcases hb with rfl | rfl <;> omega
 exact I1.fpOk hb' (I1.hok.fresh hb')
end
theorem zen {K:PySem.W.Frag} {a:Addr} {xs:List V} {g:TG} {tb:TS} {D:Ends} {σ:St} {H:Hp} (Pv:Nat→St→Hp→Prop) (h0:Pv 0 σ H) (hl:∀ i σ H,i≤xs.length→Pv i σ H→SqL K H a xs)
  (hs:∀ (i:Nat) (x:V) (T:Addr) (σ:St) (H:Hp),xs[i]? = some x→H T = none→Pv i σ H→g (.ref T) σ (upd H T (.tup [.int (i:Int),x])) fun σ2 H2=>tb { D with nx:=Pv (i + 1),ct:=Pv (i + 1),bk:=D.nx } σ2 H2) (hd:∀ σ H,Pv xs.length σ H→D.nx σ H) :
  ∃ W:Nat→Nat→St→Hp→Prop,(∃ m,W 0 m σ H)∧∀ i m σ H,W i m σ H →
   ((Ite K a).stop i H∧D.nx σ H)∨((Ite K a).go i H∧∃ N:St→Hp→Prop,(∀ σ' H',N σ' H'→∃ m',m' < m∧W (i + 1) m' σ' H')∧∀ x H',(Ite K a).yld i H x H'→g x σ H' fun σ2 H2=>tb { D with nx:=N,ct:=N,bk:=D.nx } σ2 H2):=by
 refine ⟨fun i m σ H=>m = xs.length - i∧i≤xs.length∧Pv i σ H,⟨xs.length,by simp,Nat.zero_le _,h0⟩,?_⟩
 rintro i m σ H ⟨rfl,hi,p⟩
 have q1:=hl i σ H hi p
 by_cases hlt:i < xs.length
 ·refine .inr ⟨⟨xs,xs[i],q1,by simp [hlt]⟩,Pv (i + 1),fun σ' H' p'=>⟨xs.length - (i + 1),by omega,rfl,hlt,p'⟩,fun x H' y=>?_⟩
  obtain ⟨T,u,rfl,hT,rfl,y1⟩:=y
  exact hs i u T σ _ (y1 xs q1) hT p
 ·have e:i = xs.length:=by omega
  subst e
  exact .inl ⟨⟨xs,q1,Nat.le_refl _⟩,hd σ H p⟩
theorem YG {k:Nat} {A:Around} (hr:Room k A):A.units + 1 < cLine:=by have:=hr.un; omega
end L2
namespace L2
open PySem PySem.Spec PySem.NumText PyProof.Rows Nm Tx Builtin Builtin.Str
section
variable {X:Cx}
theorem zge:MtR X "str.find" (fun x vs H Q=>∃ a b,x = .str a∧vs = [.str b]∧Q (.int (Txt.find a b)) H):=by
 intro pins s σ H x vs v us Q I rx rv h
 obtain ⟨a,b,rfl,rfl,q⟩:=h
 obtain ⟨t,rfl⟩:=rx
 obtain ⟨u,rfl,t2,rfl⟩:=vals1 rv
 exact SC.find ⟨.int _,H,I.tok _,⟨_,rfl⟩,q⟩
theorem zdS:MtR X "str.upper" (fun x vs H Q=>∃ a,x = .str a∧vs = []∧tooLong (Txt.upper a).length = false∧Q (.str (Txt.upper a)) H):=by
 intro pins s σ H x vs v us Q I rx rv h
 obtain ⟨a,rfl,rfl,hp,q⟩:=h
 obtain ⟨t,rfl⟩:=rx
 obtain rfl:us = []:=by cases rv; rfl
 exact SC.upper hp ⟨.str _,H,I.tok _,⟨_,rfl⟩,q⟩
end
end L2
namespace L2
open PySem PySem.Spec PySem.NumText PyProof.Rows Nm Tx Builtin Builtin.Str
theorem Yl {x:Str} {c:Nat} {a r:List Nat} (fa:∀ d∈a,d≠c) (e:cl x = a ++ c :: r):cl (Txt.partition x ⟨#[c]⟩).1 = a:=by
 have lx:x.length + 1 = a.length + (r.length + 1 + 1):=by rw [← zF,e,List.length_append,List.length_cons]; omega
 have p:occurrences x ⟨#[c]⟩ 0 x.length 1 = [a.length]:=by
  rw [zbW,lx,e,YF c (c :: r) a _ fa,Zc,List.map_cons,List.take_succ_cons]
  rfl
 unfold Txt.partition
 rw [p]
 have:=Yk (x:=x) (a:=[]) (b:=a) (r:=c :: r) e
 rw [show ([]:List Nat).length = 0 from rfl,Nat.zero_add] at this
 exact this
theorem zdx {x:Str} {c:Nat} (fa:∀ d∈cl x,d≠c):(Txt.partition x ⟨#[c]⟩).1 = x:=by
 have p:occurrences x ⟨#[c]⟩ 0 x.length 1 = []:=by rw [zbW,qX c _ _ fa]; rfl
 unfold Txt.partition
 rw [p]
theorem zbk {x:Str} {c:Nat} {w:Str} {ws:List Str} (fw:∀ d∈cl w,d≠c) (e:cl x = joinN [c] ((w :: ws).map cl)):(Txt.partition x ⟨#[c]⟩).1 = w:=by
 cases ws with
 | nil =>
  have e:cl x = cl w:=e
  rw [xD e]
  exact zdx fw
 | cons v r =>
  have e:cl x = cl w ++ [c] ++ joinN [c] ((v :: r).map cl):=e
  exact xD (Yl (r:=joinN [c] ((v :: r).map cl)) fw (by rw [e,List.append_assoc]; rfl))
theorem YW (x:Str):strKind x < strKind ⟨#[32]⟩→False:=by
 rw [show strKind ⟨#[32]⟩ = 1 by decide +kernel]
 intro h
 unfold Builtin.Str.strKind at h
 repeat (split at h <;> try omega)
end L2
namespace L2
open PySem PySem.Spec PyProof.Rows Nm
structure Di (K:PySem.W.Frag) (mg:Str→Option Value) (C:Addr) (x qual:Str) (ps:List Str) (st:Stmt):Prop where
 ex:∃ (f:Addr) (fd:FuncData),Fun K "__init__" qual st f fd∧Mk K C f∧mg x = some (.ref C)∧Binds K fd ps []
structure Mi (P:Program) (w:World) (K:PySem.W.Frag) (mg:Str→Option Value) (base:Heap) (C:Addr) (x:Str) (k:Nat) (ps:List Str) (sp:Sp):Prop where
 ex:∃ (f:Addr) (fd:FuncData),FnOk P w K mg base (CX1 P w) k f fd ps sp∧Mk K C f∧mg x = some (.ref C)∧Binds K fd ps []
section
variable {P:Program} {w:World} {K:PySem.W.Frag} {mg:Str→Option Value} {base:Heap} {C:Addr}
theorem Di.mi {x qual:Str} {st:Stmt} {N ps:List Str} {k:Nat} {sp:Sp} (D:Di K mg C x qual ps st) (S:FnScope N ps (defScope st)) (len:∀ vs H Q E,sp vs H Q E→vs.length = ps.length)
  (hbody:∀ (f:Addr) (cdv:Value) (A:Around) (outer:List Env) (s:Shared) (H:Hp) (vs:List V) (Q:VK) (E:XK),Room k (A.deeper (envOfC qual (defScope st) s.heap.objs.size f cdv))→sp vs H Q E →
   ∃ t,PSs (cxOf (CX1 P w) P w K mg base N qual (defScope st) f cdv A outer s H E) (defBody st) t∧t { nx:=fun _ H'=>Q .non H',rt:=Q } (start N vs) H):Mi P w K mg base C x (k + 1) ps sp:=by
 obtain ⟨f,fd,F,hm,hx,hb⟩:=D.ex
 obtain ⟨oc,od,kV,doc,pm,an,cdv,ct,osl,rfl,lk,hcd⟩:=F.ex
 exact ⟨f,_,zdX lk hcd S len fun A outer s H vs Q E hr hsp=>hbody f cdv A outer s H vs Q E hr hsp,hm,hx,hb⟩
theorem zhI {x qual:Str} {ps:List Str} {st:Stmt} {f:Addr} {oc:Value} {od an:Option Addr} {osl:Array (Option Value)} {kV doc pm cdv ct:Value} (hx:mg x = some (.ref C)) (M:Mk K C f)
  (l:K.lookup f = some ⟨oc,od,.func (PySem.W.fnOf "__init__" qual (defArgs st) (defBody st) (defScope st) .none kV doc pm an cdv ct),osl⟩)
  (c:PySem.W.codeIn K cdv qual = true) (k:PySem.W.keepIn K (.ref f) = true)
  (hb:∀ (kV doc pm:Value) (an:Option Addr) (cdv ct:Value) (us:List Value),us.length = ps.length→bindArgs (PySem.W.fnOf "__init__" qual (defArgs st) (defBody st) (defScope st) .none kV doc pm an cdv ct) ⟨us,[]⟩ = pure (ps.zip us)):Di K mg C x qual ps st:=by
 have F:=QS (st:=st) l c k
 exact ⟨f,_,F,M,hx,F.binds hb⟩
end
section
variable {X:Cx} {k j:Nat} {C:Addr} {ps:List Str} {sp:Sp} {x:Str} {p pos:Pos}
theorem zgK (D:Mi X.prog X.w X.K X.mg X.base C x k ps sp) (hr:Room j X.A) (hg:Gl X x) (hj:k + 1≤j:=by decide) (hdb:(x == ("__debug__" : Str)) = false:=by decide):PE X (.Call (.Name x p) [] [] pos) (tMake C sp [] E0 tNil):=by
 obtain ⟨f,fd,F,M,hm,hb⟩:=D.ex
 exact zdP M F (hr.mono hj) hg hm hb .nil pass1 hdb
end
end L2
namespace L2
open PySem PySem.Spec PyProof.Rows
theorem za7 {β:Type} {p:Program} {N:Nat} {lk:PySem.W.Frag→β} {val:World→β} (e:PySem.W.opening p = PySem.W.plainProg p.main.scope.names) (hN:Nat.ble 600 N = true) (f:∀ s,fenceModules? p s = some s)
  (h:BehindW p N lk val) :
  PySem.W.LeftO p (lawOnly p) (looseOf p) (fun _=>true) (fun s=>lk (fragH s.heap)) val N:=fun w=>by
 obtain ⟨⟨hp,gs,d,k,os⟩,e1,e2⟩:=Option.map_eq_some_iff.mp (PySem.W.boot_open e hN f w)
 obtain ⟨rfl,rfl,rfl,rfl⟩ : hp = PySem.W.boot_heap w.params∧gs = #[]∧d = PySem.W.boot_drawn∧k = PySem.W.boot_toks:=by simpa using e2
 obtain ⟨z1,z2,z3⟩:=zcG w
 have zs:=h.st w os
 have zn:=h.sn w os
 have zl:=h.lk w os
 unfold seenT at zn
 unfold runT at zs zn zl
 rw [← PySem.W.Fast.te14082659384304107361,← PySem.W.Fast.te14364793385576792824] at zs zn zl
 rw [← PySem.W.Fast.te4187177175401517315] at zn
 obtain ⟨s₁,er,es⟩:=Option.map_eq_some_iff.mp zs
 rw [er] at zn zl
 unfold statT at es
 unfold PySem.W.openEnds
 rw [e1]
 show (PySem.W.topFrom treeTable p w N _).map _ = _
 unfold PySem.W.topFrom
 dsimp only
 rw [z1,z2,z3,er]
 show ((match PySem.W.staticsOk (importedModules p.main.body) (PySem.W.boot_heap w.params) s₁.heap && PySem.W.namesBound p s₁.heap && PySem.W.gensDone s₁ && PySem.W.laidKept (PySem.W.boot_heap w.params) s₁.heap with | true=>some s₁ | false=>none).map _:Option _) = _
 rw [es]
 exact congrArg some (Prod.ext (Option.some.inj zn) (Option.some.inj zl))
theorem QC {β:Type} {l:PySem.W.OpenLaw} (k N:Nat) (lk:PySem.W.Frag→β) (val:World→β) (ws:PySem.W.Fast.tw9446332074065402090 l = true) (hl:l.name = "law") (hn:l.most = some 63) (hwr:l.writes = false)
  (e:PySem.W.opening l.prog = PySem.W.plainProg l.prog.main.scope.names) (hN:Nat.ble 600 N = true) (f:∀ s,fenceModules? l.prog s = some s)
  (h:BehindW l.prog N lk val)
  (hd:PySem.W.defOf (lawOnly l.prog) "law" = some (lawRec l.prog,[])) (hp:l.prog.theDef "law" = some ((lawRec l.prog).params,(lawRec l.prog).body,(lawRec l.prog).scope))
  (hk:PySem.W.kwWritten? (lawRec l.prog).params.kwonlyargs (lawRec l.prog).params.kw_defaults = some []) (hdf:(lawRec l.prog).params.defaults = []) (hnm:(lawRec l.prog).name = "law")
  (ok:(PySem.W.chainsOk (lawOnly l.prog) && PySem.W.opensWell l.prog && (PySem.W.frees l.row.toRowW && l.row.within.isEmpty)) = true) (hb:l.prog.bare) (hw:l.row.toRowW.promised) (hi:PyProof.Rows.importsNone (lawOnly l.prog) = true) (hr:Room k callerA)
  (F:∀ (w:World) (mg:Str→Option Value) (fa:Addr) (h:Heap) (K:PySem.W.Frag),K.In h→lk K = val w→h.Ns mainGlobals mg→mg "law" = some (.ref fa) →
   ∃ fd:FuncData,(∀ (s:Shared) (u:Value),BindsTo s fd ⟨[u],[]⟩ [("_law_script",u)])∧∀ base:Heap,K.In base→base.Ns mainGlobals mg→base.NoSeer→FnOk l.prog w K mg base CX0 k fa fd ["_law_script"] (spLaw K)):l.Holds:=by
 rw [← PySem.W.Fast.te9446332074065402090] at ws
 refine PySem.W.holds_law ws fun said=>?_
 have hl':l.row.toRowW.name = "law" := hl
 refine PySem.W.holds_open (r:=l.row) (q:=lawOnly l.prog) (loose:=looseOf l.prog) (Xt:=fun _=>true) (XP:=fun _ _=>True) (Yf:=fun s=>lk (fragH s.heap)) (Ya:=val)
  (YP:=fun w h=>∃ K:PySem.W.Frag,K.In h∧lk K = val w) (d:=lawRec l.prog) (kwd:=[]) (N:=N) (za7 e hN f h) (fun w s e=>⟨_,zed _,e⟩) (fun w h h' y kp=>?_) (fun _ _=>True.intro) (fun _ _ _ _ _=>True.intro)
  (by rw [hl']; exact hd) (by rw [hl']; exact hp) hk (fun s _=>PySem.W.recFacts_of (R:=[]) rfl) ?_ said ok hb hw ?_
 ·obtain ⟨K,i,q⟩:=y
  exact ⟨K,i.keeps kp,q⟩
 ·show (!l.writes || _) = true
  rw [hwr]; rfl
 ·refine Att.QE hn hdf fun w s₀ s₁ mg mb fa o pm cd doc a vs ns G Y ho hd hcd hmg hobj hints hlen hg=>?_
  obtain ⟨K,KX,q⟩:=Y
  rw [hnm] at hmg
  obtain ⟨fd,hb,hF⟩:=F w mg fa _ K KX q G.T.g hmg
  exact zeb KX G.T.g G.T.b G.T.builtins G.T.nolimit (G.T.seer hi) hg hobj hints (Nat.le_trans hlen (by decide)) hr hF hb (fun H hO hS=>⟨a,ns,rfl,hS,hlen,fun _=>rfl⟩) fun H e s' z=>z
theorem zbw {K:PySem.W.Frag} {C:Addr} {m qual:Str} {st:Stmt} (e:mtSh K C m qual = mtEx m qual st):∃ (f:Addr) (oc:Value) (od an:Option Addr) (osl:Array (Option Value)) (kV doc pm cdv ct:Value),
  PySem.W.findIn K (.ref C) m = some (some (.ref f))∧K.lookup f = some ⟨oc,od,.func (PySem.W.fnOf m qual (defArgs st) (defBody st) (defScope st) .none kV doc pm an cdv ct),osl⟩ ∧
  PySem.W.codeIn K cdv qual = true∧PySem.W.keepIn K (.ref f) = true∧PySem.W.isFn K (.ref f) = true:=by
 unfold mtSh mtEx at e
 split at e
 ·rename_i f hf
  split at e
  ·rename_i oc od fd osl hl
   obtain ⟨nm,qn,pa,bo,sc,gl,cl,de,kd,dc,pm,an,co,ct,bi⟩:=fd
   simp only [Option.some.injEq,Prod.mk.injEq,FuncData.mk.injEq] at e
   obtain ⟨⟨rfl,rfl,rfl,rfl,rfl,rfl,rfl,rfl,-,-,-,-,-,-,rfl⟩,e1,e2,e3⟩:=e
   exact ⟨f,oc,od,an,osl,kd,dc,pm,co,ct,hf,hl,e1,e2,e3⟩
  ·cases e
 ·cases e
section
variable {K:PySem.W.Frag} {mg:Str→Option Value} {h:Heap}
theorem JB {x:Str} {a:Addr} (X:K.In h) (G:h.Ns mainGlobals mg) (e:adSh K x = some a):mg x = some (.ref a):=by
 unfold adSh at e
 split at e
 ·rename_i b hn
  cases e
  exact PySem.W.mg_of X G hn
 ·cases e
theorem zaP {x s:Str} (X:K.In h) (G:h.Ns mainGlobals mg) (e:stSh K x = some s):∃ t,mg x = some (.str s t):=by
 unfold stSh at e
 split at e
 ·rename_i y t hn
  cases e
  exact ⟨t,PySem.W.mg_of X G hn⟩
 ·cases e
theorem zaD {C:Addr} {m qual:Str} {ps:List Str} {st:Stmt} (e:mtSh K C m qual = mtEx m qual st)
  (hb:∀ (kV doc pm:Value) (an:Option Addr) (cdv ct:Value) (us:List Value),us.length = ps.length→bindArgs (PySem.W.fnOf m qual (defArgs st) (defBody st) (defScope st) .none kV doc pm an cdv ct) ⟨us,[]⟩ = pure (ps.zip us)):Dm K C m qual ps st:=by
 obtain ⟨f,oc,od,an,osl,kV,doc,pm,cdv,ct,a,l,c,k,i⟩:=zbw e
 exact zh1 a i l c k hb
theorem zhO {C:Addr} {x qual:Str} {ps:List Str} {st:Stmt} (hx:mg x = some (.ref C)) (hm:PySem.W.makesIn K C = true) (hk:PySem.W.keepIn K (.ref C) = true) (e:mtSh K C "__init__" qual = mtEx "__init__" qual st)
  (hb:∀ (kV doc pm:Value) (an:Option Addr) (cdv ct:Value) (us:List Value),us.length = ps.length→bindArgs (PySem.W.fnOf "__init__" qual (defArgs st) (defBody st) (defScope st) .none kV doc pm an cdv ct) ⟨us,[]⟩ = pure (ps.zip us)):Di K mg C x qual ps st:=by
 obtain ⟨f,oc,od,an,osl,kV,doc,pm,cdv,ct,a,l,c,k,i⟩:=zbw e
 exact zhI hx ⟨hm,a,i,hk⟩ l c k hb
end
theorem zhT {K:PySem.W.Frag} {w:World} {x:Str} {l:List (Str×Int)} (P:Program) (e:dcSh K x = dcEx w l) (nd:(l.map fun p=>(Sum.inr p.1:Key)).Nodup):∃ a,adSh K x = some a∧KDi P w K a (l.map fun p=>(Sum.inr p.1,V.int p.2)):=by
 unfold dcSh dcEx at e
 split at e
 ·rename_i a ha
  split at e
  ·rename_i c d es ep sl hl
   simp only [Option.some.injEq,Prod.mk.injEq] at e
   obtain ⟨rfl,rfl,rfl,e1,e2⟩:=e
   refine ⟨a,ha,e2,fun h X=>?_⟩
   have go:∀ (es:List DictEntry) (l:List (Str×Int)),es.map (fun e=>(e.hash,keySh e.key,intSh e.val)) = l.map (fun p=>(hashStr w p.1,some p.1,some p.2)) →
     ∃ vs:List (Key×Value),KV (l.map fun p=>(Sum.inr p.1,V.int p.2)) vs∧Pairs (mixKind P w) es vs∧vs.map (·.1) = l.map (fun p=>(Sum.inr p.1:Key))∧∀ e∈es,∃ k,(mixKind P w).is k e.key = true∧e.hash = (mixKind P w).hash k:=by
    intro es
    induction es with
    | nil =>
     intro l e
     cases l with
     | nil=>exact ⟨[],.nil,.nil,rfl,fun _ h=>nomatch h⟩
     | cons _ _=>cases e
    | cons en es ih =>
     intro l e
     cases l with
     | nil=>cases e
     | cons p l =>
      obtain ⟨e1,e2⟩:=List.cons.inj e
      obtain ⟨vs,v1,v2,v3,v4⟩:=ih l e2
      obtain ⟨hh,hk⟩:=Prod.mk.inj e1
      obtain ⟨hk,hv⟩:=Prod.mk.inj hk
      obtain ⟨hs,ky,vl⟩:=en
      dsimp only at hh hk hv
      obtain ⟨t,rfl⟩ : ∃ t,ky = .str p.1 t:=by
       cases ky <;> simp [keySh] at hk
       exact ⟨_,by rw [hk]⟩
      obtain ⟨t2,rfl⟩ : ∃ t,vl = .int p.2 t:=by
       cases vl <;> simp [intSh] at hv
       exact ⟨_,by rw [hv]⟩
      have his:(mixKind P w).is (Sum.inr p.1) (.str p.1 t) = true:=ZF P w p.1 t
      refine ⟨(Sum.inr p.1,.int p.2 t2) :: vs,.cons ⟨rfl,⟨t2,rfl⟩⟩ v1,.cons his rfl v2,by rw [List.map_cons,List.map_cons,v3],fun e he=>?_⟩
      rcases List.mem_cons.mp he with rfl | he
      ·exact ⟨Sum.inr p.1,his,hh⟩
      ·exact v4 e he
   obtain ⟨vs,v1,v2,v3,v4⟩:=go es.toList l e1
   exact ⟨vs,v1,_,es,ep,X _ _ hl,⟨rfl,rfl,rfl⟩,rfl,fun e he=>v4 e (by simpa using he),v2,by rw [v3]; exact nd⟩
  ·cases e
 ·cases e
theorem zhL {K:PySem.W.Frag} {x:Str} {l:List Int} (e:tuSh K x = some (.type "tuple",l.map some,true)):∃ a,adSh K x = some a∧∀ H,SqT K H a (l.map V.int):=by
 unfold tuSh at e
 split at e
 ·rename_i a ha
  split at e
  ·rename_i c d its n sl hl
   simp only [Option.some.injEq,Prod.mk.injEq] at e
   obtain ⟨rfl,e1,e2⟩:=e
   refine ⟨a,ha,fun H=>.inr ⟨_,its,n,hl,rfl,rfl,Nat.le_trans (Nat.le_of_ble_eq_true e2) (by decide),?_⟩⟩
   have go:∀ (us:List Value) (l:List Int),us.map intSh = l.map some→Vals (l.map V.int) us:=by
    intro us
    induction us with
    | nil =>
     intro l e
     cases l with
     | nil=>exact .nil
     | cons _ _=>cases e
    | cons u us ih =>
     intro l e
     cases l with
     | nil=>cases e
     | cons i l =>
      obtain ⟨e1,e2⟩:=List.cons.inj e
      obtain ⟨t,rfl⟩ : ∃ t,u = .int i t:=by
       cases u <;> simp [intSh] at e1
       exact ⟨_,by rw [e1]⟩
      exact .cons ⟨t,rfl⟩ (ih l e2)
   exact go _ _ e1
  ·cases e
 ·cases e
end L2
namespace L2
open PySem PySem.Spec PyProof.Rows Nm
end L2
namespace L2
open PySem PySem.Spec PyProof.Rows Nm
set_option maxHeartbeats 4000000
end L2
namespace La
open Lean.Grind Nm
end La
namespace L2
open PySem PySem.Spec PyProof.Rows Nm
theorem Yg {m:Nat}:∀ (xs:List Nb),(∀ x∈xs,nsm m x)→∃ D:Nat,D≠0∧D≤2 ^ (xs.length * m)∧∀ r:Rat,Nb.q r∈xs→r.den ∣ D
 | [],_=>⟨1,by decide,by simp,fun r h=>(nomatch h)⟩
 | x :: xs,h=>by
  obtain ⟨D,d0,dl,dd⟩:=Yg xs fun y hy=>h y (List.mem_cons_of_mem _ hy)
  have pm:2 ^ ((x :: xs).length * m) = 2 ^ (xs.length * m) * 2 ^ m:=by rw [List.length_cons,Nat.add_mul,Nat.one_mul,Nat.pow_add]
  cases x with
  | z i =>
   refine ⟨D,d0,?_,fun r hr=>?_⟩
   ·rw [pm]
    exact Nat.le_trans dl (Nat.le_mul_of_pos_right _ (Nat.two_pow_pos m))
   ·rcases List.mem_cons.mp hr with e | e
    ·cases e
    ·exact dd r e
  | q s =>
   have hs:s.den < 2 ^ m:=by
    have:=(h (.q s) List.mem_cons_self).2
    unfold Sm at this
    omega
   refine ⟨D * s.den,Nat.mul_ne_zero d0 s.den_nz,?_,fun r hr=>?_⟩
   ·rw [pm]
    exact Nat.mul_le_mul dl (Nat.le_of_lt hs)
   ·rcases List.mem_cons.mp hr with e | e
    ·cases e; exact Nat.dvd_mul_left _ _
    ·exact Nat.dvd_trans (dd r e) (Nat.dvd_mul_right _ _)
theorem zel {k:Int} {n m:Nat} {xs:List Nb} (m1:1≤m) (h:ROk k n m xs):La.rowB ((n + 1) * m) xs:=by
 obtain ⟨D,d0,dl,dd⟩:=Yg xs h.sz
 rw [h.len] at dl
 have pm:2 ^ ((n + 1) * m) = 2 ^ (n * m) * 2 ^ m:=by rw [Nat.add_mul,Nat.one_mul,Nat.pow_add]
 have m2:2≤2 ^ m:=Nat.pow_le_pow_right (n:=2) (by decide) m1
 have p1:0 < 2 ^ (n * m):=Nat.two_pow_pos _
 refine ⟨D,d0,?_,fun x hx=>?_⟩
 ·rw [pm]
  calc D≤2 ^ (n * m):=dl
   _ < 2 ^ (n * m) * 2:=by omega
   _≤2 ^ (n * m) * 2 ^ m:=Nat.mul_le_mul_left _ m2
 ·cases x with
  | z i=>trivial
  | q r =>
   obtain ⟨c,hc⟩:=dd r hx
   have sr:=h.sz _ hx
   refine ⟨(c:Int) * r.num,?_,?_⟩
   ·have e1:((D:Int):Rat) = ((r.den:Int):Rat) * ((c:Int):Rat):=by rw [hc,Int.natCast_mul,Rat.intCast_mul]
    have e2:r * ((r.den:Int):Rat) = ((r.num:Int):Rat):=La.kfRat.rat r rfl
    rw [e1,Rat.intCast_mul,← e2]
    grind
   ·rw [Int.natAbs_mul]
    have hn:r.num.natAbs < 2 ^ m:=sr.1
    have hc':c≤D:=by
     rw [hc]
     exact Nat.le_mul_of_pos_left _ r.den_pos
    have:((c:Int)).natAbs * r.num.natAbs≤2 ^ (n * m) * (2 ^ m - 1):=Nat.mul_le_mul (by omega) (by omega)
    have e:2 ^ (n * m) * (2 ^ m - 1) = 2 ^ (n * m) * 2 ^ m - 2 ^ (n * m):=by rw [Nat.mul_sub,Nat.mul_one]
    rw [pm]
    omega
end L2
namespace L2
open PySem PySem.Spec PyProof.Rows Nm
end L2
namespace KL
open PySem PySem.Spec PySem.NumText PyProof.Rows L2 Nm Tx
set_option maxHeartbeats 4000000
theorem sc_common_divisor:FnScope ["one", "other", "left", "right", "rest"] ["one", "other"] (defScope yq):=⟨rfl,rfl,rfl,by decide +kernel,rfl,by decide +kernel,by decide +kernel⟩
theorem sc_fraction:FnScope ["top", "bottom", "divisor"] ["top", "bottom"] (defScope jq):=⟨rfl,rfl,rfl,by decide +kernel,rfl,by decide +kernel,by decide +kernel⟩
theorem sc_one_over:FnScope ["prime", "rest", "left", "right", "many_left", "many_right", "whole", "less", "many_less"] ["prime", "rest"] (defScope jz):=⟨rfl,rfl,rfl,by decide +kernel,rfl,by decide +kernel,by decide +kernel⟩
theorem zbV:FnScope ["kind", "whole"] ["kind", "whole"] (defScope Zf):=⟨rfl,rfl,rfl,by decide +kernel,rfl,by decide +kernel,by decide +kernel⟩
theorem zgg:FnScope ["kind", "one", "other"] ["kind", "one", "other"] (defScope QM):=⟨rfl,rfl,rfl,by decide +kernel,rfl,by decide +kernel,by decide +kernel⟩
theorem sc_scaled:FnScope ["kind", "row", "bottom", "part"] ["kind", "row"] (defScope qW):=⟨rfl,rfl,rfl,by decide +kernel,rfl,by decide +kernel,by decide +kernel⟩
theorem JQ:FnScope ["kind", "top", "bottom"] ["kind", "top", "bottom"] (defScope jo):=⟨rfl,rfl,rfl,by decide +kernel,rfl,by decide +kernel,by decide +kernel⟩
theorem JD:FnScope ["one", "other"] ["one", "other"] (defScope xF):=⟨rfl,rfl,rfl,by decide +kernel,rfl,by decide +kernel,by decide +kernel⟩
theorem qq:FnScope ["kind", "one", "other"] ["kind", "one", "other"] (defScope yn):=⟨rfl,rfl,rfl,by decide +kernel,rfl,by decide +kernel,by decide +kernel⟩
theorem zaN:FnScope ["one", "other"] ["one", "other"] (defScope qb):=⟨rfl,rfl,rfl,by decide +kernel,rfl,by decide +kernel,by decide +kernel⟩
theorem sc_image:FnScope ["kind", "table", "row", "right"] ["kind", "table", "row"] (defScope Yu):=⟨rfl,rfl,rfl,by decide +kernel,rfl,by decide +kernel,by decide +kernel⟩
theorem za6:FnScope ["machine"] ["machine"] (defScope jS):=⟨rfl,rfl,rfl,by decide +kernel,rfl,by decide +kernel,by decide +kernel⟩
theorem zaW:FnScope ["kind", "machine", "standing", "inputs"] ["kind", "machine", "standing", "inputs"] (defScope qe):=⟨rfl,rfl,rfl,by decide +kernel,rfl,by decide +kernel,by decide +kernel⟩
theorem zaV:FnScope ["kind", "machine", "standing"] ["kind", "machine", "standing"] (defScope qh):=⟨rfl,rfl,rfl,by decide +kernel,rfl,by decide +kernel,by decide +kernel⟩
theorem sc_run:FnScope ["kind", "machine", "standing", "inputs", "here", "told", "put_in"] ["kind", "machine", "standing", "inputs"] (defScope zdB):=⟨rfl,rfl,rfl,by decide +kernel,rfl,by decide +kernel,by decide +kernel⟩
theorem sc_show_whole:FnScope ["whole", "stretch", "left", "told", "sign"] ["whole"] (defScope xj):=⟨rfl,rfl,rfl,by decide +kernel,rfl,by decide +kernel,by decide +kernel⟩
theorem ZN:FnScope ["kind", "told"] ["kind", "told"] (defScope yU):=⟨rfl,rfl,rfl,by decide +kernel,rfl,by decide +kernel,by decide +kernel⟩
theorem sc_show_table:FnScope ["kind", "table", "rows"] ["kind", "table"] (defScope xp):=⟨rfl,rfl,rfl,by decide +kernel,rfl,by decide +kernel,by decide +kernel⟩
theorem sc_read_whole:FnScope ["word", "figures"] ["word"] (defScope xv):=⟨rfl,rfl,rfl,by decide +kernel,rfl,by decide +kernel,by decide +kernel⟩
theorem sc_read_fraction:FnScope ["word", "halves", "bottom"] ["word"] (defScope yz):=⟨rfl,rfl,rfl,by decide +kernel,rfl,by decide +kernel,by decide +kernel⟩
theorem sc_read_number:FnScope ["kind", "word", "told"] ["kind", "word"] (defScope yY):=⟨rfl,rfl,rfl,by decide +kernel,rfl,by decide +kernel,by decide +kernel⟩
theorem sc_read_table:FnScope ["kind", "text", "table", "width"] ["kind", "text"] (defScope xq):=⟨rfl,rfl,rfl,by decide +kernel,rfl,by decide +kernel,by decide +kernel⟩
theorem sc_words_of:FnScope ["row", "first", "words"] ["row"] (defScope jA):=⟨rfl,rfl,rfl,by decide +kernel,rfl,by decide +kernel,by decide +kernel⟩
theorem ZQ:FnScope ["words"] ["words"] (defScope yW):=⟨rfl,rfl,rfl,by decide +kernel,rfl,by decide +kernel,by decide +kernel⟩
theorem zaR:FnScope ["word"] ["word"] (defScope jX):=⟨rfl,rfl,rfl,by decide +kernel,rfl,by decide +kernel,by decide +kernel⟩
theorem sc_read_kind:FnScope ["word", "told"] ["word"] (defScope xL):=⟨rfl,rfl,rfl,by decide +kernel,rfl,by decide +kernel,by decide +kernel⟩
theorem sc_read_tables:FnScope ["kind", "text", "many", "texts"] ["kind", "text", "many"] (defScope yV):=⟨rfl,rfl,rfl,by decide +kernel,rfl,by decide +kernel,by decide +kernel⟩
theorem JL:FnScope ["table", "rows", "columns"] ["table", "rows", "columns"] (defScope xI):=⟨rfl,rfl,rfl,by decide +kernel,rfl,by decide +kernel,by decide +kernel⟩
theorem sc_read_machine:FnScope ["kind", "text", "tables", "n", "hands", "sights"] ["kind", "text"] (defScope yM):=⟨rfl,rfl,rfl,by decide +kernel,rfl,by decide +kernel,by decide +kernel⟩
theorem XG:FnScope ["kind", "one", "other"] ["kind", "one", "other"] (defScope xK):=⟨rfl,rfl,rfl,by decide +kernel,rfl,by decide +kernel,by decide +kernel⟩
theorem sc__law_mix:FnScope ["_law_cell", "_law_j", "_law_mixed"] ["_law_cell", "_law_j"] (defScope jn):=⟨rfl,rfl,rfl,by decide +kernel,rfl,by decide +kernel,by decide +kernel⟩
theorem sc__law_is_prime:FnScope ["_law_whole", "_law_by"] ["_law_whole"] (defScope yE):=⟨rfl,rfl,rfl,by decide +kernel,rfl,by decide +kernel,by decide +kernel⟩
theorem sc__law_kind:FnScope ["_law_drawn", "_law_found"] ["_law_drawn"] (defScope xV):=⟨rfl,rfl,rfl,by decide +kernel,rfl,by decide +kernel,by decide +kernel⟩
theorem sc__law_names:FnScope ["_law_cell", "_law_letters", "_law_size", "_law_stem", "_law_found", "_law_k"] ["_law_cell"] (defScope xl):=⟨rfl,rfl,rfl,by decide +kernel,rfl,by decide +kernel,by decide +kernel⟩
theorem sc__law_said:FnScope ["_law_desk", "_law_row_here", "_law_told", "_law_error", "e", "_law_found"] ["_law_desk", "_law_row_here"] (defScope xN):=⟨rfl,rfl,rfl,by decide +kernel,rfl,by decide +kernel,by decide +kernel⟩
theorem sc__law_no_row:FnScope ["_law_names_here", "_law_cell", "_law_one", "_law_some"] ["_law_names_here", "_law_cell"] (defScope yT):=⟨rfl,rfl,rfl,by decide +kernel,rfl,by decide +kernel,by decide +kernel⟩
theorem sc__law_no_name:FnScope ["_law_names_here", "_law_cell", "_law_one", "_law_away", "_law_bad", "_law_some"] ["_law_names_here", "_law_cell"] (defScope yL):=⟨rfl,rfl,rfl,by decide +kernel,rfl,by decide +kernel,by decide +kernel⟩
theorem sc__law_no_text:FnScope ["_law_names_here", "_law_cell", "_law_new", "_law_kind_here", "_law_tables", "_law_zeros", "_law_some", "_law_starts"] ["_law_names_here", "_law_cell"] (defScope yN):=⟨rfl,rfl,rfl,by decide +kernel,rfl,by decide +kernel,by decide +kernel⟩
theorem sc__law_row:FnScope ["_law_names_here", "_law_cell", "_law_way"] ["_law_names_here", "_law_cell"] (defScope jD):=⟨rfl,rfl,rfl,by decide +kernel,rfl,by decide +kernel,by decide +kernel⟩
theorem sc__law_looked:FnScope ["_law_desk", "_law_names_here", "_law_turn", "_law_asked", "_law_k"] ["_law_desk", "_law_names_here", "_law_turn"] (defScope yZ):=⟨rfl,rfl,rfl,by decide +kernel,rfl,by decide +kernel,by decide +kernel⟩
theorem sc_law:FnScope ["_law_script", "_law_cells", "_law_total", "_law_kind_here", "_law_names_here", "_law_desk", "_law_rows", "_law_row_here", "_law_cell", "_law_mark"] ["_law_script"] (defScope zdN):=⟨rfl,rfl,rfl,by decide +kernel,rfl,by decide +kernel,by decide +kernel⟩
theorem XU:FnScope ["self"] ["self"] (defScope xH):=⟨rfl,rfl,rfl,by decide +kernel,rfl,by decide +kernel,by decide +kernel⟩
theorem sc_Desk_say:FnScope ["self", "row", "words"] ["self", "row"] (defScope jm):=⟨rfl,rfl,rfl,by decide +kernel,rfl,by decide +kernel,by decide +kernel⟩
theorem sc_Desk_refuse_names:FnScope ["self", "words", "place", "word", "is_new"] ["self", "words"] (defScope zZ):=⟨rfl,rfl,rfl,by decide +kernel,rfl,by decide +kernel,by decide +kernel⟩
theorem jO:FnScope ["self", "word"] ["self", "word"] (defScope yh):=⟨rfl,rfl,rfl,by decide +kernel,rfl,by decide +kernel,by decide +kernel⟩
theorem jF:FnScope ["self", "name", "text"] ["self", "name", "text"] (defScope zW):=⟨rfl,rfl,rfl,by decide +kernel,rfl,by decide +kernel,by decide +kernel⟩
theorem Zs:FnScope ["self", "machine", "words"] ["self", "machine", "words"] (defScope yK):=⟨rfl,rfl,rfl,by decide +kernel,rfl,by decide +kernel,by decide +kernel⟩
theorem sc_Desk_tell_run:FnScope ["self", "machine", "text", "tables", "start", "inputs"] ["self", "machine", "text"] (defScope yC):=⟨rfl,rfl,rfl,by decide +kernel,rfl,by decide +kernel,by decide +kernel⟩
section
variable {P:Program} {w:World} {K:PySem.W.Frag} {mg:Str→Option Value} {base:Heap}
noncomputable def Zv:Sp:=fun vs H Q _=>∃ n:Int,vs = [.int n]∧0≤n∧n < 99∧Q (.bl (primeB n.toNat)) H
theorem yG {a b:Int} (h0:0≤a) (h1:a≤2305843009213693952):IntMulOk a b:=IntMulOk.of_left (intBits_le_64 (by omega) (by omega))
theorem QA (D:Df K mg "_law_is_prime" ["_law_whole"] yE):Kn P w K mg base "_law_is_prime" 1 ["_law_whole"] Zv:=by
 refine D.kn sc__law_is_prime (fun vs H Q E h=>?_) (fun f cdv A outer s H vs Q E hr h=>?_)
 ·obtain ⟨i,rfl,_⟩:=h; rfl
 obtain ⟨n,rfl,h0,h9,q⟩:=h
 refine ⟨_,(zb (zp (i:=1) sc__law_is_prime.nd rfl (.inl rfl) ze) (zb (qa PassesOwn.never (zr zbH (zk ye (pv 1) (pv 1)) (pv 0) (nomark _)) (zb (zV (zr xi (zk zG (pv 0) (pv 1)) ze (nomark _)) (zi (zt zaT)) zx) (zi (zp (i:=1) sc__law_is_prime.nd rfl (.inl rfl) (zk ql (pv 1) ze))))) (zi (zt (xA Qs (pv 0) ze (nomark _)))))),?_⟩
 refine ⟨fun m σ H'=>∃ b,σ = [some (.int n),some (.int b)]∧H' = H∧PrInv n b∧m = (11 - b).toNat,⟨_,2,rfl,rfl,zeg n,rfl⟩,?_⟩
 rintro m σ H' ⟨b,rfl,rfl,inv,rfl⟩
 have b2:=inv.lo
 have b10:=inv.hi
 refine ⟨_,rfl,_,rfl,_,_,rfl,rfl,yG (by omega) (by omega),_,rfl,_,_,rfl,rfl,_,rfl,?_⟩
 refine ite2 (fun c=>?_) (fun c=>?_)
 ·have c':b * b≤n:=of_decide_eq_true c
  refine ⟨_,fun _ _ h=>h,?_⟩
  refine ⟨_,rfl,_,rfl,_,_,rfl,rfl,(by omega:b≠0),rfl,_,rfl,?_⟩
  have em:n.fmod b = n % b:=Int.fmod_eq_emod_of_nonneg n (by omega)
  refine ite2 (fun d=>?_) (fun d=>?_)
  ·have d':V.int (n.fmod b) = V.int 0:=of_decide_eq_true d
   have d2:n % b = 0:=by rw [← em]; exact V.int.inj d'
   have e:=zfl inv h0 h9 c' d2
   rw [e] at q
   exact q
  ·have d':¬ V.int (n.fmod b) = V.int 0:=of_decide_eq_false (Bool.eq_false_iff.mpr d)
   have d2:n % b≠0:=fun z=>d' (by rw [em,z])
   have t:=zfJ inv h0 h9 c' d2
   exact ⟨_,rfl,_,_,rfl,rfl,_,by have:=t.hi; omega,b + 1,rfl,rfl,t,rfl⟩
 ·have c':¬ b * b≤n:=of_decide_eq_false (Bool.eq_false_iff.mpr c)
  refine ⟨_,rfl,_,_,rfl,rfl,?_⟩
  show Q (.bl (decide (1 < n))) H'
  rw [zhD inv h0 h9 (by omega)]
  exact q
noncomputable def zcp:Sp:=fun vs H Q _=>∃ c:Int,vs = [.int c]∧∀ k,KindS k→Q (.int k) H
theorem zf7 (hP:P.given.tree = none) (hS:base.NoSeer) (D:Df K mg "_law_kind" ["_law_drawn"] xV) (Zo:Kn P w K mg base "_law_is_prime" 1 ["_law_whole"] Zv):Kn P w K mg base "_law_kind" 41 ["_law_drawn"] zcp:=by
 refine D.kn sc__law_kind (fun vs H Q E h=>?_) (fun f cdv A outer s H vs Q E hr h=>?_)
 ·obtain ⟨i,rfl,_⟩:=h; rfl
 obtain ⟨c,rfl,q⟩:=h
 refine ⟨_,(zb (zp (i:=1) sc__law_kind.nd rfl (.inl rfl) (zk zG (zk (xJ hr (by decide) hP hS ⟨_,_,rfl,rfl,rfl,rfl,rfl⟩) (pv 0) ze) ze)) (zb (qa PassesOwn.never (PW.pt (pw_and (zr Qs (pv 1) ze (nomark _)) (pw_and1 (jd (xb (zE Zo hr (za (pv 1) zc))))))) (zi (zp (i:=1) sc__law_kind.nd rfl (.inl rfl) (zk QT (pv 1) ze)))) (zi (zt (zk ye (pv 1) (zk zG (pv 0) ze)))))),?_⟩
 refine ⟨_,rfl,_,_,rfl,rfl,(by show (2:Int)≠0; decide),_,_,rfl,rfl,(by show (99:Int)≠0; decide),?_⟩
 have f0:=Int.fmod_nonneg_of_pos (c.fdiv 2) (show (0:Int) < 99 by decide)
 have f9:=Int.fmod_lt_of_pos (c.fdiv 2) (show (0:Int) < 99 by decide)
 refine ⟨fun m σ H'=>∃ g,σ = [some (.int c),some (.int g)]∧H' = H∧0≤g∧g < 99∧m = g.toNat,⟨_,_,rfl,rfl,f0,f9,rfl⟩,?_⟩
 rintro m σ H' ⟨g,rfl,rfl,g0,g9,rfl⟩
 have ends:∀ j:Int,(g = 0∨primeB g.toNat = true)→Q (.int (g * c.fmod 2)) H':=fun _ hg=>by
  have m0:=Int.fmod_nonneg_of_pos c (show (0:Int) < 2 by decide)
  have m1:=Int.fmod_lt_of_pos c (show (0:Int) < 2 by decide)
  rcases hg with hg | hg
  ·rw [hg,Int.zero_mul]; exact q 0 (.inl rfl)
  ·rcases (show c.fmod 2 = 0∨c.fmod 2 = 1 by omega) with e | e
   ·rw [e,Int.mul_zero]; exact q 0 (.inl rfl)
   ·rw [e,Int.mul_one]
    refine q g (.inr ⟨?_,g9,hg⟩)
    rcases (show g = 0∨g = 1∨1 < g by omega) with e | e | e
    ·rw [e] at hg; exact absurd hg (by decide)
    ·rw [e] at hg; exact absurd hg (by decide)
    ·exact e
 refine ⟨_,rfl,_,_,rfl,rfl,_,rfl,?_⟩
 refine ite2 (fun cc=>?_) (fun cc=>?_)
 ·have c':0 < g:=of_decide_eq_true cc
  refine ⟨_,rfl,g,rfl,g0,g9,_,rfl,?_⟩
  cases hp:primeB g.toNat with
  | false =>
   refine iteT ⟨_,fun _ _ h=>h,?_⟩
   exact ⟨_,rfl,_,_,rfl,rfl,_,by omega,g - 1,rfl,rfl,by omega,by omega,rfl⟩
  | true =>
   refine iteF ?_
   exact ⟨_,rfl,_,rfl,_,_,rfl,rfl,(by show (2:Int)≠0; decide),_,_,rfl,rfl,yG g0 (by omega),ends 0 (.inr hp)⟩
 ·have c':¬ 0 < g:=of_decide_eq_false (Bool.eq_false_iff.mpr cc)
  refine iteF ?_
  exact ⟨_,rfl,_,rfl,_,_,rfl,rfl,(by show (2:Int)≠0; decide),_,_,rfl,rfl,yG g0 (by omega),ends 0 (.inl (by omega))⟩
noncomputable def zfy:Sp:=fun vs H Q _=>∃ (a b:Int),vs = [.int a,.int b]∧Q (.int ((Int.gcd a b:Nat):Int)) H
theorem zdo (i:Int):(if i < 0 then -i else i) = (i.natAbs:Int):=by split <;> omega
theorem zhU (D:Df K mg "common_divisor" ["one", "other"] yq) (m_abs:mg "abs" = none):Kn P w K mg base "common_divisor" 1 ["one", "other"] zfy:=by
 refine D.kn sc_common_divisor (fun vs H Q E h=>?_) (fun f cdv A outer s H vs Q E hr h=>?_)
 ·obtain ⟨a,b,rfl,_⟩:=h; rfl
 obtain ⟨a,b,rfl,q⟩:=h
 refine ⟨_,(zb (zp (i:=2) sc_common_divisor.nd rfl (.inl rfl) (zv Xm rfl m_abs zcg (za (pv 0) zc))) (zb (zp (i:=3) sc_common_divisor.nd rfl (.inl rfl) (zv Xm rfl m_abs zcg (za (pv 1) zc))) (zb (qa PassesOwn.never (zr jG (pv 3) ze (nomark _)) (zb (zp (i:=4) sc_common_divisor.nd rfl (.inl rfl) (zk zG (pv 2) (pv 3))) (zb (zp (i:=2) sc_common_divisor.nd rfl (.inl rfl) (pv 3)) (zi (zp (i:=3) sc_common_divisor.nd rfl (.inl rfl) (pv 4)))))) (zi (zt (pv 2)))))),?_⟩
 refine ⟨_,rfl,a,rfl,_,rfl,b,rfl,?_⟩
 rw [zdo,zdo]
 refine ⟨fun m σ H'=>∃ l r o,σ = [some (.int a),some (.int b),some (.int l),some (.int r),o]∧H' = H∧0≤l∧0≤r∧Int.gcd l r = Int.gcd a b∧m = r.toNat,⟨_,_,_,none,rfl,rfl,Int.natCast_nonneg _,Int.natCast_nonneg _,by simp [Int.gcd_eq_natAbs_gcd_natAbs],rfl⟩,?_⟩
 rintro m σ H' ⟨l,r,o,rfl,rfl,l0,r0,g,rfl⟩
 refine ⟨_,rfl,rfl,_,rfl,?_⟩
 refine ite2 (fun c=>?_) (fun c=>?_)
 ·have c':r≠0:=fun z=>by rw [z] at c; exact absurd c (by decide)
  have m0:=Int.fmod_nonneg_of_pos l (show 0 < r by omega)
  have m1:=Int.fmod_lt_of_pos l (show 0 < r by omega)
  refine ⟨_,fun _ _ h=>h,?_⟩
  exact ⟨_,rfl,_,rfl,_,_,rfl,rfl,c',_,rfl,_,rfl,_,by omega,r,l.fmod r,_,rfl,rfl,r0,m0,(zdI l r).trans g,rfl⟩
 ·have c':r = 0:=by
   rcases Int.lt_or_le 0 r with h | h
   ·exact absurd (by have h':¬ V.int r = V.int 0:=fun z=>(by have:=V.int.inj z; omega); rw [decide_eq_false h']; rfl) c
   ·omega
  subst c'
  refine ⟨_,rfl,?_⟩
  have e:l = ((Int.gcd a b:Nat):Int):=by rw [← g,Int.gcd_zero]; omega
  show Q (.int l) H'
  rw [e]; exact q
noncomputable def jL:Sp:=fun vs H Q _=>∃ (t b:Int),vs = [.int t,.int b]∧b≠0∧∀ v H',Same H H'→RN H' (.q (Rat.divInt t b)) v→Q v H'
theorem Qt (hP:P.given.tree = none) (hS:base.NoSeer) (D:Df K mg "fraction" ["top", "bottom"] jq) (yS:Kn P w K mg base "common_divisor" 1 ["one", "other"] zfy):Kn P w K mg base "fraction" 41 ["top", "bottom"] jL:=by
 refine D.kn sc_fraction (fun vs H Q E h=>?_) (fun f cdv A outer s H vs Q E hr h=>?_)
 ·obtain ⟨a,b,rfl,_⟩:=h; rfl
 obtain ⟨t,b,rfl,hb,q⟩:=h
 refine ⟨_,(zb (zp (i:=2) sc_fraction.nd rfl (.inl rfl) (zE yS hr (za (pv 0) (za (pv 1) zc)))) (zb (zV (zr zf4 (pv 1) ze (nomark _)) (zi (zp (i:=2) sc_fraction.nd rfl (.inl rfl) (zhQ zgk (pv 2)))) zx) (zi (zt (qR (za (zk (xJ hr (by decide) hP hS ⟨_,_,rfl,rfl,rfl,rfl,rfl⟩) (pv 0) (pv 2)) (za (zk (xJ hr (by decide) hP hS ⟨_,_,rfl,rfl,rfl,rfl,rfl⟩) (pv 1) (pv 2)) zc))))))),?_⟩
 obtain ⟨e1,e2⟩:=zer (t:=t) hb
 have cd:sg t b≠0:=zhz hb
 have fin:∀ p,H p = none→Q (.ref p) (upd H p (.tup [.int (t.fdiv (sg t b)),.int (b.fdiv (sg t b))])):=fun p hp=>by
  rw [e1,e2]
  exact q _ _ (zh hp _) (RN.of_q zf)
 refine ⟨_,rfl,_,rfl,t,b,rfl,?_⟩
 refine ⟨_,rfl,_,_,rfl,rfl,_,rfl,?_⟩
 refine ite2 (fun c=>?_) (fun c=>?_)
 ·have c':b < 0:=of_decide_eq_true c
  have e:sg t b = -((Int.gcd t b:Nat):Int):=by unfold sg; rw [if_pos c']
  rw [e] at cd fin
  exact ⟨_,rfl,_,rfl,_,rfl,_,rfl,_,_,rfl,rfl,cd,_,rfl,_,rfl,_,_,rfl,rfl,cd,(by show 2≤sizeLine; decide),fin⟩
 ·have c':¬ b < 0:=of_decide_eq_false (Bool.eq_false_iff.mpr c)
  have e:sg t b = ((Int.gcd t b:Nat):Int):=by unfold sg; rw [if_neg c']
  rw [e] at cd fin
  exact ⟨_,rfl,_,rfl,_,_,rfl,rfl,cd,_,rfl,_,rfl,_,_,rfl,rfl,cd,(by show 2≤sizeLine; decide),fin⟩
noncomputable def jY:Sp:=fun vs H Q _=>∃ (k w:Int),vs = [.int k,.int w]∧∀ v H',Same H H'→RN H' (nnum k w) v→Q v H'
theorem zcb (D:Df K mg "number" ["kind", "whole"] Zf):Kn P w K mg base "number" 1 ["kind", "whole"] jY:=by
 refine D.kn zbV (fun vs H Q E h=>?_) (fun f cdv A outer s H vs Q E hr h=>?_)
 ·obtain ⟨k,w,rfl,_⟩:=h; rfl
 obtain ⟨k,w,rfl,q⟩:=h
 refine ⟨_,(zb (zV (zr xi (pv 0) ze (nomark _)) (zi (zt (qR (za (pv 1) (za ze zc))))) zx) (zi (zt (zk zG (pv 1) (pv 0))))),?_⟩
 refine ⟨_,rfl,rfl,_,rfl,?_⟩
 refine ite2 (fun c=>?_) (fun c=>?_)
 ·have e:k = 0:=V.int.inj (of_decide_eq_true c)
  subst e
  refine ⟨_,rfl,(by show 2≤sizeLine; decide),fun p hp=>?_⟩
  refine q _ _ (zh hp _) ?_
  show RN _ (.q (w:Rat)) _
  exact RN.of_q zf
 ·have c':¬ V.int k = V.int 0:=of_decide_eq_false (Bool.eq_false_iff.mpr c)
  have e:k≠0:=fun z=>c' (by rw [z])
  refine ⟨_,rfl,_,rfl,_,_,rfl,rfl,e,?_⟩
  refine q _ _ (Same.refl H) ?_
  unfold nnum
  rw [if_neg e]
  exact RN.of_z
theorem Zx:bootBuiltins "str" = some (.type "str"):=by decide +kernel
theorem cpow10 {j:Int} (h0:0≤j) (h1:j≤100):CPow 10 j:=⟨h0,by omega,by decide⟩
noncomputable def zeM:Sp:=fun vs H Q _=>∃ i:Int,vs = [.int i]∧i.natAbs < 10 ^ 21∧∀ x,cl x = shI i→Q (.str x) H
theorem JZ (i:Int):shI ((i.natAbs:Nat):Int) = dec i.natAbs:=by
 unfold shI
 rw [if_neg (by omega)]; rfl
theorem zhF (hP:P.given.tree = none) (hS:base.NoSeer) (D:Df K mg "show_whole" ["whole"] xj) (m_abs:mg "abs" = none) (m_str:mg "str" = none):Kn P w K mg base "show_whole" 41 ["whole"] zeM:=by
 refine D.kn sc_show_whole (fun vs H Q E h=>?_) (fun f cdv A outer s H vs Q E hr h=>?_)
 ·obtain ⟨i,rfl,_⟩:=h; rfl
 obtain ⟨i,rfl,hi,q⟩:=h
 have szl:sizeLine = 16777216:=by decide
 refine ⟨_,(zb (zp (i:=1) sc_show_whole.nd rfl (.inl rfl) (zk zhv ze ze)) (zb (zp (i:=2) sc_show_whole.nd rfl (.inl rfl) (zv Xm rfl m_abs zcg (za (pv 0) zc))) (zb (zp (i:=3) sc_show_whole.nd rfl (.inl rfl) zg) (zb (qa PassesOwn.never (zr zhN (pv 2) (pv 1) (nomark _)) (zb (zp (i:=3) sc_show_whole.nd rfl (.inl rfl) (zk zd (bm0 (fun _ h=>xZ PySem.F.plainAttrs_str PySem.F.slot_str_zfill PySem.F.type_str_zfill zet h (za ze zc)) (yQ yO rfl m_str Zx (za (zk zG (pv 2) (pv 1)) zc))) (pv 3))) (zi (zp (i:=2) sc_show_whole.nd rfl (.inl rfl) (zk (xJ hr (by decide) hP hS ⟨_,_,rfl,rfl,rfl,rfl,rfl⟩) (pv 2) (pv 1)))))) (zb (zp (i:=4) sc_show_whole.nd rfl (.inl rfl) (xQ (zr zf4 (pv 0) ze (nomark _)) zg zg)) (zi (zt (zk zd (zk zd (pv 4) (yQ yO rfl m_str Zx (za (pv 2) zc))) (pv 3))))))))),?_⟩
 refine ⟨_,_,rfl,rfl,cpow10 (by decide) (by decide),_,rfl,i,rfl,?_⟩
 rw [zdo]
 refine ⟨fun m σ H'=>σ = [some (.int i),some (.int (10 ^ (64:Int).toNat)),some (.int (i.natAbs:Int)),some (.str (Str.ofString "")),none]∧H' = H∧m = 0,⟨_,rfl,rfl,rfl⟩,?_⟩
 rintro m σ H' ⟨rfl,rfl,rfl⟩
 have lt:¬ ((10:Int) ^ (64:Int).toNat≤(i.natAbs:Int)):=by
  have h1:=zb1 hi
  have e:(10:Int) ^ (64:Int).toNat = ((10 ^ 64:Nat):Int):=by decide +kernel
  rw [e]; omega
 refine ⟨_,rfl,_,rfl,_,_,rfl,rfl,_,rfl,?_⟩
 rw [decide_eq_false lt]
 refine iteF ?_
 have l22:=zc5 ((i.natAbs:Nat):Int) hi
 have e0:(Str.ofString "").length = 0:=by decide +kernel
 have e1:(Str.ofString "-").length = 1:=by decide +kernel
 have c0:cl (Str.ofString "") = []:=by decide +kernel
 have c1:cl (Str.ofString "-") = [45]:=by decide +kernel
 refine ⟨_,rfl,_,_,rfl,rfl,_,rfl,?_⟩
 refine ite2 (fun c=>?_) (fun c=>?_)
 ·have c':i < 0:=of_decide_eq_true c
  refine ⟨_,rfl,_,rfl,_,rfl,zeU (zb1 hi),_,_,rfl,rfl,(by rw [e1]; omega),_,rfl,_,_,rfl,rfl,?_,q _ ?_⟩
  ·rw [← zF,zC,List.length_append,zF,zF,e0,e1]; omega
  ·rw [zC,zC,c0,c1,show cl (Str.ofString (toString ((i.natAbs:Nat):Int))) = shI ((i.natAbs:Nat):Int) from zbj _,JZ,List.append_nil]
   unfold shI
   rw [if_pos c']; rfl
 ·have c':¬ i < 0:=of_decide_eq_false (Bool.eq_false_iff.mpr c)
  refine ⟨_,rfl,_,rfl,_,rfl,zeU (zb1 hi),_,_,rfl,rfl,(by rw [e0]; omega),_,rfl,_,_,rfl,rfl,?_,q _ ?_⟩
  ·rw [← zF,zC,List.length_append,zF,zF,e0]; omega
  ·rw [zC,zC,c0,show cl (Str.ofString (toString ((i.natAbs:Nat):Int))) = shI ((i.natAbs:Nat):Int) from zbj _,JZ,List.append_nil]
   unfold shI
   rw [if_neg c']; rfl
noncomputable def zcK:Sp:=fun vs H Q _=>∃ (k:Int) (x:Nb) (v:V),vs = [.int k,v]∧x.ok k∧RN H x v∧SmN x∧∀ y,cl y = shN x→Q (.str y) H
theorem zg5 {t:Nat} (D:Df K mg "show_number" ["kind", "told"] yU) (xn:Kn P w K mg base "show_whole" 41 ["whole"] zeM) (xG:mg "STROKE" = some (.str "/" t)):Kn P w K mg base "show_number" 42 ["kind", "told"] zcK:=by
 refine D.kn ZN (fun vs H Q E h=>?_) (fun f cdv A outer s H vs Q E hr h=>?_)
 ·obtain ⟨k,x,v,rfl,_⟩:=h; rfl
 obtain ⟨k,x,v,rfl,ok,hx,sm,q⟩:=h
 have szl:sizeLine = 16777216:=by decide
 refine ⟨_,(zb (zV (zr jG (pv 0) ze (nomark _)) (zi (zt (zE xn hr (za (pv 1) zc)))) zx) (zb (zV (zr xi (zu zJ (pv 1) ze) ze (nomark _)) (zi (zt (zE xn hr (za (zu zJ (pv 1) ze) zc)))) zx) (zi (zt (zk zd (zk zd (zE xn hr (za (zu zJ (pv 1) ze) zc)) (zP (v:=.str "/") rfl xG ⟨_,rfl⟩)) (zE xn hr (za (zu zJ (pv 1) ze) zc))))))),?_⟩
 refine ⟨_,rfl,rfl,_,rfl,?_⟩
 cases x with
 | z i =>
  have hv:=hx.z
  subst hv
  have k0:k≠0:=ok.1
  refine ite2 (fun c=>?_) (fun c=>?_)
  ·exact ⟨_,rfl,i,rfl,sm,q⟩
  ·exact absurd (by rw [decide_eq_false (fun z:V.int k = V.int 0=>k0 (V.int.inj z))]; rfl) c
 | q r =>
  have k0:k = 0:=ok
  subst k0
  obtain ⟨p,hv,hp⟩:=hx.q
  subst hv
  refine ite2 (fun c=>?_) (fun c=>?_)
  ·exact absurd c (by simp)
  dsimp only
  refine ⟨_,rfl,p,_,_,.int (r.den:Int),rfl,rfl,SqT.of hp,rfl,rfl,_,rfl,?_⟩
  refine ite2 (fun c=>?_) (fun c=>?_)
  ·have d1:r.den = 1:=by have:=V.int.inj (of_decide_eq_true c); omega
   refine ⟨_,rfl,p,_,_,.int r.num,rfl,rfl,SqT.of hp,rfl,r.num,rfl,sm.1,fun y hy=>q y ?_⟩
   rw [hy]
   show _ = shI r.num ++ if r.den = 1 then [] else 47 :: dec r.den
   rw [if_pos d1,List.append_nil]
  ·have d1:¬ r.den = 1:=fun z=>c (by rw [z]; rfl)
   dsimp only
   refine ⟨_,rfl,p,_,_,.int r.num,rfl,rfl,SqT.of hp,rfl,r.num,rfl,sm.1,fun y hy=>?_⟩
   have ly:y.length≤22:=by rw [← zF,hy]; exact Zn (by decide) sm.1
   have l1:(Str.ofString "/").length = 1:=by decide +kernel
   have c1:cl (Str.ofString "/") = [47]:=by decide +kernel
   refine ⟨_,_,rfl,rfl,(by rw [l1]; omega),?_⟩
   refine ⟨_,rfl,p,_,_,.int (r.den:Int),rfl,rfl,SqT.of hp,rfl,(r.den:Int),rfl,sm.2,fun z hz=>?_⟩
   have lz:z.length≤22:=by rw [← zF,hz]; exact Zn (by decide) (show (r.den:Int).natAbs < 10 ^ 21 from sm.2)
   refine ⟨_,_,rfl,rfl,(by rw [← zF,zC,List.length_append,zF,zF,l1]; omega),q _ ?_⟩
   rw [zC,zC,hy,hz,c1]
   show _ = shI r.num ++ if r.den = 1 then [] else 47 :: dec r.den
   rw [if_neg d1,show shI (r.den:Int) = dec r.den from JZ (r.den:Int),List.append_assoc]; rfl
noncomputable def zeZ:Sp:=fun vs H Q _=>∃ (k:Int) (M:List (List Nb)) (t:Addr) (ras:List Addr),vs = [.int k,.ref t]∧TabAt H M t ras∧(∀ r∈M,r.length≤13∧∀ x∈r,x.ok k∧SmN x)∧M.length≤13∧∀ y H',Same H H'→cl y = shT M→Q (.str y) H'
theorem zgE {t1 t2:Nat} (D:Df K mg "show_table" ["kind", "table"] xp) (xO:Kn P w K mg base "show_number" 42 ["kind", "told"] zcK) (yc:mg "BETWEEN_ROWS" = some (.str "; " t1)) (zR:mg "BETWEEN_NUMBERS" = some (.str " " t2)):Kn P w K mg base "show_table" 43 ["kind", "table"] zeZ:=by
 refine D.kn sc_show_table (fun vs H Q E h=>?_) (fun f cdv A outer s H vs Q E hr h=>?_)
 ·obtain ⟨k,M,t,ras,rfl,_⟩:=h; rfl
 obtain ⟨k,M,t,ras,rfl,hT,ok,lM,q⟩:=h
 have szl:sizeLine = 16777216:=by decide
 have lr:=yp hT.2
 have c1:cl (Str.ofString " ") = [32]:=by decide +kernel
 have c2:cl (Str.ofString "; ") = [59,32]:=by decide +kernel
 have z1:(Str.ofString " ").length≤500:=by decide +kernel
 have z2:(Str.ofString "; ").length≤500:=by decide +kernel
 refine ⟨_,(zb (zhw 2 sc_show_table.nd ["kind"] [0] (yB (pv 1)) fun _ _ _ _ _ _=>⟨yv,(bm0 (fun _ h=>xZ PySem.F.plainAttrs_str PySem.F.slot_str_join PySem.F.type_str_join Za h (za (ZT ["kind"] [1] (yB (pv 0)) fun _ _ _ _ _ _=>⟨yv,(zE xO hr (za (pv 1) (za (pv 0) zc)))⟩) zc)) (zP (v:=.str " ") rfl zR ⟨_,rfl⟩))⟩) (zi (zt (bm0 (fun _ h=>xZ PySem.F.plainAttrs_str PySem.F.slot_str_join PySem.F.type_str_join Za h (za (pv 2) zc)) (zP (v:=.str "; ") rfl yc ⟨_,rfl⟩))))),?_⟩
 refine ⟨_,rfl,t,rfl,⟨_,SqL.of hT.1⟩,?_⟩
 refine yD (xs:=ras.map V.ref) (fun i ys H'=>∃ zs:List Str,ys = zs.map V.str∧Same H H'∧zs.map cl = (M.map shRow).take i) ⟨[],rfl,Same.refl _,rfl⟩ ?_ ?_ ?_
 ·rintro i ys H' hi ⟨zs,rfl,g,e⟩
  refine ⟨SqL.of (g _ _ hT.1),?_⟩
  have:=congrArg List.length e
  rw [List.length_map,List.length_take,List.length_map] at this
  rw [List.length_map]; omega
 ·rintro i v ys H' hv hi ⟨zs,rfl,g,e⟩
  obtain ⟨row,a,hrow,ha,rfl,hR⟩:=(hT.mono g).row hv
  obtain ⟨us,hu,pu,lu⟩:=hR.len
  obtain ⟨l13,okr⟩:=ok row (List.mem_of_getElem? hrow)
  first | refine gyes ?_ | refine tyes ?_
  refine ⟨rfl,_,rfl,a,rfl,⟨_,SqL.of hu⟩,?_⟩
  refine yD (xs:=us) (fun j ys2 H2=>∃ ws:List Str,ys2 = ws.map V.str∧Same H' H2∧ws.map cl = (row.map shN).take j) ⟨[],rfl,Same.refl _,rfl⟩ ?_ ?_ ?_
  ·rintro j ys2 H2 hj ⟨ws,rfl,g2,e2⟩
   refine ⟨SqL.of (g2 _ _ hu),?_⟩
   have:=congrArg List.length e2
   rw [List.length_map,List.length_take,List.length_map] at this
   rw [List.length_map]; omega
  ·rintro j x ys2 H2 hx hj ⟨ws,rfl,g2,e2⟩
   obtain ⟨x',hx',rx⟩:=qr pu hx
   have o:=okr x' (List.mem_of_getElem? hx')
   first | refine gyes ?_ | refine tyes ?_
   refine ⟨_,rfl,_,rfl,k,x',x,rfl,o.1,rx.mono g2,o.2,fun y hy=>nxt hj ⟨ws ++ [y],by rw [List.map_append]; rfl,g2,?_⟩⟩
   have ex:(row.map shN)[j]? = some (shN x'):=by rw [List.getElem?_map,hx']; rfl
   rw [List.map_append,e2,zI ex,← hy]; rfl
  ·rintro ys2 H2 ⟨ws,rfl,g2,e2⟩ pl hpl
   rw [List.take_of_length_le (by rw [List.length_map]; omega)] at e2
   have lw:ws.length = row.length:=by have:=congrArg List.length e2; rwa [List.length_map,List.length_map] at this
   refine ⟨_,pl,ws,rfl,rfl,zf,Xk (by omega) (fun x hx=>?_) z1,nxt hi ⟨zs ++ [Txt.join (Str.ofString " ") ws],by rw [List.map_append]; rfl,(g.trans g2).trans (zh hpl _),?_⟩⟩
   ·have m:cl x∈row.map shN:=by rw [← e2]; exact List.mem_map.mpr ⟨x,hx,rfl⟩
    obtain ⟨y,hy,ey⟩:=List.mem_map.mp m
    rw [← zF,← ey]
    exact Nat.le_trans (zcU (okr y hy).2) (by decide)
   ·have ex:(M.map shRow)[i]? = some (shRow row):=by rw [List.getElem?_map,hrow]; rfl
    rw [List.map_append,e,zI ex]
    show _ ++ [cl (Txt.join (Str.ofString " ") ws)] = _
    rw [Qp,c1,e2]; rfl
 ·rintro ys H' ⟨zs,rfl,g,e⟩ p hp
  rw [List.take_of_length_le (by rw [List.length_map,List.length_map]; omega)] at e
  have lz:zs.length = M.length:=by have:=congrArg List.length e; rwa [List.length_map,List.length_map] at this
  refine ⟨rfl,_,rfl,_,p,zs,rfl,rfl,zf,Xk (by omega) (fun x hx=>?_) z2,q _ _ (g.trans (zh hp _)) ?_⟩
  ·have m:cl x∈M.map shRow:=by rw [← e]; exact List.mem_map.mpr ⟨x,hx,rfl⟩
   obtain ⟨y,hy,ey⟩:=List.mem_map.mp m
   rw [← zF,← ey]
   exact Nat.le_trans (zbZ (fun x hx=>((ok y hy).2 x hx).2) (ok y hy).1) (by decide)
  ·rw [Qp,c2,e]; rfl
theorem ze4:bootBuiltins "any" = some (.builtin "any"):=by decide +kernel
noncomputable def zcn (C:Addr):Sp:=fun vs H Q E=>∃ x:Str,vs = [.str x]∧x.length≤100000∧∀ H',Same H H'→(∀ v,rdW (cl x) = some v→Q (.int v) H')∧(rdW (cl x) = none→E (.ref C) none H')
theorem zal (l:List Nat):(l.map fun c=>!decide (48≤c∧c≤57)).any id = !allD l:=by
 unfold allD
 induction l with
 | nil=>rfl
 | cons a l ih=>rw [List.map_cons,List.any_cons,ih,List.all_cons,Bool.not_and]; rfl
theorem zgL {C:Addr} {t1 t2:Nat} (c_NoText:Ec K mg "NoText" C) (D:Df K mg "read_whole" ["word"] xv) (Zz:mg "FIGURES" = some (.str "0123456789" t1)) (xB:mg "MOST_FIGURES" = some (.int 20 t2)) (m_len:mg "len" = none) (m_any:mg "any" = none) (m_int:mg "int" = none):Kx P w K mg base "read_whole" 2 ["word"] (zcn C):=by
 refine D.kx sc_read_whole (fun vs H Q E h=>?_) (fun f cdv A outer s H vs Q E hr h=>?_)
 ·obtain ⟨x,rfl,_⟩:=h; rfl
 obtain ⟨x,rfl,lx,q⟩:=h
 have szl:sizeLine = 16777216:=by decide
 refine ⟨_,(zb (PS.nox (zp (i:=1) sc_read_whole.nd rfl (.inl rfl) (xQ (xb (bm0 (fun _ h=>xZ PySem.F.plainAttrs_str PySem.F.slot_str_startswith PySem.F.type_str_startswith Yz h (za zg zc)) (pv 0))) (xT zah (pv 0) (jb ze) qH) (pv 0)))) (zb (zV (PT.nox (PW.pt (pw_or (jd (zd4 zbH zbH ze (zv qQ rfl m_len yy (za (pv 1) zc)) (zP (v:=.int 20) rfl xB ⟨_,rfl⟩))) (pw_or1 (xb (zv (Jn rfl) rfl m_any ze4 (za (ZT [] [] (zez (pv 1)) fun _ _ _ _ _ _=>⟨yv,(xA XT (pv 0) (zP (v:=.str "0123456789") rfl Zz ⟨_,rfl⟩) (by with_unfolding_all rfl))⟩) zc))))))) (zi (yf c_NoText rfl rfl zS (za zg zc))) zx) (zi (PS.nox (zt (yQ Xi rfl m_int zgU (za (pv 0) zc))))))),?_⟩
 refine ⟨_,rfl,rfl,_,_,rfl,rfl,_,rfl,?_⟩
 have es:Str.ofString "-" = ⟨#[45]⟩:=by decide +kernel
 rw [es,zba]
 refine ite2 (fun c=>?_) (fun c=>?_)
 ·refine ⟨_,rfl,_,rfl,_,rfl,(by omega),?_⟩
  have hd:=of_decide_eq_true c
  have hs:=Yq x 1
  rw [show ((1:Nat):Int) = 1 from rfl] at hs
  have rd:rdW (cl x) = if (1≤(cl (Txt.slice x (some 1) none)).length∧(cl (Txt.slice x (some 1) none)).length≤20)∧allD (cl (Txt.slice x (some 1) none)) = true then some (-(digitsVal (cl x).tail:Int)) else none:=by
   unfold rdW
   rw [if_pos hd,show cl (Txt.slice x (some 1) none) = (cl x).tail by rw [show cl (Txt.slice x (some 1) none) = (cl x).drop 1 from hs,List.drop_one]]
  have ly:(Txt.slice x (some 1) none).length≤100000:=by
   rw [← zF,show cl (Txt.slice x (some 1) none) = (cl x).drop 1 from hs,List.length_drop,zF]; omega
  generalize Txt.slice x (some 1) none = y at *
  refine ⟨_,rfl,_,rfl,(by omega),_,_,rfl,rfl,_,rfl,?_⟩
  have no:∀ H',Same H H'→¬ ((1≤(cl y).length∧(cl y).length≤20)∧allD (cl y) = true)→E (.ref C) none H':=fun H' g n=>(q H' g).2 (by rw [rd,if_neg n])
  have cy:=zF y
  refine ite2 (fun d1=>?_) (fun d1=>?_)
  ·have e1:(1:Int)≤(y.length:Int):=of_decide_eq_true d1
   refine ⟨_,_,rfl,rfl,_,rfl,?_⟩
   by_cases e2:((y.length:Int)≤20)
   ·rw [decide_eq_true e2]
    refine iteF ?_
    refine ⟨_,rfl,_,rfl,?_⟩
    refine Xv (fun i ys H'=>ys = (((cl y).map fun c=>!decide (48≤c∧c≤57)).take i).map V.bl∧H' = H) ⟨rfl,rfl⟩ ?_ ?_ ?_
    ·rintro i ys H' hi ⟨rfl,rfl⟩
     rw [List.length_map,List.length_take,List.length_map]; omega
    ·rintro i c ys H' hc hi ⟨rfl,rfl⟩
     first | refine gyes ?_ | refine tyes ?_
     refine ⟨_,rfl,_,_,rfl,rfl,nxt hi ⟨?_,rfl⟩⟩
     have hc':(cl y)[i]? = some c:=by rw [← hc]; exact Array.getElem?_toList
     have ex:((cl y).map fun c=>!decide (48≤c∧c≤57))[i]? = some (!decide (48≤c∧c≤57)):=by rw [List.getElem?_map,hc']; rfl
     rw [zI ex,List.map_append,Ym]; rfl
    ·rintro ys H' ⟨rfl,rfl⟩ p hp
     have g:=zh hp (.lst ((((cl y).map fun c=>!decide (48≤c∧c≤57)).take y.cps.size).map V.bl))
     refine ⟨p,_,rfl,zf,_,rfl,?_⟩
     rw [List.take_of_length_le (by rw [List.length_map]; show (cl y).length≤_; simp),zal]
     cases ad:allD (cl y) with
     | false =>
      refine iteT ⟨(by show 1≤sizeLine; decide),no _ (by rw [List.take_of_length_le (by rw [List.length_map]; show (cl y).length≤_; simp)] at g; exact g) fun z=>?_⟩
      rw [ad] at z; exact absurd z.2 (by decide)
     | true =>
      refine iteF ?_
      rw [ad,if_pos ⟨⟨by omega,by omega⟩,rfl⟩] at rd
      obtain ⟨iw,lw⟩:=QI rd
      refine ⟨_,rfl,_,_,rfl,iw,(by omega),(q _ (by rw [List.take_of_length_le (by rw [List.length_map]; show (cl y).length≤_; simp)] at g; exact g)).1 _ rd⟩
   ·rw [decide_eq_false e2]
    refine iteT ⟨(by show 1≤sizeLine; decide),no _ (Same.refl _) fun z=>?_⟩
    have:=z.1.2; omega
  ·have e1:¬ (1:Int)≤(y.length:Int):=of_decide_eq_false (Bool.eq_false_iff.mpr d1)
   refine ⟨_,rfl,iteT ⟨(by show 1≤sizeLine; decide),no _ (Same.refl _) fun z=>?_⟩⟩
   have:=z.1.1; omega
 ·refine ⟨_,rfl,?_⟩
  have hd:=of_decide_eq_false (Bool.eq_false_iff.mpr c)
  have rd:rdW (cl x) = if (1≤(cl x).length∧(cl x).length≤20)∧allD (cl x) = true then some (digitsVal (cl x):Int) else none:=by
   conv=>lhs; unfold rdW
   rw [if_neg hd]
  refine ⟨_,rfl,_,rfl,(by omega),_,_,rfl,rfl,_,rfl,?_⟩
  have no:∀ H',Same H H'→¬ ((1≤(cl x).length∧(cl x).length≤20)∧allD (cl x) = true)→E (.ref C) none H':=fun H' g n=>(q H' g).2 (by rw [rd,if_neg n])
  have cy:=zF x
  refine ite2 (fun d1=>?_) (fun d1=>?_)
  ·have e1:(1:Int)≤(x.length:Int):=of_decide_eq_true d1
   refine ⟨_,_,rfl,rfl,_,rfl,?_⟩
   by_cases e2:((x.length:Int)≤20)
   ·rw [decide_eq_true e2]
    refine iteF ?_
    refine ⟨_,rfl,_,rfl,?_⟩
    refine Xv (fun i ys H'=>ys = (((cl x).map fun c=>!decide (48≤c∧c≤57)).take i).map V.bl∧H' = H) ⟨rfl,rfl⟩ ?_ ?_ ?_
    ·rintro i ys H' hi ⟨rfl,rfl⟩
     rw [List.length_map,List.length_take,List.length_map]; omega
    ·rintro i c ys H' hc hi ⟨rfl,rfl⟩
     first | refine gyes ?_ | refine tyes ?_
     refine ⟨_,rfl,_,_,rfl,rfl,nxt hi ⟨?_,rfl⟩⟩
     have hc':(cl x)[i]? = some c:=by rw [← hc]; exact Array.getElem?_toList
     have ex:((cl x).map fun c=>!decide (48≤c∧c≤57))[i]? = some (!decide (48≤c∧c≤57)):=by rw [List.getElem?_map,hc']; rfl
     rw [zI ex,List.map_append,Ym]; rfl
    ·rintro ys H' ⟨rfl,rfl⟩ p hp
     have g:=zh hp (.lst ((((cl x).map fun c=>!decide (48≤c∧c≤57)).take x.cps.size).map V.bl))
     refine ⟨p,_,rfl,zf,_,rfl,?_⟩
     rw [List.take_of_length_le (by rw [List.length_map]; show (cl x).length≤_; simp),zal]
     cases ad:allD (cl x) with
     | false =>
      refine iteT ⟨(by show 1≤sizeLine; decide),no _ (by rw [List.take_of_length_le (by rw [List.length_map]; show (cl x).length≤_; simp)] at g; exact g) fun z=>?_⟩
      rw [ad] at z; exact absurd z.2 (by decide)
     | true =>
      refine iteF ?_
      rw [ad,if_pos ⟨⟨by omega,by omega⟩,rfl⟩] at rd
      obtain ⟨iw,lw⟩:=QI rd
      refine ⟨_,rfl,_,_,rfl,iw,(by omega),(q _ (by rw [List.take_of_length_le (by rw [List.length_map]; show (cl x).length≤_; simp)] at g; exact g)).1 _ rd⟩
   ·rw [decide_eq_false e2]
    refine iteT ⟨(by show 1≤sizeLine; decide),no _ (Same.refl _) fun z=>?_⟩
    have:=z.1.2; omega
  ·have e1:¬ (1:Int)≤(x.length:Int):=of_decide_eq_false (Bool.eq_false_iff.mpr d1)
   refine ⟨_,rfl,iteT ⟨(by show 1≤sizeLine; decide),no _ (Same.refl _) fun z=>?_⟩⟩
   have:=z.1.1; omega
noncomputable def zeV (C:Addr):Sp:=fun vs H Q E=>∃ x:Str,vs = [.str x]∧x.length≤100000∧∀ H',Same H H'→(∀ r v,rdF (cl x) = some r→RN H' (.q r) v→Q v H')∧(rdF (cl x) = none→E (.ref C) none H')
theorem zgw {C:Addr} {t1:Nat} (c_NoText:Ec K mg "NoText" C) (D:Df K mg "read_fraction" ["word"] yz) (xt:Kx P w K mg base "read_whole" 2 ["word"] (zcn C)) (qy:Kn P w K mg base "fraction" 41 ["top", "bottom"] jL) (xG:mg "STROKE" = some (.str "/" t1)):Kx P w K mg base "read_fraction" 42 ["word"] (zeV C):=by
 refine D.kx sc_read_fraction (fun vs H Q E h=>?_) (fun f cdv A outer s H vs Q E hr h=>?_)
 ·obtain ⟨x,rfl,_⟩:=h; rfl
 obtain ⟨x,rfl,lx,q⟩:=h
 have szl:sizeLine = 16777216:=by decide
 have es:Str.ofString "/" = ⟨#[47]⟩:=by decide +kernel
 have l1:(⟨#[47]⟩ : Str).length≠0:=by decide
 obtain ⟨p1,p2,p3⟩:=part47 x
 refine ⟨_,(zb (PS.nox (zp (i:=1) sc_read_fraction.nd rfl (.inl rfl) (bm0 (fun _ h=>xZ PySem.F.plainAttrs_str PySem.F.slot_str_partition PySem.F.type_str_partition qN h (za (zP (v:=.str "/") rfl xG ⟨_,rfl⟩) zc)) (pv 0)))) (zb (zp (i:=2) sc_read_fraction.nd rfl (.inl rfl) (xQ (zr xi (zu zJ (pv 1) ze) (zP (v:=.str "/") rfl xG ⟨_,rfl⟩) (nomark _)) (ji xt (hr.mono (by decide)) rfl zT (za (zu zJ (pv 1) ze) zc)) ze)) (zb (zV (PT.nox (zr zf4 (pv 2) ze (nomark _))) (zi (yf c_NoText rfl rfl zS (za zg zc))) zx) (zi (zt (zE qy hr (za (ji xt (hr.mono (by decide)) rfl zT (za (zu zJ (pv 1) ze) zc)) (za (pv 2) zc)))))))),?_⟩
 refine ⟨_,rfl,rfl,_,_,rfl,rfl,(by decide +kernel),(by omega),fun p hp=>?_⟩
 have g1:=zh hp (.tup [.str (Txt.partition x (Str.ofString "/")).1,.str (Txt.partition x (Str.ofString "/")).2.1,.str (Txt.partition x (Str.ofString "/")).2.2])
 rw [es] at *
 have hp1:upd H p (.tup [.str (Txt.partition x ⟨#[47]⟩).1,.str (Txt.partition x ⟨#[47]⟩).2.1,.str (Txt.partition x ⟨#[47]⟩).2.2]) p = some (.tup [.str (Txt.partition x ⟨#[47]⟩).1,.str (Txt.partition x ⟨#[47]⟩).2.1,.str (Txt.partition x ⟨#[47]⟩).2.2]):=zf
 generalize upd H p (.tup [.str (Txt.partition x ⟨#[47]⟩).1,.str (Txt.partition x ⟨#[47]⟩).2.1,.str (Txt.partition x ⟨#[47]⟩).2.2]) = H1 at *
 have la:(Txt.partition x ⟨#[47]⟩).1.length≤100000:=by
  rw [← zF,show cl (Txt.partition x ⟨#[47]⟩).1 = headP (cl x) from p1]
  have:=congrArg List.length (Jm (cl x))
  rw [List.length_append,zF] at this; omega
 refine ⟨_,rfl,p,_,_,.str (Txt.partition x ⟨#[47]⟩).2.1,rfl,rfl,SqT.of hp1,rfl,?_⟩
 have e1:cl (Txt.partition x ⟨#[47]⟩).1 = headP (cl x):=p1
 by_cases r0:restP (cl x) = []
 ·have e2:=p2 r0
  refine ⟨rfl,_,rfl,?_⟩
  rw [e2,decide_eq_false (show ¬ V.str Str.empty = V.str ⟨#[47]⟩ by decide)]
  refine iteF ?_
  have rf:rdF (cl x) = if (1:Int) < 1 then none else match rdW (headP (cl x)) with | none=>none | some t=>some (Rat.divInt t 1):=by
   unfold rdF
   rw [if_pos r0] <;> rfl
  refine ⟨_,rfl,_,_,rfl,rfl,_,rfl,?_⟩
  refine ite2 (fun d=>?_) (fun d=>?_)
  ·exact ⟨(by show 1≤sizeLine; decide),(q _ g1).2 (by rw [rf,if_pos (of_decide_eq_true d)])⟩
  ·have d':¬ (1:Int) < (1:Int):=of_decide_eq_false (Bool.eq_false_iff.mpr d)
   dsimp only
   refine ⟨_,rfl,p,_,_,.str (Txt.partition x ⟨#[47]⟩).1,rfl,rfl,SqT.of hp1,rfl,_,rfl,la,fun H3 g3=>⟨fun t ht=>?_,fun ht=>?_⟩⟩
   ·refine ⟨_,rfl,t,(1:Int),rfl,(by omega),fun v H4 g4 hv=>(q H4 ((g1.trans g3).trans g4)).1 _ v ?_ hv⟩
    rw [rf,if_neg d',← e1,ht]
   ·refine (q H3 (g1.trans g3)).2 ?_
    rw [rf,if_neg d',← e1,ht]
 ·obtain ⟨e2,e3⟩:=p3 r0
  refine ⟨rfl,_,rfl,?_⟩
  rw [e2,decide_eq_true rfl]
  refine iteT ?_
  have lb:(Txt.partition x ⟨#[47]⟩).2.2.length≤100000:=by
   rw [← zF,show cl (Txt.partition x ⟨#[47]⟩).2.2 = (restP (cl x)).tail from e3,List.length_tail]
   have:=congrArg List.length (Jm (cl x))
   rw [List.length_append,zF] at this; omega
  have e4:cl (Txt.partition x ⟨#[47]⟩).2.2 = (restP (cl x)).tail:=e3
  refine ⟨_,rfl,p,_,_,.str (Txt.partition x ⟨#[47]⟩).2.2,rfl,rfl,SqT.of hp1,rfl,_,rfl,lb,fun H2 g2=>⟨fun b hb=>?_,fun hb=>?_⟩⟩
  rotate_left
  ·refine (q H2 (g1.trans g2)).2 ?_
   unfold rdF
   rw [if_neg r0,← e4,hb]
  have rf:rdF (cl x) = if b < 1 then none else match rdW (headP (cl x)) with | none=>none | some t=>some (Rat.divInt t b):=by
   unfold rdF
   rw [if_neg r0,← e4,hb] <;> rfl
  refine ⟨_,rfl,_,_,rfl,rfl,_,rfl,?_⟩
  refine ite2 (fun d=>?_) (fun d=>?_)
  ·exact ⟨(by show 1≤sizeLine; decide),(q _ (g1.trans g2)).2 (by rw [rf,if_pos (of_decide_eq_true d)])⟩
  ·have d':¬ b < (1:Int):=of_decide_eq_false (Bool.eq_false_iff.mpr d)
   dsimp only
   refine ⟨_,rfl,p,_,_,.str (Txt.partition x ⟨#[47]⟩).1,rfl,rfl,SqT.of (g2 _ _ hp1),rfl,_,rfl,la,fun H3 g3=>⟨fun t ht=>?_,fun ht=>?_⟩⟩
   ·refine ⟨_,rfl,t,b,rfl,(by omega),fun v H4 g4 hv=>(q H4 (((g1.trans g2).trans g3).trans g4)).1 _ v ?_ hv⟩
    rw [rf,if_neg d',← e1,ht]
   ·refine (q H3 ((g1.trans g2).trans g3)).2 ?_
    rw [rf,if_neg d',← e1,ht]
theorem zhM {cs:List Nat} (h:AllDigits cs):digitsVal cs < 10 ^ cs.length:=by
 have key:∀ (l:List Nat) (acc:Nat),(∀ c∈l,c≤57)→l.foldl (fun acc c=>acc * 10 + (c - 48)) acc < (acc + 1) * 10 ^ l.length:=by
  intro l
  induction l with
  | nil=>intro acc _; show acc < (acc + 1) * 1; omega
  | cons c l ih =>
   intro acc hc
   have h1:=ih (acc * 10 + (c - 48)) fun x hx=>hc x (List.mem_cons_of_mem _ hx)
   have h2:=hc c List.mem_cons_self
   have h3:(acc * 10 + (c - 48) + 1) * 10 ^ l.length≤((acc + 1) * 10) * 10 ^ l.length:=Nat.mul_le_mul_right _ (by omega)
   show l.foldl _ (acc * 10 + (c - 48)) < (acc + 1) * 10 ^ (l.length + 1)
   rw [Nat.pow_succ',← Nat.mul_assoc]
   exact Nat.lt_of_lt_of_le h1 h3
 have:=key cs 0 fun c hc=>(h c hc).2
 rw [Nat.zero_add,Nat.one_mul] at this
 exact this
theorem Jp {w:List Nat} {v:Int} (h:rdW w = some v):v.natAbs < 10 ^ 20:=by
 have up:∀ l:List Nat,l.length≤20→allD l = true→digitsVal l < 10 ^ 20:=fun l hl ad=>Nat.lt_of_lt_of_le (zhM ((Yy l).mp ad)) (Nat.pow_le_pow_right (by decide) hl)
 unfold rdW at h
 split at h
 ·split at h
  ·rename_i c
   have:=up _ c.1.2 c.2
   have e:=Option.some.inj h
   rw [← e]; omega
  ·cases h
 ·split at h
  ·rename_i c
   have:=up _ c.1.2 c.2
   have e:=Option.some.inj h
   rw [← e]; omega
  ·cases h
theorem zbL (t b:Int) (hb:b≠0):(Rat.divInt t b).num.natAbs≤t.natAbs∧(Rat.divInt t b).den≤b.natAbs:=by
 rw [Rat.num_divInt,Rat.den_divInt,if_neg hb]
 refine ⟨Nat.le_trans (Int.natAbs_ediv_le_natAbs _ _) ?_,Nat.div_le_self _ _⟩
 rw [Int.natAbs_mul,Int.natAbs_sign,if_neg hb,Nat.one_mul]
 exact Nat.le_refl _
theorem zb9 {w:List Nat} {r:Rat} (h:rdF w = some r):SmN (.q r):=by
 unfold rdF at h
 have p20:(10:Nat) ^ 20 < 10 ^ 21:=by decide
 have bb:∀ b:Int,(if restP w = [] then some 1 else rdW (restP w).tail) = some b→b.natAbs < 10 ^ 20:=fun b hb=>by
  split at hb
  ·have:=Option.some.inj hb
   rw [← this]; decide
  ·exact Jp hb
 cases e:(if restP w = [] then some 1 else rdW (restP w).tail) with
 | none=>rw [e] at h; cases h
 | some b =>
  rw [e] at h
  simp only [] at h
  split at h
  ·cases h
  ·rename_i nb
   cases e2:rdW (headP w) with
   | none=>rw [e2] at h; cases h
   | some t =>
    rw [e2] at h
    have er:Rat.divInt t b = r:=Option.some.inj h
    have d:=zbL t b (by omega)
    have s1:=Jp e2
    have s2:=bb b e
    rw [er] at d
    exact ⟨Nat.lt_of_le_of_lt d.1 (Nat.lt_trans s1 p20),Nat.lt_of_le_of_lt d.2 (Nat.lt_trans s2 p20)⟩
noncomputable def ze6 (C:Addr):Sp:=fun vs H Q E=>∃ (k:Int) (x:Str),vs = [.int k,.str x]∧KindS k∧x.length≤100000∧∀ H',Same H H'→(∀ y v,rdN k (cl x) = some y→RN H' y v→Q v H')∧(rdN k (cl x) = none→E (.ref C) none H')
theorem zhB {C:Addr} (c_NoText:Ec K mg "NoText" C) (D:Df K mg "read_number" ["kind", "word"] yY) (Zi:Kx P w K mg base "read_fraction" 42 ["word"] (zeV C)) (xt:Kx P w K mg base "read_whole" 2 ["word"] (zcn C)) (jx:Kn P w K mg base "number" 1 ["kind", "whole"] jY) (xO:Kn P w K mg base "show_number" 42 ["kind", "told"] zcK):Kx P w K mg base "read_number" 43 ["kind", "word"] (ze6 C):=by
 refine D.kx sc_read_number (fun vs H Q E h=>?_) (fun f cdv A outer s H vs Q E hr h=>?_)
 ·obtain ⟨k,x,rfl,_⟩:=h; rfl
 obtain ⟨k,x,rfl,hs,lx,q⟩:=h
 have szl:sizeLine = 16777216:=by decide
 refine ⟨_,(zb (zp (i:=2) sc_read_number.nd rfl (.inl rfl) (xQ (zr xi (pv 0) ze (nomark _)) (ji Zi (hr.mono (by decide)) rfl zT (za (pv 1) zc)) (zE jx hr (za (pv 0) (za (ji xt (hr.mono (by decide)) rfl zT (za (pv 1) zc)) zc))))) (zb (zV (PT.nox (zr jG (zE xO hr (za (pv 0) (za (pv 2) zc))) (pv 1) (nomark _))) (zi (yf c_NoText rfl rfl zS (za zg zc))) zx) (zi (PS.nox (zt (pv 2)))))),?_⟩
 refine ⟨_,rfl,rfl,_,rfl,?_⟩
 by_cases k0:k = 0
 ·subst k0
  rw [decide_eq_true rfl]
  refine iteT ?_
  refine ⟨_,rfl,x,rfl,lx,fun H1 g1=>⟨fun r v hr' hv=>?_,fun hn=>(q H1 g1).2 ?_⟩⟩
  rotate_left
  ·show (rdQ (cl x)).map Nb.q = none
   unfold rdQ
   rw [hn]; rfl
  refine ⟨_,rfl,_,rfl,0,.q r,v,rfl,rfl,hv,zb9 hr',fun y hy=>⟨_,rfl,rfl,_,rfl,?_⟩⟩
  have hy':cl y = shQ r:=hy
  by_cases e:y = x
  ·rw [decide_eq_true (show V.str y = V.str x by rw [e])]
   refine iteF ?_
   dsimp only
   refine ⟨_,rfl,(q H1 g1).1 (.q r) v ?_ hv⟩
   show (rdQ (cl x)).map Nb.q = _
   unfold rdQ
   rw [hr']
   show (if shQ r = cl x then some r else none).map Nb.q = _
   rw [if_pos (by rw [← hy',e])]; rfl
  ·rw [decide_eq_false (fun z:V.str y = V.str x=>e (V.str.inj z))]
   refine iteT ⟨(by show 1≤sizeLine; decide),(q H1 g1).2 ?_⟩
   show (rdQ (cl x)).map Nb.q = _
   unfold rdQ
   rw [hr']
   show (if shQ r = cl x then some r else none).map Nb.q = _
   rw [if_neg (fun z=>e (xD (hy'.trans z)))]; rfl
 ·rw [decide_eq_false (fun z:V.int k = V.int 0=>k0 (V.int.inj z))]
  refine iteF ?_
  have hp:1 < k∧k < 99:=by
   rcases hs with h | h
   ·exact absurd h k0
   ·exact ⟨h.lo,h.hi⟩
  have rdn:rdN k (cl x) = (rdR k.toNat (cl x)).map fun n=>Nb.z (n:Int):=by unfold rdN; rw [if_neg k0]
  refine ⟨_,rfl,_,rfl,x,rfl,lx,fun H1 g1=>⟨fun v hv=>?_,fun hn=>(q H1 g1).2 ?_⟩⟩
  rotate_left
  ·rw [rdn]
   unfold rdR
   rw [hn]; rfl
  refine ⟨k,v,rfl,fun u H2 g2 hu=>?_⟩
  have e0:nnum k v = .z (v.fmod k):=by unfold nnum; rw [if_neg k0]
  rw [e0] at hu
  have f0:=Int.fmod_nonneg_of_pos v (show (0:Int) < k by omega)
  have f1:=Int.fmod_lt_of_pos v (show (0:Int) < k by omega)
  have ek:((k.toNat:Nat):Int) = k:=by omega
  have p21:99 < (10:Nat) ^ 21:=by decide
  have sm:SmN (.z (v.fmod k)):=show (v.fmod k).natAbs < 10 ^ 21 by omega
  refine ⟨_,rfl,_,rfl,k,.z (v.fmod k),u,rfl,⟨k0,f0,f1⟩,hu,sm,fun y hy=>⟨_,rfl,rfl,_,rfl,?_⟩⟩
  have hy':cl y = shI (v.fmod k):=hy
  have esh:shI (v.fmod k) = dec (v.fmod k).toNat:=by
   unfold shI
   rw [if_neg (by omega),show (v.fmod k).natAbs = (v.fmod k).toNat by omega]
  have rdr:rdR k.toNat (cl x) = if dec (v.fmod k).toNat = cl x then some (v.fmod k).toNat else none:=by
   unfold rdR
   rw [hv,ek]
  by_cases e:y = x
  ·rw [decide_eq_true (show V.str y = V.str x by rw [e])]
   refine iteF ?_
   dsimp only
   refine ⟨_,rfl,(q H2 (g1.trans g2)).1 (.z (v.fmod k)) u ?_ hu⟩
   rw [rdn,rdr,if_pos (by rw [← esh,← hy',e])]
   show some (Nb.z (((v.fmod k).toNat:Nat):Int)) = _
   rw [show (((v.fmod k).toNat:Nat):Int) = v.fmod k by omega]
  ·rw [decide_eq_false (fun z:V.str y = V.str x=>e (V.str.inj z))]
   refine iteT ⟨(by show 1≤sizeLine; decide),(q H2 (g1.trans g2)).2 ?_⟩
   rw [rdn,rdr,if_neg (fun z=>e (xD (hy'.trans (esh.trans z))))]; rfl
theorem zeL (K:PySem.W.Frag):PySem.W.kitOne K (.type "str") (.type "str") = some true:=by unfold PySem.W.kitOne; rw [if_pos (by decide)]
theorem YV (K:PySem.W.Frag) {a b:String} {r:Bool} (h1:¬ (a = b)) (h2:PySem.W.kitMeta b = true) (h3:(PySem.fastBuiltinMro a).map (·.contains (Value.type b)) = some r):PySem.W.kitOne K (.type a) (.type b) = some r:=by
 unfold PySem.W.kitOne
 rw [if_neg (by intro e; exact h1 (Value.type.inj (by simpa using e)))]
 show (if PySem.W.kitMeta b = true then PySem.W.subIn K (.type a) (.type b) else none) = some r
 rw [if_pos h2]
 exact h3
theorem zeX (K:PySem.W.Frag):PySem.W.kitOne K (.type "NoneType") (.type "str") = some false:=YV K (by decide) (by decide +kernel) (by decide +kernel)
theorem zeO (K:PySem.W.Frag):PySem.W.kitOne K (.type "int") (.type "str") = some false:=YV K (by decide) (by decide +kernel) (by decide +kernel)
noncomputable def TxV (v:V):Prop:=(∃ x:Str,v = .str x∧x.length≤50000)∨v = .non∨∃ i,v = .int i
noncomputable def zeH (C:Addr):Sp:=fun vs H Q E=>∃ (k:Int) (v:V),vs = [.int k,v]∧KindS k∧TxV v∧∀ H',Same H H'→(∀ x M t ras,v = .str x→rdT k x = some M→TabAt H' M t ras→Q (.ref t) H')∧((∀ x,v = .str x→rdT k x = none)→E (.ref C) none H')
theorem zhx {C:Addr} {t1 t2 t3 t4:Nat} (c_NoText:Ec K mg "NoText" C) (D:Df K mg "read_table" ["kind", "text"] xq) (Xd:Kx P w K mg base "read_number" 43 ["kind", "word"] (ze6 C)) (yc:mg "BETWEEN_ROWS" = some (.str "; " t1)) (zR:mg "BETWEEN_NUMBERS" = some (.str " " t2)) (jM:mg "MOST_ROWS" = some (.int 12 t3)) (xx:mg "MOST_COLUMNS" = some (.int 12 t4)) (m_len:mg "len" = none) (m_any:mg "any" = none) (zH:mg "isinstance" = none) (m_str:mg "str" = none):Kx P w K mg base "read_table" 44 ["kind", "text"] (zeH C):=by
 refine D.kx sc_read_table (fun vs H Q E h=>?_) (fun f cdv A outer s H vs Q E hr h=>?_)
 ·obtain ⟨k,v,rfl,_⟩:=h; rfl
 obtain ⟨k,v,rfl,hs,tv,q⟩:=h
 have szl:sizeLine = 16777216:=by decide
 refine ⟨_,(zb (zV (PT.nox (jd (xb (zv (Ji (K:=K) rfl) rfl zH zY (za (pv 1) (za (zf6 rfl m_str Zx) zc)))))) (zi (yf c_NoText rfl rfl zS (za zg zc))) zx) (zb (zhZ lets_of 2 sc_read_table.nd ["kind"] [0] (yB (bm0 (fun _ h=>xZ PySem.F.plainAttrs_str PySem.F.slot_str_split PySem.F.type_str_split qY h (za (zP (v:=.str "; ") rfl yc ⟨_,rfl⟩) zc)) (pv 1))) fun _ _ _ _ _ _=>⟨yv,(zgH lets_of.blk ["kind"] [1] (yB (bm0 (fun _ h=>xZ PySem.F.plainAttrs_str PySem.F.slot_str_split PySem.F.type_str_split qY h (za (zP (v:=.str " ") rfl zR ⟨_,rfl⟩) zc)) (pv 0))) fun _ _ _ _ _ _=>⟨yv,(ji Xd (hr.mono (by decide)) rfl Xy (za (pv 1) (za (pv 0) zc)))⟩)⟩) (zb (PS.nox (zp (i:=3) sc_read_table.nd rfl (.inr rfl) (zv zL rfl m_len yy (za (zu zo (pv 2) ze) zc)))) (zb (zV (PT.nox (PW.pt (pw_or (zr Qs (zv zL rfl m_len yy (za (pv 2) zc)) (zP (v:=.int 12) rfl jM ⟨_,rfl⟩) (nomark _)) (pw_or1 (zr Qs (pv 3) (zP (v:=.int 12) rfl xx ⟨_,rfl⟩) (nomark _)))))) (zi (yf c_NoText rfl rfl zS (za zg zc))) zx) (zb (zV (PT.nox (xb (zv (Jn rfl) rfl m_any ze4 (za (ZT ["width"] [3] (yB (pv 2)) fun _ _ _ _ _ _=>⟨yv,(xA jG (zv zL rfl m_len yy (za (pv 0) zc)) (pv 1) (nomark _))⟩) zc)))) (zi (yf c_NoText rfl rfl zS (za zg zc))) zx) (zi (PS.nox (zt (pv 2))))))))),?_⟩
 rcases tv with ⟨x,rfl,lx⟩ | rfl | ⟨i,rfl⟩
 rotate_left
 ·refine ⟨_,rfl,_,_,_,_,rfl,TyOf.non,zeX K,_,rfl,iteT ⟨(by show 1≤sizeLine; decide),(q H (Same.refl _)).2 fun x e=>nomatch e⟩⟩
 ·refine ⟨_,rfl,_,_,_,_,rfl,TyOf.int i,zeO K,_,rfl,iteT ⟨(by show 1≤sizeLine; decide),(q H (Same.refl _)).2 fun x e=>nomatch e⟩⟩
 refine ⟨_,rfl,_,_,_,_,rfl,TyOf.str x,zeL K,_,rfl,iteF ?_⟩
 dsimp only
 have sz:=qZ (y:=Str.ofString "; ") (show x.length≤100000 by omega)
 have no:∀ H',Same H H'→rdT k x = none→E (.ref C) none H':=fun H' g e=>(q H' g).2 fun y ey=>by cases V.str.inj ey; exact e
 refine ⟨_,rfl,rfl,_,_,rfl,rfl,(by decide +kernel),(by omega),sz.1,sz.2,fun pl hpl=>?_⟩
 have g1:=zh hpl (.lst ((Txt.split x (Str.ofString "; ")).map V.str))
 have hl1:upd H pl (.lst ((Txt.split x (Str.ofString "; ")).map V.str)) pl = some (.lst ((Txt.split x (Str.ofString "; ")).map V.str)):=zf
 generalize upd H pl (.lst ((Txt.split x (Str.ofString "; ")).map V.str)) = H1 at *
 have hpart:∀ y∈Txt.split x (Str.ofString "; "),y.length≤50000:=fun y hy=>Nat.le_trans (qI hy) lx
 have eW:(wordsT x).map (fun r=>r.map fun w=>rdN k (cl w)) = (Txt.split x (Str.ofString "; ")).map fun y=>(Txt.split y (Str.ofString " ")).map fun w=>rdN k (cl w):=by unfold wordsT; rw [List.map_map]; rfl
 have lW:(Txt.split x (Str.ofString "; ")).length = (wordsT x).length:=by unfold wordsT; rw [List.length_map]
 have l1:=Jv x
 have erd:rdT k x = okT ((Txt.split x (Str.ofString "; ")).map fun y=>(Txt.split y (Str.ofString " ")).map fun w=>rdN k (cl w)):=by unfold rdT; rw [eW]
 rw [← lW] at l1
 clear eW lW
 have lps:(Txt.split x (Str.ofString "; ")).length≤50002:=Nat.le_trans (fact_split x _).2 (by omega)
 generalize Txt.split x (Str.ofString "; ") = ps at *
 refine ⟨pl,rfl,⟨_,SqL.of hl1⟩,?_⟩
 refine yD (xs:=ps.map V.str) (fun i ys H'=>∃ M ras,ys = ras.map V.ref∧Grow H1 H' M ras∧((ps.map fun y=>(Txt.split y (Str.ofString " ")).map fun w=>rdN k (cl w)).take i) = M.map fun r=>r.map some) ⟨[],[],rfl,Grow.nil H1 (Same.refl _),rfl⟩ ?_ ?_ ?_
 ·rintro i ys H' hi ⟨M,ras,rfl,G,e⟩
  refine ⟨SqL.of (G.same _ _ hl1),?_⟩
  have e1:=yp G.rows
  have e2:=congrArg List.length e
  rw [List.length_take,List.length_map,List.length_map] at e2
  rw [List.length_map] at hi ⊢; omega
 ·rintro i v ys H' hv hi ⟨M,ras,rfl,G,e⟩
  rw [List.getElem?_map] at hv
  obtain ⟨y,hy,rfl⟩:=Option.map_eq_some_iff.mp hv
  have ly:=hpart y (List.mem_of_getElem? hy)
  have sz2:=qZ (y:=Str.ofString " ") (show y.length≤100000 by omega)
  have eY:(ps.map fun y=>(Txt.split y (Str.ofString " ")).map fun w=>rdN k (cl w))[i]? = some ((Txt.split y (Str.ofString " ")).map fun w=>rdN k (cl w)):=by rw [List.getElem?_map,hy]; rfl
  first | refine gyes ?_ | refine tyes ?_
  refine ⟨_,rfl,rfl,_,_,rfl,rfl,(by decide +kernel),(by omega),sz2.1,sz2.2,fun p2 hp2=>?_⟩
  have g2:=zh hp2 (.lst ((Txt.split y (Str.ofString " ")).map V.str))
  have hl2:upd H' p2 (.lst ((Txt.split y (Str.ofString " ")).map V.str)) p2 = some (.lst ((Txt.split y (Str.ofString " ")).map V.str)):=zf
  have G2:=G.mono g2
  generalize upd H' p2 (.lst ((Txt.split y (Str.ofString " ")).map V.str)) = H2 at *
  have hw:∀ z∈Txt.split y (Str.ofString " "),z.length≤50000:=fun z hz=>Nat.le_trans (qI hz) ly
  have lws:(Txt.split y (Str.ofString " ")).length≤50002:=Nat.le_trans (fact_split y _).2 (by omega)
  generalize Txt.split y (Str.ofString " ") = ws at *
  refine ⟨p2,rfl,⟨_,SqL.of hl2⟩,?_⟩
  refine yD (xs:=ws.map V.str) (fun j ys2 H3=>∃ xs,Same H2 H3∧Paired (RN H3) xs ys2∧((ws.map fun w=>rdN k (cl w)).take j) = xs.map some) ⟨[],Same.refl _,.nil,rfl⟩ ?_ ?_ ?_
  ·rintro j ys2 H3 hj ⟨xs,g3,pr,e3⟩
   refine ⟨SqL.of (g3 _ _ hl2),?_⟩
   have e1:=yp pr
   have e2:=congrArg List.length e3
   rw [List.length_take,List.length_map,List.length_map] at e2
   rw [List.length_map] at hj; omega
  ·rintro j u ys2 H3 hu hj ⟨xs,g3,pr,e3⟩
   rw [List.getElem?_map] at hu
   obtain ⟨z,hz,rfl⟩:=Option.map_eq_some_iff.mp hu
   have lz:=hw z (List.mem_of_getElem? hz)
   have eZ:(ws.map fun w=>rdN k (cl w))[j]? = some (rdN k (cl z)):=by rw [List.getElem?_map,hz]; rfl
   first | refine gyes ?_ | refine tyes ?_
   refine ⟨_,rfl,_,rfl,k,z,rfl,hs,(by omega),fun H4 g4=>⟨fun a v ha hv=>nxt hj ⟨xs ++ [a],g3.trans g4,ZH (zaU g4 pr) hv,?_⟩,fun hn=>no H4 (((g1.trans G2.same).trans g3).trans g4) ?_⟩⟩
   ·rw [zI eZ,e3,ha,List.map_append]; rfl
   ·rw [erd]
    exact zdw (List.mem_of_getElem? eY) (by rw [← hn]; exact List.mem_of_getElem? eZ)
  ·rintro ys2 H3 ⟨xs,g3,pr,e3⟩ p3 hp3
   rw [List.length_map,List.take_of_length_le (by rw [List.length_map]; exact Nat.le_refl _)] at e3
   refine nxt hi ⟨M ++ [xs],ras ++ [p3],by rw [List.map_append]; rfl,(G2.mono g3).snoc hp3 pr,?_⟩
   rw [zI eY,e,e3,List.map_append]; rfl
 rintro ys H2 ⟨M,ras,rfl,G,e⟩ pt hpt
 rw [List.length_map,List.take_of_length_le (by rw [List.length_map]; exact Nat.le_refl _)] at e
 rw [e,zfV] at erd
 have N2:=G.done hpt
 have g2:=g1.trans (G.same.trans (zh hpt (.lst (ras.map V.ref))))
 have lM:M.length = ps.length:=by have:=congrArg List.length e; rw [List.length_map,List.length_map] at this; exact this.symm
 generalize upd H2 pt (.lst (ras.map V.ref)) = H3 at *
 have hT:=N2.tab
 have lr:=yp hT.2
 obtain ⟨r0,M',eM⟩:=List.exists_cons_of_ne_nil (show M≠[] from fun z=>by rw [z] at lM; simp at lM; omega)
 have eh:M.headD [] = r0:=by rw [eM]; rfl
 rw [eh] at erd
 obtain ⟨a0,ea0,ha0⟩:=YU hT.2 (show M[0]? = some r0 by rw [eM]; rfl)
 obtain ⟨us0,hu0,pu0,lu0⟩:=ha0.len
 refine ⟨_,rfl,pt,_,_,.ref a0,rfl,rfl,SqL.of hT.1,zm (j:=0) (by rw [List.getElem?_map,ea0]; rfl),a0,_,rfl,.inl (SqL.of hu0),?_⟩
 rw [lu0]
 refine ⟨_,rfl,pt,_,rfl,.inl (SqL.of hT.1),_,_,rfl,rfl,_,rfl,?_⟩
 rw [List.length_map,← lr]
 refine ite2 (fun d=>?_) (fun d=>?_)
 ·refine ⟨(by show 1≤sizeLine; decide),no _ g2 ?_⟩
  have d':(12:Int) < (M.length:Int):=of_decide_eq_true d
  rw [erd,if_neg fun z=>by have:=z.2.2; omega]
 have d':¬ (12:Int) < (M.length:Int):=of_decide_eq_false (Bool.eq_false_iff.mpr d)
 refine ⟨_,rfl,_,_,rfl,rfl,_,rfl,?_⟩
 refine ite2 (fun d2=>?_) (fun d2=>?_)
 ·refine ⟨(by show 1≤sizeLine; decide),no _ g2 ?_⟩
  have d2':(12:Int) < (r0.length:Int):=of_decide_eq_true d2
  rw [erd,if_neg fun z=>by have:=z.2.1; omega]
 have d2':¬ (12:Int) < (r0.length:Int):=of_decide_eq_false (Bool.eq_false_iff.mpr d2)
 dsimp only
 refine ⟨_,rfl,pt,rfl,⟨_,SqL.of hT.1⟩,?_⟩
 refine yD (xs:=ras.map V.ref) (fun i ys H'=>H' = H3∧ys = ((M.map fun r=>!decide (V.int (r.length:Int) = V.int (r0.length:Int))).take i).map V.bl) ⟨rfl,rfl⟩ ?_ ?_ ?_
 ·rintro i ys H' hi ⟨rfl,rfl⟩
  refine ⟨SqL.of hT.1,?_⟩
  rw [List.length_map,List.length_take,List.length_map]; omega
 ·rintro i v ys H' hv hi ⟨rfl,rfl⟩
  obtain ⟨row,a,hrow,ha,rfl,hR⟩:=hT.row hv
  obtain ⟨us,hu,pu,lu⟩:=hR.len
  first | refine gyes ?_ | refine tyes ?_
  refine ⟨_,rfl,a,_,rfl,.inl (SqL.of hu),_,rfl,rfl,nxt hi ⟨rfl,?_⟩⟩
  have ex:(M.map fun r=>!decide (V.int (r.length:Int) = V.int (r0.length:Int)))[i]? = some (!decide (V.int (row.length:Int) = V.int (r0.length:Int))):=by rw [List.getElem?_map,hrow]; rfl
  rw [zI ex,List.map_append,lu]; rfl
 rintro ys H4 ⟨rfl,rfl⟩ pb hpb
 rw [List.length_map,List.take_of_length_le (by rw [List.length_map]; omega)]
 have g4:=g2.trans (zh hpb (.lst ((M.map fun r=>!decide (V.int (r.length:Int) = V.int (r0.length:Int))).map V.bl)))
 refine ⟨pb,_,rfl,zf,_,rfl,?_⟩
 have ea:(M.map fun r=>!decide (V.int (r.length:Int) = V.int (r0.length:Int))).any id = !decide (∀ r∈M,r.length = r0.length):=by
  rw [Bool.eq_iff_iff,List.any_eq_true,Bool.not_eq_true',decide_eq_false_iff_not]
  constructor
  ·rintro ⟨b,hb,e⟩ z
   obtain ⟨r,hr',rfl⟩:=List.mem_map.mp hb
   rw [z r hr',decide_eq_true rfl] at e
   exact absurd e (by decide)
  ·intro z
   refine Classical.byContradiction fun n=>z fun r hr'=>Classical.byContradiction fun ne=>n ⟨_,List.mem_map.mpr ⟨r,hr',rfl⟩,?_⟩
   rw [decide_eq_false (fun y=>ne (by have:=V.int.inj y; omega))]; rfl
 rw [ea]
 by_cases all:∀ r∈M,r.length = r0.length
 ·rw [decide_eq_true all]
  refine iteF ?_
  dsimp only
  rw [if_pos ⟨all,by omega,by omega⟩] at erd
  exact ⟨_,rfl,(q _ g4).1 x M pt ras rfl erd (hT.mono (zh hpb _))⟩
 ·rw [decide_eq_false all]
  refine iteT ⟨(by show 1≤sizeLine; decide),no _ g4 ?_⟩
  rw [erd,if_neg fun z=>all z.1]
noncomputable def fbK:List (Key×V):=[(.inr "kind",.int 1),(.inr "steered",.int 1),(.inr "unseen",.int 1),(.inr "rest",.int 1),(.inr "core",.int 2),(.inr "alike",.int 2),(.inr "machine",.int 2),(.inr "run",.int 2)]
noncomputable def firstW (x:Str):Str:=(Txt.partition x (Str.ofString " ")).1
noncomputable def rowsW (x:Str):List Str:=if inV (.str (firstW x)) [.str "machine",.str "run"] = true then Txt.splitMax x (Str.ofString " ") 2 else Txt.split x (Str.ofString " ")
noncomputable def rowW (x:Str):Option (List Str):=match valV fbK (.inr (firstW x)) with
 | some (.int i)=>if ((rowsW x).length:Int) = 1 + i then some (rowsW x) else none
 | _=>none
inductive RowV (H:Hp):V→Prop
 | str (x:Str):x.length≤10000→RowV H (.str x)
 | non:RowV H .non
 | int (i:Int):RowV H (.int i)
 | lst (p:Addr) (xs:List V):H p = some (.lst xs)→RowV H (.ref p)
 | tup (p:Addr) (xs:List V):H p = some (.tup xs)→RowV H (.ref p)
noncomputable def zan (CR:Addr):Sp:=fun vs H Q E=>∃ v,vs = [v]∧RowV H v∧((∀ x,v = .str x→rowW x = none)→∀ H',Same H H'→E (.ref CR) none H')∧∀ x ws p H',v = .str x→rowW x = some ws→Same H H'→H' p = some (.lst (ws.map V.str))→Q (.ref p) H'
theorem zhC (K:PySem.W.Frag):PySem.W.kitOne K (.type "list") (.type "str") = some false:=YV K (by decide) (by decide +kernel) (by decide +kernel)
theorem zhq (K:PySem.W.Frag):PySem.W.kitOne K (.type "tuple") (.type "str") = some false:=YV K (by decide) (by decide +kernel) (by decide +kernel)
theorem zbo (x:Str):valV fbK (.inr x) = none∨∃ i:Int,valV fbK (.inr x) = some (.int i)∧(i = 1∨i = 2):=by
 unfold fbK
 iterate 8 (refine (Classical.em _).elim (fun e=>.inr ⟨_,yu e,by simp⟩) (fun e=>?_); rw [yt e])
 exact .inl zex
theorem zgu (x y:Str):(Builtin.Str.partsBetween x (Builtin.Str.occurrences x y 0 x.length (limitOf x 2)) y.length).length≤3∧(Txt.splitMax x y 2).length≤3:=by
 have h:(Builtin.Str.partsBetween x (Builtin.Str.occurrences x y 0 x.length (limitOf x 2)) y.length).length≤3:=by
  rw [length_partsBetween]
  have:=StrLaws.occ_length_le x y 0 x.length (limitOf x 2)
  have e:limitOf x 2 = 2:=by unfold limitOf; rw [if_neg (by decide)]; rfl
  omega
 refine ⟨h,?_⟩
 unfold Txt.splitMax
 split
 ·show 1≤3; decide
 ·split
  ·show 1≤3; decide
  ·exact h
theorem zdK {CR aF:Addr} (c_NoRow:Ec K mg "NoRow" CR) (D_FB:KDi P w K aF fbK) (yX:mg "FOLLOWED_BY" = some (.ref aF)) (D:Df K mg "words_of" ["row"] jA) (m_len:mg "len" = none) (zH:mg "isinstance" = none) (m_str:mg "str" = none):Kx P w K mg base "words_of" 1 ["row"] (zan CR):=by
 refine D.kx sc_words_of (fun vs H Q E h=>?_) (fun f cdv A outer s H vs Q E hr h=>?_)
 ·obtain ⟨v,rfl,_⟩:=h; rfl
 obtain ⟨v,rfl,rv,no,q⟩:=h
 have szl:sizeLine = 16777216:=by decide
 refine ⟨_,(zb (zV (PT.nox (jd (xb (zv (Ji (K:=K) rfl) rfl zH zY (za (pv 0) (za (zf6 rfl m_str Zx) zc)))))) (zi (yf c_NoRow rfl rfl zS (za zg zc))) zx) (zb (PS.nox (zp (i:=1) sc_words_of.nd rfl (.inl rfl) (zu zJ (bm0 (fun _ h=>xZ PySem.F.plainAttrs_str PySem.F.slot_str_partition PySem.F.type_str_partition qN h (za zg zc)) (pv 0)) ze))) (zb (PS.nox (zp (i:=2) sc_words_of.nd rfl (.inl rfl) (xQ (zr zds (pv 1) (qR (za zg (za zg zc))) (by with_unfolding_all rfl)) (bm0 (fun _ h=>xZ PySem.F.plainAttrs_str PySem.F.slot_str_split PySem.F.type_str_split zcq h (za zg (za ze zc))) (pv 0)) (bm0 (fun _ h=>xZ PySem.F.plainAttrs_str PySem.F.slot_str_split PySem.F.type_str_split qY h (za zg zc)) (pv 0))))) (zb (zV (PT.nox (PW.pt (pw_or (zr (zdg D_FB) (pv 1) (zP (v:=.ref aF) rfl yX rfl) (by with_unfolding_all rfl)) (pw_or1 (zr jG (zv zL rfl m_len yy (za (pv 2) zc)) (zk ql ze (zfC D_FB (zP (v:=.ref aF) rfl yX rfl) (pv 1) (fun _ _=>rfl))) (nomark _)))))) (zi (yf c_NoRow rfl rfl zS (za zg zc))) zx) (zi (PS.nox (zt (pv 2)))))))),?_⟩
 cases rv with
 | non=>exact ⟨_,rfl,_,_,_,_,rfl,TyOf.non,zeX K,_,rfl,iteT ⟨(by show 1≤sizeLine; decide),no (fun x e=>nomatch e) H (Same.refl _)⟩⟩
 | int i=>exact ⟨_,rfl,_,_,_,_,rfl,TyOf.int i,zeO K,_,rfl,iteT ⟨(by show 1≤sizeLine; decide),no (fun x e=>nomatch e) H (Same.refl _)⟩⟩
 | lst p xs h=>exact ⟨_,rfl,_,_,_,_,rfl,TyOf.lst h,zhC K,_,rfl,iteT ⟨(by show 1≤sizeLine; decide),no (fun x e=>nomatch e) H (Same.refl _)⟩⟩
 | tup p xs h=>exact ⟨_,rfl,_,_,_,_,rfl,TyOf.tup h,zhq K,_,rfl,iteT ⟨(by show 1≤sizeLine; decide),no (fun x e=>nomatch e) H (Same.refl _)⟩⟩
 | str x lx =>
  have no:rowW x = none→∀ H',Same H H'→E (.ref CR) none H':=fun e=>no fun y ey=>by cases V.str.inj ey; exact e
  refine ⟨_,rfl,_,_,_,_,rfl,TyOf.str x,zeL K,_,rfl,iteF ?_⟩
  dsimp only
  refine ⟨_,rfl,rfl,_,_,rfl,rfl,(by decide +kernel),(by omega),fun pp hpp=>?_⟩
  have g1:=zh hpp (.tup [.str (Txt.partition x (Str.ofString " ")).1,.str (Txt.partition x (Str.ofString " ")).2.1,.str (Txt.partition x (Str.ofString " ")).2.2])
  refine ⟨pp,_,_,.str (firstW x),rfl,rfl,SqT.of zf,rfl,?_⟩
  generalize upd H pp (.tup [.str (Txt.partition x (Str.ofString " ")).1,.str (Txt.partition x (Str.ofString " ")).2.1,.str (Txt.partition x (Str.ofString " ")).2.2]) = H1 at *
  dsimp only [gName]
  refine Jq (fun σ H'=>∃ pw,σ = [some (.str x),some (.str (firstW x)),some (.ref pw)]∧Same H H'∧H' pw = some (.lst ((rowsW x).map V.str))) ?_ ?_
  ·rintro σ H4 ⟨pw,rfl,g4,hw⟩
   refine ⟨_,rfl,.inr (firstW x),rfl,rfl,_,rfl,?_⟩
   rcases zbo (firstW x) with e | ⟨i,e,hi⟩
   ·rw [e]
    exact iteT (iteT ⟨(by show 1≤sizeLine; decide),no (by unfold rowW; rw [e]) H4 g4⟩)
   ·have er:rowW x = if ((rowsW x).length:Int) = 1 + i then some (rowsW x) else none:=by unfold rowW; rw [e]
    rw [e]
    refine iteF ?_
    refine ⟨_,rfl,pw,_,rfl,.inl (SqL.of hw),_,rfl,.inr (firstW x),.int i,rfl,rfl,e,_,_,rfl,rfl,rfl,_,rfl,?_⟩
    rw [List.length_map]
    by_cases c:((rowsW x).length:Int) = 1 + i
    ·rw [if_pos c] at er
     rw [c,decide_eq_true rfl]
     exact iteF ⟨_,rfl,q x _ pw H4 rfl er g4 hw⟩
    ·rw [if_neg c] at er
     rw [decide_eq_false fun z=>c (V.int.inj z)]
     exact iteT ⟨(by show 1≤sizeLine; decide),no er H4 g4⟩
  ·intro rest
   refine ⟨_,rfl,(by show 2≤sizeLine; decide),fun pt hpt=>?_⟩
   have g2:=zh hpt (.tup [.str "machine",.str "run"])
   refine ⟨pt,_,rfl,.inr (SqT.of zf),rfl,rfl,_,rfl,?_⟩
   generalize upd H1 pt (.tup [.str "machine",.str "run"]) = H2 at *
   have mz:=zgu x (Str.ofString " ")
   have sz:=qZ (y:=Str.ofString " ") (show x.length≤100000 by omega)
   refine ite2 (fun c=>?_) (fun c=>?_)
   ·have ew:rowsW x = Txt.splitMax x (Str.ofString " ") 2:=if_pos c
    exact ⟨_,rfl,rfl,_,_,_,rfl,rfl,(by decide),(by decide +kernel),(by omega),(by omega),(by omega),fun p hp=>rest _ _ ⟨p,rfl,(g1.trans g2).trans (zh hp _),by rw [ew]; exact zf⟩⟩
   ·have ew:rowsW x = Txt.split x (Str.ofString " "):=if_neg c
    exact ⟨_,rfl,rfl,_,_,rfl,rfl,(by decide +kernel),(by omega),sz.1,sz.2,fun p hp=>rest _ _ ⟨p,rfl,(g1.trans g2).trans (zh hp _),by rw [ew]; exact zf⟩⟩
theorem zhm:bootBuiltins "all" = some (.builtin "all"):=by decide +kernel
theorem cut12 (xs:List V):cutV xs (some 1) (some 2) = (xs.drop 1).take 1:=by
 unfold cutV
 rw [show (1:Int) = ((1:Nat):Int) from rfl,show (2:Int) = ((2:Nat):Int) from rfl,HT.Yv,HT.Yv]
 cases xs with
 | nil=>rfl
 | cons a r=>cases r with
  | nil=>rfl
  | cons b t=>simp
theorem cut1 (xs:List V):cutV xs (some 1) none = xs.drop 1:=by
 unfold cutV
 rw [show (1:Int) = ((1:Nat):Int) from rfl,HT.Yv,HT.zag]
 cases xs with
 | nil=>rfl
 | cons a r=>simp
noncomputable def namesW (ws:List Str):List Str:=if ws.headD Str.empty = Str.ofString "kind" then [] else if inV (.str (ws.headD Str.empty)) [.str "machine",.str "run"] = true then (ws.drop 1).take 1 else ws.drop 1
noncomputable def QQ:Sp:=fun vs H Q _=>∃ (p:Addr) (ws:List Str),vs = [.ref p]∧H p = some (.lst (ws.map V.str))∧ws≠[]∧ws.length≤50000∧∀ p' H',Same H H'→H' p' = some (.lst ((namesW ws).map V.str))→Q (.ref p') H'
theorem zep (D:Df K mg "names_among" ["words"] yW):Kn P w K mg base "names_among" 1 ["words"] QQ:=by
 refine D.kn ZQ (fun vs H Q E h=>?_) (fun f cdv A outer s H vs Q E hr h=>?_)
 ·obtain ⟨p,ws,rfl,_⟩:=h; rfl
 obtain ⟨p,ws,rfl,hp,ne,lw,q⟩:=h
 have szl:sizeLine = 16777216:=by decide
 obtain ⟨w0,ws,rfl⟩:=List.exists_cons_of_ne_nil ne
 refine ⟨_,(zb (zV (zr xi (zu zo (pv 0) ze) zg (nomark _)) (zi (zt (zM zc))) zx) (zi (zt (xQ (zr zds (zu zo (pv 0) ze) (qR (za zg (za zg zc))) (by with_unfolding_all rfl)) (xT zaw (pv 0) (jb ze) (jb ze)) (xT zaw (pv 0) (jb ze) qH))))),?_⟩
 refine ⟨_,rfl,p,_,_,.str w0,rfl,rfl,SqL.of hp,(zm (j:=0) rfl),rfl,_,rfl,?_⟩
 refine ite2 (fun c=>?_) (fun c=>?_)
 ·have e:w0 = Str.ofString "kind" := V.str.inj (of_decide_eq_true c)
  have en:namesW (w0 :: ws) = []:=if_pos e
  rw [en] at q
  exact ⟨(by show 0≤sizeLine; decide),fun p' hp'=>q p' _ (zh hp' _) zf⟩
 have e:¬ w0 = Str.ofString "kind" := fun z=>c (decide_eq_true (congrArg V.str z))
 refine ⟨_,rfl,p,_,_,.str w0,rfl,rfl,SqL.of hp,(zm (j:=0) rfl),(by show 2≤sizeLine; decide),fun pt hpt=>?_⟩
 have g:=zh hpt (.tup [.str "machine",.str "run"])
 refine ⟨pt,_,rfl,.inr (SqT.of zf),rfl,rfl,_,rfl,?_⟩
 generalize upd H pt (.tup [.str "machine",.str "run"]) = H1 at *
 have hp1:=g _ _ hp
 refine ite2 (fun c=>?_) (fun c=>?_)
 ·have en:namesW (w0 :: ws) = ((w0 :: ws).drop 1).take 1:=(if_neg e).trans (if_pos c)
  rw [en] at q
  refine ⟨_,rfl,_,rfl,_,rfl,p,_,rfl,SqL.of hp1,fun p' hp'=>q p' _ (g.trans (zh hp' _)) ?_⟩
  rw [zf,cut12,List.map_take,List.map_drop]
 ·have en:namesW (w0 :: ws) = (w0 :: ws).drop 1:=(if_neg e).trans (if_neg c)
  rw [en] at q
  refine ⟨_,rfl,_,rfl,p,_,rfl,SqL.of hp1,fun p' hp'=>q p' _ (g.trans (zh hp' _)) ?_⟩
  rw [zf,cut1,List.map_drop]
noncomputable def nameW (x:Str):Bool:=(decide (1≤x.length) && decide (x.length≤8)) && (cl x).all fun c=>decide (97≤c∧c≤122)
theorem zaC (c:Nat):(!(Builtin.Str.occurrences (Str.ofString "abcdefghijklmnopqrstuvwxyz") ⟨#[c]⟩ 0 (Str.ofString "abcdefghijklmnopqrstuvwxyz").length 1).isEmpty) = decide (97≤c∧c≤122):=by
 rw [StrLaws.found_one,decide_eq_decide]
 have e:(Str.ofString "abcdefghijklmnopqrstuvwxyz").cps.toList = [97,98,99,100,101,102,103,104,105,106,107,108,109,110,111,112,113,114,115,116,117,118,119,120,121,122]:=by decide +kernel
 rw [e]
 constructor
 ·intro h
  simp only [List.mem_cons,List.not_mem_nil,or_false] at h
  omega
 ·intro h
  simp only [List.mem_cons,List.not_mem_nil,or_false]
  omega
noncomputable def Js:Sp:=fun vs H Q _=>∃ x:Str,vs = [.str x]∧x.length≤100000∧∀ H',Same H H'→Q (.bl (nameW x)) H'
theorem zdr {t1 t2:Nat} (D:Df K mg "is_name" ["word"] jX) (ZD:mg "LETTERS" = some (.str "abcdefghijklmnopqrstuvwxyz" t1)) (xC:mg "MOST_LETTERS" = some (.int 8 t2)) (m_len:mg "len" = none) (m_all:mg "all" = none):Kn P w K mg base "is_name" 1 ["word"] Js:=by
 refine D.kn zaR (fun vs H Q E h=>?_) (fun f cdv A outer s H vs Q E hr h=>?_)
 ·obtain ⟨x,rfl,_⟩:=h; rfl
 obtain ⟨x,rfl,lx,q⟩:=h
 have szl:sizeLine = 16777216:=by decide
 refine ⟨_,(zi (zt (zdh (zdO zbH zbH ze (zv qQ rfl m_len yy (za (pv 0) zc)) (zP (v:=.int 8) rfl xC ⟨_,rfl⟩)) (zbs (zv (zdb rfl) rfl m_all zhm (za (ZT [] [] (zez (pv 0)) fun _ _ _ _ _ _=>⟨yv,(xA zcB (pv 0) (zP (v:=.str "abcdefghijklmnopqrstuvwxyz") rfl ZD ⟨_,rfl⟩) (by with_unfolding_all rfl))⟩) zc)))))),?_⟩
 refine ⟨_,rfl,_,rfl,(by omega),_,_,rfl,rfl,_,rfl,?_⟩
 have en:∀ b1 b2:Bool,decide (1≤(x.length:Int)) = b1→decide ((x.length:Int)≤8) = b2→nameW x = ((b1 && b2) && (cl x).all fun c=>decide (97≤c∧c≤122)):=fun b1 b2 h1 h2=>by
  unfold nameW
  rw [← h1,← h2]
  congr 2
  ·rw [decide_eq_decide]; omega
  ·rw [decide_eq_decide]; omega
 refine ite2 (fun c=>?_) (fun c=>?_)
 rotate_left
 ·have:=en false _ (by simpa using c) rfl
  rw [Bool.false_and,Bool.false_and] at this
  rw [this] at q
  exact ⟨_,rfl,iteF (q H (Same.refl _))⟩
 refine ⟨_,_,rfl,rfl,_,rfl,?_⟩
 refine ite2 (fun d=>?_) (fun d=>?_)
 rotate_left
 ·have:=en _ false rfl (by simpa using d)
  rw [Bool.and_false,Bool.false_and] at this
  rw [this] at q
  exact q H (Same.refl _)
 have:=en true true c d
 rw [Bool.and_self,Bool.true_and] at this
 rw [this] at q
 refine ⟨_,rfl,_,rfl,?_⟩
 refine Xv (fun i ys H'=>ys = (((cl x).map fun c=>decide (97≤c∧c≤122)).take i).map V.bl∧H' = H) ⟨rfl,rfl⟩ ?_ ?_ ?_
 ·rintro i ys H' hi ⟨rfl,rfl⟩
  rw [List.length_map,List.length_take,List.length_map]; have:=zF x; omega
 ·rintro i c ys H' hc hi ⟨rfl,rfl⟩
  first | refine gyes ?_ | refine tyes ?_
  refine ⟨_,rfl,_,_,rfl,rfl,nxt hi ⟨?_,rfl⟩⟩
  have hc':(cl x)[i]? = some c:=by rw [← hc]; exact Array.getElem?_toList
  have ex:((cl x).map fun c=>decide (97≤c∧c≤122))[i]? = some (decide (97≤c∧c≤122)):=by rw [List.getElem?_map,hc']; rfl
  rw [zI ex,List.map_append,zaC]; rfl
 ·rintro ys H' ⟨rfl,rfl⟩ p hp
  have g:=zh hp (.lst ((((cl x).map fun c=>decide (97≤c∧c≤122)).take x.cps.size).map V.bl))
  rw [List.take_of_length_le (by rw [List.length_map]; show (cl x).length≤_; simp)] at *
  refine ⟨p,_,rfl,zf,?_⟩
  rw [List.all_map]
  exact q _ g
theorem zeq {K:PySem.W.Frag} {g:TG} {tt:TT} {te:TE} {R:List V→Hp→Prop} {H:Hp} {σb:L2.St} {a:Addr} {xs:List V} (J:Nat→List V→Hp→Prop) (h0:J 0 [] H) (hl:∀ (i:Nat) (ys:List V) (H':Hp),i≤xs.length→J i ys H'→SqT K H' a xs∧ys.length < sizeLine)
  (hs:∀ (i:Nat) (x:V) (ys:List V) (H':Hp),xs[i]? = some x→i < xs.length→J i ys H'→g x σb H' fun σ2 H2=>tt σ2 H2 fun b H3=>if b = true then te σ2 H3 fun y H4=>Nxt xs.length i (J (i + 1) (ys ++ [y]) H4) else Nxt xs.length i (J (i + 1) ys H3))
  (hd:∀ (ys:List V) (H':Hp),J xs.length ys H'→R ys H') :
  ∃ W:Nat→Nat→List V→Hp→Prop,(∃ m,W 0 m [] H)∧∀ i m ys H,W i m ys H →
   ((Itt K a).stop i H∧ys.length≤sizeLine∧R ys H) ∨
   ((Itt K a).go i H∧ys.length < sizeLine∧∀ x H',(Itt K a).yld i H x H'→g x σb H' fun σ2 H2=>tt σ2 H2 fun b H3=>if b = true then te σ2 H3 fun y H4=>∃ m',m' < m∧W (i + 1) m' (ys ++ [y]) H4 else ∃ m',m' < m∧W (i + 1) m' ys H3):=by
 refine ⟨fun i m ys H=>m = xs.length - i∧i≤xs.length∧J i ys H,⟨xs.length,by simp,Nat.zero_le _,h0⟩,?_⟩
 rintro i m ys H1 ⟨rfl,hi,j⟩
 obtain ⟨q,hz⟩:=hl i ys H1 hi j
 by_cases hlt:i < xs.length
 ·refine .inr ⟨⟨xs,xs[i],q,by simp [hlt]⟩,hz,fun x H' y=>?_⟩
  obtain ⟨e,y⟩:=y
  subst e
  exact hs i x ys _ (y xs q) hlt j
 ·have e:i = xs.length:=by omega
  subst e
  exact .inl ⟨⟨xs,q,Nat.le_refl _⟩,Nat.le_of_lt hz,hd ys H1 j⟩
noncomputable def kindsL:List Int:=[0,2,3,5,7,11,13,17,19,23,29,31,37,41,43,47,53,59,61,67,71,73,79,83,89,97]
noncomputable def kindsW (x:Str):List Int:=kindsL.filter fun k=>decide (V.str (Str.ofString (toString k)) = V.str x)
noncomputable def zeI (CT:Addr):Sp:=fun vs H Q E=>∃ x:Str,vs = [.str x]∧∀ H',Same H H'→(∀ k r,kindsW x = k :: r→Q (.int k) H')∧(kindsW x = []→E (.ref CT) none H')
theorem zhA {CT aK:Addr} (c_NoText:Ec K mg "NoText" CT) (T_K:∀ H,SqT K H aK (kindsL.map V.int)) (Qo:mg "KINDS" = some (.ref aK)) (D:Df K mg "read_kind" ["word"] xL) (m_len:mg "len" = none) (m_str:mg "str" = none):Kx P w K mg base "read_kind" 1 ["word"] (zeI CT):=by
 refine D.kx sc_read_kind (fun vs H Q E h=>?_) (fun f cdv A outer s H vs Q E hr h=>?_)
 ·obtain ⟨x,rfl,_⟩:=h; rfl
 obtain ⟨x,rfl,q⟩:=h
 have szl:sizeLine = 16777216:=by decide
 refine ⟨_,(zb (PS.nox (zhw 1 sc_read_kind.nd ["word"] [0] (zfk (K:=K) rfl (zP (v:=.ref aK) rfl Qo rfl)) fun _ _ _ _ _ _=>⟨(zbn (zr xi (yQ yO rfl m_str Zx (za (pv 0) zc)) (pv 1) (nomark _))),(pv 0)⟩)) (zb (zV (PT.nox (zr xi (zv zL rfl m_len yy (za (pv 1) zc)) ze (nomark _))) (zi (yf c_NoText rfl rfl zS (za zg zc))) zx) (zi (PS.nox (zt (zu zo (pv 1) ze)))))),?_⟩
 refine ⟨aK,rfl,⟨_,T_K H⟩,?_⟩
 refine zeq (xs:=kindsL.map V.int) (fun i ys H'=>ys = ((kindsL.take i).filter (fun k=>decide (V.str (Str.ofString (toString k)) = V.str x))).map V.int∧H' = H) ⟨rfl,rfl⟩ ?_ ?_ ?_
 ·rintro i ys H' hi ⟨rfl,rfl⟩
  refine ⟨T_K _,?_⟩
  rw [List.length_map]
  exact Nat.lt_of_le_of_lt (List.length_filter_le _ _) (by rw [List.length_take]; exact Nat.lt_of_le_of_lt (Nat.min_le_right _ _) (by show 26 < sizeLine; decide))
 ·rintro i v ys H' hv hi ⟨rfl,rfl⟩
  rw [List.getElem?_map] at hv
  obtain ⟨k,hk,rfl⟩:=Option.map_eq_some_iff.mp hv
  have kl:k.natAbs.log2 < 1920:=by
   have:=List.mem_of_getElem? hk
   have all:∀ k∈kindsL,k.natAbs.log2 < 1920:=by decide +kernel
   exact all k this
  refine ⟨_,rfl,k,rfl,kl,_,rfl,rfl,_,rfl,?_⟩
  refine ite2 (fun c=>?_) (fun c=>?_)
  ·refine ⟨_,rfl,nxt hi ⟨?_,rfl⟩⟩
   rw [zI hk,List.filter_append,List.map_append,show List.filter (fun k=>decide (V.str (Str.ofString (toString k)) = V.str x)) [k] = [k] from List.filter_cons_of_pos (p:=fun k=>decide (V.str (Str.ofString (toString k)) = V.str x)) c]; rfl
  ·refine nxt hi ⟨?_,rfl⟩
   rw [zI hk,List.filter_append,List.map_append,show List.filter (fun k=>decide (V.str (Str.ofString (toString k)) = V.str x)) [k] = [] from List.filter_cons_of_neg (p:=fun k=>decide (V.str (Str.ofString (toString k)) = V.str x)) c,List.map_nil,List.append_nil]
 ·rintro ys H' ⟨rfl,rfl⟩ p hp
  rw [List.length_map,List.take_length]
  have g:=zh hp (.lst ((kindsW x).map V.int))
  obtain ⟨q1,q2⟩:=q _ g
  have hl:upd H' p (.lst ((kindsW x).map V.int)) p = some (.lst ((kindsW x).map V.int)):=zf
  show tSeq _ _ _ _ (upd H' p (.lst ((kindsW x).map V.int)))
  generalize upd H' p (.lst ((kindsW x).map V.int)) = H1 at *
  refine ⟨_,rfl,p,_,rfl,.inl (SqL.of hl),rfl,_,rfl,?_⟩
  cases e:kindsW x with
  | nil=>exact iteT ⟨(by show 1≤sizeLine; decide),q2 e⟩
  | cons k r =>
   rw [e] at hl
   refine iteF ?_
   exact ⟨_,rfl,p,_,_,.int k,rfl,rfl,SqL.of hl,(zm (j:=0) rfl),q1 k r e⟩
noncomputable def allS {α:Type}:List (Option α)→Option (List α)
 | []=>some []
 | none :: _=>none
 | some a :: r=>(allS r).map (a :: ·)
theorem Jz {α:Type}:∀ (l:List α),allS (l.map some) = some l
 | []=>rfl
 | a :: l=>by show (allS (l.map some)).map (a :: ·) = _; rw [Jz l]; rfl
theorem JE {α:Type} {r:List (Option α)}:∀ (l:List α),allS (l.map some ++ none :: r) = none
 | []=>rfl
 | a :: l=>by show (allS (l.map some ++ none :: r)).map (a :: ·) = _; rw [JE l]; rfl
noncomputable def tabsW (k:Int) (x:Str) (many:Nat):Option (List (List (List Nb))):=if (Txt.split x (Str.ofString " | ")).length = many then allS ((Txt.split x (Str.ofString " | ")).map (rdT k)) else none
noncomputable def TabsAt (H:Hp) (Ms:List (List (List Nb))) (ts:List Addr):Prop:=Paired (fun M t=>∃ ras,TabAt H M t ras) Ms ts
theorem TabsAt.mono {H H':Hp} {Ms:List (List (List Nb))} {ts:List Addr} (h:TabsAt H Ms ts) (g:Same H H'):TabsAt H' Ms ts:=jW (fun _ _ ⟨r,t⟩=>⟨r,t.mono g⟩) h
noncomputable def zcd (CT:Addr):Sp:=fun vs H Q E=>∃ (k:Int) (x:Str) (many:Nat) (mI:Int),vs = [.int k,.str x,.int mI]∧mI = (many:Int)∧KindS k∧x.length≤50000∧(∀ Ms ts p H',tabsW k x many = some Ms→Same H H'→H' p = some (.lst (ts.map V.ref))→TabsAt H' Ms ts→Q (.ref p) H')∧(tabsW k x many = none→∀ H',Same H H'→E (.ref CT) none H')
theorem zg9 {CT:Addr} {t1:Nat} (c_NoText:Ec K mg "NoText" CT) (xc:mg "BETWEEN_TEXTS" = some (.str " | " t1)) (D:Df K mg "read_tables" ["kind", "text", "many"] yV) (Jh:Kx P w K mg base "read_table" 44 ["kind", "text"] (zeH CT)) (m_len:mg "len" = none):Kx P w K mg base "read_tables" 45 ["kind", "text", "many"] (zcd CT):=by
 refine D.kx sc_read_tables (fun vs H Q E h=>?_) (fun f cdv A outer s H vs Q E hr h=>?_)
 ·obtain ⟨k,x,many,mI,rfl,_⟩:=h; rfl
 obtain ⟨k,x,many,mI,rfl,rfl,hs,lx,q,no⟩:=h
 have szl:sizeLine = 16777216:=by decide
 refine ⟨_,(zb (PS.nox (zp (i:=3) sc_read_tables.nd rfl (.inl rfl) (bm0 (fun _ h=>xZ PySem.F.plainAttrs_str PySem.F.slot_str_split PySem.F.type_str_split qY h (za (zP (v:=.str " | ") rfl xc ⟨_,rfl⟩) zc)) (pv 1)))) (zb (zV (PT.nox (zr jG (zv zL rfl m_len yy (za (pv 3) zc)) (pv 2) (nomark _))) (zi (yf c_NoText rfl rfl zS (za zg zc))) zx) (zi (zt (zgH lets_of ["kind"] [0] (yB (pv 3)) fun _ _ _ _ _ _=>⟨yv,(ji Jh (hr.mono (by decide)) rfl Xy (za (pv 1) (za (pv 0) zc)))⟩))))),?_⟩
 have sz:=qZ (y:=Str.ofString " | ") (show x.length≤100000 by omega)
 refine ⟨_,rfl,rfl,_,_,rfl,rfl,(by decide +kernel),(by omega),sz.1,sz.2,fun pl hpl=>?_⟩
 have g1:=zh hpl (.lst ((Txt.split x (Str.ofString " | ")).map V.str))
 have hl1:upd H pl (.lst ((Txt.split x (Str.ofString " | ")).map V.str)) pl = some (.lst ((Txt.split x (Str.ofString " | ")).map V.str)):=zf
 generalize upd H pl (.lst ((Txt.split x (Str.ofString " | ")).map V.str)) = H1 at *
 have hpart:∀ y∈Txt.split x (Str.ofString " | "),y.length≤50000:=fun y hy=>Nat.le_trans (qI hy) lx
 have et:tabsW k x many = if (Txt.split x (Str.ofString " | ")).length = many then allS ((Txt.split x (Str.ofString " | ")).map (rdT k)) else none:=rfl
 have lps:(Txt.split x (Str.ofString " | ")).length≤50002:=Nat.le_trans (fact_split x _).2 (by omega)
 generalize Txt.split x (Str.ofString " | ") = ps at *
 refine ⟨_,rfl,pl,_,rfl,.inl (SqL.of hl1),_,rfl,rfl,_,rfl,?_⟩
 rw [List.length_map]
 by_cases c:ps.length = many
 rotate_left
 ·rw [if_neg c] at et
  rw [decide_eq_false fun z=>c (by have:=V.int.inj z; omega)]
  exact iteT ⟨(by show 1≤sizeLine; decide),no et H1 g1⟩
 rw [if_pos c] at et
 rw [c,decide_eq_true rfl]
 refine iteF ?_
 dsimp only
 refine ⟨_,rfl,pl,rfl,⟨_,SqL.of hl1⟩,?_⟩
 refine yD (xs:=ps.map V.str) (fun i ys H'=>∃ Ms ts,ys = ts.map V.ref∧Same H1 H'∧TabsAt H' Ms ts∧(ps.map (rdT k)).take i = Ms.map some) ⟨[],[],rfl,Same.refl _,.nil,rfl⟩ ?_ ?_ ?_
 ·rintro i ys H' hi ⟨Ms,ts,rfl,g,T,e⟩
  refine ⟨SqL.of (g _ _ hl1),?_⟩
  have e1:=yp T
  have e2:=congrArg List.length e
  rw [List.length_take,List.length_map,List.length_map] at e2
  rw [List.length_map] at hi ⊢; omega
 ·rintro i v ys H' hv hi ⟨Ms,ts,rfl,g,T,e⟩
  rw [List.getElem?_map] at hv
  obtain ⟨y,hy,rfl⟩:=Option.map_eq_some_iff.mp hv
  have ly:=hpart y (List.mem_of_getElem? hy)
  have eY:(ps.map (rdT k))[i]? = some (rdT k y):=by rw [List.getElem?_map,hy]; rfl
  first | refine gyes ?_ | refine tyes ?_
  refine ⟨_,rfl,_,rfl,k,.str y,rfl,hs,.inl ⟨y,rfl,ly⟩,fun H4 g4=>⟨fun z M t ras ez hM hT=>nxt hi ⟨Ms ++ [M],ts ++ [t],by rw [List.map_append]; rfl,g.trans g4,ZH (T.mono g4) ⟨ras,hT⟩,?_⟩,fun hn=>no ?_ H4 ((g1.trans g).trans g4)⟩⟩
  ·cases V.str.inj ez
   rw [zI eY,e,hM,List.map_append]; rfl
  ·obtain ⟨hi',ei⟩:=List.getElem?_eq_some_iff.mp eY
   have:ps.map (rdT k) = (ps.map (rdT k)).take i ++ none :: (ps.map (rdT k)).drop (i + 1):=by rw [← hn y rfl,← ei,← List.drop_eq_getElem_cons hi',List.take_append_drop]
   rw [et,this,e,JE]
 ·rintro ys H' ⟨Ms,ts,rfl,g,T,e⟩ p hp
  rw [List.length_map,List.take_of_length_le (by rw [List.length_map]; exact Nat.le_refl _)] at e
  have g':=zh hp (.lst (ts.map V.ref))
  exact q Ms ts p _ (by rw [et,e,Jz]) ((g1.trans g).trans g') zf (T.mono g')
noncomputable def hszB (M:List (List Nb)) (r c:Int):Bool:=decide (V.int (M.length:Int) = V.int r) && decide (V.int ((M.headD []).length:Int) = V.int c)
noncomputable def zcI:Sp:=fun vs H Q _=>∃ (M:List (List Nb)) (t:Addr) (ras:List Addr) (r c:Int),vs = [.ref t,.int r,.int c]∧TabAt H M t ras∧M≠[]∧Q (.bl (hszB M r c)) H
theorem zgy (D:Df K mg "has_sizes" ["table", "rows", "columns"] xI) (m_len:mg "len" = none):Kn P w K mg base "has_sizes" 1 ["table", "rows", "columns"] zcI:=by
 refine D.kn JL (fun vs H Q E h=>?_) (fun f cdv A outer s H vs Q E hr h=>?_)
 ·obtain ⟨M,t,ras,r,c,rfl,_⟩:=h; rfl
 obtain ⟨M,t,ras,r,c,rfl,hT,ne,q⟩:=h
 obtain ⟨M0,M',rfl⟩:=List.exists_cons_of_ne_nil ne
 have hras:=yp hT.2
 obtain ⟨r0,ras',rfl⟩ : ∃ r0 ras',ras = r0 :: ras':=by
  cases ras with
  | nil=>simp at hras
  | cons a b=>exact ⟨a,b,rfl⟩
 obtain ⟨vs0,h0,p0,l0⟩:=(zdm hT.2 (i:=0) rfl rfl).len
 refine ⟨_,(zi (zt (zdh (xA xi (zv zL rfl m_len yy (za (pv 0) zc)) (pv 1) (nomark _)) (zbs (xA xi (zv zL rfl m_len yy (za (zu zo (pv 0) ze) zc)) (pv 2) (nomark _)))))),?_⟩
 refine ⟨_,rfl,t,_,rfl,.inl (SqL.of hT.1),_,rfl,rfl,_,rfl,?_⟩
 rw [List.length_map,← hras]
 unfold hszB at q
 refine ite2 (fun d=>?_) (fun d=>?_)
 ·rw [d,Bool.true_and] at q
  refine ⟨_,rfl,t,_,_,.ref r0,rfl,rfl,SqL.of hT.1,(zm (j:=0) rfl),r0,_,rfl,.inl (SqL.of h0),_,rfl,rfl,?_⟩
  rw [l0]
  exact q
 ·rw [show decide (V.int ((M0 :: M').length:Int) = V.int r) = false by simpa using d,Bool.false_and] at q
  exact q
theorem zaf {α:Type}:∀ {l:List (Option α)} {r:List α},allS l = some r→l = r.map some
 | [],r,h=>by cases h; rfl
 | none :: _,r,h=>nomatch h
 | some a :: l,r,h=>by
  obtain ⟨r',e,rfl⟩:=Option.map_eq_some_iff.mp (show (allS l).map (a :: ·) = some r from h)
  rw [zaf e]; rfl
theorem XI {k:Int} {x:Str} {many:Nat} {Ms:List (List (List Nb))} (h:tabsW k x many = some Ms):Ms.length = many∧∀ M∈Ms,∃ y,y∈Txt.split x (Str.ofString " | ")∧rdT k y = some M:=by
 unfold tabsW at h
 split at h
 ·rename_i c
  have e:=zaf h
  refine ⟨?_,fun M hM=>?_⟩
  ·have:=congrArg List.length e
   rw [List.length_map,List.length_map] at this
   omega
  ·have:some M∈(Txt.split x (Str.ofString " | ")).map (rdT k):=by rw [e]; exact List.mem_map_of_mem hM
   obtain ⟨y,hy,ey⟩:=List.mem_map.mp this
   exact ⟨y,hy,ey⟩
 ·cases h
theorem ze8 {k:Int} {y:Str} {M:List (List Nb)} (h:rdT k y = some M):M≠[]:=fun e=>by
 subst e
 unfold rdT okT at h
 split at h
 ·have e:=congrArg List.length (Option.some.inj h)
  rw [List.length_map,List.length_map,List.length_nil] at e
  have:=Jv y
  omega
 ·cases h
theorem zcW (a b:Nat):decide (a≤b) = !decide ((b:Int) < (a:Int)):=by
 rw [Bool.eq_iff_iff]; simp
noncomputable def machB (A B C:List (List Nb)):Bool:=(decide (A.length≤5) && decide ((B.headD []).length≤3) && decide (C.length≤3)) && (hszB A A.length A.length && hszB B A.length (B.headD []).length && hszB C C.length A.length)
noncomputable def machW (k:Int) (x:Str):Option (List (List Nb)×List (List Nb)×List (List Nb)):=match tabsW k x 3 with
 | some [A,B,C]=>if machB A B C = true then some (A,B,C) else none
 | _=>none
noncomputable def ze5 (CT:Addr):Sp:=fun vs H Q E=>∃ (k:Int) (x:Str),vs = [.int k,.str x]∧KindS k∧x.length≤50000∧(∀ A B C p ta tb tc ra rb rc H',machW k x = some (A,B,C)→Same H H'→MachAt H' A B C p ta tb tc ra rb rc→Q (.ref p) H')∧(machW k x = none→∀ H',Same H H'→E (.ref CT) none H')
theorem zgB {CT:Addr} {t1 t2 t3:Nat} (c_NoText:Ec K mg "NoText" CT) (xy:mg "MOST_NUMBERS" = some (.int 5 t1)) (jc:mg "MOST_HANDS" = some (.int 3 t2)) (xP:mg "MOST_SIGHTS" = some (.int 3 t3)) (D:Df K mg "read_machine" ["kind", "text"] yM) (xW:Kx P w K mg base "read_tables" 45 ["kind", "text", "many"] (zcd CT)) (xg:Kn P w K mg base "has_sizes" 1 ["table", "rows", "columns"] zcI) (m_len:mg "len" = none) (JY:mg "tuple" = none):Kx P w K mg base "read_machine" 46 ["kind", "text"] (ze5 CT):=by
 refine D.kx sc_read_machine (fun vs H Q E h=>?_) (fun f cdv A outer s H vs Q E hr h=>?_)
 ·obtain ⟨k,x,rfl,_⟩:=h; rfl
 obtain ⟨k,x,rfl,hs,lx,q,no⟩:=h
 have szl:sizeLine = 16777216:=by decide
 refine ⟨_,(zb (zp (i:=2) sc_read_machine.nd rfl (.inl rfl) (ji xW (hr.mono (by decide)) rfl zT (za (pv 0) (za (pv 1) (za ze zc))))) (zb (PS.nox (zp (i:=3) sc_read_machine.nd rfl (.inl rfl) (zv zL rfl m_len yy (za (zu zo (pv 2) ze) zc)))) (zb (PS.nox (zp (i:=4) sc_read_machine.nd rfl (.inl rfl) (zv zL rfl m_len yy (za (zu zo (zu zo (pv 2) ze) ze) zc)))) (zb (PS.nox (zp (i:=5) sc_read_machine.nd rfl (.inl rfl) (zv zL rfl m_len yy (za (zu zo (pv 2) ze) zc)))) (zb (zV (PT.nox (PW.pt (pw_or (zr Qs (pv 3) (zP (v:=.int 5) rfl xy ⟨_,rfl⟩) (nomark _)) (pw_or (zr Qs (pv 4) (zP (v:=.int 3) rfl jc ⟨_,rfl⟩) (nomark _)) (pw_or1 (zr Qs (pv 5) (zP (v:=.int 3) rfl xP ⟨_,rfl⟩) (nomark _))))))) (zi (yf c_NoText rfl rfl zS (za zg zc))) zx) (zb (zV (PT.nox (PW.pt (pw_or (jd (xb (zE xg hr (za (zu zo (pv 2) ze) (za (pv 3) (za (pv 3) zc)))))) (pw_or (jd (xb (zE xg hr (za (zu zo (pv 2) ze) (za (pv 3) (za (pv 4) zc)))))) (pw_or1 (jd (xb (zE xg hr (za (zu zo (pv 2) ze) (za (pv 5) (za (pv 3) zc))))))))))) (zi (yf c_NoText rfl rfl zS (za zg zc))) zx) (zi (PS.nox (zt (yQ Qn rfl JY zd1 (za (pv 2) zc))))))))))),?_⟩
 refine ⟨_,rfl,_,rfl,k,x,3,_,rfl,rfl,hs,lx,fun Ms ts pl H1 hM g1 hl T=>?_,fun e H' g=>no (by unfold machW; rw [e]) H' g⟩
 obtain ⟨l3,each⟩:=XI hM
 obtain ⟨A,B,C,rfl⟩ : ∃ A B C,Ms = [A,B,C]:=by
  match Ms,l3 with
  | [a,b,c],_=>exact ⟨a,b,c,rfl⟩
 have neq:∀ M∈[A,B,C],M≠[]:=fun M hM=>by obtain ⟨y,_,ey⟩:=each M hM; exact ze8 ey
 obtain ⟨ta,tb,tc,rfl⟩ : ∃ ta tb tc,ts = [ta,tb,tc]:=by
  match ts,yp T with
  | [a,b,c],_=>exact ⟨a,b,c,rfl⟩
 obtain ⟨⟨ra,TA⟩,⟨rb,TB⟩,⟨rc,TC⟩⟩ : (∃ ra,TabAt H1 A ta ra)∧(∃ rb,TabAt H1 B tb rb)∧∃ rc,TabAt H1 C tc rc:=by
  cases T with
  | cons h1 t=>cases t with
   | cons h2 t=>cases t with
    | cons h3 t=>exact ⟨h1,h2,h3⟩
 have em:machW k x = if machB A B C = true then some (A,B,C) else none:=by unfold machW; rw [hM]
 have eb:machB A B C = ((!decide ((5:Int) < (A.length:Int)) && !decide ((3:Int) < ((B.headD []).length:Int)) && !decide ((3:Int) < (C.length:Int))) && (hszB A A.length A.length && hszB B A.length (B.headD []).length && hszB C C.length A.length)):=by
  unfold machB
  rw [zcW,zcW,zcW]
  rfl
 have bad:machB A B C = false→∀ H',Same H H'→E (.ref CT) none H':=fun e=>no (by rw [em,e]; rfl)
 have nA:=neq A (by simp)
 have nB:=neq B (by simp)
 have nC:=neq C (by simp)
 have la:=yp TA.2
 have lc:=yp TC.2
 obtain ⟨B0,eB⟩ : ∃ B0,B[0]? = some B0:=⟨_,List.getElem?_eq_getElem (List.length_pos_iff.2 nB)⟩
 obtain ⟨b0,eb0,hb0⟩:=YU TB.2 eB
 obtain ⟨us0,hu0,_,lu0⟩:=hb0.len
 have hB:B.headD [] = B0:=by
  cases B with
  | nil=>exact absurd rfl nB
  | cons b r=>exact Option.some.inj eB
 refine ⟨_,rfl,pl,_,_,.ref ta,rfl,rfl,SqL.of hl,(zm (j:=0) rfl),ta,_,rfl,.inl (SqL.of TA.1),?_⟩
 refine ⟨_,rfl,pl,_,_,.ref tb,rfl,rfl,SqL.of hl,(zm (j:=1) rfl),tb,_,_,.ref b0,rfl,rfl,SqL.of TB.1,(zm (j:=0) (by rw [List.getElem?_map,eb0]; rfl)),b0,_,rfl,.inl (SqL.of hu0),?_⟩
 refine ⟨_,rfl,pl,_,_,.ref tc,rfl,rfl,SqL.of hl,(zm (j:=2) rfl),tc,_,rfl,.inl (SqL.of TC.1),?_⟩
 rw [List.length_map,List.length_map,← la,← lc,lu0,← hB]
 refine ⟨_,rfl,_,_,rfl,rfl,_,rfl,?_⟩
 refine ite2 (fun d=>?_) (fun d=>?_)
 ·exact iteT ⟨(by show 1≤sizeLine; decide),bad (by rw [eb,d]; rfl) H1 g1⟩
 rw [show decide ((5:Int) < (A.length:Int)) = false by simpa using d,Bool.not_false,Bool.true_and] at eb
 refine ⟨_,rfl,_,_,rfl,rfl,_,rfl,?_⟩
 refine ite2 (fun d=>?_) (fun d=>?_)
 ·exact iteT ⟨(by show 1≤sizeLine; decide),bad (by rw [eb,d]; rfl) H1 g1⟩
 rw [show decide ((3:Int) < ((B.headD []).length:Int)) = false by simpa using d,Bool.not_false,Bool.true_and] at eb
 refine ⟨_,rfl,_,_,rfl,rfl,_,rfl,?_⟩
 refine ite2 (fun d=>?_) (fun d=>?_)
 ·exact ⟨(by show 1≤sizeLine; decide),bad (by rw [eb,d]; rfl) H1 g1⟩
 rw [show decide ((3:Int) < (C.length:Int)) = false by simpa using d,Bool.not_false,Bool.true_and] at eb
 dsimp only [tNext]
 refine ⟨_,rfl,pl,_,_,.ref ta,rfl,rfl,SqL.of hl,(zm (j:=0) rfl),_,rfl,_,rfl,A,ta,ra,_,_,rfl,TA,nA,_,rfl,?_⟩
 cases h1:hszB A A.length A.length with
 | false=>exact iteT (iteT ⟨(by show 1≤sizeLine; decide),bad (by rw [eb,h1]; rfl) H1 g1⟩)
 | true =>
  rw [h1,Bool.true_and] at eb
  refine iteF ?_
  refine ⟨_,rfl,pl,_,_,.ref tb,rfl,rfl,SqL.of hl,(zm (j:=1) rfl),_,rfl,_,rfl,B,tb,rb,_,_,rfl,TB,nB,_,rfl,?_⟩
  cases h2:hszB B A.length (B.headD []).length with
  | false=>exact iteT (iteT ⟨(by show 1≤sizeLine; decide),bad (by rw [eb,h2]; rfl) H1 g1⟩)
  | true =>
   rw [h2,Bool.true_and] at eb
   refine iteF ?_
   refine ⟨_,rfl,pl,_,_,.ref tc,rfl,rfl,SqL.of hl,(zm (j:=2) rfl),_,rfl,_,rfl,C,tc,rc,_,_,rfl,TC,nC,_,rfl,?_⟩
   cases h3:hszB C C.length A.length with
   | false=>exact iteT ⟨(by show 1≤sizeLine; decide),bad (by rw [eb,h3]) H1 g1⟩
   | true =>
    rw [h3] at eb
    refine iteF ?_
    refine ⟨_,rfl,pl,_,rfl,.inl ⟨SqL.of hl,fun p hp=>?_⟩⟩
    have g2:=zh hp (.tup [.ref ta,.ref tb,.ref tc])
    exact q A B C p ta tb tc ra rb rc _ (by rw [em,eb]; rfl) (g1.trans g2) ⟨zf,TA.mono g2,TB.mono g2,TC.mono g2⟩
noncomputable def zav:Sp:=fun vs H Q _=>∃ (k:Int) (A B C A2 B2 C2:List (List Nb)) (pm ta tb tc pm2 ta2 tb2 tc2:Addr) (ra rb rc ra2 rb2 rc2:List Addr),vs = [.int k,.ref pm,.ref pm2]∧MachAt H A B C pm ta tb tc ra rb rc∧MachAt H A2 B2 C2 pm2 ta2 tb2 tc2 ra2 rb2 rc2∧B≠[]∧B2≠[]∧(B.headD []).length≠(B2.headD []).length∧Q (.bl false) H
theorem jT {H:Hp} {M:List (List Nb)} {t:Addr} {ras:List Addr} (T:TabAt H M t ras) (ne:M≠[]):∃ r0 ras' us,ras = r0 :: ras'∧H r0 = some (.lst us)∧us.length = (M.headD []).length:=by
 obtain ⟨M0,M',rfl⟩:=List.exists_cons_of_ne_nil ne
 have hras:=yp T.2
 obtain ⟨r0,ras',rfl⟩ : ∃ r0 ras',ras = r0 :: ras':=by
  cases ras with
  | nil=>simp at hras
  | cons a b=>exact ⟨a,b,rfl⟩
 obtain ⟨vs0,h0,p0,l0⟩:=(zdm T.2 (i:=0) rfl rfl).len
 exact ⟨r0,ras',vs0,rfl,h0,l0⟩
theorem zdQ (D:Df K mg "are_alike" ["kind", "one", "other"] xK) (m_len:mg "len" = none):Kn P w K mg base "are_alike" 1 ["kind", "one", "other"] zav:=by
 refine D.kn XG (fun vs H Q E h=>?_) (fun f cdv A' outer s' H vs Q E hr h=>?_)
 ·obtain ⟨k,A,B,C,A2,B2,C2,pm,ta,tb,tc,pm2,ta2,tb2,tc2,ra,rb,rc,ra2,rb2,rc2,rfl,_⟩:=h; rfl
 obtain ⟨k,A,B,C,A2,B2,C2,pm,ta,tb,tc,pm2,ta2,tb2,tc2,ra,rb,rc,ra2,rb2,rc2,rfl,hM,hN,nB,nB2,ne,q⟩:=h
 obtain ⟨r0,rs',us,rfl,hu,lu⟩:=jT hM.b nB
 obtain ⟨r2,rs2',us2,rfl,hu2,lu2⟩:=jT hN.b nB2
 refine ⟨_,(zb (zV (PW.pt (pw_or (zr jG (zv zL rfl m_len yy (za (zu zo (zu zJ (pv 1) ze) ze) zc)) (zv zL rfl m_len yy (za (zu zo (zu zJ (pv 2) ze) ze) zc)) (nomark _)) (pw_or1 (zr jG (zv zL rfl m_len yy (za (zu zJ (pv 1) ze) zc)) (zv zL rfl m_len yy (za (zu zJ (pv 2) ze) zc)) (nomark _))))) (zi (zt zaT)) zx) (zi jp)),?_⟩
 refine ⟨_,rfl,pm,_,_,.ref tb,rfl,rfl,SqT.of hM.tup,rfl,tb,_,_,.ref r0,rfl,rfl,SqL.of hM.b.1,(zm (j:=0) rfl),r0,_,rfl,.inl (SqL.of hu),_,rfl,pm2,_,_,.ref tb2,rfl,rfl,SqT.of hN.tup,rfl,tb2,_,_,.ref r2,rfl,rfl,SqL.of hN.b.1,(zm (j:=0) rfl),r2,_,rfl,.inl (SqL.of hu2),rfl,_,rfl,?_⟩
 rw [lu,lu2,decide_eq_false fun z=>ne (by have:=V.int.inj z; omega)]
 exact iteT (iteT q)
noncomputable def dkF (k:Int) (pm:Addr):List (Str×V):=[("kind",.int k),("machines",.ref pm)]
noncomputable def DeskAt (H:Hp) (d Cl dx:Addr) (k:Int) (pm:Addr) (kvs:List (Key×V)):Prop:=H d = some (.ins Cl dx (dkF k pm))∧H pm = some (.dK kvs)
structure DeskC (K:PySem.W.Frag) (Cl:Addr):Prop where
 c:Cls K Cl
 nk:NoAttr K Cl "kind"
 nm:NoAttr K Cl "machines"
noncomputable def nmOk (kvs:List (Key×V)) (nw:Bool) (i:Nat) (x:Str):Bool:=nameW x && ((decide (i = 0) && nw) || (valV kvs (.inr x)).isSome)
noncomputable def newW (ws:List Str):Bool:=inV (.str (ws.headD Str.empty)) [.str "machine",.str "core"]
noncomputable def namesOk (kvs:List (Key×V)) (ws:List Str):Prop:=∀ i x,(namesW ws)[i]? = some x→nmOk kvs (newW ws) i x = true
noncomputable def XO (Cl CN:Addr):Sp:=fun vs H Q E=>∃ (d dx pm p:Addr) (k:Int) (kvs:List (Key×V)) (ws:List Str),vs = [.ref d,.ref p]∧DeskAt H d Cl dx k pm kvs∧H p = some (.lst (ws.map V.str))∧ws≠[]∧ws.length≤50000∧(∀ x∈ws,x.length≤50000)∧(namesOk kvs ws→∀ H',Same H H'→Q .non H')∧(¬ namesOk kvs ws→∀ H',Same H H'→E (.ref CN) none H')
theorem zcu {Cl CN:Addr} (c_Desk:DeskC K Cl) (c_NoName:Ec K mg "NoName" CN) (D:Dm K Cl "refuse_names" "Desk.refuse_names" ["self", "words"] zZ) (Xh:Kn P w K mg base "names_among" 1 ["words"] QQ) (zbM:Kn P w K mg base "is_name" 1 ["word"] Js) (jJ:mg "enumerate" = none):Mx P w K mg base Cl "refuse_names" 2 ["self", "words"] (XO Cl CN):=by
 refine D.mx sc_Desk_refuse_names (fun vs H Q E h=>?_) (fun f cdv A outer s H vs Q E hr h=>?_)
 ·obtain ⟨d,dx,pm,p,k,kvs,ws,rfl,_⟩:=h; rfl
 obtain ⟨d,dx,pm,p,k,kvs,ws,rfl,hD,hp,ne,lw,lx,q,no⟩:=h
 have szl:sizeLine = 16777216:=by decide
 refine ⟨_,(zi (Zy PassesOwn.leaving rfl (zgb rfl jJ (za (zE Xh hr (za (pv 1) zc)) zc)) (Qa 2 rfl (xu (yd (i:=2) sc_Desk_refuse_names.nd rfl (.inl rfl)) (xu (yd (i:=3) sc_Desk_refuse_names.nd rfl (.inl rfl)) Xc))) (zb (PS.nox (zp (i:=4) sc_Desk_refuse_names.nd rfl (.inl rfl) (zdh (xA xi (pv 2) ze (nomark _)) (zbs (xA zds (zu zo (pv 1) ze) (qR (za zg (za zg zc))) (by with_unfolding_all rfl)))))) (zi (zV (PT.nox (PW.pt (pw_or (jd (xb (zE zbM hr (za (pv 3) zc)))) (pw_or1 (PW.pt (pw_and (jd (xb (pv 4))) (pw_and1 (zr (zcE hr) (pv 3) (jH (pv 0) rfl) (by with_unfolding_all rfl))))))))) (zi (yf c_NoName rfl rfl zS (za zg zc))) zx))))),?_⟩
 refine ⟨_,rfl,p,ws,rfl,hp,ne,lw,fun pn H1 g1 hn=>?_⟩
 refine ⟨pn,_,rfl,SqL.of hn,?_⟩
 have nmem:∀ x∈namesW ws,x.length≤50000:=fun x hx=>by
  unfold namesW at hx
  split at hx
  ·cases hx
  ·split at hx
   ·exact lx x (List.mem_of_mem_drop (List.mem_of_mem_take hx))
   ·exact lx x (List.mem_of_mem_drop hx)
 refine zen (xs:=(namesW ws).map V.str) (fun i σ H'=>∃ o2 o3 o4,σ = [some (.ref d),some (.ref p),o2,o3,o4]∧Same H1 H'∧∀ j x,j < i→(namesW ws)[j]? = some x→nmOk kvs (newW ws) j x = true) ⟨none,none,none,rfl,Same.refl _,fun j x hj=>absurd hj (Nat.not_lt_zero _)⟩ ?_ ?_ ?_
 ·rintro i σ H' _ ⟨o2,o3,o4,rfl,g,_⟩
  exact SqL.of (g _ _ hn)
 ·rintro i v T σ H' hv hT ⟨o2,o3,o4,rfl,g,ok⟩
  rw [List.getElem?_map] at hv
  obtain ⟨x,hx,rfl⟩:=Option.map_eq_some_iff.mp hv
  have gT:=zh hT (.tup [.int (i:Int),.str x])
  refine ⟨T,_,rfl,SqT.of zf,rfl,_,_,rfl,_,_,rfl,rfl,?_⟩
  have g2:=g.trans gT
  generalize upd H' T (.tup [.int (i:Int),.str x]) = H2 at *
  have hx':=nmem x (List.mem_of_getElem? hx)
  refine Jq (fun σ H'=>σ = [some (.ref d),some (.ref p),some (.int (i:Int)),some (.str x),some (.bl (decide (i = 0) && newW ws))]∧Same H1 H') ?_ ?_
  ·rintro σ H3 ⟨rfl,g3⟩
   refine ⟨_,rfl,x,rfl,(by omega),fun H4 g4=>⟨_,rfl,?_⟩⟩
   have g34:=g3.trans g4
   have bad:nmOk kvs (newW ws) i x = false→E (.ref CN) none H4:=fun z=>no (fun all=>by have:=all i x hx; rw [z] at this; cases this) H4 (g1.trans g34)
   cases hnm:nameW x with
   | false=>exact iteT (iteT ⟨(by show 1≤sizeLine; decide),bad (by unfold nmOk; rw [hnm]; rfl)⟩)
   | true =>
    refine iteF ?_
    have en:nmOk kvs (newW ws) i x = ((decide (i = 0) && newW ws) || (valV kvs (.inr x)).isSome):=by unfold nmOk; rw [hnm,Bool.true_and]
    have good:nmOk kvs (newW ws) i x = true→∀ j y,j < i + 1→(namesW ws)[j]? = some y→nmOk kvs (newW ws) j y = true:=fun z j y hj hy=>by
     rcases Nat.lt_or_eq_of_le (Nat.le_of_lt_succ hj) with h | h
     ·exact ok j y h hy
     ·subst h
      rw [hx] at hy
      cases hy
      exact z
    refine ⟨_,rfl,_,rfl,?_⟩
    cases hb:(decide (i = 0) && newW ws) with
    | true =>
     rw [hb,Bool.true_or] at en
     exact iteF (iteF ⟨_,_,_,rfl,g34,good en⟩)
    | false =>
     rw [hb,Bool.false_or] at en
     refine iteT ?_
     refine ⟨_,rfl,_,rfl,d,Cl,dx,_,.ref pm,rfl,(g1.trans g34) _ _ hD.1,c_Desk.c,c_Desk.nm,rfl,pm,_,rfl,DGet.k (k:=.inr x) ((g1.trans g34) _ _ hD.2),_,rfl,?_⟩
     cases hv:(valV kvs (.inr x)).isSome with
     | false=>exact iteT ⟨(by show 1≤sizeLine; decide),bad (by rw [en,hv])⟩
     | true=>exact iteF ⟨_,_,_,rfl,g34,good (by rw [en,hv])⟩
  ·intro rest
   refine ⟨_,rfl,rfl,_,rfl,?_⟩
   refine ite2 (fun c=>?_) (fun c=>?_)
   ·have i0:i = 0:=by have:=V.int.inj (of_decide_eq_true c); omega
    obtain ⟨w0,ws',rfl⟩:=List.exists_cons_of_ne_nil ne
    refine ⟨_,rfl,p,_,_,.str w0,rfl,rfl,SqL.of ((g1.trans g2) _ _ hp),(zm (j:=0) rfl),(by show 2≤sizeLine; decide),fun pt hpt=>⟨pt,_,rfl,.inr (SqT.of zf),rfl,rfl,rest _ _ ⟨?_,g2.trans (zh hpt _)⟩⟩⟩
    rw [decide_eq_true i0,Bool.true_and]
    rfl
   ·have i0:¬ i = 0:=fun z=>c (decide_eq_true (by rw [z]; rfl))
    refine rest _ _ ⟨?_,g2⟩
    rw [decide_eq_false i0,Bool.false_and]
    rfl
 ·rintro σ H' ⟨o2,o3,o4,rfl,g,ok⟩
  refine q (fun i x hx=>ok i x ?_ hx) H' (g1.trans g)
  rw [List.length_map]
  exact (List.getElem?_eq_some_iff.mp hx).1
noncomputable def SameX (d:Addr) (H H':Hp):Prop:=∀ b u,b≠d→H b = some u→H' b = some u
theorem Same.x {d:Addr} {H H':Hp} (g:Same H H'):SameX d H H':=fun b u _ q=>g b u q
theorem SameX.trans {d:Addr} {H H' H'':Hp} (g:SameX d H H') (g':SameX d H' H''):SameX d H H'':=fun b u n q=>g' b u n (g b u n q)
theorem SameX.upd {d:Addr} {H:Hp} {o:HO}:SameX d H (upd H d o):=fun b u n q=>by rw [zw n]; exact q
noncomputable def NoSeq (H:Hp) (d:Addr):Prop:=(∀ xs,H d≠some (.lst xs))∧∀ xs,H d≠some (.tup xs)
theorem RN.x {H H':Hp} {d:Addr} {x:Nb} {v:V} (h:RN H x v) (n:NoSeq H d) (g:SameX d H H'):RN H' x v:=by
 cases x with
 | q r =>
  obtain ⟨a,rfl,ha⟩:=h.q
  exact RN.of_q (g _ _ (fun e=>n.2 _ (by rw [← e]; exact ha)) ha)
 | z i=>rw [h.z]; exact RN.of_z
theorem RowAt.x {H H':Hp} {d:Addr} {xs:List Nb} {a:Addr} (h:RowAt H xs a) (n:NoSeq H d) (g:SameX d H H'):RowAt H' xs a:=by
 obtain ⟨vs,h1,h2⟩:=h
 exact ⟨vs,g _ _ (fun e=>n.1 _ (by rw [← e]; exact h1)) h1,jW (fun _ _ r=>RN.x r n g) h2⟩
theorem TabAt.x {H H':Hp} {d:Addr} {M:List (List Nb)} {t:Addr} {ras:List Addr} (h:TabAt H M t ras) (n:NoSeq H d) (g:SameX d H H'):TabAt H' M t ras:=⟨g _ _ (fun e=>n.1 _ (by rw [← e]; exact h.1)) h.1,jW (fun _ _ r=>RowAt.x r n g) h.2⟩
theorem MachAt.x {H H':Hp} {d:Addr} {A B C:List (List Nb)} {p ta tb tc:Addr} {ra rb rc:List Addr} (h:MachAt H A B C p ta tb tc ra rb rc) (n:NoSeq H d) (g:SameX d H H'):MachAt H' A B C p ta tb tc ra rb rc:=⟨g _ _ (fun e=>n.2 _ (by rw [← e]; exact h.tup)) h.tup,TabAt.x h.a n g,TabAt.x h.b n g,TabAt.x h.c n g⟩
theorem zay {H:Hp} {d:Addr} {kvs:List (Key×V)} (h:H d = some (.dK kvs)):NoSeq H d:=⟨(fun xs z=>by rw [h] at z; cases z),(fun xs z=>by rw [h] at z; cases z)⟩
noncomputable def zce (Cl CT:Addr):Sp:=fun vs H Q E=>∃ (d dx pm:Addr) (k:Int) (kvs:List (Key×V)) (x:Str),vs = [.ref d,.str x]∧DeskAt H d Cl dx k pm kvs∧(∀ k' r pm' H',kindsW x = k' :: r→SameX d H H'→DeskAt H' d Cl dx k' pm' []→Q (.str "ok") H')∧(kindsW x = []→∀ H',Same H H'→E (.ref CT) none H')
theorem zgV {Cl CT:Addr} (c_Desk:DeskC K Cl) (c_NoText:Ec K mg "NoText" CT) (D:Dm K Cl "change_kind" "Desk.change_kind" ["self", "word"] yh) (JX:Kx P w K mg base "read_kind" 1 ["word"] (zeI CT)):Mx P w K mg base Cl "change_kind" 2 ["self", "word"] (zce Cl CT):=by
 refine D.mx jO (fun vs H Q E h=>?_) (fun f cdv A outer s H vs Q E hr h=>?_)
 ·obtain ⟨d,dx,pm,k,kvs,x,rfl,_⟩:=h; rfl
 obtain ⟨d,dx,pm,k,kvs,x,rfl,hD,q,no⟩:=h
 refine ⟨_,(zb (QR (pv 0) (ji JX (hr.mono (by decide)) rfl zT (za (pv 1) zc)) rfl) (zb (PS.nox (QR (pv 0) QX rfl)) (zi (PS.nox (zt zg))))),?_⟩
 refine ⟨_,rfl,x,rfl,fun H1 g1=>⟨fun k' r e=>?_,fun e=>no e H1 g1⟩⟩
 refine ⟨_,rfl,d,Cl,dx,_,rfl,g1 _ _ hD.1,c_Desk.c,c_Desk.nk,(by show 2 < 1000; decide),?_⟩
 have e1:putF "kind" (.int k') (dkF k pm) = (dkF k' pm):=rfl
 rw [e1]
 have hd1:upd H1 d (.ins Cl dx (dkF k' pm)) d = some (.ins Cl dx (dkF k' pm)):=zf
 have gx:SameX d H (upd H1 d (.ins Cl dx (dkF k' pm))):=(Same.x g1).trans SameX.upd
 generalize upd H1 d (.ins Cl dx (dkF k' pm)) = H2 at *
 refine fun pm' hpm'=>?_
 have nd:d≠pm':=fun z=>by rw [← z,hd1] at hpm'; cases hpm'
 refine ⟨_,rfl,d,Cl,dx,_,rfl,(by rw [zw nd]; exact hd1),c_Desk.c,c_Desk.nm,(by show 2 < 1000; decide),?_⟩
 have e2:putF "machines" (.ref pm') (dkF k' pm) = dkF k' pm':=rfl
 rw [e2]
 exact q k' r pm' _ e ((gx.trans (Same.x (zh hpm' _))).trans SameX.upd) ⟨zf,by rw [zw (Ne.symm nd)]; exact zf⟩
noncomputable def Qv (Cl CT:Addr):Sp:=fun vs H Q E=>∃ (d dx pm:Addr) (k:Int) (kvs:List (Key×V)) (n x:Str),vs = [.ref d,.str n,.str x]∧DeskAt H d Cl dx k pm kvs∧KindS k∧x.length≤50000∧kvs.length≤1000∧(∀ A B C p ta tb tc ra rb rc H',machW k x = some (A,B,C)→SameX pm H H'→DeskAt H' d Cl dx k pm (putK kvs (.inr n) (.ref p))→MachAt H' A B C p ta tb tc ra rb rc→Q (.str "ok") H')∧(machW k x = none→∀ H',Same H H'→E (.ref CT) none H')
theorem zgd {Cl CT:Addr} (c_Desk:DeskC K Cl) (D:Dm K Cl "keep_machine" "Desk.keep_machine" ["self", "name", "text"] zW) (ZU:Kx P w K mg base "read_machine" 46 ["kind", "text"] (ze5 CT)):Mx P w K mg base Cl "keep_machine" 47 ["self", "name", "text"] (Qv Cl CT):=by
 refine D.mx jF (fun vs H Q E h=>?_) (fun f cdv A outer s H vs Q E hr h=>?_)
 ·obtain ⟨d,dx,pm,k,kvs,n,x,rfl,_⟩:=h; rfl
 obtain ⟨d,dx,pm,k,kvs,n,x,rfl,hD,hs,lx,lk,q,no⟩:=h
 have szl:sizeLine = 16777216:=by decide
 refine ⟨_,(zb (zfe (YG hr) (jH (pv 0) rfl) (pv 1) (ji ZU (hr.mono (by decide)) rfl zT (za (jH (pv 0) rfl) (za (pv 2) zc))) rfl) (zi (PS.nox (zt zg)))),?_⟩
 refine ⟨_,rfl,d,Cl,dx,_,.int k,rfl,hD.1,c_Desk.c,c_Desk.nk,rfl,_,rfl,k,x,rfl,hs,lx,fun A B C p ta tb tc ra rb rc H1 e g1 M=>?_,fun e=>no e⟩
 refine ⟨_,rfl,d,Cl,dx,_,.ref pm,rfl,g1 _ _ hD.1,c_Desk.c,c_Desk.nm,rfl,_,rfl,pm,_,rfl,DPut.k (k:=.inr n) (g1 _ _ hD.2) (by omega),?_⟩
 have hp1:=g1 _ _ hD.2
 have ne:∀ {b:Addr} {xs:List V},H1 b = some (.lst xs)→b≠pm:=fun h z=>by rw [z,hp1] at h; cases h
 have np:p≠pm:=fun z=>by have:=M.tup; rw [z,hp1] at this; cases this
 have nd:d≠pm:=fun z=>by have:=g1 _ _ hD.1; rw [z,hp1] at this; cases this
 refine q A B C p ta tb tc ra rb rc _ e ((Same.x g1).trans SameX.upd) ⟨by rw [zw nd]; exact g1 _ _ hD.1,zf⟩ ?_
 exact MachAt.x M (zay hp1) SameX.upd
noncomputable def ZK:Sp:=fun vs H Q _=>∃ (p r:Int),vs = [.int p,.int r]∧Pr p∧0 < r∧r < p∧∀ x,0≤x→x < p→p ∣ x * r - 1→Q (.int x) H
theorem Qc (hP:P.given.tree = none) (hS:base.NoSeer) (D:Df K mg "one_over" ["prime", "rest"] jz):Kn P w K mg base "one_over" 41 ["prime", "rest"] ZK:=by
 refine D.kn sc_one_over (fun vs H Q E h=>?_) (fun f cdv A outer s H vs Q E hr h=>?_)
 ·obtain ⟨a,b,rfl,_⟩:=h; rfl
 obtain ⟨p,r,rfl,hp,r0,rp,q⟩:=h
 refine ⟨_,(zb (zp (i:=2) sc_one_over.nd rfl (.inl rfl) (pv 0)) (zb (zp (i:=3) sc_one_over.nd rfl (.inl rfl) (pv 1)) (zb (zp (i:=4) sc_one_over.nd rfl (.inl rfl) ze) (zb (zp (i:=5) sc_one_over.nd rfl (.inl rfl) ze) (zb (qa PassesOwn.never (zr jG (pv 3) ze (nomark _)) (zb (zp (i:=6) sc_one_over.nd rfl (.inl rfl) (zk (xJ hr (by decide) hP hS ⟨_,_,rfl,rfl,rfl,rfl,rfl⟩) (pv 2) (pv 3))) (zb (zp (i:=7) sc_one_over.nd rfl (.inl rfl) (zk QT (pv 2) (zk ye (pv 6) (pv 3)))) (zb (zp (i:=8) sc_one_over.nd rfl (.inl rfl) (zk QT (pv 4) (zk ye (pv 6) (pv 5)))) (zb (zp (i:=2) sc_one_over.nd rfl (.inl rfl) (pv 3)) (zb (zp (i:=4) sc_one_over.nd rfl (.inl rfl) (pv 5)) (zb (zp (i:=3) sc_one_over.nd rfl (.inl rfl) (pv 7)) (zi (zp (i:=5) sc_one_over.nd rfl (.inl rfl) (pv 8)))))))))) (zi (zt (zk zG (pv 4) (pv 0))))))))),?_⟩
 have p0:0 < p:=by have:=hp.lo; omega
 refine ⟨_,rfl,_,rfl,?_⟩
 refine ⟨fun m σ H'=>∃ l g ml mg o1 o2 o3,σ = [some (.int p),some (.int r),some (.int l),some (.int g),some (.int ml),some (.int mg),o1,o2,o3]∧H' = H∧OvInv p r l g ml mg∧m = g.toNat,⟨_,_,_,_,_,none,none,none,rfl,rfl,zat hp r0 rp,rfl⟩,?_⟩
 rintro m σ H' ⟨l,g,ml,mg,o1,o2,o3,rfl,rfl,inv,rfl⟩
 have l0:=inv.l0
 have l1:=inv.l1
 have g0:=inv.g0
 have g1:=inv.g1
 refine ⟨_,rfl,rfl,_,rfl,?_⟩
 refine ite2 (fun c=>?_) (fun c=>?_)
 ·have c':g≠0:=fun z=>by rw [z] at c; exact absurd c (by decide)
  have ed:l.fdiv g = l / g:=Int.fdiv_eq_ediv_of_nonneg l g0
  have d0:0≤l.fdiv g:=by rw [ed]; exact Int.ediv_nonneg l0 g0
  have d1:l.fdiv g≤l:=by rw [ed]; exact Int.ediv_le_self g l0
  have tn:=zbO inv c'
  have tm:=zbS (l:=l) g0 c'
  rw [← ed] at tn tm
  refine ⟨_,fun _ _ h=>h,?_⟩
  refine ⟨_,rfl,_,rfl,_,_,rfl,rfl,c',?_⟩
  refine ⟨_,rfl,_,rfl,_,rfl,_,_,rfl,rfl,yG d0 (by omega),_,_,rfl,rfl,_,rfl,_,rfl,_,rfl,_,_,rfl,rfl,yG d0 (by omega),_,_,rfl,rfl,_,rfl,_,rfl,_,rfl,_,rfl,_,tm,g,_,mg,_,_,_,_,rfl,rfl,tn,rfl⟩
 ·have c':g = 0:=by
   rcases Int.lt_or_le 0 g with h | h
   ·exact absurd (by have h':¬ V.int g = V.int 0:=fun z=>(by have:=V.int.inj z; omega); rw [decide_eq_false h']; rfl) c
   ·omega
  subst c'
  refine ⟨_,rfl,_,rfl,_,_,rfl,rfl,(show p≠0 by omega),?_⟩
  have em:ml.fmod p = ml % p:=Int.fmod_eq_emod_of_nonneg ml (by omega)
  show Q (.int (ml.fmod p)) H'
  rw [em]
  exact q _ (Int.emod_nonneg _ (by omega)) (Int.emod_lt_of_pos _ p0) (zeY inv p0)
structure Two (H:Hp) (k:Int) (x y:Nb) (a b:V):Prop where
 kd:KindOk k
 xo:x.ok k
 yo:y.ok k
 xs:nsm 60000000 x
 ys:nsm 60000000 y
 xr:RN H x a
 yr:RN H y b
theorem zcr {H:Hp} {k:Int} {x y:Nb} {a b:V} (T:Two H k x y a b) :
  (k = 0∧∃ r s pa pb,x = .q r∧y = .q s∧a = .ref pa∧b = .ref pb∧H pa = some (.tup [.int r.num,.int (r.den:Int)])∧H pb = some (.tup [.int s.num,.int (s.den:Int)])∧Sm 60000000 r.num∧Sm 60000000 (r.den:Int)∧Sm 60000000 s.num∧Sm 60000000 (s.den:Int)) ∨
  (k≠0∧Pr k∧∃ i j,x = .z i∧y = .z j∧a = .int i∧b = .int j∧0≤i∧i < k∧0≤j∧j < k):=by
 obtain ⟨kd,xo,yo,xs,ys,xr,yr⟩:=T
 cases x with
 | q r =>
  have k0:k = 0:=xo
  cases y with
  | q s =>
   obtain ⟨pa,ea,ha⟩:=xr.q
   obtain ⟨pb,eb,hb⟩:=yr.q
   exact .inl ⟨k0,r,s,pa,pb,rfl,rfl,ea,eb,ha,hb,xs.1,xs.2,ys.1,ys.2⟩
  | z j=>exact absurd k0 yo.1
 | z i =>
  cases y with
  | q s=>exact absurd (show k = 0 from yo) xo.1
  | z j =>
   refine .inr ⟨xo.1,?_,i,j,rfl,rfl,xr.z,yr.z,xo.2.1,xo.2.2,yo.2.1,yo.2.2⟩
   rcases kd with h | h
   ·exact absurd h xo.1
   ·exact h
theorem zak {m n:Nat} {a b:Int} (ha:Sm m a) (hb:Sm n b) (h:m + n≤134217728:=by decide):IntMulOk a b:=ha.mulOk hb h
noncomputable def zbp:Sp:=fun vs H Q _=>∃ (k:Int) (x y:Nb) (a b:V),vs = [.int k,a,b]∧Two H k x y a b∧y≠nnum k 0∧∀ v H',Same H H'→RN H' (ndiv k x y) v→Q v H'
theorem zfG (D:Df K mg "over" ["kind", "one", "other"] QM) (qy:Kn P w K mg base "fraction" 41 ["top", "bottom"] jL) (jx:Kn P w K mg base "number" 1 ["kind", "whole"] jY) (za9:Kn P w K mg base "one_over" 41 ["prime", "rest"] ZK):Kn P w K mg base "over" 42 ["kind", "one", "other"] zbp:=by
 refine D.kn zgg (fun vs H Q E h=>?_) (fun f cdv A outer s H vs Q E hr h=>?_)
 ·obtain ⟨k,x,y,a,b,rfl,_⟩:=h; rfl
 obtain ⟨k,x,y,a,b,rfl,T,ne,q⟩:=h
 refine ⟨_,(zb (zV (zr (zbv hr) (pv 2) (zE jx hr (za (pv 0) (za ze zc))) (nomark _)) (zi jp) zx) (zb (zV (zr xi (pv 0) ze (nomark _)) (zi (zt (zE qy hr (za (zk ye (zu zJ (pv 1) ze) (zu zJ (pv 2) ze)) (za (zk ye (zu zJ (pv 1) ze) (zu zJ (pv 2) ze)) zc))))) zx) (zi (zt (zk zG (zk ye (pv 1) (zE za9 hr (za (pv 0) (za (pv 2) zc)))) (pv 0)))))),?_⟩
 refine ⟨_,rfl,_,rfl,k,0,rfl,fun v0 H0 g0 r0=>?_⟩
 refine ⟨toD y,toD (nnum k 0),T.yr.mono g0,r0,zdp _,zdp _,Nat.le_trans (Nat.min_le_left _ _) (Nat.le_trans (zcV y) (by decide)),_,rfl,?_⟩
 show if PyData.eqv (toD y) (toD (nnum k 0)) = true then _ else _
 rw [zfo,decide_eq_false ne]
 refine iteF ?_
 rcases zcr T with ⟨rfl,r,s,pa,pb,rfl,rfl,rfl,rfl,ha,hb,rn,rd,sn,sd⟩ | ⟨k0,hp,i,j,rfl,rfl,rfl,rfl,i0,ik,j0,jk⟩
 ·have ha':=g0 _ _ ha
  have hb':=g0 _ _ hb
  have s0:s≠0:=fun z=>ne (by rw [z]; rfl)
  refine ⟨_,rfl,rfl,_,rfl,iteT ?_⟩
  refine ⟨_,rfl,pa,_,_,_,rfl,rfl,SqT.of ha',rfl,_,rfl,pb,_,_,_,rfl,rfl,SqT.of hb',rfl,_,_,rfl,rfl,zak rn sd,_,rfl,pa,_,_,_,rfl,rfl,SqT.of ha',rfl,_,rfl,pb,_,_,_,rfl,rfl,SqT.of hb',rfl,_,_,rfl,rfl,zak rd sn,_,_,rfl,Int.mul_ne_zero (JJ r) (zg1 s0),fun v H' g h=>?_⟩
  rw [zfN] at h
  exact q v H' (g0.trans g) h
 ·have j1:j≠0:=fun z=>ne (by unfold nnum; rw [if_neg k0,z,Int.zero_fmod])
  refine ⟨_,rfl,rfl,_,rfl,?_⟩
  rw [decide_eq_false (show ¬ V.int k = V.int 0 from fun z=>k0 (V.int.inj z))]
  refine iteF ?_
  refine ⟨_,rfl,_,rfl,_,rfl,k,j,rfl,hp,by omega,jk,fun x x0 xk hx=>?_⟩
  refine ⟨_,_,rfl,rfl,yG i0 (by have:=hp.hi; omega),_,rfl,_,_,rfl,rfl,k0,?_⟩
  refine q _ _ g0 ?_
  show RN _ (.z ((i * zinv k j).fmod k)) _
  rw [zbT x0 xk hx]
  exact RN.of_z
noncomputable def szM (m:Nat) (M:List (List Nb)):Prop:=∀ r∈M,∀ x∈r,nsm m x
noncomputable def XB:Sp:=fun vs H Q _=>∃ (k:Int) (xs:List Nb) (a:Addr) (B:Nat),vs = [.int k,.ref a]∧KindOk k∧RowAt H xs a∧La.OkR k xs∧La.rowB B xs∧61≤B∧B≤60000000∧xs.length < sizeLine ∧
 ∀ p H',Same H H'→SclAt H' k B xs p→Q (.ref p) H'
theorem zbl (hP:P.given.tree = none) (hS:base.NoSeer) (D:Df K mg "scaled" ["kind", "row"] qW) (yS:Kn P w K mg base "common_divisor" 1 ["one", "other"] zfy) (zbQ:mg "list" = none):Kn P w K mg base "scaled" 41 ["kind", "row"] XB:=by
 refine D.kn sc_scaled (fun vs H Q E h=>?_) (fun f cdv A outer s H vs Q E hr h=>?_)
 ·obtain ⟨k,xs,a,B,rfl,_⟩:=h; rfl
 obtain ⟨k,xs,a,B,rfl,hk,hrow,ok,⟨Dn,dn0,dn1,hD⟩,b7,b6,hlen,q⟩:=h
 have kl:=hk.lt
 have szl:sizeLine = 16777216:=by decide
 obtain ⟨vs,ha,hp,hvl⟩:=hrow.len
 refine ⟨_,(zb (zV (zr jG (pv 0) ze (nomark _)) (zi (zt (qR (za (yQ za8 rfl zbQ zf2 (za (pv 1) zc)) (za ze zc))))) zx) (zb (zp (i:=2) sc_scaled.nd rfl (.inr rfl) ze) (zb (Zy PassesOwn.never rfl (yB (pv 1)) (yd (i:=3) sc_scaled.nd rfl (.inl rfl)) (zi (zp (i:=2) sc_scaled.nd rfl (.inr rfl) (zk ye (zk (xJ hr (by decide) hP hS ⟨_,_,rfl,rfl,rfl,rfl,rfl⟩) (pv 2) (zE yS hr (za (pv 2) (za (zu zJ (pv 3) ze) zc)))) (zu zJ (pv 3) ze))))) (zi (zt (qR (za (ZT ["bottom"] [2] (yB (pv 1)) fun _ _ _ _ _ _=>⟨yv,(zk ye (zu zJ (pv 0) ze) (zk (xJ hr (by decide) hP hS ⟨_,_,rfl,rfl,rfl,rfl,rfl⟩) (pv 1) (zu zJ (pv 0) ze)))⟩) (za (pv 2) zc)))))))),?_⟩
 refine ⟨_,rfl,rfl,_,rfl,?_⟩
 refine ite2 (fun c=>?_) (fun c=>?_)
 ·have k0:k≠0:=fun z=>by rw [z] at c; exact absurd c (by decide)
  obtain ⟨is,rfl,rfl⟩:=JC k0 ok hp
  refine ⟨_,rfl,a,_,rfl,.inl (SqL.of ha),fun l hl=>⟨(by show 2≤sizeLine; decide),fun p hp'=>?_⟩⟩
  have n1:l≠p:=fun e=>by rw [e,zf] at hp'; cases hp'
  refine q p _ ((zh hl _).trans (zh hp' _)) ⟨l,is,1,zf,?_,zbE k0 is,?_,fun w hw=>?_⟩
  ·show upd _ _ _ l = _
   rw [zw n1]; exact zf
  ·exact sm_one.mono (by omega)
  ·have o:=ok (.z w) (List.mem_map.mpr ⟨w,hw,rfl⟩)
   exact (zc2 o.2.1 o.2.2 kl.2).mono b7
 ·have k0:k = 0:=by
   by_cases z:k = 0
   ·exact z
   ·exact absurd (by have h':¬ V.int k = V.int 0:=fun e=>z (V.int.inj e); rw [decide_eq_false h']; rfl) c
  subst k0
  have isq:∀ (i:Nat) (x:Nb),xs[i]? = some x→∃ r,x = .q r:=fun i x hx=>by
   have o:=ok x (List.mem_of_getElem? hx)
   cases x with
   | q r=>exact ⟨r,rfl⟩
   | z j=>exact absurd rfl o.1
  have dle:∀ b:Int,0 < b→b ∣ (Dn:Int)→Sm B b:=fun b b0 hb=>by
   have:=Int.le_of_dvd (by omega) hb
   show b.natAbs < 2 ^ B
   omega
  have parts:∀ r:Rat,.q r∈xs→Sm B r.num∧Sm B (r.den:Int)∧(r.den:Int) ∣ (Dn:Int):=fun r hr=>by
   obtain ⟨h1,h2⟩:=La.dB.parts dn0 (hD _ hr)
   have dv:=La.dB.den_dvd dn0 (hD _ hr)
   refine ⟨?_,dle _ (den_pos r) dv,dv⟩
   show r.num.natAbs < 2 ^ B
   have:0 < 2 ^ B:=Nat.pow_pos (by decide)
   omega
  refine ⟨_,rfl,a,rfl,⟨_,SqL.of ha⟩,?_⟩
  refine qo (xs:=vs) (fun i σ H'=>∃ b o,σ = [some (.int 0),some (.ref a),some (.int b),o]∧H' = H∧0 < b∧(∀ x∈xs.take i,La.dvB b x)∧b ∣ (Dn:Int)) ⟨1,none,rfl,rfl,by decide,fun x hx=>by simp at hx,⟨_,(Int.one_mul _).symm⟩⟩ ?_ ?_ ?_
  ·rintro i σ H' _ ⟨b,o,rfl,rfl,_⟩
   exact SqL.of ha
  ·rintro i v σ H' hv ⟨b,o,rfl,rfl,b0,dv,bD⟩
   obtain ⟨x,hx,rx⟩:=qr hp hv
   obtain ⟨r,rfl⟩:=isq i x hx
   obtain ⟨pa,rfl,hpa⟩:=rx.q
   obtain ⟨sn,sd,dD⟩:=parts r (List.mem_of_getElem? hx)
   obtain ⟨l1,l2,l3,l4⟩:=zem b0 (den_pos r)
   have l5:=La.zfg b0 (den_pos r) bD dD
   have sf:Sm B (b.fdiv ((Int.gcd b (r.den:Int):Nat):Int)):=zck (dle b b0 bD) (Int.gcd_dvd_left _ _)
   refine ⟨_,rfl,_,rfl,_,rfl,pa,_,_,_,rfl,rfl,SqT.of hpa,rfl,_,_,rfl,_,_,rfl,rfl,l4,?_⟩
   refine ⟨_,rfl,pa,_,_,_,rfl,rfl,SqT.of hpa,rfl,_,_,rfl,rfl,sf.mulOk sd (by omega),?_⟩
   refine ⟨_,_,rfl,rfl,l1,fun y hy=>?_,l5⟩
   rw [zI hx] at hy
   rcases List.mem_append.mp hy with hy | hy
   ·have:=dv y hy
    cases y with
    | q s=>exact Int.dvd_trans (show (s.den:Int) ∣ b from this) l2
    | z j=>trivial
   ·rw [List.mem_singleton.mp hy]; exact l3
  ·rintro σ H' ⟨b,o,rfl,rfl,b0,dv,bD⟩
   rw [hvl] at dv
   rw [List.take_length] at dv
   have sb:=dle b b0 bD
   refine ⟨_,rfl,a,rfl,⟨_,SqL.of ha⟩,?_⟩
   refine yD (xs:=vs) (fun i ys H2=>H2 = H'∧ys = ((xs.take i).map (La.scW b)).map V.int) ⟨rfl,by simp⟩ ?_ ?_ ?_
   ·rintro i ys H2 hi ⟨rfl,rfl⟩
    refine ⟨SqL.of ha,?_⟩
    rw [List.length_map,List.length_map,List.length_take]
    omega
   ·rintro i v ys H2 hv hi ⟨rfl,rfl⟩
    obtain ⟨x,hx,rx⟩:=qr hp hv
    obtain ⟨r,rfl⟩:=isq i x hx
    obtain ⟨pa,rfl,hpa⟩:=rx.q
    obtain ⟨sn,sd,dD⟩:=parts r (List.mem_of_getElem? hx)
    have dx:(r.den:Int) ∣ b:=dv _ (List.mem_of_getElem? hx)
    first | refine gyes ?_ | refine tyes ?_
    refine ⟨_,rfl,pa,_,_,_,rfl,rfl,SqT.of hpa,rfl,_,rfl,_,rfl,pa,_,_,_,rfl,rfl,SqT.of hpa,rfl,_,_,rfl,rfl,JJ r,_,_,rfl,rfl,sn.mulOk (zck sb dx) (by omega),nxt hi ⟨rfl,?_⟩⟩
    rw [zI hx,List.map_append,List.map_append]; rfl
   ·rintro ys H2 ⟨rfl,rfl⟩ l hl
    rw [hvl,List.take_length] at *
    refine ⟨_,rfl,(by show 2≤sizeLine; decide),fun p hp'=>?_⟩
    have n1:l≠p:=fun e=>by rw [e,zf] at hp'; cases hp'
    refine q p _ ((zh hl _).trans (zh hp' _)) ⟨l,xs.map (La.scW b),b,zf,?_,⟨rfl,b0,fun z=>absurd rfl z,dv⟩,sb,fun w hw=>?_⟩
    ·show upd _ _ _ l = _
     rw [zw n1]; exact zf
    ·obtain ⟨x,hx,rfl⟩:=List.mem_map.mp hw
     exact La.zgP hk (ok x hx) b7 dn0 (hD x hx) b0 (dv x hx) fun _=>bD
noncomputable def zc8:Sp:=fun vs H Q _=>∃ (k t b:Int),vs = [.int k,.int t,.int b]∧KindOk k∧nnum k b≠nnum k 0∧Sm 60000000 t∧Sm 60000000 b∧∀ v H',Same H H'→RN H' (ndiv k (nnum k t) (nnum k b)) v→Q v H'
theorem zfj (D:Df K mg "quotient" ["kind", "top", "bottom"] jo) (zgo:Kn P w K mg base "over" 42 ["kind", "one", "other"] zbp) (jx:Kn P w K mg base "number" 1 ["kind", "whole"] jY):Kn P w K mg base "quotient" 43 ["kind", "top", "bottom"] zc8:=by
 refine D.kn JQ (fun vs H Q E h=>?_) (fun f cdv A outer s H vs Q E hr h=>?_)
 ·obtain ⟨k,t,b,rfl,_⟩:=h; rfl
 obtain ⟨k,t,b,rfl,hk,ne,st,sb,q⟩:=h
 refine ⟨_,(zi (zt (zE zgo hr (za (pv 0) (za (zE jx hr (za (pv 0) (za (pv 1) zc))) (za (zE jx hr (za (pv 0) (za (pv 2) zc))) zc)))))),?_⟩
 refine ⟨_,rfl,_,rfl,_,rfl,k,t,rfl,fun v1 H1 g1 r1=>?_⟩
 refine ⟨_,rfl,_,rfl,k,b,rfl,fun v2 H2 g2 r2=>?_⟩
 refine ⟨k,_,_,v1,v2,rfl,⟨hk,La.xM hk t,La.xM hk b,YM hk st (by decide),YM hk sb (by decide),r1.mono g2,r2⟩,ne,fun v3 H3 g3 r3=>?_⟩
 exact q v3 H3 ((g1.trans g2).trans g3) r3
noncomputable def zc1:Sp:=fun vs H Q _=>∃ (ws us:List Int) (l l':Addr) (m:Nat),vs = [.ref l,.ref l']∧IRow H ws l∧IRow H us l'∧ws.length = us.length∧(∀ w∈ws,Sm m w)∧(∀ w∈us,Sm m w)∧2 * m≤60000000∧ws.length < sizeLine ∧
 ∀ H',Same H H'→Q (.int (List.zipWith (· * ·) ws us).sum) H'
theorem zfF (D:Df K mg "whole_sum" ["one", "other"] xF) (m_sum:mg "sum" = none) (m_zip:mg "zip" = none):Kn P w K mg base "whole_sum" 1 ["one", "other"] zc1:=by
 refine D.kn JD (fun vs H Q E h=>?_) (fun f cdv A outer s H vs Q E hr h=>?_)
 ·obtain ⟨ws,us,l,l',m,rfl,_⟩:=h; rfl
 obtain ⟨ws,vs,l,l',m,rfl,hl,hl',hlen,sw,sw',hsz,hz,q⟩:=h
 refine ⟨_,(zi (zt (zv (zda rfl) rfl m_sum zeE (za (Qh ["left", "right"] [] [] ⟨rfl,rfl,rfl,rfl,rfl,rfl,by decide +kernel⟩ rfl (zc3 rfl m_zip (za (pv 0) (za (pv 1) zc))) (zam (jE (yP (by decide)) jy (jE (yP (by decide)) jy JG))) fun _ _ _ _ _ _=>⟨(Qa 2 rfl (xu (yd (i:=0) (by decide:(["left", "right"]:List Str).Nodup) rfl (by first | exact Or.inl rfl | exact Or.inr rfl)) (xu (yd (i:=1) (by decide:(["left", "right"]:List Str).Nodup) rfl (by first | exact Or.inl rfl | exact Or.inr rfl)) Xc))),yv,(zk ye (pv 0) (pv 1))⟩) zc)))),?_⟩
 refine ⟨_,rfl,_,rfl,l,l',ws.map V.int,vs.map V.int,rfl,SqL.of hl,SqL.of hl',?_⟩
 refine zax (xs:=ws.map V.int) (zs:=vs.map V.int) (by rw [List.length_map,List.length_map]; omega) (fun i ys' H'=>Same H H'∧ys' = ((List.zipWith (· * ·) ws vs).take i).map V.int) ⟨Same.refl H,by simp⟩ ?_ ?_ ?_
 ·rintro i ys' H' hi ⟨g,rfl⟩
  refine ⟨SqL.of (hl.mono g),SqL.of (hl'.mono g),?_⟩
  rw [List.length_map,List.length_take,List.length_zipWith]
  omega
 ·rintro i x z T ys' H' hx hy hi hT ⟨g,rfl⟩
  rw [List.getElem?_map] at hx hy
  obtain ⟨u,hu,rfl⟩:=Option.map_eq_some_iff.mp hx
  obtain ⟨u',hu',rfl⟩:=Option.map_eq_some_iff.mp hy
  refine ⟨T,_,rfl,SqT.of zf,rfl,_,_,rfl,_,_,rfl,rfl,?_⟩
  first | refine gyes ?_ | refine tyes ?_
  refine ⟨_,rfl,_,rfl,_,_,rfl,rfl,(sw u (List.mem_of_getElem? hu)).mulOk (sw' u' (List.mem_of_getElem? hu')) (by omega),nxt hi ⟨g.trans (zh hT _),?_⟩⟩
  have e:(List.zipWith (· * ·) ws vs)[i]? = some (u * u'):=by rw [List.getElem?_zipWith,hu,hu']
  rw [zI e,List.map_append]; rfl
 ·rintro ys' H' ⟨g,rfl⟩ pl hpl
  have el:(ws.map V.int).length = (List.zipWith (· * ·) ws vs).length:=by rw [List.length_map,List.length_zipWith]; omega
  rw [el,List.take_length]
  exact ⟨pl,_,rfl,SqL.of zf,q _ (g.trans (zh hpl (.lst ((List.zipWith (· * ·) ws vs).map V.int))))⟩
noncomputable def zeW:Sp:=fun vs H Q _=>∃ (k:Int) (xs ys:List Nb) (p p':Addr) (m:Nat),vs = [.int k,.ref p,.ref p']∧KindOk k∧SclAt H k m xs p∧SclAt H k m ys p'∧La.OkR k xs∧La.OkR k ys∧xs.length = ys.length∧61≤m∧2 * m + xs.length≤60000000∧xs.length < sizeLine ∧
 ∀ v H',Same H H'→RN H' (La.ndot k xs ys) v→Q v H'
theorem zhs (D:Df K mg "sum_of_products" ["kind", "one", "other"] yn) (zaZ:Kn P w K mg base "quotient" 43 ["kind", "top", "bottom"] zc8) (Qk:Kn P w K mg base "whole_sum" 1 ["one", "other"] zc1):Kn P w K mg base "sum_of_products" 44 ["kind", "one", "other"] zeW:=by
 refine D.kn qq (fun vs H Q E h=>?_) (fun f cdv A outer s H vs Q E hr h=>?_)
 ·obtain ⟨k,xs,ys,p,p',m,rfl,_⟩:=h; rfl
 obtain ⟨k,xs,ys,p,p',m,rfl,hk,⟨l,ws,b,hp,hl,sc,sb,sw⟩,⟨l',vs,b',hp',hl',sc',sb',sw'⟩,ox,oy,hlen,m7,hsz,hz,q⟩:=h
 refine ⟨_,(zi (zt (zE zaZ hr (za (pv 0) (za (zE Qk hr (za (zu zJ (pv 1) ze) (za (zu zJ (pv 2) ze) zc))) (za (zk ye (zu zJ (pv 1) ze) (zu zJ (pv 2) ze)) zc)))))),?_⟩
 have ewl:=sc.len
 have evl:=sc'.len
 refine ⟨_,rfl,_,rfl,p,_,_,_,rfl,rfl,SqT.of hp,rfl,_,rfl,p',_,_,_,rfl,rfl,SqT.of hp',rfl,ws,vs,l,l',m,rfl,hl,hl',(by omega),sw,sw',(by omega),(by omega),fun H' g2=>?_⟩
 obtain ⟨ne,e⟩:=La.zho hk hlen sc sc' ox oy
 have st:Sm (m + m + (List.zipWith (· * ·) ws vs).length) (List.zipWith (· * ·) ws vs).sum:=zeJ fun w hw=>by
  obtain ⟨i,hi,e⟩:=List.getElem_of_mem hw
  rw [List.getElem_zipWith] at e
  rw [← e]
  exact (sw _ (List.getElem_mem _)).mul (sw' _ (List.getElem_mem _))
 rw [List.length_zipWith] at st
 refine ⟨_,rfl,p,_,_,_,rfl,rfl,SqT.of (g2 _ _ hp),rfl,_,rfl,p',_,_,_,rfl,rfl,SqT.of (g2 _ _ hp'),rfl,_,_,rfl,rfl,sb.mulOk sb' (by omega),k,_,_,rfl,hk,ne,st.mono (by omega),(sb.mul sb').mono (by omega),fun v H2 g3 r=>?_⟩
 rw [e] at r
 exact q v H2 (g2.trans g3) r
theorem zfI {x:Str} {ps:List Str} {l:Nat} {sp sp':Sp} (D:Kn P w K mg base x l ps sp) (h:∀ vs H Q E,sp' vs H Q E→sp vs H Q E):Kn P w K mg base x l ps sp':=by
 obtain ⟨f,fd,F,r⟩:=D.ex
 exact ⟨f,fd,F.imp h,r⟩
noncomputable def Ye:Sp:=fun vs H Q _=>∃ (k:Int) (xs:List Nb) (a:Addr) (m:Nat),vs = [.int k,.ref a]∧KindOk k∧RowAt H xs a∧La.OkR k xs∧(∀ x∈xs,nsm m x)∧61≤m∧(xs.length + 2) * m≤60000000 ∧
 ∀ p H',Same H H'→SclAt H' k ((xs.length + 2) * m) xs p→Q (.ref p) H'
theorem zcL (d:Kn P w K mg base "scaled" 41 ["kind", "row"] XB):Kn P w K mg base "scaled" 41 ["kind", "row"] Ye:=zfI d fun vs H Q E h=>by
 obtain ⟨k,xs,a,m,rfl,hk,hr,ox,sx,m7,hsz,q⟩:=h
 have szl:sizeLine = 16777216:=by decide
 have h1:(xs.length + 2) * 61≤(xs.length + 2) * m:=Nat.mul_le_mul_left _ m7
 have h2:(xs.length + 1) * m≤(xs.length + 2) * m:=Nat.mul_le_mul_right _ (by omega)
 exact ⟨k,xs,a,(xs.length + 2) * m,rfl,hk,hr,ox,(zel (k:=k) (n:=xs.length) (by omega) ⟨rfl,ox,sx⟩).mono h2,by omega,hsz,by omega,q⟩
theorem zbm {n m:Nat} (h7:61≤m) (h:(n + 2) * m≤20000000):2 * ((n + 2) * m) + n≤60000000∧61≤(n + 2) * m∧n < sizeLine∧(n + 2) * m≤60000000:=by
 have h1:(n + 2) * 61≤(n + 2) * m:=Nat.mul_le_mul_left _ h7
 have:sizeLine = 16777216:=by decide
 omega
noncomputable def YY:Sp:=fun vs H Q _=>∃ (k:Int) (M:List (List Nb)) (xs:List Nb) (b m:Nat) (t1 a:Addr) (r1:List Addr),vs = [.int k,.ref t1,.ref a]∧KindOk k∧TabAt H M t1 r1∧RowAt H xs a∧La.OkM k b M∧xs.length = b∧La.OkR k xs∧szM m M∧(∀ x∈xs,nsm m x)∧61≤m∧(b + 2) * m≤20000000∧M.length < sizeLine ∧
 ∀ p H',Same H H'→NewR H H' (imgM k M xs) p→Q (.ref p) H'
theorem zdC (D:Df K mg "image" ["kind", "table", "row"] Yu) (zaj:Kn P w K mg base "scaled" 41 ["kind", "row"] Ye) (qC:Kn P w K mg base "sum_of_products" 44 ["kind", "one", "other"] zeW):Kn P w K mg base "image" 45 ["kind", "table", "row"] YY:=by
 refine D.kn sc_image (fun vs H Q E h=>?_) (fun f cdv A outer s H vs Q E hr h=>?_)
 ·obtain ⟨k,M,xs,b,m,t1,a,r1,rfl,_⟩:=h; rfl
 obtain ⟨k,M,xs,b,m,t1,a,r1,rfl,hk,hM,hx,oM,lx,ox,sM,sx,m7,hsz,mz,q⟩:=h
 refine ⟨_,(zb (zp (i:=3) sc_image.nd rfl (.inr rfl) (zE zaj hr (za (pv 0) (za (pv 2) zc)))) (zi (zt (ZT ["kind", "right"] [0,3] (yB (pv 1)) fun _ _ _ _ _ _=>⟨yv,(zE qC hr (za (pv 1) (za (zE zaj hr (za (pv 1) (za (pv 0) zc))) (za (pv 2) zc))))⟩)))),?_⟩
 obtain ⟨z1,z2,z3,z4⟩:=zbm m7 hsz
 refine ⟨_,rfl,_,rfl,k,xs,a,m,rfl,hk,hx,ox,sx,m7,by rw [lx]; exact z4,fun p0 H0 g0 sc0=>?_⟩
 rw [lx] at sc0
 refine ⟨_,rfl,t1,rfl,⟨_,SqL.of (g0 _ _ hM.1)⟩,?_⟩
 have hl:=yp hM.2
 refine yD (xs:=r1.map V.ref) (fun i ys H'=>Same H0 H'∧Paired (RN H') ((imgM k M xs).take i) ys) ⟨Same.refl _,.nil⟩ ?_ ?_ ?_
 ·rintro i ys H' hi ⟨g,pr⟩
  refine ⟨SqL.of (g _ _ (g0 _ _ hM.1)),?_⟩
  have:=yp pr
  unfold imgM at this
  rw [List.length_take,List.length_map] at this
  omega
 ·rintro i v ys H' hv hi ⟨g,pr⟩
  obtain ⟨row,ra,hrow,ha,rfl,hR⟩:=(hM.mono (g0.trans g)).row hv
  obtain ⟨lr,orow⟩:=oM row (List.mem_of_getElem? hrow)
  first | refine gyes ?_ | refine tyes ?_
  refine ⟨_,rfl,_,rfl,_,rfl,k,row,ra,m,rfl,hk,hR,orow,sM row (List.mem_of_getElem? hrow),m7,by rw [lr]; exact z4,fun p1 H1 g1 sc1=>?_⟩
  rw [lr] at sc1
  refine ⟨_,rfl,k,row,xs,p1,p0,(b + 2) * m,rfl,hk,sc1,sc0.mono (g.trans g1),orow,ox,by rw [lr,lx],z2,by rw [lr]; exact z1,by rw [lr]; exact z3,fun v2 H2 g2 r2=>?_⟩
  refine nxt hi ⟨(g.trans g1).trans g2,?_⟩
  have e:(imgM k M xs)[i]? = some (La.ndot k row xs):=by unfold imgM; rw [List.getElem?_map,hrow]; rfl
  rw [zI e]
  exact ZH (zaU (g1.trans g2) pr) r2
 ·rintro ys H' ⟨g,pr⟩ p hp
  rw [List.length_map,List.take_of_length_le (by unfold imgM; rw [List.length_map]; omega)] at pr
  exact q p _ ((g0.trans g).trans (zh hp _)) ⟨⟨ys,zf,zaU (zh hp _) pr⟩,(g0.trans g).none hp⟩
noncomputable def Yr:Sp:=fun vs H Q _=>∃ (A B:List (List Nb)) (n h:Nat) (ta tb:Addr) (ra rb:List Addr),vs = [.ref ta,.ref tb]∧TabAt H A ta ra∧TabAt H B tb rb∧A.length = B.length∧(∀ r∈A,r.length = n)∧(∀ r∈B,r.length = h)∧n + h≤sizeLine∧A.length < sizeLine ∧
 ∀ p ras H',Same H H'→NewT H H' (augM A B) p ras→Q (.ref p) H'
theorem zbd (D:Df K mg "abreast" ["one", "other"] qb) (m_zip:mg "zip" = none):Kn P w K mg base "abreast" 1 ["one", "other"] Yr:=by
 refine D.kn zaN (fun vs H Q E h=>?_) (fun f cdv A' outer s' H vs Q E hr h=>?_)
 ·obtain ⟨A,B,n,h,ta,tb,ra,rb,rfl,_⟩:=h; rfl
 obtain ⟨A,B,n,h,ta,tb,ra,rb,rfl,hA,hB,lAB,nA,nB,nh,lA,q⟩:=h
 have szl:sizeLine = 16777216:=by decide
 refine ⟨_,(zi (zt (Qh ["left", "right"] [] [] ⟨rfl,rfl,rfl,rfl,rfl,rfl,by decide +kernel⟩ rfl (zc3 rfl m_zip (za (pv 0) (za (pv 1) zc))) (zam (jE (yP (by decide)) jy (jE (yP (by decide)) jy JG))) fun _ _ _ _ _ _=>⟨(Qa 2 rfl (xu (yd (i:=0) (by decide:(["left", "right"]:List Str).Nodup) rfl (by first | exact Or.inl rfl | exact Or.inr rfl)) (xu (yd (i:=1) (by decide:(["left", "right"]:List Str).Nodup) rfl (by first | exact Or.inl rfl | exact Or.inr rfl)) Xc))),yv,(zk jl (pv 0) (pv 1))⟩))),?_⟩
 have la:=yp hA.2
 have lb:=yp hB.2
 refine ⟨_,rfl,_,rfl,ta,tb,_,_,rfl,SqL.of hA.1,SqL.of hB.1,?_⟩
 refine zax (xs:=ra.map V.ref) (zs:=rb.map V.ref) (by rw [List.length_map,List.length_map]; omega) (fun i ys H'=>∃ ras,ys = ras.map V.ref∧Grow H H' ((augM A B).take i) ras) ⟨[],rfl,Grow.nil H (Same.refl H)⟩ ?_ ?_ ?_
 ·rintro i ys H' hi ⟨ras,rfl,G⟩
  refine ⟨SqL.of (G.same _ _ hA.1),SqL.of (G.same _ _ hB.1),?_⟩
  have:=yp G.rows
  rw [List.length_take] at this
  rw [List.length_map] at hi ⊢; omega
 ·rintro i x z T ys H' hx' hz' hi hT ⟨ras,rfl,G⟩
  have g':=zh hT (.tup [x,z])
  have G1:=G.mono g'
  obtain ⟨row,a,hrow,ha,rfl,hR⟩:=(hA.mono G1.same).row hx'
  obtain ⟨row2,a2,hrow2,ha2,rfl,hR2⟩:=(hB.mono G1.same).row hz'
  obtain ⟨us1,hu1,pu1,lu1⟩:=hR.len
  obtain ⟨us2,hu2,pu2,lu2⟩:=hR2.len
  have r1:=nA _ (List.mem_of_getElem? hrow)
  have r2:=nB _ (List.mem_of_getElem? hrow2)
  refine ⟨T,_,rfl,SqT.of zf,rfl,_,_,rfl,_,_,rfl,rfl,?_⟩
  generalize upd H' T (.tup [.ref a,.ref a2]) = H1 at *
  first | refine gyes ?_ | refine tyes ?_
  refine ⟨_,rfl,_,rfl,a,a2,_,_,rfl,rfl,hu1,hu2,(by rw [lu1,lu2,r1,r2]; exact nh),fun p hp=>?_⟩
  refine nxt hi ⟨ras ++ [p],by rw [List.map_append]; rfl,?_⟩
  rw [zI (QP hrow hrow2)]
  exact G1.snoc hp (zau pu1 pu2)
 ·rintro ys H' ⟨ras,rfl,G⟩ pb hpb
  rw [List.length_map,List.take_of_length_le (by unfold augM; rw [List.length_zipWith]; omega)] at G
  have N:=G.done hpb
  have g1:=G.same.trans (zh hpb (.lst (ras.map V.ref)))
  exact q pb ras _ g1 N
noncomputable def Yh:Sp:=fun vs H Q _=>∃ (k:Int) (A B C:List (List Nb)) (n h s m:Nat) (pm ta tb tc:Addr) (ra rb rc:List Addr),vs = [.ref pm]∧MachAt H A B C pm ta tb tc ra rb rc∧MOk k n h s m A B C∧(n + h + 2) * m≤20000000∧61≤m ∧
 ∀ p ras H',Same H H'→NewT H H' (augM A B) p ras→Q (.ref p) H'
theorem za2 (D:Df K mg "leading" ["machine"] jS) (zb8:Kn P w K mg base "abreast" 1 ["one", "other"] Yr):Kn P w K mg base "leading" 2 ["machine"] Yh:=by
 refine D.kn za6 (fun vs H Q E h=>?_) (fun f cdv A' outer s' H vs Q E hr h=>?_)
 ·obtain ⟨k,A,B,C,n,h,s,m,pm,ta,tb,tc,ra,rb,rc,rfl,_⟩:=h; rfl
 obtain ⟨k,A,B,C,n,h,s,m,pm,ta,tb,tc,ra,rb,rc,rfl,hM,oM,hsz,m7,q⟩:=h
 obtain ⟨z1,z2,z3,z4⟩:=zbm m7 hsz
 have szl:sizeLine = 16777216:=by decide
 refine ⟨_,(zi (zt (zE zb8 hr (za (zu zJ (pv 0) ze) (za (zu zJ (pv 0) ze) zc))))),?_⟩
 exact ⟨_,rfl,pm,_,_,_,rfl,rfl,SqT.of hM.tup,rfl,_,rfl,pm,_,_,_,rfl,rfl,SqT.of hM.tup,rfl,A,B,n,h,ta,tb,ra,rb,rfl,hM.a,hM.b,by rw [oM.a.len,oM.b.len],fun r hr=>(oM.a.ok r hr).1,fun r hr=>(oM.b.ok r hr).1,by omega,by rw [oM.a.len]; omega,q⟩
noncomputable def zcw:Sp:=fun vs H Q _=>∃ (k:Int) (A B C:List (List Nb)) (xs us:List Nb) (n h s m:Nat) (pm ta tb tc ax au:Addr) (ra rb rc:List Addr),vs = [.int k,.ref pm,.ref ax,.ref au]∧KindOk k∧MachAt H A B C pm ta tb tc ra rb rc∧RowAt H xs ax∧RowAt H us au∧MOk k n h s m A B C∧ROk k n m xs∧ROk k h m us∧61≤m∧(n + h + 2) * m≤20000000 ∧
 ∀ p H',Same H H'→NewR H H' (nextM k A B xs us) p→Q (.ref p) H'
theorem zfm (D:Df K mg "next_of" ["kind", "machine", "standing", "inputs"] qe) (JS:Kn P w K mg base "image" 45 ["kind", "table", "row"] YY) (zb3:Kn P w K mg base "leading" 2 ["machine"] Yh):Kn P w K mg base "next_of" 46 ["kind", "machine", "standing", "inputs"] zcw:=by
 refine D.kn zaW (fun vs H Q E h=>?_) (fun f cdv A' outer s' H vs Q E hr h=>?_)
 ·obtain ⟨k,A,B,C,xs,us,n,h,s,m,pm,ta,tb,tc,ax,au,ra,rb,rc,rfl,_⟩:=h; rfl
 obtain ⟨k,A,B,C,xs,us,n,h,s,m,pm,ta,tb,tc,ax,au,ra,rb,rc,rfl,hk,hM,hx,hu,oM,rx,ru,m7,hsz,q⟩:=h
 obtain ⟨z1,z2,z3,z4⟩:=zbm m7 hsz
 have szl:sizeLine = 16777216:=by decide
 refine ⟨_,(zi (zt (zE JS hr (za (pv 0) (za (zE zb3 hr (za (pv 1) zc)) (za (zk jl (pv 2) (pv 3)) zc)))))),?_⟩
 have oAB:=zey oM.a oM.b
 refine ⟨_,rfl,_,rfl,k,A,B,C,n,h,s,m,pm,ta,tb,tc,ra,rb,rc,rfl,hM,oM,hsz,m7,fun pb ras H1 g1 N=>?_⟩
 obtain ⟨us1,hu1,pu1,lu1⟩:=(hx.mono g1).len
 obtain ⟨us2,hu2,pu2,lu2⟩:=(hu.mono g1).len
 refine ⟨_,rfl,_,rfl,ax,au,_,_,rfl,rfl,hu1,hu2,(by rw [lu1,lu2,rx.len,ru.len]; omega),fun p hp=>?_⟩
 have g2:=zh hp (.lst (us1 ++ us2))
 have R2:RowAt (upd H1 p (.lst (us1 ++ us2))) (xs ++ us) p:=⟨_,zf,zaU g2 (zau pu1 pu2)⟩
 generalize upd H1 p (.lst (us1 ++ us2)) = H2 at *
 have rxu:=rx.app ru
 refine ⟨k,augM A B,xs ++ us,n + h,m,pb,p,ras,rfl,hk,N.tab.mono g2,R2,oAB.ok,rxu.len,rxu.ok,oAB.sz,rxu.sz,m7,hsz,(by rw [oAB.len]; omega),fun pr H3 g3 nr=>?_⟩
 exact q pr H3 ((g1.trans g2).trans g3) ⟨nr.row,(g1.trans g2).none nr.fa⟩
noncomputable def zcv:Sp:=fun vs H Q _=>∃ (k:Int) (A B C:List (List Nb)) (xs:List Nb) (n h s m:Nat) (pm ta tb tc ax:Addr) (ra rb rc:List Addr),vs = [.int k,.ref pm,.ref ax]∧KindOk k∧MachAt H A B C pm ta tb tc ra rb rc∧RowAt H xs ax∧MOk k n h s m A B C∧ROk k n m xs∧61≤m∧(n + h + 2) * m≤20000000∧s≤1000 ∧
 ∀ p H',Same H H'→NewR H H' (imgM k C xs) p→Q (.ref p) H'
theorem zfW (D:Df K mg "seen_of" ["kind", "machine", "standing"] qh) (JS:Kn P w K mg base "image" 45 ["kind", "table", "row"] YY):Kn P w K mg base "seen_of" 46 ["kind", "machine", "standing"] zcv:=by
 refine D.kn zaV (fun vs H Q E h=>?_) (fun f cdv A' outer s' H vs Q E hr h=>?_)
 ·obtain ⟨k,A,B,C,xs,n,h,s,m,pm,ta,tb,tc,ax,ra,rb,rc,rfl,_⟩:=h; rfl
 obtain ⟨k,A,B,C,xs,n,h,s,m,pm,ta,tb,tc,ax,ra,rb,rc,rfl,hk,hM,hx,oM,rx,m7,hsz,s1000,q⟩:=h
 have szl:sizeLine = 16777216:=by decide
 have hsz':(n + 2) * m≤20000000:=Nat.le_trans (Nat.mul_le_mul_right _ (by omega)) hsz
 refine ⟨_,(zi (zt (zE JS hr (za (pv 0) (za (zu zJ (pv 1) ze) (za (pv 2) zc)))))),?_⟩
 exact ⟨_,rfl,_,rfl,pm,_,_,_,rfl,rfl,SqT.of hM.tup,rfl,_,rfl,k,C,xs,n,m,tc,ax,rc,rfl,hk,hM.c,hx,oM.c.ok,rx.len,rx.ok,oM.c.sz,rx.sz,m7,hsz',(by rw [oM.c.len]; omega),q⟩
noncomputable def zeS:Sp:=fun vs H Q _=>∃ (k:Int) (A B C:List (List Nb)) (xs:List Nb) (U:List (List Nb)) (n h s m:Nat) (pm ta tb tc ax tu:Addr) (ra rb rc ru:List Addr),vs = [.int k,.ref pm,.ref ax,.ref tu]∧KindOk k∧MachAt H A B C pm ta tb tc ra rb rc∧RowAt H xs ax∧TabAt H U tu ru∧MOk k n h s m A B C∧TOk k U.length h m U∧(∀ i,i≤U.length→ROk k n m (stM k A B xs (U.take i)))∧61≤m∧(n + h + 2) * m≤20000000∧s≤1000∧U.length≤1000 ∧
 ∀ t ras H',Same H H'→NewT H H' (runM k A B C xs U) t ras→Q (.ref t) H'
theorem zgW (D:Df K mg "run" ["kind", "machine", "standing", "inputs"] zdB) (zbt:Kn P w K mg base "next_of" 46 ["kind", "machine", "standing", "inputs"] zcw) (Ju:Kn P w K mg base "seen_of" 46 ["kind", "machine", "standing"] zcv):Kn P w K mg base "run" 47 ["kind", "machine", "standing", "inputs"] zeS:=by
 refine D.kn sc_run (fun vs H Q E h=>?_) (fun f cdv A' outer s' H vs Q E hr h=>?_)
 ·obtain ⟨k,A,B,C,xs,U,n,h,s,m,pm,ta,tb,tc,ax,tu,ra,rb,rc,ru,rfl,_⟩:=h; rfl
 obtain ⟨k,A,B,C,xs,U,n,h,s,m,pm,ta,tb,tc,ax,tu,ra,rb,rc,ru,rfl,hk,hM,hx,hU,oM,oU,st,m7,hsz,s1000,u1000,q⟩:=h
 have szl:sizeLine = 16777216:=by decide
 refine ⟨_,(zb (zp (i:=4) sc_run.nd rfl (.inl rfl) (pv 2)) (zb (zp (i:=5) sc_run.nd rfl (.inl rfl) (zM (za (zE Ju hr (za (pv 0) (za (pv 1) (za (pv 4) zc)))) zc))) (zb (Zy PassesOwn.never rfl (yB (pv 3)) (yd (i:=6) sc_run.nd rfl (.inl rfl)) (zb (zp (i:=4) sc_run.nd rfl (.inl rfl) (zE zbt hr (za (pv 0) (za (pv 1) (za (pv 4) (za (pv 6) zc)))))) (zi (qw (bm0 (fun _ h=>xZ PySem.F.plainAttrs_list PySem.F.slot_list_append PySem.F.type_list_append jg h (za (zE Ju hr (za (pv 0) (za (pv 1) (za (pv 4) zc)))) zc)) (pv 5)))))) (zi (zt (pv 5)))))),?_⟩
 refine ⟨_,rfl,?_⟩
 refine ⟨_,rfl,_,rfl,_,rfl,k,A,B,C,xs,n,h,s,m,pm,ta,tb,tc,ax,ra,rb,rc,rfl,hk,hM,hx,oM,st 0 (Nat.zero_le _),m7,hsz,s1000,fun p0 H1 g1 nr0=>⟨(by show 1≤sizeLine; decide),fun pt hpt=>?_⟩⟩
 have ptH:H pt = none:=g1.none hpt
 have np:pt≠p0:=fun e=>by obtain ⟨o,ho⟩:=nr0.row.some; rw [← e,hpt] at ho; cases ho
 have nx:ax≠pt:=fun e=>by obtain ⟨o,ho⟩:=hx.some; rw [e,ptH] at ho; cases ho
 have g2:=g1.trans (zh hpt (.lst [.ref p0]))
 have lU:=yp hU.2
 have G0:Grow H (upd H1 pt (.lst [.ref p0])) ((runM k A B C xs U).take 1) [p0]:=by
  rw [zI (i:=0) (zae (Nat.zero_le _))]
  exact ⟨g2,.cons (nr0.row.mono (zh hpt _)) .nil,fun r hr=>by rw [List.mem_singleton.mp hr]; exact nr0.fa,by simp⟩
 refine ⟨_,rfl,tu,rfl,⟨_,SqL.of (g2 _ _ hU.1)⟩,?_⟩
 refine qo (xs:=ru.map V.ref) (fun i σ H4=>∃ ah ras o6,σ = [some (.int k),some (.ref pm),some (.ref ax),some (.ref tu),some (.ref ah),some (.ref pt),o6]∧RowAt H4 (stM k A B xs (U.take i)) ah∧ah≠pt∧Grow H H4 ((runM k A B C xs U).take (i + 1)) ras∧H4 pt = some (.lst (ras.map V.ref))∧pt∉ras) ⟨ax,[p0],none,rfl,hx.mono g2,nx,G0,zf,by simpa using np⟩ ?_ ?_ ?_
 ·rintro i σ H4 _ ⟨ah,ras,o6,rfl,_,_,G,_⟩
  exact SqL.of (G.same _ _ hU.1)
 ·rintro i v σ H4 hv ⟨ah,ras,o6,rfl,hah,nah,G,hpt4,npt4⟩
  obtain ⟨u,a,hu,ha,rfl,hrow⟩:=(hU.mono G.same).row hv
  have iU:i < U.length:=(List.getElem?_eq_some_iff.mp hu).1
  have M4:=hM.mono G.same
  refine ⟨_,rfl,_,rfl,_,rfl,_,rfl,k,A,B,C,stM k A B xs (U.take i),u,n,h,s,m,pm,ta,tb,tc,ah,a,ra,rb,rc,rfl,hk,M4,hah,hrow,oM,st i (by omega),oU.row (List.mem_of_getElem? hu),m7,hsz,fun p5 H5 g5 nr5=>?_⟩
  rw [← zdA,← zI hu] at nr5
  refine ⟨_,rfl,.inl ⟨rfl,_,SqL.of (g5 _ _ hpt4)⟩,_,rfl,_,rfl,_,rfl,k,A,B,C,stM k A B xs (U.take (i + 1)),n,h,s,m,pm,ta,tb,tc,p5,ra,rb,rc,rfl,hk,M4.mono g5,nr5.row,oM,st (i + 1) (by omega),m7,hsz,s1000,fun p6 H6 g6 nr6=>?_⟩
  have hpt6:=g6 _ _ (g5 _ _ hpt4)
  have e1:=yp G.rows
  rw [List.length_take,Xb] at e1
  refine ⟨pt,_,_,rfl,rfl,hpt6,(by rw [List.length_map]; omega),?_⟩
  obtain ⟨G2,nm2⟩:=G.pushR (zs':=(ras.map V.ref) ++ [.ref p6]) ptH hpt4 npt4 (g5.trans g6) (g5.none nr6.fa) nr6.row
  have n5:p5≠pt:=fun e=>by have:=nr5.fa; rw [e,hpt4] at this; cases this
  refine ⟨p5,ras ++ [p6],_,rfl,(nr5.row.mono g6).upd n5 hpt6,n5,?_,?_,nm2⟩
  ·rw [zI (zae (by omega))]
   exact G2
  ·rw [zf,List.map_append]; rfl
 ·rintro σ H4 ⟨ah,ras,o6,rfl,hah,nah,G,hpt4,npt4⟩
  rw [List.length_map,List.take_of_length_le (by rw [Xb]; omega)] at G
  exact ⟨_,rfl,q pt ras H4 G.same ⟨⟨hpt4,G.rows⟩,ptH,G.fr,G.nd,npt4⟩⟩
noncomputable def fitB (A B S U:List (List Nb)):Bool:=hszB S 1 A.length && decide (V.int ((U.headD []).length:Int) = V.int ((B.headD []).length:Int))
noncomputable def RunS (k:Int) (A B C S U:List (List Nb)):Prop:=∃ (xs:List Nb) (n h s m:Nat),S = [xs]∧MOk k n h s m A B C∧TOk k U.length h m U∧(∀ i,i≤U.length→ROk k n m (stM k A B xs (U.take i)))∧61≤m∧(n + h + 2) * m≤20000000∧s≤13∧U.length≤12∧∀ r∈runM k A B C xs U,r.length≤13∧∀ x∈r,x.ok k∧SmN x
noncomputable def Zp (Cl CT:Addr):Sp:=fun vs H Q E=>∃ (d dx pm:Addr) (k:Int) (kvs:List (Key×V)) (x:Str) (A B C:List (List Nb)) (p ta tb tc:Addr) (ra rb rc:List Addr),vs = [.ref d,.ref p,.str x]∧DeskAt H d Cl dx k pm kvs∧KindS k∧x.length≤50000∧MachAt H A B C p ta tb tc ra rb rc∧B≠[]∧(tabsW k x 2 = none→∀ H',Same H H'→E (.ref CT) none H')∧(∀ S U,tabsW k x 2 = some [S,U]→fitB A B S U = false→∀ H',Same H H'→E (.ref CT) none H')∧(∀ S U,tabsW k x 2 = some [S,U]→fitB A B S U = true→RunS k A B C S U∧∀ y H',Same H H'→cl y = shT (runM k A B C (S.headD []) U)→Q (.str y) H')
theorem zga {Cl CT:Addr} (c_Desk:DeskC K Cl) (c_NoText:Ec K mg "NoText" CT) (D:Dm K Cl "tell_run" "Desk.tell_run" ["self", "machine", "text"] yC) (xW:Kx P w K mg base "read_tables" 45 ["kind", "text", "many"] (zcd CT)) (xg:Kn P w K mg base "has_sizes" 1 ["table", "rows", "columns"] zcI) (JM:Kn P w K mg base "show_table" 43 ["kind", "table"] zeZ) (d_run:Kn P w K mg base "run" 47 ["kind", "machine", "standing", "inputs"] zeS) (m_len:mg "len" = none):Mx P w K mg base Cl "tell_run" 48 ["self", "machine", "text"] (Zp Cl CT):=by
 refine D.mx sc_Desk_tell_run (fun vs H Q E h=>?_) (fun f cdv A' outer s' H vs Q E hr h=>?_)
 ·obtain ⟨d,dx,pm,k,kvs,x,A,B,C,p,ta,tb,tc,ra,rb,rc,rfl,_⟩:=h; rfl
 obtain ⟨d,dx,pm,k,kvs,x,A,B,C,p,ta,tb,tc,ra,rb,rc,rfl,hD,hs,lx,hM,nB,no,nofit,yes⟩:=h
 have szl:sizeLine = 16777216:=by decide
 refine ⟨_,(zb (zp (i:=3) sc_Desk_tell_run.nd rfl (.inl rfl) (ji xW (hr.mono (by decide)) rfl zT (za (jH (pv 0) rfl) (za (pv 2) (za ze zc))))) (zb (PS.nox (zp (i:=4) sc_Desk_tell_run.nd rfl (.inl rfl) (zu zo (pv 3) ze))) (zb (PS.nox (zp (i:=5) sc_Desk_tell_run.nd rfl (.inl rfl) (zu zo (pv 3) ze))) (zb (zV (PT.nox (PW.pt (pw_or (jd (xb (zE xg hr (za (pv 4) (za ze (za (zv zL rfl m_len yy (za (zu zJ (pv 1) ze) zc)) zc)))))) (pw_or1 (zr jG (zv zL rfl m_len yy (za (zu zo (pv 5) ze) zc)) (zv zL rfl m_len yy (za (zu zo (zu zJ (pv 1) ze) ze) zc)) (nomark _)))))) (zi (yf c_NoText rfl rfl zS (za zg zc))) zx) (zi (PS.nox (zt (zE JM hr (za (jH (pv 0) rfl) (za (zE d_run hr (za (jH (pv 0) rfl) (za (pv 1) (za (zu zo (pv 4) ze) (za (pv 5) zc))))) zc)))))))))),?_⟩
 refine ⟨_,rfl,d,Cl,dx,_,.int k,rfl,hD.1,c_Desk.c,c_Desk.nk,rfl,_,rfl,k,x,2,_,rfl,rfl,hs,lx,fun Ms ts pl H1 hT g1 hl T=>?_,fun e H' g=>no e H' g⟩
 obtain ⟨l2,each⟩:=XI hT
 obtain ⟨S,U,rfl⟩ : ∃ S U,Ms = [S,U]:=by
  match Ms,l2 with
  | [a,b],_=>exact ⟨a,b,rfl⟩
 have neq:∀ M∈[S,U],M≠[]:=fun M hM=>by obtain ⟨y,_,ey⟩:=each M hM; exact ze8 ey
 obtain ⟨ts,tu,rfl⟩ : ∃ t1 t2,ts = [t1,t2]:=by
  match ts,yp T with
  | [a,b],_=>exact ⟨a,b,rfl⟩
 obtain ⟨⟨rs,TS⟩,⟨ru,TU⟩⟩ : (∃ ra,TabAt H1 S ts ra)∧(∃ rb,TabAt H1 U tu rb):=by
  cases T with
  | cons h1 t=>cases t with
   | cons h2 t=>exact ⟨h1,h2⟩
 have nS:=neq S (by simp)
 have nU:=neq U (by simp)
 have M1:=hM.mono g1
 have hD1:=g1 _ _ hD.1
 have la:=yp M1.a.2
 obtain ⟨u0,ru',us,rfl,hu,lu⟩:=jT TU nU
 obtain ⟨b0,rb',bs,rfl,hb,lb⟩:=jT M1.b nB
 have bad:fitB A B S U = false→E (.ref CT) none H1:=fun e=>nofit S U hT e H1 g1
 refine ⟨_,rfl,pl,_,_,.ref ts,rfl,rfl,SqL.of hl,(zm (j:=0) rfl),?_⟩
 refine ⟨_,rfl,pl,_,_,.ref tu,rfl,rfl,SqL.of hl,(zm (j:=1) rfl),?_⟩
 refine ⟨_,rfl,_,rfl,p,_,_,.ref ta,rfl,rfl,SqT.of M1.tup,rfl,ta,_,rfl,.inl (SqL.of M1.a.1),S,ts,rs,_,_,rfl,TS,nS,_,rfl,?_⟩
 rw [List.length_map,← la]
 cases h1:hszB S 1 A.length with
 | false=>exact iteT (iteT ⟨(by show 1≤sizeLine; decide),bad (by unfold fitB; rw [h1]; rfl)⟩)
 | true =>
  refine iteF ?_
  refine ⟨_,rfl,tu,_,_,.ref u0,rfl,rfl,SqL.of TU.1,(zm (j:=0) rfl),u0,_,rfl,.inl (SqL.of hu),_,rfl,p,_,_,.ref tb,rfl,rfl,SqT.of M1.tup,rfl,tb,_,_,.ref b0,rfl,rfl,SqL.of M1.b.1,(zm (j:=0) rfl),b0,_,rfl,.inl (SqL.of hb),rfl,_,rfl,?_⟩
  rw [lu,lb]
  cases h2:decide (V.int ((U.headD []).length:Int) = V.int ((B.headD []).length:Int)) with
  | false=>exact iteT ⟨(by show 1≤sizeLine; decide),bad (by unfold fitB; rw [h2,Bool.and_false])⟩
  | true =>
   refine iteF ?_
   obtain ⟨⟨xs,n,h,s,m,rfl,oM,oU,st,m7,hsz,s13,u12,ok⟩,q⟩:=yes S U hT (by unfold fitB; rw [h1,h2]; rfl)
   obtain ⟨ax,rs',rfl,hx⟩ : ∃ ax rs',rs = ax :: rs'∧RowAt H1 xs ax:=by
    obtain ⟨_,P⟩:=TS
    cases P with
    | cons h t=>exact ⟨_,_,rfl,h⟩
   refine ⟨_,rfl,d,Cl,dx,_,.int k,rfl,hD1,c_Desk.c,c_Desk.nk,rfl,_,rfl,d,Cl,dx,_,.int k,rfl,hD1,c_Desk.c,c_Desk.nk,rfl,_,rfl,_,rfl,ts,_,_,.ref ax,rfl,rfl,SqL.of TS.1,(zm (j:=0) rfl),_,rfl,k,A,B,C,xs,U,n,h,s,m,p,ta,tb,tc,ax,tu,ra,_,rc,_,rfl,hs.ok,M1,hx,TU,oM,oU,st,m7,hsz,(by omega),(by omega),fun t ras H2 g2 N=>?_⟩
   exact ⟨k,_,t,ras,rfl,N.tab,ok,(by rw [Xb]; omega),fun y H3 g3 e=>q y H3 ((g1.trans g2).trans g3) e⟩
noncomputable def Xw (Cl CT:Addr):Sp:=fun vs H Q E=>∃ (d p pw:Addr) (n x:Str),vs = [.ref d,.ref p,.ref pw]∧H pw = some (.lst [.str "run",.str n,.str x])∧(∃ dx k pm,H d = some (.ins Cl dx (dkF k pm)))∧Zp Cl CT [.ref d,.ref p,.str x] H Q E
theorem zbu {Cl CT:Addr} (C_D:DeskC K Cl) (D:Dm K Cl "tell_of" "Desk.tell_of" ["self", "machine", "words"] yK) (Zm:Mx P w K mg base Cl "tell_run" 48 ["self", "machine", "text"] (Zp Cl CT)):Mx P w K mg base Cl "tell_of" 49 ["self", "machine", "words"] (Xw Cl CT):=by
 have c_Desk:=C_D.c
 refine D.mx Zs (fun vs H Q E h=>?_) (fun f cdv A' outer s' H vs Q E hr h=>?_)
 ·obtain ⟨d,p,pw,n,x,rfl,_⟩:=h; rfl
 obtain ⟨d,p,pw,n,x,rfl,hw,hd,t⟩:=h
 refine ⟨_,(zb (zV (PT.nox (zr xi (zu zo (pv 2) ze) zg (nomark _))) (zi (PS.nox jp)) zx) (zb (zV (PT.nox (zr xi (zu zo (pv 2) ze) zg (nomark _))) (zi (PS.nox jp)) zx) (zb (zV (PT.nox (zr xi (zu zo (pv 2) ze) zg (nomark _))) (zi jp) zx) (zi (zt (zcJ Zm (hr.mono (by decide)) c_Desk zT (pv 0) (za (pv 1) (za (zu zo (pv 2) ze) zc)))))))),?_⟩
 refine ⟨_,rfl,pw,_,_,.str "run",rfl,rfl,SqL.of hw,(zm (j:=0) rfl),rfl,_,rfl,?_⟩
 rw [show decide (V.str "run" = V.str "steered") = false by decide]
 refine iteF ?_
 refine ⟨_,rfl,pw,_,_,.str "run",rfl,rfl,SqL.of hw,(zm (j:=0) rfl),rfl,_,rfl,?_⟩
 rw [show decide (V.str "run" = V.str "unseen") = false by decide]
 refine iteF ?_
 refine ⟨_,rfl,pw,_,_,.str "run",rfl,rfl,SqL.of hw,(zm (j:=0) rfl),rfl,_,rfl,?_⟩
 rw [show decide (V.str "run" = V.str "rest") = false by decide]
 refine iteF ?_
 obtain ⟨dx,k,pm,hd⟩:=hd
 exact ⟨_,rfl,d,dx,_,rfl,hd,rfl,_,rfl,_,rfl,pw,_,_,.str x,rfl,rfl,SqL.of hw,(zm (j:=2) rfl),t⟩
noncomputable def SayR (Cl CT d:Addr) (k:Int) (kvs:List (Key×V)) (H:Hp) (Q:VK) (E:XK) (ws:List Str):Prop :=
 (∃ y:Str,ws = [Str.ofString "kind",y]∧∀ H',Same H H'→zce Cl CT [.ref d,.str y] H' Q E) ∨
 (∃ n y:Str,ws = [Str.ofString "machine",n,y]∧∀ H',Same H H'→Qv Cl CT [.ref d,.str n,.str y] H' Q E) ∨
 (∃ (n n':Str) (A B C A2 B2 C2:List (List Nb)) (p ta tb tc p2 ta2 tb2 tc2:Addr) (ra rb rc ra2 rb2 rc2:List Addr),ws = [Str.ofString "alike",n,n']∧valV kvs (.inr n) = some (.ref p)∧valV kvs (.inr n') = some (.ref p2)∧MachAt H A B C p ta tb tc ra rb rc∧MachAt H A2 B2 C2 p2 ta2 tb2 tc2 ra2 rb2 rc2∧B≠[]∧B2≠[]∧(B.headD []).length≠(B2.headD []).length∧∀ H',Same H H'→Q (.str "no") H') ∨
 ∃ (n y:Str) (p:Addr),ws = [Str.ofString "run",n,y]∧valV kvs (.inr n) = some (.ref p)∧∀ H',Same H H'→Zp Cl CT [.ref d,.ref p,.str y] H' Q E
noncomputable def zcj (Cl CR CN CT:Addr):Sp:=fun vs H Q E=>∃ (d dx pm:Addr) (k:Int) (kvs:List (Key×V)) (v:V),vs = [.ref d,v]∧DeskAt H d Cl dx k pm kvs∧RowV H v∧kvs.length≤1000∧((∀ x,v = .str x→rowW x = none)→∀ H',Same H H'→E (.ref CR) none H')∧∀ x ws,v = .str x→rowW x = some ws→ws≠[]∧ws.length≤50000∧(∀ y∈ws,y.length≤50000)∧(¬ namesOk kvs ws→∀ H',Same H H'→E (.ref CN) none H')∧(namesOk kvs ws→SayR Cl CT d k kvs H Q E ws)
theorem zgF {Cl CR CN CT:Addr} (C_D:DeskC K Cl) (D:Dm K Cl "say" "Desk.say" ["self", "row"] jm) (zaE:Kx P w K mg base "words_of" 1 ["row"] (zan CR)) (jI:Mx P w K mg base Cl "refuse_names" 2 ["self", "words"] (XO Cl CN)) (jV:Mx P w K mg base Cl "change_kind" 2 ["self", "word"] (zce Cl CT)) (jN:Mx P w K mg base Cl "keep_machine" 47 ["self", "name", "text"] (Qv Cl CT)) (JR:Kn P w K mg base "are_alike" 1 ["kind", "one", "other"] zav) (ZR:Mx P w K mg base Cl "tell_of" 49 ["self", "machine", "words"] (Xw Cl CT)):Mx P w K mg base Cl "say" 50 ["self", "row"] (zcj Cl CR CN CT):=by
 have c_Desk:=C_D.c
 refine D.mx sc_Desk_say (fun vs H Q E h=>?_) (fun f cdv A' outer s' H vs Q E hr h=>?_)
 ·obtain ⟨d,dx,pm,k,kvs,v,rfl,_⟩:=h; rfl
 obtain ⟨d,dx,pm,k,kvs,v,rfl,hD,hv,lk,no,yes⟩:=h
 refine ⟨_,(zb (zp (i:=2) sc_Desk_say.nd rfl (.inl rfl) (ji zaE (hr.mono (by decide)) rfl zT (za (pv 1) zc))) (zb (qw (zcJ jI (hr.mono (by decide)) c_Desk zT (pv 0) (za (pv 2) zc))) (zb (zV (PT.nox (zr xi (zu zo (pv 2) ze) zg (nomark _))) (zi (zt (zcJ jV (hr.mono (by decide)) c_Desk zT (pv 0) (za (zu zo (pv 2) ze) zc)))) zx) (zb (zV (PT.nox (zr xi (zu zo (pv 2) ze) zg (nomark _))) (zi (zt (zcJ jN (hr.mono (by decide)) c_Desk zT (pv 0) (za (zu zo (pv 2) ze) (za (zu zo (pv 2) ze) zc))))) zx) (zb (zV (PT.nox (zr xi (zu zo (pv 2) ze) zg (nomark _))) (zi jp) zx) (zb (zV (PT.nox (zr xi (zu zo (pv 2) ze) zg (nomark _))) (zi (PS.nox (zt (xQ (xb (zE JR hr (za (jH (pv 0) rfl) (za (Ql (YG hr) (jH (pv 0) rfl) (zu zo (pv 2) ze) (fun _ _=>rfl)) (za (Ql (YG hr) (jH (pv 0) rfl) (zu zo (pv 2) ze) (fun _ _=>rfl)) zc))))) zg zg)))) zx) (zi (zt (zcJ ZR (hr.mono (by decide)) c_Desk zT (pv 0) (za (Ql (YG hr) (jH (pv 0) rfl) (zu zo (pv 2) ze) (fun _ _=>rfl)) (za (pv 2) zc))))))))))),?_⟩
 refine ⟨_,rfl,_,rfl,hv,no,fun x ws pw H1 ev hw g1 hpw=>?_⟩
 obtain ⟨wne,wl,yl,noN,yesN⟩:=yes x ws ev hw
 have D1:DeskAt H1 d Cl dx k pm kvs:=⟨g1 _ _ hD.1,g1 _ _ hD.2⟩
 refine ⟨_,rfl,d,dx,_,rfl,D1.1,rfl,_,rfl,d,dx,pm,pw,k,kvs,ws,rfl,D1,hpw,wne,wl,yl,fun ok H2 g2=>?_,fun bad H2 g2=>noN bad H2 (g1.trans g2)⟩
 have g:=g1.trans g2
 have D2:DeskAt H2 d Cl dx k pm kvs:=⟨g _ _ hD.1,g _ _ hD.2⟩
 have hw2:=g2 _ _ hpw
 rcases yesN ok with ⟨y,rfl,t⟩ | ⟨n,y,rfl,t⟩ | ⟨n,n',A,B,C,A2,B2,C2,p,ta,tb,tc,p2,ta2,tb2,tc2,ra,rb,rc,ra2,rb2,rc2,rfl,e1,e2,M1,M2,n1,n2,un,q⟩ | ⟨n,y,p,rfl,e1,t⟩
 ·refine ⟨_,rfl,pw,_,_,.str "kind",rfl,rfl,SqL.of hw2,(zm (j:=0) rfl),rfl,_,rfl,?_⟩
  rw [show decide (V.str "kind" = V.str "kind") = true by decide]
  refine iteT ?_
  exact ⟨_,rfl,d,dx,_,rfl,D2.1,rfl,_,rfl,pw,_,_,.str y,rfl,rfl,SqL.of hw2,(zm (j:=1) rfl),t H2 g⟩
 ·refine ⟨_,rfl,pw,_,_,.str "machine",rfl,rfl,SqL.of hw2,(zm (j:=0) rfl),rfl,_,rfl,?_⟩
  rw [show decide (V.str "machine" = V.str "kind") = false by decide]
  refine iteF ?_
  refine ⟨_,rfl,pw,_,_,.str "machine",rfl,rfl,SqL.of hw2,(zm (j:=0) rfl),rfl,_,rfl,?_⟩
  rw [show decide (V.str "machine" = V.str "machine") = true by decide]
  refine iteT ?_
  exact ⟨_,rfl,d,dx,_,rfl,D2.1,rfl,_,rfl,pw,_,_,.str n,rfl,rfl,SqL.of hw2,(zm (j:=1) rfl),_,rfl,pw,_,_,.str y,rfl,rfl,SqL.of hw2,(zm (j:=2) rfl),t H2 g⟩
 ·refine ⟨_,rfl,pw,_,_,.str "alike",rfl,rfl,SqL.of hw2,(zm (j:=0) rfl),rfl,_,rfl,?_⟩
  rw [show decide (V.str "alike" = V.str "kind") = false by decide]
  refine iteF ?_
  refine ⟨_,rfl,pw,_,_,.str "alike",rfl,rfl,SqL.of hw2,(zm (j:=0) rfl),rfl,_,rfl,?_⟩
  rw [show decide (V.str "alike" = V.str "machine") = false by decide]
  refine iteF ?_
  refine ⟨_,rfl,pw,_,_,.str "alike",rfl,rfl,SqL.of hw2,(zm (j:=0) rfl),rfl,_,rfl,?_⟩
  rw [show decide (V.str "alike" = V.str "core") = false by decide]
  refine iteF ?_
  refine ⟨_,rfl,pw,_,_,.str "alike",rfl,rfl,SqL.of hw2,(zm (j:=0) rfl),rfl,_,rfl,?_⟩
  rw [show decide (V.str "alike" = V.str "alike") = true by decide]
  refine iteT ?_
  have G1:DGet H2 pm (.str n) (some (.ref p)):=e1 ▸ DGet.k (k:=.inr n) D2.2
  have G2:DGet H2 pm (.str n') (some (.ref p2)):=e2 ▸ DGet.k (k:=.inr n') D2.2
  exact ⟨_,rfl,d,Cl,dx,_,.int k,rfl,D2.1,C_D.c,C_D.nk,rfl,_,rfl,d,Cl,dx,_,.ref pm,rfl,D2.1,C_D.c,C_D.nm,rfl,_,rfl,pw,_,_,.str n,rfl,rfl,SqL.of hw2,(zm (j:=1) rfl),pm,_,rfl,G1,_,rfl,d,Cl,dx,_,.ref pm,rfl,D2.1,C_D.c,C_D.nm,rfl,_,rfl,pw,_,_,.str n',rfl,rfl,SqL.of hw2,(zm (j:=2) rfl),pm,_,rfl,G2,k,A,B,C,A2,B2,C2,p,ta,tb,tc,p2,ta2,tb2,tc2,ra,rb,rc,ra2,rb2,rc2,rfl,M1.mono g,M2.mono g,n1,n2,un,_,rfl,iteF (q H2 g)⟩
 ·refine ⟨_,rfl,pw,_,_,.str "run",rfl,rfl,SqL.of hw2,(zm (j:=0) rfl),rfl,_,rfl,?_⟩
  rw [show decide (V.str "run" = V.str "kind") = false by decide]
  refine iteF ?_
  refine ⟨_,rfl,pw,_,_,.str "run",rfl,rfl,SqL.of hw2,(zm (j:=0) rfl),rfl,_,rfl,?_⟩
  rw [show decide (V.str "run" = V.str "machine") = false by decide]
  refine iteF ?_
  refine ⟨_,rfl,pw,_,_,.str "run",rfl,rfl,SqL.of hw2,(zm (j:=0) rfl),rfl,_,rfl,?_⟩
  rw [show decide (V.str "run" = V.str "core") = false by decide]
  refine iteF ?_
  refine ⟨_,rfl,pw,_,_,.str "run",rfl,rfl,SqL.of hw2,(zm (j:=0) rfl),rfl,_,rfl,?_⟩
  rw [show decide (V.str "run" = V.str "alike") = false by decide]
  refine iteF ?_
  have G1:DGet H2 pm (.str n) (some (.ref p)):=e1 ▸ DGet.k (k:=.inr n) D2.2
  exact ⟨_,rfl,d,dx,_,rfl,D2.1,rfl,_,rfl,d,Cl,dx,_,.ref pm,rfl,D2.1,C_D.c,C_D.nm,rfl,_,rfl,pw,_,_,.str n,rfl,rfl,SqL.of hw2,(zm (j:=1) rfl),pm,_,rfl,G1,_,rfl,d,p,pw,n,y,rfl,hw2,⟨_,_,_,D2.1⟩,t H2 g⟩
theorem Xa:bootBuiltins "ValueError" = some (.type "ValueError"):=by decide +kernel
structure XS (K:PySem.W.Frag) (mg:Str→Option Value) (CR CN CT CB B:Addr):Prop where
 r:Ec K mg "NoRow" CR
 n:Ec K mg "NoName" CN
 t:Ec K mg "NoText" CT
 k:mg "NoBack" = some (.ref CB)
 b:mg "MillError" = some (.ref B)
 ek:∀ c∈[CR,CN,CT],Ek K c
 eb:∀ c∈[CR,CN,CT],Eb K B c
 is:∀ (i j:Nat) (c c':Addr),[CR,CN,CT][i]? = some c→[CR,CN,CT,CB][j]? = some c'→PySem.W.kitOne K (.ref c) (.ref c') = some (decide (i = j))
 ve:∀ c∈[CR,CN,CT],PySem.W.kitOne K (.ref c) (.type "ValueError") = some true
noncomputable def yR (Cl CR CN CT:Addr):Sp:=fun vs H Q _=>∃ (d:Addr) (v:V),vs = [.ref d,v]∧(∃ dx k pm,H d = some (.ins Cl dx (dkF k pm)))∧∀ (Q':VK) (E':XK),(∀ u H',Q u H'→Q' u H')→(∀ (i:Nat) c H',[CR,CN,CT][i]? = some c→(∀ p H'',Same H' H''→H'' p = some (.lst [.int (i:Int)])→Q (.ref p) H'')→E' (.ref c) none H')→zcj Cl CR CN CT [.ref d,v] H Q' E'
theorem zfB {Cl CR CN CT CB B:Addr} (C_D:DeskC K Cl) (X0:XS K mg CR CN CT CB B) (D:Df K mg "_law_said" ["_law_desk", "_law_row_here"] xN) (zaJ:Mx P w K mg base Cl "say" 50 ["self", "row"] (zcj Cl CR CN CT)) (zH:mg "isinstance" = none) (jh:mg "ValueError" = none) (xz:mg "range" = none):Kn P w K mg base "_law_said" 51 ["_law_desk", "_law_row_here"] (yR Cl CR CN CT):=by
 have c_Desk:=C_D.c
 refine D.kn sc__law_said (fun vs H Q E h=>?_) (fun f cdv A outer s H vs Q E hr h=>?_)
 ·obtain ⟨d,v,rfl,_⟩:=h; rfl
 obtain ⟨d,v,rfl,⟨dx,k,pm,hd⟩,t⟩:=h
 have szl:sizeLine = 16777216:=by decide
 have QG:=X0.b
 have eb:=X0.eb
 have zdE:=X0.t.bound
 have zea:=X0.n.bound
 have zf5:=X0.r.bound
 have zej:=X0.k
 refine ⟨_,(zb (zp (i:=2) sc__law_said.nd rfl (.inl rfl) zap) (zb (zp (i:=3) sc__law_said.nd rfl (.inl rfl) zap) (zb (zfZ (i:=4) (j:=2) zaJ (hr.mono (by decide)) c_Desk QG eb rfl (pv 0) (za (pv 1) zc) sc__law_said.nd rfl rfl rfl (.inl rfl) (fun _=>(zi (zp (i:=3) sc__law_said.nd rfl (.inl rfl) (pv 4))))) (zb (zV (zr zgJ (pv 3) zap (nomark _)) (zi (zt (pv 2))) zx) (zb (zp (i:=5) sc__law_said.nd rfl (.inr rfl) (zM (za (zv (xE (K:=K) rfl) rfl zH zY (za (pv 3) (za (zP (v:=.ref CR) rfl zf5 rfl) zc))) (za (zv (xE (K:=K) rfl) rfl zH zY (za (pv 3) (za (zP (v:=.ref CN) rfl zea rfl) zc))) (za (zv (xE (K:=K) rfl) rfl zH zY (za (pv 3) (za (zP (v:=.ref CT) rfl zdE rfl) zc))) zc))))) (zb (zp (i:=5) sc__law_said.nd rfl (.inr rfl) (zk jl (pv 5) (zM (za (zv (xE (K:=K) rfl) rfl zH zY (za (pv 3) (za (zP (v:=.ref CB) rfl zej rfl) zc))) (za (zhd (zv (xE (K:=K) rfl) rfl zH zY (za (pv 3) (za (zf6 rfl jh Xa) zc)))) zc))))) (zi (zt (ZT ["_law_found"] [5] (jQ rfl xz (za ze zc)) fun _ _ _ _ _ _=>⟨(zbn (xb (zu zo (pv 1) (pv 0)))),(pv 0)⟩))))))))),?_⟩
 refine ⟨_,rfl,d,dx,_,rfl,hd,rfl,_,rfl,?_⟩
 unfold tNil
 dsimp only
 refine t _ _ (fun u H' q=>?_) (fun i c H' hc q=>?_)
 ·exact ⟨_,rfl,rfl,_,rfl,iteT ⟨_,rfl,q⟩⟩
 have hm:c∈[CR,CN,CT]:=List.mem_of_getElem? hc
 refine ⟨c,rfl,hm,fun a ha=>⟨_,rfl,?_⟩⟩
 have g3:=zh ha (.ext (ExAt a c))
 have hx:upd H' a (.ext (ExAt a c)) a = some (.ext (ExAt a c)):=zf
 generalize upd H' a (.ext (ExAt a c)) = H3 at *
 refine ⟨_,rfl,rfl,_,rfl,iteF ?_⟩
 have ek:=X0.ek c hm
 have ve:=X0.ve c hm
 refine ⟨_,rfl,a,c,.ref CR,.ref CR,_,rfl,hx,ek,(fun u hu=>hu),X0.is i 0 c CR hc rfl,_,rfl,a,c,.ref CN,.ref CN,_,rfl,hx,ek,(fun u hu=>hu),X0.is i 1 c CN hc rfl,_,rfl,a,c,.ref CT,.ref CT,_,rfl,hx,ek,(fun u hu=>hu),X0.is i 2 c CT hc rfl,(by show 3≤sizeLine; decide),fun p hp=>?_⟩
 have g4:=zh hp (.lst [.bl (decide (i = 0)),.bl (decide (i = 1)),.bl (decide (i = 2))])
 have hp4:upd H3 p (.lst [.bl (decide (i = 0)),.bl (decide (i = 1)),.bl (decide (i = 2))]) p = some (.lst [.bl (decide (i = 0)),.bl (decide (i = 1)),.bl (decide (i = 2))]):=zf
 generalize upd H3 p (.lst [.bl (decide (i = 0)),.bl (decide (i = 1)),.bl (decide (i = 2))]) = H4 at *
 have hx4:=g4 _ _ hx
 refine ⟨_,rfl,_,rfl,a,c,.ref CB,.ref CB,_,rfl,hx4,ek,(fun u hu=>hu),X0.is i 3 c CB hc rfl,_,rfl,a,c,.ty "ValueError",.type "ValueError",true,rfl,hx4,ek,(fun u hu=>hu),ve,_,rfl,(by show 2≤sizeLine; decide),fun p2 hp2=>?_⟩
 have g5:=zh hp2 (.lst [.bl (decide (i = 3)),.bl !true])
 have hp5:upd H4 p2 (.lst [.bl (decide (i = 3)),.bl !true]) p2 = some (.lst [.bl (decide (i = 3)),.bl !true]):=zf
 generalize upd H4 p2 (.lst [.bl (decide (i = 3)),.bl !true]) = H5 at *
 refine ⟨p,p2,_,_,rfl,rfl,g5 _ _ hp4,hp5,(by show 5≤sizeLine; decide),fun p3 hp3=>?_⟩
 have g6:=zh hp3 (.lst ([.bl (decide (i = 0)),.bl (decide (i = 1)),.bl (decide (i = 2))] ++ [.bl (decide (i = 3)),.bl !true]))
 have hp6:upd H5 p3 (.lst ([.bl (decide (i = 0)),.bl (decide (i = 1)),.bl (decide (i = 2))] ++ [.bl (decide (i = 3)),.bl !true])) p3 = some (.lst ([.bl (decide (i = 0)),.bl (decide (i = 1)),.bl (decide (i = 2))] ++ [.bl (decide (i = 3)),.bl !true])):=zf
 generalize upd H5 p3 (.lst ([.bl (decide (i = 0)),.bl (decide (i = 1)),.bl (decide (i = 2))] ++ [.bl (decide (i = 3)),.bl !true])) = H6 at *
 have i3:i < 3:=(List.getElem?_eq_some_iff.mp hc).1
 have get:∀ m,m < 5→([.bl (decide (i = 0)),.bl (decide (i = 1)),.bl (decide (i = 2))] ++ [.bl (decide (i = 3)),.bl !true]:List V)[m]? = some (.bl (decide (i = m))):=fun m h5=>by
  match m,h5 with
  | 0,_=>rfl
  | 1,_=>rfl
  | 2,_=>rfl
  | 3,_=>rfl
  | 4,_=>rw [decide_eq_false (show ¬ i = 4 by omega)]; rfl
 refine ⟨5,rfl,(by decide),(by decide),?_⟩
 refine qE (lo:=0) (n:=5) (fun m ys H'=>H' = H6∧ys = if i < m then [.int (i:Int)] else []) ⟨rfl,(by rw [if_neg (Nat.not_lt_zero _)])⟩ ?_ ?_ ?_
 ·rintro m ys H' _ ⟨_,rfl⟩
  split
  ·show 1 < sizeLine; decide
  ·show 0 < sizeLine; decide
 ·rintro m ys H' hm ⟨rfl,rfl⟩
  refine ⟨_,rfl,_,rfl,p3,_,_,_,rfl,rfl,SqL.of hp6,(by rw [Int.zero_add]; exact zm (j:=m) (get m hm)),_,rfl,?_⟩
  by_cases e:i = m
  ·subst e
   rw [if_pos (by simp)]
   refine ⟨_,rfl,?_⟩
   refine nxt hm ⟨rfl,?_⟩
   rw [if_neg (Nat.lt_irrefl _),if_pos (Nat.lt_succ_self _),Int.zero_add]
   rfl
  ·rw [if_neg (by simpa using e)]
   refine nxt hm ⟨rfl,?_⟩
   by_cases z:i < m
   ·rw [if_pos z,if_pos (by omega)]
   ·rw [if_neg z,if_neg (by omega)]
 ·rintro ys H' ⟨rfl,rfl⟩ p4 hp4'
  rw [if_pos (by omega)]
  have g7:=zh hp4' (.lst [.int (i:Int)])
  exact q p4 _ ((((g3.trans g4).trans g5).trans g6).trans g7) zf
theorem xS {a b:Int} (h0 : -(2 ^ 64) < b) (h1:b < 2 ^ 64):IntMulOk a b:=IntMulOk.of_right (intBits_le_64 h0 h1)
theorem yF {a b:Int} (h0 : -(2 ^ 64) < a) (h1:a < 2 ^ 64):IntMulOk a b:=IntMulOk.of_left (intBits_le_64 h0 h1)
noncomputable def mixF (c j:Int):Int:=if (c.fmod 2 = 1∧c / 2 ^ (27:Int).toNat≠0) then (c / 2 ^ (1 + 20 * j).toNat).fmod 1048576
 else ((((c * (2 * j + 3) + j).fmod 2147483629 * (c * (2 * j + 3) + j).fmod 2147483629 + 1) * 48271).fmod 2147483629 * (((c * (2 * j + 3) + j).fmod 2147483629 * (c * (2 * j + 3) + j).fmod 2147483629 + 1) * 48271).fmod 2147483629).fmod 2147483587
noncomputable def Zr:Sp:=fun vs H Q _=>∃ (c j:Int),vs = [.int c,.int j]∧0≤j∧j≤1000000∧Q (.int (mixF c j)) H
theorem zgG (D:Df K mg "_law_mix" ["_law_cell", "_law_j"] jn):Kn P w K mg base "_law_mix" 1 ["_law_cell", "_law_j"] Zr:=by
 refine D.kn sc__law_mix (fun vs H Q E h=>?_) (fun f cdv A outer s H vs Q E hr h=>?_)
 ·obtain ⟨c,j,rfl,_⟩:=h; rfl
 obtain ⟨c,j,rfl,j0,j1,q⟩:=h
 refine ⟨_,(zb (zV (PW.pt (pw_and (zr xi (zk zG (pv 0) ze) ze (nomark _)) (pw_and1 (zr jG (zk zfc (pv 0) ze) ze (nomark _))))) (zi (zt (zk zG (zk zfc (pv 0) (zk ql ze (zk ye ze (pv 1)))) ze))) zx) (zb (zp (i:=2) sc__law_mix.nd rfl (.inl rfl) (zk zG (zk ql (zk ye (pv 0) (zk ql (zk ye ze (pv 1)) ze)) (pv 1)) ze)) (zb (zp (i:=2) sc__law_mix.nd rfl (.inl rfl) (zk zG (zk ye (zk ql (zk ye (pv 2) (pv 2)) ze) ze) ze)) (zi (zt (zk zG (zk ye (pv 2) (pv 2)) ze)))))),?_⟩
 have n1:(2147483629:Int)≠0:=by decide
 have n2:(2147483587:Int)≠0:=by decide
 have n3:(1048576:Int)≠0:=by decide
 have a0:=Int.fmod_nonneg_of_pos (c * (2 * j + 3) + j) (show (0:Int) < 2147483629 by decide)
 have a1:=Int.fmod_lt_of_pos (c * (2 * j + 3) + j) (show (0:Int) < 2147483629 by decide)
 have b0:=Int.fmod_nonneg_of_pos (((c * (2 * j + 3) + j).fmod 2147483629 * (c * (2 * j + 3) + j).fmod 2147483629 + 1) * 48271) (show (0:Int) < 2147483629 by decide)
 have b1:=Int.fmod_lt_of_pos (((c * (2 * j + 3) + j).fmod 2147483629 * (c * (2 * j + 3) + j).fmod 2147483629 + 1) * 48271) (show (0:Int) < 2147483629 by decide)
 refine ⟨_,rfl,_,_,rfl,rfl,(by show (2:Int)≠0; decide),rfl,_,rfl,?_⟩
 refine ite2 (fun c1=>?_) (fun c1=>?_)
 ·have d1:c.fmod 2 = 1:=V.int.inj (of_decide_eq_true c1)
  refine ⟨_,rfl,_,_,rfl,rfl,(by show (0:Int)≤27; decide),rfl,_,rfl,?_⟩
  refine ite2 (fun c2=>?_) (fun c2=>?_)
  ·have d2:c / 2 ^ (27:Int).toNat≠0:=fun z=>by
    have c2':(!decide (V.int (c / 2 ^ (27:Int).toNat) = V.int 0)) = true:=c2
    rw [z] at c2'; exact absurd c2' (by decide)
   have e:mixF c j = (c / 2 ^ (1 + 20 * j).toNat).fmod 1048576:=by unfold mixF; rw [if_pos ⟨d1,d2⟩]
   rw [e] at q
   exact ⟨_,rfl,_,rfl,_,_,rfl,rfl,yF (by decide) (by decide),_,_,rfl,rfl,_,_,rfl,rfl,(by omega),_,_,rfl,rfl,n3,q⟩
  ·have d2:¬ (c.fmod 2 = 1∧c / 2 ^ (27:Int).toNat≠0):=fun ⟨_,h⟩=>by
    have h':¬ V.int (c / 2 ^ (27:Int).toNat) = V.int 0:=fun e=>h (V.int.inj e)
    have c2':¬ (!decide (V.int (c / 2 ^ (27:Int).toNat) = V.int 0)) = true:=c2
    rw [decide_eq_false h'] at c2'
    exact c2' rfl
   unfold mixF at q
   rw [if_neg d2] at q
   exact ⟨_,rfl,_,rfl,_,_,rfl,rfl,yF (by decide) (by decide),_,_,rfl,rfl,_,_,rfl,rfl,xS (by omega) (by omega),_,rfl,_,_,rfl,rfl,_,_,rfl,rfl,n1,_,rfl,_,rfl,_,_,rfl,rfl,yF (by omega) (by omega),_,_,rfl,rfl,_,_,rfl,rfl,xS (by decide) (by decide),_,_,rfl,rfl,n1,_,rfl,_,rfl,_,_,rfl,rfl,yF (by omega) (by omega),_,_,rfl,rfl,n2,q⟩
 ·have d2:¬ (c.fmod 2 = 1∧c / 2 ^ (27:Int).toNat≠0):=fun ⟨h,_⟩=>c1 (show decide (V.int (c.fmod 2) = V.int 1) = true by rw [h]; decide)
  unfold mixF at q
  rw [if_neg d2] at q
  refine iteF ?_
  exact ⟨_,rfl,_,rfl,_,_,rfl,rfl,yF (by decide) (by decide),_,_,rfl,rfl,_,_,rfl,rfl,xS (by omega) (by omega),_,rfl,_,_,rfl,rfl,_,_,rfl,rfl,n1,_,rfl,_,rfl,_,_,rfl,rfl,yF (by omega) (by omega),_,_,rfl,rfl,_,_,rfl,rfl,xS (by decide) (by decide),_,_,rfl,rfl,n1,_,rfl,_,rfl,_,_,rfl,rfl,yF (by omega) (by omega),_,_,rfl,rfl,n2,q⟩
noncomputable def smallW (ts:List Nat):Prop:=∀ c∈ts,97≤c∧c≤122
noncomputable def nmK (a:Nat) (ts:List Nat) (k:Nat):Str:=⟨((97 + (a + 5 * k) % 26) :: ts).toArray⟩
noncomputable def Jj:Sp:=fun vs H Q _=>∃ c:Int,vs = [.int c]∧∀ (a:Nat) (ts:List Nat) p H',a < 26→ts.length≤7→smallW ts→Same H H'→H' p = some (.lst [.str (nmK a ts 0),.str (nmK a ts 1),.str (nmK a ts 2)])→Q (.ref p) H'
theorem zeN:∀ j:Nat,j < 26→(cl (Str.ofString "abcdefghijklmnopqrstuvwxyz"))[j]? = some (97 + j):=by decide +kernel
theorem zdY:∀ a:Nat,a < 26→Txt.find (Str.ofString "abcdefghijklmnopqrstuvwxyz") ⟨#[97 + a]⟩ = (a:Int):=by decide +kernel
theorem XM:∀ cs:List Nat,joinN [] (cs.map fun c=>[c]) = cs
 | []=>rfl
 | [_]=>rfl
 | a :: b :: l=>by
  have:=XM (b :: l)
  show [a] ++ [] ++ joinN [] ([b] :: l.map fun c=>[c]) = a :: b :: l
  rw [show ([b] :: l.map fun c=>[c]) = (b :: l).map (fun c=>[c]) from rfl,this]
  rfl
theorem yw {x:Int} {m:Nat} (hm:0 < m):∃ j:Nat,j < m∧x.fmod (m:Int) = (j:Int):=by
 have h0:=Int.fmod_nonneg_of_pos x (show (0:Int) < (m:Int) by omega)
 have h1:=Int.fmod_lt_of_pos x (show (0:Int) < (m:Int) by omega)
 exact ⟨(x.fmod m).toNat,by omega,by omega⟩
theorem zct (D:Df K mg "_law_names" ["_law_cell"] xl) (zA:Kn P w K mg base "_law_mix" 1 ["_law_cell", "_law_j"] Zr) (xz:mg "range" = none):Kn P w K mg base "_law_names" 2 ["_law_cell"] Jj:=by
 refine D.kn sc__law_names (fun vs H Q E h=>?_) (fun f cdv A outer s H vs Q E hr h=>?_)
 ·obtain ⟨c,rfl,_⟩:=h; rfl
 obtain ⟨c,rfl,q⟩:=h
 have szl:sizeLine = 16777216:=by decide
 refine ⟨_,(zb (zp (i:=1) sc__law_names.nd rfl (.inr rfl) zg) (zb (zp (i:=2) sc__law_names.nd rfl (.inl rfl) (zk ql ze (zk zG (zE zA hr (za (pv 0) (za ze zc))) ze))) (zb (zp (i:=3) sc__law_names.nd rfl (.inl rfl) (bm0 (fun _ h=>xZ PySem.F.plainAttrs_str PySem.F.slot_str_join PySem.F.type_str_join Za h (za (ZT ["_law_letters", "_law_cell"] [1,0] (jQ rfl xz (za (pv 2) zc)) fun _ _ _ _ _ _=>⟨yv,(zdW zc0 (pv 1) (zk zG (zE zA hr (za (pv 2) (za (zk ql ze (pv 0)) zc))) ze) (fun _ _=>rfl))⟩) zc)) zg)) (zb (zp (i:=4) sc__law_names.nd rfl (.inl rfl) (zM zc)) (zb (Zy PassesOwn.never rfl (jQ rfl xz (za ze zc)) (yd (i:=5) sc__law_names.nd rfl (.inl rfl)) (zi (qw (bm0 (fun _ h=>xZ PySem.F.plainAttrs_list PySem.F.slot_list_append PySem.F.type_list_append jg h (za (zk zd (zdW zc0 (pv 1) (zk zG (zk ql (bm0 (fun _ h=>xZ PySem.F.plainAttrs_str PySem.F.slot_str_find PySem.F.type_str_find zge h (za (zdW zc0 (pv 3) ze (fun _ _=>rfl)) zc)) (pv 1)) (zk ye ze (pv 5))) ze) (fun _ _=>rfl)) (xT zah (pv 3) (jb ze) qH)) zc)) (pv 4))))) (zi (zt (pv 4)))))))),?_⟩
 refine ⟨_,rfl,c,2,rfl,(by decide),(by decide),?_⟩
 obtain ⟨n,hn,en⟩:=yw (x:=mixF c 2) (m:=8) (by decide)
 refine ⟨_,_,rfl,rfl,(by decide),_,_,rfl,rfl,?_⟩
 rw [show (mixF c 2).fmod 8 = (n:Int) from en]
 refine ⟨rfl,_,rfl,_,rfl,(by omega),(by omega),?_⟩
 rw [show (1 + (n:Int)).toNat = n + 1 by omega]
 refine qE (lo:=0) (n:=n + 1) (fun m ys H'=>H' = H∧∃ cs:List Nat,ys = (cs.map fun c=>(⟨#[c]⟩ : Str)).map V.str∧cs.length = m∧smallW cs) ⟨rfl,[],rfl,rfl,fun z hz=>(nomatch hz)⟩ ?_ ?_ ?_
 ·rintro m ys H' hm ⟨rfl,cs,rfl,lc,_⟩
  rw [List.length_map,List.length_map]; omega
 ·rintro m ys H' hm ⟨rfl,cs,rfl,lc,sc⟩
  refine gyes ?_
  obtain ⟨j,hj,ej⟩:=yw (x:=mixF c (3 + (0 + (m:Int)))) (m:=26) (by decide)
  refine ⟨_,rfl,_,rfl,_,rfl,_,_,rfl,rfl,c,_,rfl,(by omega),(by omega),_,_,rfl,rfl,(by decide),_,_,97 + j,rfl,rfl,(by decide),?_,?_⟩
  ·rw [show (mixF c (3 + (0 + (m:Int)))).fmod 26 = (j:Int) from ej]
   exact zm (zeN j hj)
  ·refine nxt hm ⟨rfl,cs ++ [97 + j],by rw [List.map_append,List.map_append]; rfl,by rw [List.length_append,lc]; rfl,fun z hz=>?_⟩
   rcases List.mem_append.mp hz with h | h
   ·exact sc z h
   ·rw [List.mem_singleton.mp h]; omega
 ·rintro ys H' ⟨rfl,cs,rfl,lc,sc⟩ pl hpl
  have g1:=zh hpl (.lst ((cs.map fun c=>(⟨#[c]⟩ : Str)).map V.str))
  have hl1:upd H' pl (.lst ((cs.map fun c=>(⟨#[c]⟩ : Str)).map V.str)) pl = some (.lst ((cs.map fun c=>(⟨#[c]⟩ : Str)).map V.str)):=zf
  generalize upd H' pl (.lst ((cs.map fun c=>(⟨#[c]⟩ : Str)).map V.str)) = H1 at *
  refine ⟨_,pl,_,rfl,rfl,hl1,Xk (by rw [List.length_map]; omega) (fun x hx=>?_) (by decide),?_⟩
  ·obtain ⟨c',_,rfl⟩:=List.mem_map.mp hx
   show 1≤33000
   decide
  have ec:cl (Txt.join (Str.ofString "") (cs.map fun c=>(⟨#[c]⟩ : Str))) = cs:=by
   rw [Qp,List.map_map]
   exact XM cs
  generalize Txt.join (Str.ofString "") (cs.map fun c=>(⟨#[c]⟩ : Str)) = stem at *
  obtain ⟨c0,ts,rfl⟩ : ∃ c0 ts,cs = c0 :: ts:=by
   cases cs with
   | nil=>cases lc
   | cons a b=>exact ⟨a,b,rfl⟩
  obtain ⟨a,ha,rfl⟩ : ∃ a,a < 26∧c0 = 97 + a:=⟨c0 - 97,by have:=sc c0 List.mem_cons_self; omega,by have:=sc c0 List.mem_cons_self; omega⟩
  have st:smallW ts:=fun z hz=>sc z (List.mem_cons_of_mem _ hz)
  have lt:ts.length≤7:=by rw [List.length_cons] at lc; omega
  refine ⟨(by show 0≤sizeLine; decide),fun pf hpf=>?_⟩
  have g2:=zh hpf (.lst [])
  have hpf':H' pf = none:=g1.none hpf
  refine ⟨3,rfl,(by decide),(by decide),?_⟩
  refine zcA (lo:=0) (n:=3) (fun i σ H4=>∃ o5,σ = [some (.int c),some (.str (Str.ofString "abcdefghijklmnopqrstuvwxyz")),some (.int (1 + (n:Int))),some (.str stem),some (.ref pf),o5]∧Same H' H4∧H4 pf = some (.lst (((List.range i).map (nmK a ts)).map V.str))) ⟨none,rfl,g1.trans g2,zf⟩ ?_ ?_
  ·rintro i σ H4 hi ⟨o5,rfl,g,hf⟩
   have ls:stem.length≤8:=by rw [← zF,ec,List.length_cons]; omega
   have at0:atI stem.cps.toList 0 = some (97 + a):=by rw [show stem.cps.toList = cl stem from rfl,ec]; exact zm (j:=0) rfl
   have em:((a:Int) + 5 * (0 + (i:Int))).fmod 26 = (((a + 5 * i) % 26:Nat):Int):=by
    rw [Int.fmod_eq_emod_of_nonneg _ (by omega)]; omega
   refine ⟨_,rfl,.inl ⟨rfl,_,SqL.of hf⟩,_,rfl,_,rfl,rfl,_,rfl,stem,0,97 + a,rfl,rfl,(by omega),at0,_,_,rfl,rfl,?_⟩
   rw [zdY a ha]
   refine ⟨_,rfl,_,_,rfl,rfl,IntMulOk.of_left (intBits_le_64 (by decide) (by decide)),_,_,rfl,rfl,_,_,rfl,rfl,(by decide),?_⟩
   refine ⟨_,_,97 + (a + 5 * i) % 26,rfl,rfl,(by decide),(by rw [em]; exact zm (zeN _ (Nat.mod_lt _ (by decide)))),?_⟩
   have e1:cl (Txt.slice stem (some 1) none) = ts:=by
    have:=Yq stem 1
    rw [show stem.cps.toList = cl stem from rfl,ec] at this
    exact this
   have ei:(⟨#[97 + (a + 5 * i) % 26]⟩ : Str) ++ Txt.slice stem (some 1) none = nmK a ts i:=xD (by rw [zC,e1]; rfl)
   have l1:(Txt.slice stem (some 1) none).length≤7:=by rw [← zF,e1]; exact lt
   refine ⟨_,rfl,_,rfl,stem,rfl,(by omega),_,_,rfl,rfl,(by show 1 + _≤sizeLine; omega),?_⟩
   rw [ei]
   refine ⟨pf,_,_,rfl,rfl,hf,(by rw [List.length_map,List.length_map,List.length_range]; omega),_,rfl,qj g hpf',?_⟩
   rw [zf,List.range_succ,List.map_append,List.map_append]
   rfl
  ·rintro σ H4 ⟨o5,rfl,g,hf⟩
   exact ⟨_,rfl,q a ts pf H4 ha lt st g hf⟩
theorem xm (a:Nat) (ts:List Nat) (k:Nat):(nmK a ts k).length = ts.length + 1:=by rw [← zF]; rfl
theorem qD {a k:Nat} {ts:List Nat} (l:ts.length≤7) (h:smallW ts):nameW (nmK a ts k) = true:=by
 unfold nameW
 rw [xm,Bool.and_eq_true,Bool.and_eq_true,List.all_eq_true]
 refine ⟨⟨decide_eq_true (by omega),decide_eq_true (by omega)⟩,fun c hc=>decide_eq_true ?_⟩
 rcases List.mem_cons.mp (show c∈(97 + (a + 5 * k) % 26) :: ts from hc) with e | e
 ·have:=Nat.mod_lt (a + 5 * k) (show 0 < 26 by decide)
  omega
 ·exact h c e
theorem zfv {a i j:Nat} {ts:List Nat} (hi:i < 3) (hj:j < 3) (ne:i≠j):nmK a ts i≠nmK a ts j:=fun e=>by
 have:=congrArg cl e
 have h:=(List.cons.inj (show (97 + (a + 5 * i) % 26) :: ts = (97 + (a + 5 * j) % 26) :: ts from this)).1
 omega
noncomputable def Wd (w:Str):Prop:=∀ d∈cl w,d≠32
noncomputable def badW (ws:List Str):Prop:=match valV fbK (.inr (ws.headD Str.empty)) with
 | some (.int i)=>if inV (.str (ws.headD Str.empty)) [.str "machine",.str "run"] = true then ws.length < 3 else (ws.length:Int)≠1 + i
 | _=>True
theorem QF {f:Str} (c:inV (.str f) [.str "machine",.str "run"] = true):valV fbK (.inr f) = some (.int 2):=by
 have:f = Str.ofString "machine" ∨ f = Str.ofString "run" := by
  have h:((Str.ofString "machine" == f) || ((Str.ofString "run" == f) || false)) = true:=c
  rw [Bool.or_false] at h
  rcases Bool.or_eq_true _ _ ▸ h with h | h
  ·exact .inl (eq_of_beq h).symm
  ·exact .inr (eq_of_beq h).symm
 rcases this with rfl | rfl
 ·decide +kernel
 ·decide +kernel
theorem jB:Str.ofString " " = ⟨#[32]⟩:=by decide +kernel
theorem YN {x w0:Str} {r:List Str} (fr:∀ w∈w0 :: r,Wd w) (e:cl x = joinN [32] ((w0 :: r).map cl)):firstW x = w0:=by
 unfold firstW
 rw [jB]
 exact zbk (fr w0 List.mem_cons_self) e
theorem zft {x:Str} {ws:List Str} (ne:ws≠[]) (fr:∀ w∈ws,Wd w) (e:cl x = joinN [32] (ws.map cl)) (bad:badW ws):rowW x = none:=by
 obtain ⟨w0,r,rfl⟩:=List.exists_cons_of_ne_nil ne
 have ef:=YN fr e
 unfold badW at bad
 unfold rowW rowsW
 rw [ef]
 rw [show (w0 :: r).headD Str.empty = w0 from rfl] at bad
 rcases zbo w0 with h | ⟨i,h,hi⟩
 ·rw [h]
 ·rw [h] at bad ⊢
  dsimp only at bad ⊢
  by_cases c:inV (.str w0) [.str "machine",.str "run"] = true
  ·rw [if_pos c] at bad ⊢
   have i2:i = 2:=by
    have:=QF c
    rw [h] at this
    exact V.int.inj (Option.some.inj this)
   subst i2
   refine if_neg fun z=>?_
   rw [jB] at z
   cases r with
   | nil =>
    rw [xD (show cl x = cl w0 from e),zeh (YW _) (fr w0 List.mem_cons_self)] at z
    have z:((1:Nat):Int) = 1 + 2:=z
    omega
   | cons v t=>cases t with
    | cons _ _=>rw [List.length_cons,List.length_cons,List.length_cons] at bad; omega
    | nil =>
     have e:cl x = cl w0 ++ [32] ++ cl v:=e
     have:=zfu (x:=x) (c:=32) (a:=cl w0) (b:=cl v) (YW _) (fr w0 List.mem_cons_self) (fr v (by simp)) (by rw [e,List.append_assoc]; rfl)
     have:=congrArg List.length this
     rw [List.length_map] at this
     rw [this] at z
     have z:((2:Nat):Int) = 1 + 2:=z
     omega
  ·rw [if_neg c] at bad ⊢
   rw [jB,ZE (List.cons_ne_nil _ _) fr e]
   exact if_neg bad
theorem Qw {x:Str} {w0:Str} {r:List Str} {i:Int} (fr:∀ w∈w0 :: r,Wd w) (e:cl x = joinN [32] ((w0 :: r).map cl)) (h:valV fbK (.inr w0) = some (.int i)) (c:inV (.str w0) [.str "machine",.str "run"] = false) (l:((w0 :: r).length:Int) = 1 + i):rowW x = some (w0 :: r):=by
 have er:rowsW x = w0 :: r:=by
  unfold rowsW
  rw [YN fr e,if_neg (fun z=>by rw [c] at z; cases z),jB,ZE (List.cons_ne_nil _ _) fr e]
 unfold rowW
 rw [er,YN fr e,h]
 exact if_pos l
theorem three {l:List Str} (h:l.length = 3):∃ a b c,l = [a,b,c]:=by
 match l,h with
 | [a,b,c],_=>exact ⟨a,b,c,rfl⟩
theorem zco {x f n y:Str} (c:inV (.str f) [.str "machine",.str "run"] = true) (ff:Wd f) (fn:Wd n) (e:cl x = cl f ++ 32 :: (cl n ++ 32 :: cl y)):rowW x = some [f,n,y]:=by
 unfold rowW rowsW
 have ef:firstW x = f:=by
  unfold firstW
  rw [jB]
  exact xD (Yl ff e)
 rw [ef,QF c]
 dsimp only
 have m:=zf8 (x:=x) (c:=32) (YW _) ff fn e
 have em:Txt.splitMax x ⟨#[32]⟩ 2 = [f,n,y]:=by
  obtain ⟨a,b,d,hs⟩ : ∃ a b d,Txt.splitMax x ⟨#[32]⟩ 2 = [a,b,d]:=by
   have l3:=congrArg List.length m
   rw [List.length_map] at l3
   exact three l3
  rw [hs] at m ⊢
  obtain ⟨e1,m⟩:=List.cons.inj m
  obtain ⟨e2,m⟩:=List.cons.inj m
  obtain ⟨e3,m⟩:=List.cons.inj m
  rw [xD e1,xD e2,xD e3]
 rw [if_pos c,jB,em]
 rfl
theorem Qq (a b:Str):(a ++ b).length = a.length + b.length:=by rw [← zF,zC,List.length_append,zF,zF]
class Sml (x:Str) (i:outParam Nat):Prop where
 le:x.length≤i
instance sml_lit (s:String):Sml (Str.ofString s) (Str.ofString s).length:=⟨Nat.le_refl _⟩
instance sml_app (a b:Str) (i j:Nat) [p:Sml a i] [q:Sml b j]:Sml (a ++ b) (i + j):=⟨by rw [Qq]; exact Nat.add_le_add p.le q.le⟩
theorem zq {a b:Str} {i j:Nat} [p:Sml a i] [q:Sml b j] (h:decide (i + j≤9999) = true):a.length + b.length≤sizeLine:=Nat.le_trans (Nat.add_le_add p.le q.le) (Nat.le_trans (of_decide_eq_true h) (by decide))
noncomputable def NoR (H:Hp) (v:V):Prop:=RowV H v∧∀ x,v = .str x→rowW x = none
theorem yJ {H:Hp} {x:Str} {i:Nat} [p:Sml x i] (l:decide (i≤9999) = true) (h:rowW x = none):NoR H (.str x):=⟨.str x (Nat.le_trans p.le (Nat.le_trans (of_decide_eq_true l) (by decide))),fun y e=>by cases V.str.inj e; exact h⟩
theorem qF {f:Str} {r:List Str} {i:Int} (h:valV fbK (.inr f) = some (.int i)) (c:inV (.str f) [.str "machine",.str "run"] = false) (l:((f :: r).length:Int)≠1 + i):badW (f :: r):=by
 unfold badW
 rw [show (f :: r).headD Str.empty = f from rfl,h]
 dsimp only
 rw [if_neg (by rw [c]; decide)]
 exact l
theorem zcZ {f:Str} {r:List Str} (c:inV (.str f) [.str "machine",.str "run"] = true) (l:(f :: r).length < 3):badW (f :: r):=by
 unfold badW
 rw [show (f :: r).headD Str.empty = f from rfl,QF c]
 dsimp only
 rw [if_pos c]
 exact l
theorem Xp {f:Str} {r:List Str} (h:valV fbK (.inr f) = none):badW (f :: r):=by
 unfold badW
 rw [show (f :: r).headD Str.empty = f from rfl,h]
 trivial
theorem zdD {kvs:List (Key×V)} {k:Key} (h:∀ kv∈kvs,kv.1≠k):valV kvs k = none:=by
 unfold valV
 rw [List.find?_eq_none.2 fun kv hk=>by simpa using h kv hk]
 rfl
theorem xname {n:Str}:valV fbK (.inr (Str.ofString "x" ++ n)) = none:=zdD fun kv hk e=>by
 have e':∀ s:Str,(cl s).head?≠some 120→¬ (Sum.inr s:Key) = .inr (Str.ofString "x" ++ n):=fun s hs z=>by
  refine hs ?_
  rw [show s = Str.ofString "x" ++ n from Sum.inr.inj z,zC]
  rfl
 have all:∀ kv∈fbK,∃ s:Str,kv.1 = .inr s∧(cl s).head?≠some 120:=by
  intro kv hk
  simp only [fbK,List.mem_cons,List.not_mem_nil,or_false] at hk
  rcases hk with rfl | rfl | rfl | rfl | rfl | rfl | rfl | rfl <;> exact ⟨_,rfl,by decide +kernel⟩
 obtain ⟨s,e1,hs⟩:=all kv hk
 rw [e1] at e
 exact e' s hs e
inductive Wds:List Str→Prop
 | nil:Wds []
 | cons {w:Str} {ws:List Str}:Wd w→Wds ws→Wds (w :: ws)
theorem Wds.all {ws:List Str} (h:Wds ws):∀ w∈ws,Wd w:=by
 induction h with
 | nil=>intro w hw; cases hw
 | cons h _ ih =>
  intro w hw
  rcases List.mem_cons.mp hw with rfl | hw
  ·exact h
  ·exact ih w hw
theorem yx {a b:Str} (ha:Wd a) (hb:Wd b):Wd (a ++ b):=fun d hd=>by
 rw [zC] at hd
 rcases List.mem_append.mp hd with h | h
 ·exact ha d h
 ·exact hb d h
noncomputable instance (w:Str):Decidable (Wd w):=inferInstanceAs (Decidable (∀ d∈cl w,d≠32))
theorem qu {a k:Nat} {ts:List Nat} (h:smallW ts):Wd (nmK a ts k):=fun d hd=>by
 rcases List.mem_cons.mp (show d∈(97 + (a + 5 * k) % 26) :: ts from hd) with e | e
 ·omega
 ·have:=h d e; omega
theorem join2 (a b:List Nat):joinN [32] [a,b] = a ++ 32 :: b:=by show a ++ [32] ++ b = _; rw [List.append_assoc]; rfl
theorem join3 (a b c:List Nat):joinN [32] [a,b,c] = a ++ 32 :: (b ++ 32 :: c):=by show a ++ [32] ++ (b ++ [32] ++ c) = _; rw [List.append_assoc,List.append_assoc]; rfl
theorem join4 (a b c d:List Nat):joinN [32] [a,b,c,d] = a ++ 32 :: (b ++ 32 :: (c ++ 32 :: d)):=by show a ++ [32] ++ (b ++ [32] ++ (c ++ [32] ++ d)) = _; rw [List.append_assoc,List.append_assoc,List.append_assoc]; rfl
theorem yI:cl (Str.ofString " ") = [32]:=by decide +kernel
theorem ym:cl (Str.ofString "") = []:=by decide +kernel
theorem zD:cl (Str.ofString "steered ") = cl (Str.ofString "steered") ++ [32]:=by decide +kernel
theorem zK:cl (Str.ofString "unseen ") = cl (Str.ofString "unseen") ++ [32]:=by decide +kernel
theorem yg:cl (Str.ofString "rest ") = cl (Str.ofString "rest") ++ [32]:=by decide +kernel
theorem yk:cl (Str.ofString "core ") = cl (Str.ofString "core") ++ [32]:=by decide +kernel
theorem zO:cl (Str.ofString "alike ") = cl (Str.ofString "alike") ++ [32]:=by decide +kernel
theorem zy:cl (Str.ofString "machine ") = cl (Str.ofString "machine") ++ [32]:=by decide +kernel
theorem yH:cl (Str.ofString "run ") = cl (Str.ofString "run") ++ [32]:=by decide +kernel
theorem yj:cl (Str.ofString "Rest ") = cl (Str.ofString "Rest") ++ [32]:=by decide +kernel
theorem ya:cl (Str.ofString "kind ") = cl (Str.ofString "kind") ++ [32]:=by decide +kernel
theorem c_1:cl (Str.ofString " 1") = 32 :: cl (Str.ofString "1"):=by decide +kernel
theorem c_sr:cl (Str.ofString " rest ") = 32 :: (cl (Str.ofString "rest") ++ [32]):=by decide +kernel
theorem jj {H:Hp} {x:Str} {ws:List Str} {i:Nat} [Sml x i] (l:decide (i≤9999) = true) (w:Wds ws) (e:cl x = joinN [32] (ws.map cl)) (b:badW ws):NoR H (.str x):=by
 cases w with
 | nil=>exact yJ l (by rw [xD (show cl x = cl Str.empty from e)]; decide +kernel)
 | cons a b'=>exact yJ l (zft (List.cons_ne_nil _ _) (Wds.cons a b').all e b)
noncomputable def norL1 (n:Str) (pr:Addr):List V:=[.non,.int 7,.ref pr,.str "",.str " ",.str "kind",.str "kind 0 1",.str "kind 5 ",.str "steered",.str (Str.ofString "steered " ++ n ++ Str.ofString " "),.str "unseen"]
noncomputable def norL2 (n:Str):List V:=[.str (Str.ofString "unseen " ++ n ++ Str.ofString " " ++ n),.str "rest",.str (Str.ofString "rest " ++ n ++ Str.ofString " 1"),.str (Str.ofString "core " ++ n),.str (Str.ofString "alike " ++ n),.str "alike"]
noncomputable def norL3 (n:Str):List V:=[.str (Str.ofString "core " ++ n ++ Str.ofString " " ++ n ++ Str.ofString " " ++ n),.str "machine",.str (Str.ofString "machine " ++ n),.str "run",.str (Str.ofString "run " ++ n)]
noncomputable def norL4 (n:Str) (pt:Addr):List V:=[.str (Str.ofString " rest " ++ n),.str (Str.ofString "Rest " ++ n),.str (Str.ofString "x" ++ n ++ Str.ofString " " ++ n),.ref pt]
theorem zgl {H:Hp} {n:Str} [Sml n 8] (wn:Wd n) {pr:Addr} (h1:H pr = some (.lst [.str "rest"])):∀ v∈norL1 n pr,NoR H v:=by
 refine List.forall_mem_cons.2 ⟨⟨.non,fun x e=>nomatch e⟩,?_⟩
 refine List.forall_mem_cons.2 ⟨⟨.int 7,fun x e=>nomatch e⟩,?_⟩
 refine List.forall_mem_cons.2 ⟨⟨.lst pr _ h1,fun x e=>nomatch e⟩,?_⟩
 refine List.forall_mem_cons.2 ⟨yJ (by decide +kernel) (by decide +kernel),?_⟩
 refine List.forall_mem_cons.2 ⟨yJ (by decide +kernel) (by decide +kernel),?_⟩
 refine List.forall_mem_cons.2 ⟨yJ (by decide +kernel) (by decide +kernel),?_⟩
 refine List.forall_mem_cons.2 ⟨yJ (by decide +kernel) (by decide +kernel),?_⟩
 refine List.forall_mem_cons.2 ⟨yJ (by decide +kernel) (by decide +kernel),?_⟩
 refine List.forall_mem_cons.2 ⟨yJ (by decide +kernel) (by decide +kernel),?_⟩
 refine List.forall_mem_cons.2 ⟨jj (ws:=[Str.ofString "steered",n,Str.ofString ""]) (by decide +kernel) (by repeat' first | exact Wds.nil | refine Wds.cons ?_ ?_ | assumption | decide +kernel | exact yx (by decide +kernel) (by assumption)) (by simp only [zC,List.map_cons,List.map_nil,join2,join3,join4,yI,ym,zD,zK,yg,yk,zO,zy,yH,yj,ya,c_1,c_sr,List.append_assoc,List.cons_append,List.nil_append,List.append_nil]) (qF (i:=1) (by decide +kernel) (by decide +kernel) (by show ((3:Nat):Int)≠1 + 1; decide)),?_⟩
 refine List.forall_mem_cons.2 ⟨yJ (by decide +kernel) (by decide +kernel),?_⟩
 exact fun v hv=>nomatch hv
theorem zgA {H:Hp} {n:Str} [Sml n 8] (wn:Wd n)  : ∀ v∈norL2 n,NoR H v:=by
 refine List.forall_mem_cons.2 ⟨jj (ws:=[Str.ofString "unseen",n,n]) (by decide +kernel) (by repeat' first | exact Wds.nil | refine Wds.cons ?_ ?_ | assumption | decide +kernel | exact yx (by decide +kernel) (by assumption)) (by simp only [zC,List.map_cons,List.map_nil,join2,join3,join4,yI,ym,zD,zK,yg,yk,zO,zy,yH,yj,ya,c_1,c_sr,List.append_assoc,List.cons_append,List.nil_append,List.append_nil]) (qF (i:=1) (by decide +kernel) (by decide +kernel) (by show ((3:Nat):Int)≠1 + 1; decide)),?_⟩
 refine List.forall_mem_cons.2 ⟨yJ (by decide +kernel) (by decide +kernel),?_⟩
 refine List.forall_mem_cons.2 ⟨jj (ws:=[Str.ofString "rest",n,Str.ofString "1"]) (by decide +kernel) (by repeat' first | exact Wds.nil | refine Wds.cons ?_ ?_ | assumption | decide +kernel | exact yx (by decide +kernel) (by assumption)) (by simp only [zC,List.map_cons,List.map_nil,join2,join3,join4,yI,ym,zD,zK,yg,yk,zO,zy,yH,yj,ya,c_1,c_sr,List.append_assoc,List.cons_append,List.nil_append,List.append_nil]) (qF (i:=1) (by decide +kernel) (by decide +kernel) (by show ((3:Nat):Int)≠1 + 1; decide)),?_⟩
 refine List.forall_mem_cons.2 ⟨jj (ws:=[Str.ofString "core",n]) (by decide +kernel) (by repeat' first | exact Wds.nil | refine Wds.cons ?_ ?_ | assumption | decide +kernel | exact yx (by decide +kernel) (by assumption)) (by simp only [zC,List.map_cons,List.map_nil,join2,join3,join4,yI,ym,zD,zK,yg,yk,zO,zy,yH,yj,ya,c_1,c_sr,List.append_assoc,List.cons_append,List.nil_append,List.append_nil]) (qF (i:=2) (by decide +kernel) (by decide +kernel) (by show ((2:Nat):Int)≠1 + 2; decide)),?_⟩
 refine List.forall_mem_cons.2 ⟨jj (ws:=[Str.ofString "alike",n]) (by decide +kernel) (by repeat' first | exact Wds.nil | refine Wds.cons ?_ ?_ | assumption | decide +kernel | exact yx (by decide +kernel) (by assumption)) (by simp only [zC,List.map_cons,List.map_nil,join2,join3,join4,yI,ym,zD,zK,yg,yk,zO,zy,yH,yj,ya,c_1,c_sr,List.append_assoc,List.cons_append,List.nil_append,List.append_nil]) (qF (i:=2) (by decide +kernel) (by decide +kernel) (by show ((2:Nat):Int)≠1 + 2; decide)),?_⟩
 refine List.forall_mem_cons.2 ⟨yJ (by decide +kernel) (by decide +kernel),?_⟩
 exact fun v hv=>nomatch hv
theorem zhi {H:Hp} {n:Str} [Sml n 8] (wn:Wd n)  : ∀ v∈norL3 n,NoR H v:=by
 refine List.forall_mem_cons.2 ⟨jj (ws:=[Str.ofString "core",n,n,n]) (by decide +kernel) (by repeat' first | exact Wds.nil | refine Wds.cons ?_ ?_ | assumption | decide +kernel | exact yx (by decide +kernel) (by assumption)) (by simp only [zC,List.map_cons,List.map_nil,join2,join3,join4,yI,ym,zD,zK,yg,yk,zO,zy,yH,yj,ya,c_1,c_sr,List.append_assoc,List.cons_append,List.nil_append,List.append_nil]) (qF (i:=2) (by decide +kernel) (by decide +kernel) (by show ((4:Nat):Int)≠1 + 2; decide)),?_⟩
 refine List.forall_mem_cons.2 ⟨yJ (by decide +kernel) (by decide +kernel),?_⟩
 refine List.forall_mem_cons.2 ⟨jj (ws:=[Str.ofString "machine",n]) (by decide +kernel) (by repeat' first | exact Wds.nil | refine Wds.cons ?_ ?_ | assumption | decide +kernel | exact yx (by decide +kernel) (by assumption)) (by simp only [zC,List.map_cons,List.map_nil,join2,join3,join4,yI,ym,zD,zK,yg,yk,zO,zy,yH,yj,ya,c_1,c_sr,List.append_assoc,List.cons_append,List.nil_append,List.append_nil]) (zcZ (by decide +kernel) (by show 2 < 3; decide)),?_⟩
 refine List.forall_mem_cons.2 ⟨yJ (by decide +kernel) (by decide +kernel),?_⟩
 refine List.forall_mem_cons.2 ⟨jj (ws:=[Str.ofString "run",n]) (by decide +kernel) (by repeat' first | exact Wds.nil | refine Wds.cons ?_ ?_ | assumption | decide +kernel | exact yx (by decide +kernel) (by assumption)) (by simp only [zC,List.map_cons,List.map_nil,join2,join3,join4,yI,ym,zD,zK,yg,yk,zO,zy,yH,yj,ya,c_1,c_sr,List.append_assoc,List.cons_append,List.nil_append,List.append_nil]) (zcZ (by decide +kernel) (by show 2 < 3; decide)),?_⟩
 exact fun v hv=>nomatch hv
theorem zgX {H:Hp} {n:Str} [Sml n 8] (wn:Wd n) {pt:Addr} (h2:H pt = some (.tup [.str "rest",.str n])):∀ v∈norL4 n pt,NoR H v:=by
 refine List.forall_mem_cons.2 ⟨jj (ws:=[Str.ofString "",Str.ofString "rest",n]) (by decide +kernel) (by repeat' first | exact Wds.nil | refine Wds.cons ?_ ?_ | assumption | decide +kernel | exact yx (by decide +kernel) (by assumption)) (by simp only [zC,List.map_cons,List.map_nil,join2,join3,join4,yI,ym,zD,zK,yg,yk,zO,zy,yH,yj,ya,c_1,c_sr,List.append_assoc,List.cons_append,List.nil_append,List.append_nil]) (Xp (by decide +kernel)),?_⟩
 refine List.forall_mem_cons.2 ⟨jj (ws:=[Str.ofString "Rest",n]) (by decide +kernel) (by repeat' first | exact Wds.nil | refine Wds.cons ?_ ?_ | assumption | decide +kernel | exact yx (by decide +kernel) (by assumption)) (by simp only [zC,List.map_cons,List.map_nil,join2,join3,join4,yI,ym,zD,zK,yg,yk,zO,zy,yH,yj,ya,c_1,c_sr,List.append_assoc,List.cons_append,List.nil_append,List.append_nil]) (Xp (by decide +kernel)),?_⟩
 refine List.forall_mem_cons.2 ⟨jj (ws:=[Str.ofString "x" ++ n,n]) (by decide +kernel) (by repeat' first | exact Wds.nil | refine Wds.cons ?_ ?_ | assumption | decide +kernel | exact yx (by decide +kernel) (by assumption)) (by simp only [zC,List.map_cons,List.map_nil,join2,join3,join4,yI,ym,zD,zK,yg,yk,zO,zy,yH,yj,ya,c_1,c_sr,List.append_assoc,List.cons_append,List.nil_append,List.append_nil]) (Xp xname),?_⟩
 refine List.forall_mem_cons.2 ⟨⟨.tup pt _ h2,fun x e=>nomatch e⟩,?_⟩
 exact fun v hv=>nomatch hv
noncomputable def QV:Sp:=fun vs H Q _=>∃ (pn:Addr) (a:Nat) (ts:List Nat) (c:Int),vs = [.ref pn,.int c]∧H pn = some (.lst [.str (nmK a ts 0),.str (nmK a ts 1),.str (nmK a ts 2)])∧ts.length≤7∧smallW ts∧∀ v H',Same H H'→NoR H' v→Q v H'
theorem zdM {a j:Nat} {ts:List Nat} (h:j < 3):([.str (nmK a ts 0),.str (nmK a ts 1),.str (nmK a ts 2)]:List V)[j]? = some (.str (nmK a ts j)):=by
 match j,h with
 | 0,_=>rfl
 | 1,_=>rfl
 | 2,_=>rfl
seal PSs PS PE PA PG PI PT
theorem zd5 (D:Df K mg "_law_no_row" ["_law_names_here", "_law_cell"] yT) (zA:Kn P w K mg base "_law_mix" 1 ["_law_cell", "_law_j"] Zr):Kn P w K mg base "_law_no_row" 2 ["_law_names_here", "_law_cell"] QV:=by
 refine D.kn sc__law_no_row (fun vs H Q E h=>?_) (fun f cdv A outer s H vs Q E hr h=>?_)
 ·obtain ⟨pn,a,ts,c,rfl,_⟩:=h; rfl
 obtain ⟨pn,a,ts,c,rfl,hn,lt,st,q⟩:=h
 have szl:sizeLine = 16777216:=by decide
 refine ⟨_,(zb (zp (i:=2) sc__law_no_row.nd rfl (.inl rfl) (zu zo (pv 0) (zk zG (zE zA hr (za (pv 1) (za ze zc))) ze))) (zb (zp (i:=3) sc__law_no_row.nd rfl (.inl rfl) (zM (za zap (za ze (za (zM (za zg zc)) (za zg (za zg (za zg (za zg (za zg (za zg (za (zk zd (zk zd zg (pv 2)) zg) (za zg zc))))))))))))) (zb (zp (i:=3) sc__law_no_row.nd rfl (.inl rfl) (zk jl (pv 3) (zM (za (zk zd (zk zd (zk zd zg (pv 2)) zg) (pv 2)) (za zg (za (zk zd (zk zd zg (pv 2)) zg) (za (zk zd zg (pv 2)) (za (zk zd zg (pv 2)) (za zg zc))))))))) (zb (zp (i:=3) sc__law_no_row.nd rfl (.inl rfl) (zk jl (pv 3) (zM (za (zk zd (zk zd (zk zd (zk zd (zk zd zg (pv 2)) zg) (pv 2)) zg) (pv 2)) (za zg (za (zk zd zg (pv 2)) (za zg (za (zk zd zg (pv 2)) zc)))))))) (zb (zp (i:=3) sc__law_no_row.nd rfl (.inl rfl) (zk jl (pv 3) (zM (za (zk zd zg (pv 2)) (za (zk zd zg (pv 2)) (za (zk zd (zk zd (zk zd zg (pv 2)) zg) (pv 2)) (za (qR (za zg (za (pv 2) zc))) zc))))))) (zi (zt (zu zo (pv 3) (zk zG (zE zA hr (za (pv 1) (za ze zc))) ze))))))))),?_⟩
 obtain ⟨i,hi,ei⟩:=yw (x:=mixF c 20) (m:=2) (by decide)
 obtain ⟨j,hj,ej⟩:=yw (x:=mixF c 21) (m:=26) (by decide)
 refine ⟨_,rfl,_,rfl,c,20,rfl,(by decide),(by decide),_,_,rfl,rfl,(by decide),pn,_,_,.str (nmK a ts i),rfl,rfl,SqL.of hn,(by rw [show (mixF c 20).fmod 2 = (i:Int) from ei]; exact zm (zdM (by omega))),?_⟩
 have wn:Wd (nmK a ts i):=qu st
 have sn:Sml (nmK a ts i) 8:=⟨by rw [xm]; omega⟩
 generalize nmK a ts i = n at *
 refine ⟨(by show 1≤sizeLine; decide),fun pr hpr=>?_⟩
 have g1:=zh hpr (.lst [.str "rest"])
 have h1:upd H pr (.lst [.str "rest"]) pr = some (.lst [.str "rest"]):=zf
 generalize upd H pr (.lst [.str "rest"]) = H1 at *
 refine ⟨_,rfl,_,_,rfl,rfl,zq (by decide +kernel),_,_,rfl,rfl,zq (by decide +kernel),(by show 11≤sizeLine; decide),fun p1 hp1=>?_⟩
 let L1:List V:=[.non,.int 7,.ref pr,.str "",.str " ",.str "kind",.str "kind 0 1",.str "kind 5 ",.str "steered",.str (Str.ofString "steered " ++ n ++ Str.ofString " "),.str "unseen"]
 have g2:=zh hp1 (.lst L1)
 have h2:upd H1 p1 (.lst L1) p1 = some (.lst L1):=zf
 change tSeq _ _ _ _ (upd H1 p1 (.lst L1))
 generalize upd H1 p1 (.lst L1) = H2 at *
 refine ⟨_,rfl,_,rfl,_,_,rfl,rfl,zq (by decide +kernel),_,_,rfl,rfl,zq (by decide +kernel),_,rfl,_,_,rfl,rfl,zq (by decide +kernel),_,rfl,_,_,rfl,rfl,zq (by decide +kernel),_,_,rfl,rfl,zq (by decide +kernel),_,rfl,_,_,rfl,rfl,zq (by decide +kernel),_,rfl,_,_,rfl,rfl,zq (by decide +kernel),(by show 6≤sizeLine; decide),fun p2 hp2=>?_⟩
 let L2:List V:=[.str (Str.ofString "unseen " ++ n ++ Str.ofString " " ++ n),.str "rest",.str (Str.ofString "rest " ++ n ++ Str.ofString " 1"),.str (Str.ofString "core " ++ n),.str (Str.ofString "alike " ++ n),.str "alike"]
 have g3:=zh hp2 (.lst L2)
 have h3:upd H2 p2 (.lst L2) p2 = some (.lst L2):=zf
 refine ⟨p1,p2,L1,L2,rfl,rfl,g3 _ _ h2,h3,(by show 17≤sizeLine; decide),fun p3 hp3=>?_⟩
 generalize upd H2 p2 (.lst L2) = H3 at *
 have g4:=zh hp3 (.lst (L1 ++ L2))
 have h4:upd H3 p3 (.lst (L1 ++ L2)) p3 = some (.lst (L1 ++ L2)):=zf
 change tSeq _ _ _ _ (upd H3 p3 (.lst (L1 ++ L2)))
 generalize upd H3 p3 (.lst (L1 ++ L2)) = H4 at *
 refine ⟨_,rfl,_,rfl,_,_,rfl,rfl,zq (by decide +kernel),_,_,rfl,rfl,zq (by decide +kernel),_,rfl,_,_,rfl,rfl,zq (by decide +kernel),_,_,rfl,rfl,zq (by decide +kernel),_,rfl,_,_,rfl,rfl,zq (by decide +kernel),_,rfl,_,_,rfl,rfl,zq (by decide +kernel),_,rfl,_,_,rfl,rfl,zq (by decide +kernel),(by show 5≤sizeLine; decide),fun p4 hp4=>?_⟩
 let L3:List V:=[.str (Str.ofString "core " ++ n ++ Str.ofString " " ++ n ++ Str.ofString " " ++ n),.str "machine",.str (Str.ofString "machine " ++ n),.str "run",.str (Str.ofString "run " ++ n)]
 have g5:=zh hp4 (.lst L3)
 have h5:upd H4 p4 (.lst L3) p4 = some (.lst L3):=zf
 refine ⟨p3,p4,_,L3,rfl,rfl,g5 _ _ h4,h5,(by show 22≤sizeLine; decide),fun p5 hp5=>?_⟩
 generalize upd H4 p4 (.lst L3) = H5 at *
 have g6:=zh hp5 (.lst (L1 ++ L2 ++ L3))
 have h6:upd H5 p5 (.lst (L1 ++ L2 ++ L3)) p5 = some (.lst (L1 ++ L2 ++ L3)):=zf
 change tSeq _ _ _ _ (upd H5 p5 (.lst (L1 ++ L2 ++ L3)))
 generalize upd H5 p5 (.lst (L1 ++ L2 ++ L3)) = H6 at *
 refine ⟨_,rfl,_,rfl,_,_,rfl,rfl,zq (by decide +kernel),_,rfl,_,_,rfl,rfl,zq (by decide +kernel),_,rfl,_,_,rfl,rfl,zq (by decide +kernel),_,_,rfl,rfl,zq (by decide +kernel),_,rfl,_,_,rfl,rfl,zq (by decide +kernel),_,rfl,(by show 2≤sizeLine; decide),fun pt hpt=>?_⟩
 have g7:=zh hpt (.tup [.str "rest",.str n])
 have h7:upd H6 pt (.tup [.str "rest",.str n]) pt = some (.tup [.str "rest",.str n]):=zf
 refine ⟨(by show 4≤sizeLine; decide),fun p6 hp6=>?_⟩
 generalize upd H6 pt (.tup [.str "rest",.str n]) = H7 at *
 let L4:List V:=[.str (Str.ofString " rest " ++ n),.str (Str.ofString "Rest " ++ n),.str (Str.ofString "x" ++ n ++ Str.ofString " " ++ n),.ref pt]
 have g8:=zh hp6 (.lst L4)
 have h8:upd H7 p6 (.lst L4) p6 = some (.lst L4):=zf
 refine ⟨p5,p6,_,L4,rfl,rfl,g8 _ _ (g7 _ _ h6),h8,(by show 26≤sizeLine; decide),fun p7 hp7=>?_⟩
 generalize upd H7 p6 (.lst L4) = H8 at *
 have g9:=zh hp7 (.lst (L1 ++ L2 ++ L3 ++ L4))
 have h9:upd H8 p7 (.lst (L1 ++ L2 ++ L3 ++ L4)) p7 = some (.lst (L1 ++ L2 ++ L3 ++ L4)):=zf
 change tSeq _ _ _ _ (upd H8 p7 (.lst (L1 ++ L2 ++ L3 ++ L4)))
 generalize upd H8 p7 (.lst (L1 ++ L2 ++ L3 ++ L4)) = H9 at *
 have G:=(((((((g1.trans g2).trans g3).trans g4).trans g5).trans g6).trans g7).trans g8).trans g9
 obtain ⟨v,hv⟩ : ∃ v,(L1 ++ L2 ++ L3 ++ L4)[j]? = some v:=⟨_,List.getElem?_eq_getElem (show j < 26 from hj)⟩
 refine ⟨_,rfl,_,rfl,c,21,rfl,(by decide),(by decide),_,_,rfl,rfl,(by decide),p7,_,_,v,rfl,rfl,SqL.of h9,(by rw [show (mixF c 21).fmod 26 = (j:Int) from ej]; exact zm hv),q v H9 G ?_⟩
 have h91:=((((((((g2.trans g3).trans g4).trans g5).trans g6).trans g7).trans g8).trans g9) _ _ h1)
 have h97:=(g8.trans g9) _ _ h7
 have hm:=List.mem_of_getElem? hv
 rcases List.mem_append.mp hm with hm | hm
 ·rcases List.mem_append.mp hm with hm | hm
  ·rcases List.mem_append.mp hm with hm | hm
   ·exact zgl wn h91 v hm
   ·exact zgA wn v hm
  ·exact zhi wn v hm
 ·exact zgX wn h97 v hm
theorem QJ (x:Str):cl (Txt.upper x) = (cl x).flatMap Unicode.upperOf:=by
 have go:∀ (l:List Nat),(List.map Array.toList (List.mapIdx (fun i c=>(Unicode.upperOf c).toArray) l)) = List.map Unicode.upperOf l:=fun l=>by
  refine List.ext_getElem? fun i=>?_
  rw [List.getElem?_map,List.getElem?_mapIdx,List.getElem?_map]
  cases l[i]? <;> rfl
 unfold Txt.upper placed
 simp [cl,List.flatMap,go]
theorem zg0:∀ c:Nat,c < 26→Unicode.upperOf (97 + c) = [65 + c]:=by decide +kernel
theorem Xs:∀ (l:List Nat),(∀ c∈l,97≤c∧c≤122)→l.flatMap Unicode.upperOf = l.map (· - 32)
 | [],_=>rfl
 | c :: l,h=>by
  have hc:=h c List.mem_cons_self
  have e:=zg0 (c - 97) (by omega)
  rw [show 97 + (c - 97) = c by omega] at e
  rw [List.flatMap_cons,e,Xs l fun d hd=>h d (List.mem_cons_of_mem _ hd),show 65 + (c - 97) = c - 32 by omega]
  rfl
theorem zef {a k:Nat} {ts:List Nat} (h:smallW ts):∀ c∈cl (nmK a ts k),97≤c∧c≤122:=fun c hc=>by
 rcases List.mem_cons.mp (show c∈(97 + (a + 5 * k) % 26) :: ts from hc) with e | e
 ·omega
 ·exact h c e
theorem Xf {x:Str} {c:Nat} (hc:c∈cl x) (h:¬ (97≤c∧c≤122)):nameW x = false:=by
 unfold nameW
 rw [Bool.and_eq_false_iff]
 refine .inr ?_
 rw [Bool.eq_false_iff]
 intro z
 exact h (of_decide_eq_true (List.all_eq_true.mp z c hc))
structure BadN (aw b:Str):Prop where
 wd:Wd b
 ln:b.length≤16
 no:nameW b = false∨b = aw
theorem zfi {n aw:Str} (sn:∀ c∈cl n,97≤c∧c≤122) (n0:cl n≠[]) (ln:n.length≤8) (la:aw.length≤8) (wa:Wd aw):∀ v∈([.str "",.str (Txt.upper n),.str "abcdefghi",.str (Txt.slice n none (some 7) ++ Str.ofString "1"),.str (Str.ofString "-" ++ Txt.slice n none (some 6)),.str aw,.str aw,.str aw]:List V),∃ b,v = .str b∧BadN aw b:=by
 have eu:cl (Txt.upper n) = (cl n).map (· - 32):=by rw [QJ,Xs _ sn]
 have s7:cl (Txt.slice n none (some 7)) = (cl n).take 7:=Zg n 7
 have s6:cl (Txt.slice n none (some 6)) = (cl n).take 6:=Zg n 6
 have l7:(Txt.slice n none (some 7)).length≤7:=by rw [← zF,s7,List.length_take]; omega
 have l6:(Txt.slice n none (some 6)).length≤6:=by rw [← zF,s6,List.length_take]; omega
 have wt:∀ m,∀ d∈(cl n).take m,d≠32:=fun m d hd=>by have:=sn d (List.mem_of_mem_take hd); omega
 have away:∃ b,V.str aw = .str b∧BadN aw b:=⟨_,rfl,wa,by omega,.inr rfl⟩
 refine List.forall_mem_cons.2 ⟨⟨_,rfl,by decide +kernel,by decide +kernel,.inl (by decide +kernel)⟩,?_⟩
 refine List.forall_mem_cons.2 ⟨⟨_,rfl,?_,?_,.inl ?_⟩,?_⟩
 ·intro d hd
  rw [eu] at hd
  obtain ⟨c,hc,rfl⟩:=List.mem_map.mp hd
  have:=sn c hc
  omega
 ·rw [← zF,eu,List.length_map,zF]; omega
 ·obtain ⟨c,r,e⟩:=List.exists_cons_of_ne_nil n0
  have hc:=sn c (by rw [e]; exact List.mem_cons_self)
  exact Xf (c:=c - 32) (by rw [eu,e]; exact List.mem_cons_self) (by omega)
 refine List.forall_mem_cons.2 ⟨⟨_,rfl,by decide +kernel,by decide +kernel,.inl (by decide +kernel)⟩,?_⟩
 refine List.forall_mem_cons.2 ⟨⟨_,rfl,yx (fun d hd=>wt 7 d (by rw [← s7]; exact hd)) (by decide +kernel),?_,.inl (Xf (c:=49) (by rw [zC]; exact List.mem_append_right _ (by decide +kernel)) (by decide))⟩,?_⟩
 ·rw [Qq,show (Str.ofString "1").length = 1 by decide +kernel]; omega
 refine List.forall_mem_cons.2 ⟨⟨_,rfl,yx (by decide +kernel) (fun d hd=>wt 6 d (by rw [← s6]; exact hd)),?_,.inl (Xf (c:=45) (by rw [zC]; exact List.mem_append_left _ (by decide +kernel)) (by decide))⟩,?_⟩
 ·rw [Qq,show (Str.ofString "-").length = 1 by decide +kernel]; omega
 exact List.forall_mem_cons.2 ⟨away,List.forall_mem_cons.2 ⟨away,List.forall_mem_cons.2 ⟨away,fun v hv=>nomatch hv⟩⟩⟩
theorem c_x:cl (Str.ofString " x") = 32 :: cl (Str.ofString "x"):=by decide +kernel
theorem c_11:cl (Str.ofString " 1 | 1") = 32 :: cl (Str.ofString "1 | 1"):=by decide +kernel
theorem qS:cl (Str.ofString " 1 | 1 | 1") = 32 :: cl (Str.ofString "1 | 1 | 1"):=by decide +kernel
theorem QY {c:Nat}:∀ {A:List (List Nat)} {a:List Nat},a∈A→a.length≤(joinN [c] A).length
 | [],a,h=>nomatch h
 | [b],a,h=>by rw [List.mem_singleton.mp h]; exact Nat.le_refl _
 | b :: d :: r,a,h=>by
  show a.length≤(b ++ [c] ++ joinN [c] (d :: r)).length
  rw [List.length_append,List.length_append]
  rcases List.mem_cons.mp h with rfl | h
  ·omega
  ·have:=QY (c:=c) h; omega
structure RowIs (x:Str) (ws:List Str):Prop where
 ln:x.length≤9999
 row:rowW x = some ws
 ne:ws≠[]
 few:ws.length≤3
 each:∀ y∈ws,y.length≤9999
theorem Ja {x:Str} {ws:List Str} {i:Nat} [p:Sml x i] (l:decide (i≤9999) = true) (e:cl x = joinN [32] (ws.map cl)) (r:rowW x = some ws) (ne:ws≠[]) (f:ws.length≤3):RowIs x ws :=
 have lx:x.length≤9999:=Nat.le_trans p.le (of_decide_eq_true l)
 ⟨lx,r,ne,f,fun y hy=>by
  have:=QY (c:=32) (List.mem_map_of_mem (f:=cl) hy)
  rw [← e,zF,zF] at this
  omega⟩
noncomputable def NoN (aw x:Str):Prop:=∃ ws,RowIs x ws∧∃ i y,(namesW ws)[i]? = some y∧(nameW y = false∨(y = aw∧(i≠0∨newW ws = false)))
theorem XX {f:Str} {r:List Str} (nk:decide (f = Str.ofString "kind") = false) (c:inV (.str f) [.str "machine",.str "run"] = false):namesW (f :: r) = r:=by
 unfold namesW
 rw [show (f :: r).headD Str.empty = f from rfl,if_neg (of_decide_eq_false nk),if_neg (fun z=>by rw [c] at z; cases z)]
 rfl
theorem ZA {f n y:Str} (nk:decide (f = Str.ofString "kind") = false) (c:inV (.str f) [.str "machine",.str "run"] = true):namesW [f,n,y] = [n]:=by
 unfold namesW
 rw [show [f,n,y].headD Str.empty = f from rfl,if_neg (of_decide_eq_false nk),if_pos c]
 rfl
theorem ja {aw x w0:Str} {r:List Str} {i:Int} {m:Nat} [Sml x m] (l:decide (m≤9999) = true) (w:Wds (w0 :: r)) (e:cl x = joinN [32] ((w0 :: r).map cl)) (h:valV fbK (.inr w0) = some (.int i)) (c:inV (.str w0) [.str "machine",.str "run"] = false) (lr:((w0 :: r).length:Int) = 1 + i) (nk:decide (w0 = Str.ofString "kind") = false)
  {j:Nat} {y:Str} (hj:r[j]? = some y) (bad:nameW y = false∨(y = aw∧(j≠0∨newW (w0 :: r) = false))):∃ z,V.str x = .str z∧NoN aw z:=by
 refine ⟨x,rfl,w0 :: r,Ja l e (Qw w.all e h c lr) (List.cons_ne_nil _ _) ?_,j,y,by rw [XX nk c]; exact hj,bad⟩
 rcases zbo w0 with z | ⟨i',z,hi⟩
 ·rw [h] at z; cases z
 ·rw [h] at z
  cases V.int.inj (Option.some.inj z)
  omega
theorem Zq {aw x f n y:Str} {m:Nat} [Sml x m] (l:decide (m≤9999) = true) (c:inV (.str f) [.str "machine",.str "run"] = true) (ff:Wd f) (fn:Wd n) (e:cl x = cl f ++ 32 :: (cl n ++ 32 :: cl y)) (nk:decide (f = Str.ofString "kind") = false)
  (bad:nameW n = false∨(n = aw∧newW [f,n,y] = false)):∃ z,V.str x = .str z∧NoN aw z :=
 ⟨x,rfl,[f,n,y],Ja l (by rw [e]; exact (join3 _ _ _).symm) (zco c ff fn e) (List.cons_ne_nil _ _) (Nat.le_refl 3),0,n,by rw [ZA nk c]; rfl,bad.imp id fun z=>⟨z.1,.inr z.2⟩⟩
theorem qP {f:Str} {r:List Str} (h:inV (.str f) [.str "machine",.str "core"] = false):newW (f :: r) = false:=h
theorem zhe {n aw b:Str} [Sml n 8] [Sml aw 8] [Sml b 16] (wn:Wd n) (wa:Wd aw) (wb:Wd b) (no:nameW b = false∨b = aw):∀ v∈([.str (Str.ofString "steered " ++ b),.str (Str.ofString "unseen " ++ b),.str (Str.ofString "rest " ++ b),.str (Str.ofString "alike " ++ n ++ Str.ofString " " ++ b),.str (Str.ofString "alike " ++ b ++ Str.ofString " " ++ n)]:List V),∃ z,v = .str z∧NoN aw z:=by
 refine List.forall_mem_cons.2 ⟨ja (w0:=Str.ofString "steered") (r:=[b]) (i:=1) (by decide +kernel) (by repeat' first | exact Wds.nil | refine Wds.cons ?_ ?_ | assumption | decide +kernel | exact yx (by decide +kernel) (by assumption)) (by simp only [zC,List.map_cons,List.map_nil,join2,join3,join4,yI,ym,zD,zK,yg,yk,zO,zy,yH,yj,ya,c_1,c_sr,c_x,c_11,qS,List.append_assoc,List.cons_append,List.nil_append,List.append_nil]) (by decide +kernel) (by decide +kernel) (by show ((2:Nat):Int) = 1 + 1; decide) (by decide +kernel) (j:=0) rfl (no.imp id fun e=>⟨e,.inr (qP (by decide +kernel))⟩),?_⟩
 refine List.forall_mem_cons.2 ⟨ja (w0:=Str.ofString "unseen") (r:=[b]) (i:=1) (by decide +kernel) (by repeat' first | exact Wds.nil | refine Wds.cons ?_ ?_ | assumption | decide +kernel | exact yx (by decide +kernel) (by assumption)) (by simp only [zC,List.map_cons,List.map_nil,join2,join3,join4,yI,ym,zD,zK,yg,yk,zO,zy,yH,yj,ya,c_1,c_sr,c_x,c_11,qS,List.append_assoc,List.cons_append,List.nil_append,List.append_nil]) (by decide +kernel) (by decide +kernel) (by show ((2:Nat):Int) = 1 + 1; decide) (by decide +kernel) (j:=0) rfl (no.imp id fun e=>⟨e,.inr (qP (by decide +kernel))⟩),?_⟩
 refine List.forall_mem_cons.2 ⟨ja (w0:=Str.ofString "rest") (r:=[b]) (i:=1) (by decide +kernel) (by repeat' first | exact Wds.nil | refine Wds.cons ?_ ?_ | assumption | decide +kernel | exact yx (by decide +kernel) (by assumption)) (by simp only [zC,List.map_cons,List.map_nil,join2,join3,join4,yI,ym,zD,zK,yg,yk,zO,zy,yH,yj,ya,c_1,c_sr,c_x,c_11,qS,List.append_assoc,List.cons_append,List.nil_append,List.append_nil]) (by decide +kernel) (by decide +kernel) (by show ((2:Nat):Int) = 1 + 1; decide) (by decide +kernel) (j:=0) rfl (no.imp id fun e=>⟨e,.inr (qP (by decide +kernel))⟩),?_⟩
 refine List.forall_mem_cons.2 ⟨ja (w0:=Str.ofString "alike") (r:=[n,b]) (i:=2) (by decide +kernel) (by repeat' first | exact Wds.nil | refine Wds.cons ?_ ?_ | assumption | decide +kernel | exact yx (by decide +kernel) (by assumption)) (by simp only [zC,List.map_cons,List.map_nil,join2,join3,join4,yI,ym,zD,zK,yg,yk,zO,zy,yH,yj,ya,c_1,c_sr,c_x,c_11,qS,List.append_assoc,List.cons_append,List.nil_append,List.append_nil]) (by decide +kernel) (by decide +kernel) (by show ((3:Nat):Int) = 1 + 2; decide) (by decide +kernel) (j:=1) rfl (no.imp id fun e=>⟨e,.inl (by decide)⟩),?_⟩
 refine List.forall_mem_cons.2 ⟨ja (w0:=Str.ofString "alike") (r:=[b,n]) (i:=2) (by decide +kernel) (by repeat' first | exact Wds.nil | refine Wds.cons ?_ ?_ | assumption | decide +kernel | exact yx (by decide +kernel) (by assumption)) (by simp only [zC,List.map_cons,List.map_nil,join2,join3,join4,yI,ym,zD,zK,yg,yk,zO,zy,yH,yj,ya,c_1,c_sr,c_x,c_11,qS,List.append_assoc,List.cons_append,List.nil_append,List.append_nil]) (by decide +kernel) (by decide +kernel) (by show ((3:Nat):Int) = 1 + 2; decide) (by decide +kernel) (j:=0) rfl (no.imp id fun e=>⟨e,.inr (qP (by decide +kernel))⟩),?_⟩
 exact fun v hv=>nomatch hv
theorem zgO {n aw b:Str} [Sml n 8] [Sml aw 8] [Sml b 16] (wn:Wd n) (wa:Wd aw) (wb:Wd b) (no:nameW b = false∨b = aw):∀ v∈([.str (Str.ofString "core " ++ aw ++ Str.ofString " " ++ b),.str (Str.ofString "run " ++ b ++ Str.ofString " x"),.str (Str.ofString "run " ++ b ++ Str.ofString " 1 | 1"),.str (Str.ofString "run " ++ b ++ Str.ofString " ")]:List V),∃ z,v = .str z∧NoN aw z:=by
 refine List.forall_mem_cons.2 ⟨ja (w0:=Str.ofString "core") (r:=[aw,b]) (i:=2) (by decide +kernel) (by repeat' first | exact Wds.nil | refine Wds.cons ?_ ?_ | assumption | decide +kernel | exact yx (by decide +kernel) (by assumption)) (by simp only [zC,List.map_cons,List.map_nil,join2,join3,join4,yI,ym,zD,zK,yg,yk,zO,zy,yH,yj,ya,c_1,c_sr,c_x,c_11,qS,List.append_assoc,List.cons_append,List.nil_append,List.append_nil]) (by decide +kernel) (by decide +kernel) (by show ((3:Nat):Int) = 1 + 2; decide) (by decide +kernel) (j:=1) rfl (no.imp id fun e=>⟨e,.inl (by decide)⟩),?_⟩
 refine List.forall_mem_cons.2 ⟨Zq (f:=Str.ofString "run") (n:=b) (y:=Str.ofString "x") (by decide +kernel) (by decide +kernel) (by decide +kernel) wb (by simp only [zC,List.map_cons,List.map_nil,join2,join3,join4,yI,ym,zD,zK,yg,yk,zO,zy,yH,yj,ya,c_1,c_sr,c_x,c_11,qS,List.append_assoc,List.cons_append,List.nil_append,List.append_nil]) (by decide +kernel) (no.imp id fun e=>⟨e,qP (by decide +kernel)⟩),?_⟩
 refine List.forall_mem_cons.2 ⟨Zq (f:=Str.ofString "run") (n:=b) (y:=Str.ofString "1 | 1") (by decide +kernel) (by decide +kernel) (by decide +kernel) wb (by simp only [zC,List.map_cons,List.map_nil,join2,join3,join4,yI,ym,zD,zK,yg,yk,zO,zy,yH,yj,ya,c_1,c_sr,c_x,c_11,qS,List.append_assoc,List.cons_append,List.nil_append,List.append_nil]) (by decide +kernel) (no.imp id fun e=>⟨e,qP (by decide +kernel)⟩),?_⟩
 refine List.forall_mem_cons.2 ⟨Zq (f:=Str.ofString "run") (n:=b) (y:=Str.ofString "") (by decide +kernel) (by decide +kernel) (by decide +kernel) wb (by simp only [zC,List.map_cons,List.map_nil,join2,join3,join4,yI,ym,zD,zK,yg,yk,zO,zy,yH,yj,ya,c_1,c_sr,c_x,c_11,qS,List.append_assoc,List.cons_append,List.nil_append,List.append_nil]) (by decide +kernel) (no.imp id fun e=>⟨e,qP (by decide +kernel)⟩),?_⟩
 exact fun v hv=>nomatch hv
theorem zgQ {n aw b:Str} [Sml n 8] [Sml aw 8] [Sml b 16] (wn:Wd n) (wa:Wd aw) (wb:Wd b) (nb:nameW b = false):∀ v∈([.str (Str.ofString "core " ++ b ++ Str.ofString " " ++ n),.str (Str.ofString "machine " ++ b ++ Str.ofString " 1 | 1 | 1"),.str (Str.ofString "machine " ++ b ++ Str.ofString " x")]:List V),∃ z,v = .str z∧NoN aw z:=by
 refine List.forall_mem_cons.2 ⟨ja (w0:=Str.ofString "core") (r:=[b,n]) (i:=2) (by decide +kernel) (by repeat' first | exact Wds.nil | refine Wds.cons ?_ ?_ | assumption | decide +kernel | exact yx (by decide +kernel) (by assumption)) (by simp only [zC,List.map_cons,List.map_nil,join2,join3,join4,yI,ym,zD,zK,yg,yk,zO,zy,yH,yj,ya,c_1,c_sr,c_x,c_11,qS,List.append_assoc,List.cons_append,List.nil_append,List.append_nil]) (by decide +kernel) (by decide +kernel) (by show ((3:Nat):Int) = 1 + 2; decide) (by decide +kernel) (j:=0) rfl (.inl nb),?_⟩
 refine List.forall_mem_cons.2 ⟨Zq (f:=Str.ofString "machine") (n:=b) (y:=Str.ofString "1 | 1 | 1") (by decide +kernel) (by decide +kernel) (by decide +kernel) wb (by simp only [zC,List.map_cons,List.map_nil,join2,join3,join4,yI,ym,zD,zK,yg,yk,zO,zy,yH,yj,ya,c_1,c_sr,c_x,c_11,qS,List.append_assoc,List.cons_append,List.nil_append,List.append_nil]) (by decide +kernel) (.inl nb),?_⟩
 refine List.forall_mem_cons.2 ⟨Zq (f:=Str.ofString "machine") (n:=b) (y:=Str.ofString "x") (by decide +kernel) (by decide +kernel) (by decide +kernel) wb (by simp only [zC,List.map_cons,List.map_nil,join2,join3,join4,yI,ym,zD,zK,yg,yk,zO,zy,yH,yj,ya,c_1,c_sr,c_x,c_11,qS,List.append_assoc,List.cons_append,List.nil_append,List.append_nil]) (by decide +kernel) (.inl nb),?_⟩
 exact fun v hv=>nomatch hv
noncomputable def Jt:Sp:=fun vs H Q _=>∃ (pn:Addr) (a:Nat) (ts:List Nat) (c:Int),vs = [.ref pn,.int c]∧H pn = some (.lst [.str (nmK a ts 0),.str (nmK a ts 1),.str (nmK a ts 2)])∧ts.length≤7∧smallW ts∧∀ x H',Same H H'→NoN (nmK a ts 2) x→Q (.str x) H'
theorem zdq (D:Df K mg "_law_no_name" ["_law_names_here", "_law_cell"] yL) (zA:Kn P w K mg base "_law_mix" 1 ["_law_cell", "_law_j"] Zr):Kn P w K mg base "_law_no_name" 2 ["_law_names_here", "_law_cell"] Jt:=by
 refine D.kn sc__law_no_name (fun vs H Q E h=>?_) (fun f cdv A outer s H vs Q E hr h=>?_)
 ·obtain ⟨pn,a,ts,c,rfl,_⟩:=h; rfl
 obtain ⟨pn,a,ts,c,rfl,hn,lt,st,q⟩:=h
 have szl:sizeLine = 16777216:=by decide
 refine ⟨_,(zb (zp (i:=2) sc__law_no_name.nd rfl (.inl rfl) (zu zo (pv 0) (zk zG (zE zA hr (za (pv 1) (za ze zc))) ze))) (zb (zp (i:=3) sc__law_no_name.nd rfl (.inl rfl) (zu zo (pv 0) ze)) (zb (zp (i:=4) sc__law_no_name.nd rfl (.inl rfl) (zu zo (zM (za zg (za (zgm PySem.F.plainAttrs_str PySem.F.slot_str_upper PySem.F.type_str_upper zdS (pv 2)) (za zg (za (zk zd (xT zah (pv 2) qH (jb ze)) zg) (za (zk zd zg (xT zah (pv 2) qH (jb ze))) (za (pv 3) (za (pv 3) (za (pv 3) zc))))))))) (zk zG (zE zA hr (za (pv 1) (za ze zc))) ze))) (zb (zp (i:=5) sc__law_no_name.nd rfl (.inl rfl) (zM (za (zk zd zg (pv 4)) (za (zk zd zg (pv 4)) (za (zk zd zg (pv 4)) (za (zk zd (zk zd (zk zd zg (pv 2)) zg) (pv 4)) (za (zk zd (zk zd (zk zd zg (pv 4)) zg) (pv 2)) zc))))))) (zb (zp (i:=5) sc__law_no_name.nd rfl (.inl rfl) (zk jl (pv 5) (zM (za (zk zd (zk zd (zk zd zg (pv 3)) zg) (pv 4)) (za (zk zd (zk zd zg (pv 4)) zg) (za (zk zd (zk zd zg (pv 4)) zg) (za (zk zd (zk zd zg (pv 4)) zg) zc))))))) (zb (zV (zr xi (pv 4) (pv 3) (nomark _)) (zi (zt (zu zo (pv 5) (zk zG (zE zA hr (za (pv 1) (za ze zc))) ze)))) zx) (zb (zp (i:=5) sc__law_no_name.nd rfl (.inl rfl) (zk jl (pv 5) (zM (za (zk zd (zk zd (zk zd zg (pv 4)) zg) (pv 2)) (za (zk zd (zk zd zg (pv 4)) zg) (za (zk zd (zk zd zg (pv 4)) zg) zc)))))) (zi (zt (zu zo (pv 5) (zk zG (zE zA hr (za (pv 1) (za ze zc))) ze))))))))))),?_⟩
 obtain ⟨i,hi,ei⟩:=yw (x:=mixF c 20) (m:=2) (by decide)
 obtain ⟨j,hj,ej⟩:=yw (x:=mixF c 22) (m:=8) (by decide)
 obtain ⟨l9,hl9,el9⟩:=yw (x:=mixF c 23) (m:=9) (by decide)
 obtain ⟨l12,hl12,el12⟩:=yw (x:=mixF c 23) (m:=12) (by decide)
 refine ⟨_,rfl,_,rfl,c,20,rfl,(by decide),(by decide),_,_,rfl,rfl,(by decide),pn,_,_,.str (nmK a ts i),rfl,rfl,SqL.of hn,(by rw [show (mixF c 20).fmod 2 = (i:Int) from ei]; exact zm (zdM (by omega))),?_⟩
 refine ⟨_,rfl,pn,_,_,.str (nmK a ts 2),rfl,rfl,SqL.of hn,zm (j:=2) rfl,?_⟩
 have wn:Wd (nmK a ts i):=qu st
 have sn:∀ c∈cl (nmK a ts i),97≤c∧c≤122:=zef st
 have n0:cl (nmK a ts i)≠[]:=fun z=>by cases (show (97 + (a + 5 * i) % 26) :: ts = [] from z)
 have ln:(nmK a ts i).length≤8:=by rw [xm]; omega
 have i1:Sml (nmK a ts i) 8:=⟨ln⟩
 have wa:Wd (nmK a ts 2):=qu st
 have la:(nmK a ts 2).length≤8:=by rw [xm]; omega
 have i2:Sml (nmK a ts 2) 8:=⟨la⟩
 generalize nmK a ts i = n at *
 generalize nmK a ts 2 = aw at *
 have lu:(Txt.upper n).length≤8:=by rw [← zF,QJ,Xs _ sn,List.length_map,zF]; exact ln
 have iu:Sml (Txt.upper n) 8:=⟨lu⟩
 have i7:Sml (Txt.slice n none (some 7)) 8:=⟨by rw [← zF,show cl (Txt.slice n none (some 7)) = (cl n).take 7 from Zg n 7,List.length_take]; omega⟩
 have i6:Sml (Txt.slice n none (some 6)) 8:=⟨by rw [← zF,show cl (Txt.slice n none (some 6)) = (cl n).take 6 from Zg n 6,List.length_take]; omega⟩
 refine ⟨_,rfl,rfl,n,rfl,rfl,(by unfold Builtin.Str.tooLong; exact decide_eq_false (by omega)),?_⟩
 refine ⟨_,rfl,_,rfl,n,rfl,(by omega),_,_,rfl,rfl,zq (by decide +kernel),_,rfl,_,rfl,n,rfl,(by omega),_,_,rfl,rfl,zq (by decide +kernel),_,rfl,_,rfl,_,rfl,(by show 8≤sizeLine; decide),fun p1 hp1=>?_⟩
 let L0:List V:=[.str "",.str (Txt.upper n),.str "abcdefghi",.str (Txt.slice n none (some 7) ++ Str.ofString "1"),.str (Str.ofString "-" ++ Txt.slice n none (some 6)),.str aw,.str aw,.str aw]
 have g1:=zh hp1 (.lst L0)
 have h1:upd H p1 (.lst L0) p1 = some (.lst L0):=zf
 obtain ⟨v,hv⟩ : ∃ v,L0[j]? = some v:=⟨_,List.getElem?_eq_getElem (show j < 8 from hj)⟩
 obtain ⟨b,rfl,wb,lb,no⟩:=zfi sn n0 ln la wa v (List.mem_of_getElem? hv)
 have i3:Sml b 16:=⟨lb⟩
 refine ⟨_,rfl,c,22,rfl,(by decide),(by decide),_,_,rfl,rfl,(by decide),p1,_,_,.str b,rfl,rfl,SqL.of h1,(by rw [show (mixF c 22).fmod 8 = (j:Int) from ej]; exact zm hv),?_⟩
 change tSeq _ _ _ _ (upd H p1 (.lst L0))
 generalize upd H p1 (.lst L0) = H1 at *
 refine ⟨_,rfl,_,_,rfl,rfl,zq (by decide +kernel),_,rfl,_,_,rfl,rfl,zq (by decide +kernel),_,rfl,_,_,rfl,rfl,zq (by decide +kernel),_,rfl,_,_,rfl,rfl,zq (by decide +kernel),_,_,rfl,rfl,zq (by decide +kernel),_,rfl,_,_,rfl,rfl,zq (by decide +kernel),_,rfl,_,_,rfl,rfl,zq (by decide +kernel),_,_,rfl,rfl,zq (by decide +kernel),_,rfl,_,_,rfl,rfl,zq (by decide +kernel),(by show 5≤sizeLine; decide),fun p2 hp2=>?_⟩
 let L1:List V:=[.str (Str.ofString "steered " ++ b),.str (Str.ofString "unseen " ++ b),.str (Str.ofString "rest " ++ b),.str (Str.ofString "alike " ++ n ++ Str.ofString " " ++ b),.str (Str.ofString "alike " ++ b ++ Str.ofString " " ++ n)]
 have g2:=zh hp2 (.lst L1)
 have h2:upd H1 p2 (.lst L1) p2 = some (.lst L1):=zf
 change tSeq _ _ _ _ (upd H1 p2 (.lst L1))
 generalize upd H1 p2 (.lst L1) = H2 at *
 refine ⟨_,rfl,_,rfl,_,_,rfl,rfl,zq (by decide +kernel),_,_,rfl,rfl,zq (by decide +kernel),_,rfl,_,_,rfl,rfl,zq (by decide +kernel),_,rfl,_,_,rfl,rfl,zq (by decide +kernel),_,_,rfl,rfl,zq (by decide +kernel),_,rfl,_,_,rfl,rfl,zq (by decide +kernel),_,_,rfl,rfl,zq (by decide +kernel),_,rfl,_,_,rfl,rfl,zq (by decide +kernel),_,_,rfl,rfl,zq (by decide +kernel),(by show 4≤sizeLine; decide),fun p3 hp3=>?_⟩
 let L2:List V:=[.str (Str.ofString "core " ++ aw ++ Str.ofString " " ++ b),.str (Str.ofString "run " ++ b ++ Str.ofString " x"),.str (Str.ofString "run " ++ b ++ Str.ofString " 1 | 1"),.str (Str.ofString "run " ++ b ++ Str.ofString " ")]
 have g3:=zh hp3 (.lst L2)
 have h3:upd H2 p3 (.lst L2) p3 = some (.lst L2):=zf
 refine ⟨p2,p3,L1,L2,rfl,rfl,g3 _ _ h2,h3,(by show 9≤sizeLine; decide),fun p4 hp4=>?_⟩
 generalize upd H2 p3 (.lst L2) = H3 at *
 have g4:=zh hp4 (.lst (L1 ++ L2))
 have h4:upd H3 p4 (.lst (L1 ++ L2)) p4 = some (.lst (L1 ++ L2)):=zf
 change tSeq _ _ _ _ (upd H3 p4 (.lst (L1 ++ L2)))
 generalize upd H3 p4 (.lst (L1 ++ L2)) = H4 at *
 have G4:=((g1.trans g2).trans g3).trans g4
 have all12:∀ v∈L1 ++ L2,∃ z,v = .str z∧NoN aw z:=fun v hv=>by
  rcases List.mem_append.mp hv with hv | hv
  ·exact zhe wn wa wb no v hv
  ·exact zgO wn wa wb no v hv
 refine ⟨_,rfl,_,rfl,rfl,_,rfl,?_⟩
 refine ite2 (fun d=>?_) (fun d=>?_)
 ·obtain ⟨v,hv⟩ : ∃ v,(L1 ++ L2)[l9]? = some v:=⟨_,List.getElem?_eq_getElem (show l9 < 9 from hl9)⟩
  obtain ⟨z,rfl,hz⟩:=all12 v (List.mem_of_getElem? hv)
  exact ⟨_,rfl,_,rfl,c,23,rfl,(by decide),(by decide),_,_,rfl,rfl,(by decide),p4,_,_,.str z,rfl,rfl,SqL.of h4,(by rw [show (mixF c 23).fmod 9 = (l9:Int) from el9]; exact zm hv),q z H4 G4 hz⟩
 have nb:nameW b = false:=no.resolve_right fun e=>d (decide_eq_true (congrArg V.str e))
 refine ⟨_,rfl,_,rfl,_,_,rfl,rfl,zq (by decide +kernel),_,_,rfl,rfl,zq (by decide +kernel),_,rfl,_,_,rfl,rfl,zq (by decide +kernel),_,rfl,_,_,rfl,rfl,zq (by decide +kernel),_,_,rfl,rfl,zq (by decide +kernel),_,rfl,_,_,rfl,rfl,zq (by decide +kernel),_,_,rfl,rfl,zq (by decide +kernel),(by show 3≤sizeLine; decide),fun p5 hp5=>?_⟩
 let L3:List V:=[.str (Str.ofString "core " ++ b ++ Str.ofString " " ++ n),.str (Str.ofString "machine " ++ b ++ Str.ofString " 1 | 1 | 1"),.str (Str.ofString "machine " ++ b ++ Str.ofString " x")]
 have g5:=zh hp5 (.lst L3)
 have h5:upd H4 p5 (.lst L3) p5 = some (.lst L3):=zf
 refine ⟨p4,p5,L1 ++ L2,L3,rfl,rfl,g5 _ _ h4,h5,(by show 12≤sizeLine; decide),fun p6 hp6=>?_⟩
 generalize upd H4 p5 (.lst L3) = H5 at *
 have g6:=zh hp6 (.lst (L1 ++ L2 ++ L3))
 have h6:upd H5 p6 (.lst (L1 ++ L2 ++ L3)) p6 = some (.lst (L1 ++ L2 ++ L3)):=zf
 change tSeq _ _ _ _ (upd H5 p6 (.lst (L1 ++ L2 ++ L3)))
 generalize upd H5 p6 (.lst (L1 ++ L2 ++ L3)) = H6 at *
 obtain ⟨v,hv⟩ : ∃ v,(L1 ++ L2 ++ L3)[l12]? = some v:=⟨_,List.getElem?_eq_getElem (show l12 < 12 from hl12)⟩
 obtain ⟨z,rfl,hz⟩ : ∃ z,v = .str z∧NoN aw z:=by
  rcases List.mem_append.mp (List.mem_of_getElem? hv) with hv | hv
  ·exact all12 v hv
  ·exact zgQ wn wa wb nb v hv
 exact ⟨_,rfl,_,rfl,c,23,rfl,(by decide),(by decide),_,_,rfl,rfl,(by decide),p6,_,_,.str z,rfl,rfl,SqL.of h6,(by rw [show (mixF c 23).fmod 12 = (l12:Int) from el12]; exact zm hv),q z H6 ((G4.trans g5).trans g6) hz⟩
noncomputable def zer6:Str:=Txt.join (Str.ofString "; ") (List.replicate 6 (Str.ofString "0 0 0 0 0 0"))
noncomputable def badKs:List Str:=[Str.ofString "",Str.ofString "1",Str.ofString "4",Str.ofString "91",Str.ofString "100",Str.ofString "101",Str.ofString "07",Str.ofString "-2",Str.ofString "x",Str.ofString "0.",Str.ofString "1_1"]
noncomputable def badTs:List Str:=[Str.ofString "",Str.ofString "x",Str.ofString "1",Str.ofString "1 | 1",Str.ofString "1 | 1 | 1 | 1",Str.ofString "1|1|1",Str.ofString "1 | 1 | ",Str.ofString " | 1 | 1",Str.ofString "1 0 | 1 | 1",Str.ofString "1 | 1; 1 | 1"] ++ [Str.ofString "1 | 1 | 1 0",Str.ofString "1 0; 0 1 | 1; 1 | 1",Str.ofString "1 | 1 1 1 1 | 1",Str.ofString "1 | 1 | 1; 1; 1; 1",Str.ofString "1 | 1 | x"] ++ [zer6 ++ Str.ofString " | 1; 1; 1; 1; 1; 1 | 1 1 1 1 1 1"]
noncomputable def badS1:List Str:=[Str.ofString "",Str.ofString "1",Str.ofString "1 1",Str.ofString "x | 1",Str.ofString "1 1 | x",Str.ofString "1 | 1",Str.ofString "1 1 1 | 1",Str.ofString "1 1; 1 1 | 1",Str.ofString "1 1 | 1 1",Str.ofString "1 1 | ",Str.ofString "1 1|1"]
noncomputable def badS2:List Str:=[Str.ofString "1 1 | 1 1",Str.ofString "1 | 1",Str.ofString "1 | 1 1; 1",Str.ofString "1"]
noncomputable def runB (k:Int) (nA nB:Nat) (x:Str):Bool:=match tabsW k x 2 with
 | some [S,U]=>!(hszB S 1 nA && decide (V.int ((U.headD []).length:Int) = V.int nB))
 | _=>true
noncomputable def okWs (x:Str):Bool:=(Txt.split x (Str.ofString " | ")).all fun p=>(wordsT p).all fun r=>r.all fun w=>match rdW (cl w) with
 | none=>true
 | some i=>decide (i = 0∨i = 1)
theorem zd8 {k:Int} {w:List Nat} (hk:2≤k) (h:(match rdW w with | none=>true | some i=>decide (i = 0∨i = 1)) = true):rdN k w = rdN 2 w:=by
 unfold rdN
 rw [if_neg (by omega),if_neg (by decide)]
 unfold rdR
 cases e:rdW w with
 | none=>rfl
 | some v =>
  rw [e] at h
  have e1:v.fmod (k.toNat:Int) = v.fmod ((2:Int).toNat:Int):=by
   rcases of_decide_eq_true h with rfl | rfl
   ·rw [Int.zero_fmod,Int.zero_fmod]
   ·rw [Int.fmod_eq_emod_of_nonneg _ (by omega),Int.emod_eq_of_lt (by decide) (by omega)]; rfl
  dsimp only
  rw [e1]
theorem Jk {k:Int} {x:Str} {many:Nat} (hk:2≤k) (h:okWs x = true):tabsW k x many = tabsW 2 x many:=by
 unfold tabsW
 split
 ·congr 1
  refine List.map_congr_left fun p hp=>?_
  unfold rdT
  congr 1
  refine List.map_congr_left fun r hr=>List.map_congr_left fun w hw=>zd8 hk ?_
  exact List.all_eq_true.mp (List.all_eq_true.mp (List.all_eq_true.mp h p hp) r hr) w hw
 ·rfl
theorem zdi {k:Int} {x:Str} (hk:2≤k) (h:okWs x = true):machW k x = machW 2 x:=by
 unfold machW
 rw [Jk hk h]
theorem Jd {k:Int} {x:Str} {nA nB:Nat} (hk:2≤k) (h:okWs x = true):runB k nA nB x = runB 2 nA nB x:=by
 unfold runB
 rw [Jk hk h]
theorem zgn:badKs.all (fun y=>(kindsW y).isEmpty && decide (y.length≤8) && decide (Wd y)) = true:=by decide +kernel
theorem zhg:badTs.all (fun y=>okWs y && (machW 0 y).isNone && (machW 2 y).isNone && decide (y.length≤500)) = true:=by decide +kernel
theorem zgS:badS1.all (fun y=>okWs y && runB 0 2 1 y && runB 2 2 1 y && decide (y.length≤500)) = true:=by decide +kernel
theorem zfU:badS2.all (fun y=>okWs y && runB 0 1 2 y && runB 2 1 2 y && decide (y.length≤500)) = true:=by decide +kernel
theorem Xl {k:Int} (h:KindS k):k = 0∨2≤k:=h.imp id fun p=>by have:=p.lo; omega
theorem zf1 {y:Str} (h:y∈badKs):kindsW y = []∧y.length≤8∧Wd y:=by
 have:=List.all_eq_true.mp zgn y h
 simp only [Bool.and_eq_true,decide_eq_true_eq,List.isEmpty_iff] at this
 exact ⟨this.1.1,this.1.2,this.2⟩
theorem zhl {y:Str} (h:y∈badTs):y.length≤500∧∀ k,KindS k→machW k y = none:=by
 have:=List.all_eq_true.mp zhg y h
 simp only [Bool.and_eq_true,decide_eq_true_eq,Option.isNone_iff_eq_none] at this
 refine ⟨this.2,fun k hk=>?_⟩
 rcases Xl hk with rfl | hk
 ·exact this.1.1.2
 ·rw [zdi hk this.1.1.1]; exact this.1.2
theorem zg4 {y:Str} (h:y∈badS1):y.length≤500∧∀ k,KindS k→runB k 2 1 y = true:=by
 have:=List.all_eq_true.mp zgS y h
 simp only [Bool.and_eq_true,decide_eq_true_eq] at this
 refine ⟨this.2,fun k hk=>?_⟩
 rcases Xl hk with rfl | hk
 ·exact this.1.1.2
 ·rw [Jd hk this.1.1.1]; exact this.1.2
theorem zfa {y:Str} (h:y∈badS2):y.length≤500∧∀ k,KindS k→runB k 1 2 y = true:=by
 have:=List.all_eq_true.mp zfU y h
 simp only [Bool.and_eq_true,decide_eq_true_eq] at this
 refine ⟨this.2,fun k hk=>?_⟩
 rcases Xl hk with rfl | hk
 ·exact this.1.1.2
 ·rw [Jd hk this.1.1.1]; exact this.1.2
noncomputable def NoT (n0 n1:Str) (nms:List Str) (x:Str):Prop:=∃ ws,RowIs x ws∧((∃ y,ws = [Str.ofString "kind",y]∧kindsW y = [])∨(∃ n y,n∈nms∧ws = [Str.ofString "machine",n,y]∧∀ k,KindS k→machW k y = none)∨(∃ y,ws = [Str.ofString "run",n0,y]∧∀ k,KindS k→runB k 2 1 y = true)∨∃ y,ws = [Str.ofString "run",n1,y]∧∀ k,KindS k→runB k 1 2 y = true)
theorem c_mac:Wd (Str.ofString "machine")∧Wd (Str.ofString "run")∧Wd (Str.ofString "kind"):=by decide +kernel
theorem jP {f n y x:Str} {m:Nat} [Sml x m] (l:decide (m≤9999) = true) (c:inV (.str f) [.str "machine",.str "run"] = true) (ff:Wd f) (fn:Wd n) (e:cl x = cl f ++ 32 :: (cl n ++ 32 :: cl y)):RowIs x [f,n,y]:=Ja l (by rw [e]; exact (join3 _ _ _).symm) (zco c ff fn e) (List.cons_ne_nil _ _) (Nat.le_refl 3)
theorem QH {y x:Str} {m:Nat} [Sml x m] (l:decide (m≤9999) = true) (fy:Wd y) (e:cl x = cl (Str.ofString "kind") ++ 32 :: cl y):RowIs x [Str.ofString "kind",y]:=by
 have e':cl x = joinN [32] (([Str.ofString "kind",y]).map cl):=by rw [e]; exact (join2 _ _).symm
 exact Ja l e' (Qw (i:=1) (Wds.cons c_mac.2.2 (Wds.cons fy .nil)).all e' (by decide +kernel) (by decide +kernel) rfl) (List.cons_ne_nil _ _) (by show 2≤3; decide)
theorem zfr {n0 n1 nw kk T S1 S2:Str} {nms:List Str} [Sml n0 8] [Sml n1 8] [Sml nw 8] [Sml kk 8] [Sml T 500] [Sml S1 500] [Sml S2 500] (w0:Wd n0) (w1:Wd n1) (ww:Wd nw) (wm:nw∈nms) (hk:kk∈badKs) (hT:T∈badTs) (h1:S1∈badS1) (h2:S2∈badS2) :
  ∀ v∈([.str (Str.ofString "kind " ++ kk),.str (Str.ofString "kind " ++ kk),.str (Str.ofString "machine " ++ nw ++ Str.ofString " " ++ T)] ++ [.str (Str.ofString "run " ++ n0 ++ Str.ofString " " ++ S1)] ++ [.str (Str.ofString "run " ++ n1 ++ Str.ofString " " ++ S2)]:List V),∃ z,v = .str z∧NoT n0 n1 nms z:=by
 have kd:∃ z,V.str (Str.ofString "kind " ++ kk) = .str z∧NoT n0 n1 nms z:=⟨_,rfl,_,QH (by decide +kernel) (zf1 hk).2.2 (by simp only [zC,ya,List.append_assoc,List.cons_append,List.nil_append]),.inl ⟨_,rfl,(zf1 hk).1⟩⟩
 refine List.forall_mem_cons.2 ⟨kd,List.forall_mem_cons.2 ⟨kd,List.forall_mem_cons.2 ⟨⟨_,rfl,_,jP (by decide +kernel) (by decide +kernel) c_mac.1 ww (by simp only [zC,zy,yI,List.append_assoc,List.cons_append,List.nil_append]),.inr (.inl ⟨_,_,wm,rfl,(zhl hT).2⟩)⟩,?_⟩⟩⟩
 refine List.forall_mem_cons.2 ⟨⟨_,rfl,_,jP (by decide +kernel) (by decide +kernel) c_mac.2.1 w0 (by simp only [zC,yH,yI,List.append_assoc,List.cons_append,List.nil_append]),.inr (.inr (.inl ⟨_,rfl,(zg4 h1).2⟩))⟩,?_⟩
 refine List.forall_mem_cons.2 ⟨⟨_,rfl,_,jP (by decide +kernel) (by decide +kernel) c_mac.2.1 w1 (by simp only [zC,yH,yI,List.append_assoc,List.cons_append,List.nil_append]),.inr (.inr (.inr ⟨_,rfl,(zfa h2).2⟩))⟩,fun v hv=>nomatch hv⟩
theorem zaz {l:List Str} {j:Nat} (h:j < l.length):∃ y,(l.map V.str)[j]? = some (.str y)∧y∈l:=⟨l[j],by rw [List.getElem?_map,List.getElem?_eq_getElem h]; rfl,List.getElem_mem h⟩
theorem zfD:Txt.join (Str.ofString "; ") (List.replicate 6 (Str.ofString "0 0 0 0 0 0")) = zer6:=rfl
theorem zdV:zer6.length≤200:=by decide +kernel
noncomputable def Jc:Sp:=fun vs H Q _=>∃ (pn:Addr) (a:Nat) (ts:List Nat) (c:Int),vs = [.ref pn,.int c]∧H pn = some (.lst [.str (nmK a ts 0),.str (nmK a ts 1),.str (nmK a ts 2)])∧ts.length≤7∧smallW ts∧∀ x H',Same H H'→NoT (nmK a ts 0) (nmK a ts 1) [nmK a ts 0,nmK a ts 1,nmK a ts 2] x→Q (.str x) H'
seal zer6 in
theorem zcY (D:Df K mg "_law_no_text" ["_law_names_here", "_law_cell"] yN) (zA:Kn P w K mg base "_law_mix" 1 ["_law_cell", "_law_j"] Zr) (xz:mg "range" = none):Kn P w K mg base "_law_no_text" 2 ["_law_names_here", "_law_cell"] Jc:=by
 refine D.kn sc__law_no_text (fun vs H Q E h=>?_) (fun f cdv A outer s H vs Q E hr h=>?_)
 ·obtain ⟨pn,a,ts,c,rfl,_⟩:=h; rfl
 obtain ⟨pn,a,ts,c,rfl,hn,lt,st,q⟩:=h
 have szl:sizeLine = 16777216:=by decide
 refine ⟨_,(zb (zp (i:=2) sc__law_no_text.nd rfl (.inl rfl) (zu zo (pv 0) (zk zG (zE zA hr (za (pv 1) (za ze zc))) ze))) (zb (zp (i:=3) sc__law_no_text.nd rfl (.inl rfl) (zu zo (zM (za zg (za zg (za zg (za zg (za zg (za zg (za zg (za zg (za zg (za zg (za zg zc)))))))))))) (zk zG (zE zA hr (za (pv 1) (za ze zc))) ze))) (zb (zp (i:=4) sc__law_no_text.nd rfl (.inl rfl) (zM (za zg (za zg (za zg (za zg (za zg (za zg (za zg (za zg (za zg (za zg zc)))))))))))) (zb (zp (i:=4) sc__law_no_text.nd rfl (.inl rfl) (zk jl (pv 4) (zM (za zg (za zg (za zg (za zg (za zg zc)))))))) (zb (zp (i:=5) sc__law_no_text.nd rfl (.inl rfl) (bm0 (fun _ h=>xZ PySem.F.plainAttrs_str PySem.F.slot_str_join PySem.F.type_str_join Za h (za (ZT [] [] (jQ rfl xz (za ze zc)) fun _ _ _ _ _ _=>⟨yv,zg⟩) zc)) zg)) (zb (qw (bm0 (fun _ h=>xZ PySem.F.plainAttrs_list PySem.F.slot_list_append PySem.F.type_list_append jg h (za (zk zd (pv 5) zg) zc)) (pv 4))) (zb (zp (i:=6) sc__law_no_text.nd rfl (.inl rfl) (zM (za (zk zd zg (pv 3)) (za (zk zd zg (pv 3)) (za (zk zd (zk zd (zk zd zg (pv 2)) zg) (zu zo (pv 4) (zk zG (zE zA hr (za (pv 1) (za ze zc))) ze))) zc))))) (zb (zp (i:=7) sc__law_no_text.nd rfl (.inl rfl) (zM (za zg (za zg (za zg (za zg (za zg (za zg (za zg (za zg (za zg (za zg (za zg zc))))))))))))) (zb (qw (bm0 (fun _ h=>xZ PySem.F.plainAttrs_list PySem.F.slot_list_append PySem.F.type_list_append jg h (za (zk zd (zk zd (zk zd zg (zu zo (pv 0) ze)) zg) (zu zo (pv 7) (zk zG (zE zA hr (za (pv 1) (za ze zc))) ze))) zc)) (pv 6))) (zb (qw (bm0 (fun _ h=>xZ PySem.F.plainAttrs_list PySem.F.slot_list_append PySem.F.type_list_append jg h (za (zk zd (zk zd (zk zd zg (zu zo (pv 0) ze)) zg) (zu zo (zM (za zg (za zg (za zg (za zg zc))))) (zk zG (zE zA hr (za (pv 1) (za ze zc))) ze))) zc)) (pv 6))) (zi (zt (zu zo (pv 6) (zk zG (zE zA hr (za (pv 1) (za ze zc))) ze)))))))))))))),?_⟩
 obtain ⟨i,hi,ei⟩:=yw (x:=mixF c 24) (m:=3) (by decide)
 obtain ⟨jk,hjk,ejk⟩:=yw (x:=mixF c 25) (m:=11) (by decide)
 obtain ⟨jt,hjt,ejt⟩:=yw (x:=mixF c 26) (m:=16) (by decide)
 obtain ⟨js,hjs,ejs⟩:=yw (x:=mixF c 27) (m:=11) (by decide)
 obtain ⟨jr,hjr,ejr⟩:=yw (x:=mixF c 27) (m:=4) (by decide)
 obtain ⟨je,hje,eje⟩:=yw (x:=mixF c 28) (m:=5) (by decide)
 obtain ⟨kk,ekk,mkk⟩:=zaz (l:=badKs) (j:=jk) hjk
 obtain ⟨T,eT,mT⟩:=zaz (l:=badTs) (j:=jt) hjt
 obtain ⟨S1,eS1,mS1⟩:=zaz (l:=badS1) (j:=js) hjs
 obtain ⟨S2,eS2,mS2⟩:=zaz (l:=badS2) (j:=jr) hjr
 have ikk:Sml kk 8:=⟨(zf1 mkk).2.1⟩
 have iT:Sml T 500:=⟨(zhl mT).1⟩
 have iS1:Sml S1 500:=⟨(zg4 mS1).1⟩
 have iS2:Sml S2 500:=⟨(zfa mS2).1⟩
 refine ⟨_,rfl,_,rfl,c,24,rfl,(by decide),(by decide),_,_,rfl,rfl,(by decide),pn,_,_,.str (nmK a ts i),rfl,rfl,SqL.of hn,(by rw [show (mixF c 24).fmod 3 = (i:Int) from ei]; exact zm (zdM hi)),?_⟩
 have w0:Wd (nmK a ts 0):=qu st
 have w1:Wd (nmK a ts 1):=qu st
 have ww:Wd (nmK a ts i):=qu st
 have wm:nmK a ts i∈[nmK a ts 0,nmK a ts 1,nmK a ts 2]:=by
  match i,hi with
  | 0,_=>simp
  | 1,_=>simp
  | 2,_=>simp
 have i0:Sml (nmK a ts 0) 8:=⟨by rw [xm]; omega⟩
 have i1:Sml (nmK a ts 1) 8:=⟨by rw [xm]; omega⟩
 have iw:Sml (nmK a ts i) 8:=⟨by rw [xm]; omega⟩
 generalize [nmK a ts 0,nmK a ts 1,nmK a ts 2] = nms at *
 generalize nmK a ts i = nw at *
 generalize nmK a ts 0 = n0 at *
 generalize nmK a ts 1 = n1 at *
 refine ⟨(by show 11≤sizeLine; decide),fun p1 hp1=>?_⟩
 have g1:=zh hp1 (.lst (badKs.map V.str))
 have h1:upd H p1 (.lst (badKs.map V.str)) p1 = some (.lst (badKs.map V.str)):=zf
 change tVar 1 _ (upd H p1 (.lst (badKs.map V.str))) _
 generalize upd H p1 (.lst (badKs.map V.str)) = H1 at *
 refine ⟨_,rfl,c,25,rfl,(by decide),(by decide),_,_,rfl,rfl,(by decide),p1,_,_,.str kk,rfl,rfl,SqL.of h1,(by rw [show (mixF c 25).fmod 11 = (jk:Int) from ejk]; exact zm ekk),?_⟩
 change tSeq _ _ _ _ H1
 refine ⟨(by show 10≤sizeLine; decide),fun p2 hp2=>?_⟩
 let LA:List V:=[.str "",.str "x",.str "1",.str "1 | 1",.str "1 | 1 | 1 | 1",.str "1|1|1",.str "1 | 1 | ",.str " | 1 | 1",.str "1 0 | 1 | 1",.str "1 | 1; 1 | 1"]
 have g2:=zh hp2 (.lst LA)
 have h2:upd H1 p2 (.lst LA) p2 = some (.lst LA):=zf
 change tSeq _ _ _ _ (upd H1 p2 (.lst LA))
 generalize upd H1 p2 (.lst LA) = H2 at *
 refine ⟨_,rfl,(by show 5≤sizeLine; decide),fun p3 hp3=>?_⟩
 let LB:List V:=[.str "1 | 1 | 1 0",.str "1 0; 0 1 | 1; 1 | 1",.str "1 | 1 1 1 1 | 1",.str "1 | 1 | 1; 1; 1; 1",.str "1 | 1 | x"]
 have g3:=zh hp3 (.lst LB)
 have h3:upd H2 p3 (.lst LB) p3 = some (.lst LB):=zf
 refine ⟨p2,p3,LA,LB,rfl,rfl,g3 _ _ h2,h3,(by show 15≤sizeLine; decide),fun p4 hp4=>?_⟩
 generalize upd H2 p3 (.lst LB) = H3 at *
 have g4:=zh hp4 (.lst (LA ++ LB))
 have h4:upd H3 p4 (.lst (LA ++ LB)) p4 = some (.lst (LA ++ LB)):=zf
 change tSeq _ _ _ _ (upd H3 p4 (.lst (LA ++ LB)))
 have n4:H p4 = none:=((g1.trans g2).trans g3).none hp4
 have G4:=((g1.trans g2).trans g3).trans g4
 generalize upd H3 p4 (.lst (LA ++ LB)) = H4 at *
 have eAB:(LA ++ LB).length = 15:=rfl
 have eABZ:(LA ++ LB) ++ [.str (zer6 ++ Str.ofString " | 1; 1; 1; 1; 1; 1 | 1 1 1 1 1 1")] = badTs.map V.str:=rfl
 clear_value LA LB
 refine ⟨rfl,6,rfl,(by decide),(by decide),?_⟩
 refine qE (lo:=0) (n:=6) (fun m ys H'=>H' = H4∧ys = (List.replicate m (Str.ofString "0 0 0 0 0 0")).map V.str) ⟨rfl,rfl⟩ ?_ ?_ ?_
 ·rintro m ys H' hm ⟨_,rfl⟩
  rw [List.length_map,List.length_replicate]; omega
 ·rintro m ys H' hm ⟨rfl,rfl⟩
  refine gyes ?_
  refine nxt hm ⟨rfl,?_⟩
  rw [List.replicate_succ',List.map_append]
  rfl
 rintro ys H' ⟨rfl,rfl⟩ pl hpl
 have g5:=zh hpl (.lst ((List.replicate 6 (Str.ofString "0 0 0 0 0 0")).map V.str))
 have h5:upd H' pl (.lst ((List.replicate 6 (Str.ofString "0 0 0 0 0 0")).map V.str)) pl = some (.lst ((List.replicate 6 (Str.ofString "0 0 0 0 0 0")).map V.str)):=zf
 refine ⟨_,pl,_,rfl,rfl,h5,Xk (by rw [List.length_replicate]; decide) (fun x hx=>?_) (by decide +kernel),?_⟩
 ·rw [(List.mem_replicate.mp hx).2]; decide +kernel
 generalize upd H' pl (.lst ((List.replicate 6 (Str.ofString "0 0 0 0 0 0")).map V.str)) = H5 at *
 have ez:Txt.join (Str.ofString "; ") (List.replicate 6 (Str.ofString "0 0 0 0 0 0")) = zer6:=zfD
 rw [ez]
 have iz:Sml zer6 200:=⟨zdV⟩
 have h45:=g5 _ _ h4
 have G5:=G4.trans g5
 refine ⟨_,rfl,.inl ⟨rfl,_,SqL.of h45⟩,_,rfl,_,_,rfl,rfl,zq (by decide +kernel),p4,_,_,rfl,rfl,h45,(by rw [eAB]; decide),?_⟩
 rw [eABZ]
 have h6:upd H5 p4 (.lst (badTs.map V.str)) p4 = some (.lst (badTs.map V.str)):=zf
 have G6:Same H (upd H5 p4 (.lst (badTs.map V.str))):=qj G5 n4
 generalize upd H5 p4 (.lst (badTs.map V.str)) = H6 at *
 refine ⟨_,rfl,_,_,rfl,rfl,zq (by decide +kernel),_,rfl,_,_,rfl,rfl,zq (by decide +kernel),_,rfl,_,_,rfl,rfl,zq (by decide +kernel),_,_,rfl,rfl,zq (by decide +kernel),_,rfl,_,rfl,c,26,rfl,(by decide),(by decide),_,_,rfl,rfl,(by decide),p4,_,_,.str T,rfl,rfl,SqL.of h6,(by rw [show (mixF c 26).fmod 16 = (jt:Int) from ejt]; exact zm eT),_,_,rfl,rfl,zq (by decide +kernel),(by show 3≤sizeLine; decide),fun p5 hp5=>?_⟩
 let LM:List V:=[.str (Str.ofString "kind " ++ kk),.str (Str.ofString "kind " ++ kk),.str (Str.ofString "machine " ++ nw ++ Str.ofString " " ++ T)]
 have n5:H p5 = none:=G6.none hp5
 have G7:=G6.trans (zh hp5 (.lst LM))
 have h7:upd H6 p5 (.lst LM) p5 = some (.lst LM):=zf
 change tSeq _ _ _ _ (upd H6 p5 (.lst LM))
 generalize upd H6 p5 (.lst LM) = H7 at *
 refine ⟨(by show 11≤sizeLine; decide),fun p6 hp6=>?_⟩
 have g8:=zh hp6 (.lst (badS1.map V.str))
 have h8:upd H7 p6 (.lst (badS1.map V.str)) p6 = some (.lst (badS1.map V.str)):=zf
 change tSeq _ _ _ _ (upd H7 p6 (.lst (badS1.map V.str)))
 have h58:=g8 _ _ h7
 have G8:=G7.trans g8
 generalize upd H7 p6 (.lst (badS1.map V.str)) = H8 at *
 refine ⟨_,rfl,.inl ⟨rfl,_,SqL.of h58⟩,_,rfl,pn,_,_,.str n0,rfl,rfl,SqL.of (G8 _ _ hn),zm (j:=0) rfl,_,_,rfl,rfl,zq (by decide +kernel),_,_,rfl,rfl,zq (by decide +kernel),_,rfl,_,rfl,c,27,rfl,(by decide),(by decide),_,_,rfl,rfl,(by decide),p6,_,_,.str S1,rfl,rfl,SqL.of h8,(by rw [show (mixF c 27).fmod 11 = (js:Int) from ejs]; exact zm eS1),_,_,rfl,rfl,zq (by decide +kernel),p5,_,_,rfl,rfl,h58,(by show 3 < sizeLine; decide),?_⟩
 have h9:upd H8 p5 (.lst (LM ++ [.str (Str.ofString "run " ++ n0 ++ Str.ofString " " ++ S1)])) p5 = some (.lst (LM ++ [.str (Str.ofString "run " ++ n0 ++ Str.ofString " " ++ S1)])):=zf
 have G9:Same H (upd H8 p5 (.lst (LM ++ [.str (Str.ofString "run " ++ n0 ++ Str.ofString " " ++ S1)]))):=qj G8 n5
 change tSeq _ _ _ _ (upd H8 p5 (.lst (LM ++ [.str (Str.ofString "run " ++ n0 ++ Str.ofString " " ++ S1)])))
 generalize upd H8 p5 (.lst (LM ++ [.str (Str.ofString "run " ++ n0 ++ Str.ofString " " ++ S1)])) = H9 at *
 refine ⟨_,rfl,.inl ⟨rfl,_,SqL.of h9⟩,_,rfl,pn,_,_,.str n1,rfl,rfl,SqL.of (G9 _ _ hn),zm (j:=1) rfl,_,_,rfl,rfl,zq (by decide +kernel),_,_,rfl,rfl,zq (by decide +kernel),(by show 4≤sizeLine; decide),fun p7 hp7=>?_⟩
 have g10:=zh hp7 (.lst (badS2.map V.str))
 have h10:upd H9 p7 (.lst (badS2.map V.str)) p7 = some (.lst (badS2.map V.str)):=zf
 change tVar 1 _ (upd H9 p7 (.lst (badS2.map V.str))) _
 have h510:=g10 _ _ h9
 have G10:=G9.trans g10
 generalize upd H9 p7 (.lst (badS2.map V.str)) = H10 at *
 refine ⟨_,rfl,c,27,rfl,(by decide),(by decide),_,_,rfl,rfl,(by decide),p7,_,_,.str S2,rfl,rfl,SqL.of h10,(by rw [show (mixF c 27).fmod 4 = (jr:Int) from ejr]; exact zm eS2),_,_,rfl,rfl,zq (by decide +kernel),p5,_,_,rfl,rfl,h510,(by show 4 < sizeLine; decide),?_⟩
 let LF:List V:=LM ++ [.str (Str.ofString "run " ++ n0 ++ Str.ofString " " ++ S1)] ++ [.str (Str.ofString "run " ++ n1 ++ Str.ofString " " ++ S2)]
 have h11:upd H10 p5 (.lst LF) p5 = some (.lst LF):=zf
 have G11:Same H (upd H10 p5 (.lst LF)):=qj G10 n5
 change tVar 6 _ (upd H10 p5 (.lst LF)) _
 generalize upd H10 p5 (.lst LF) = H11 at *
 obtain ⟨v,hv⟩ : ∃ v,LF[je]? = some v:=⟨_,List.getElem?_eq_getElem (show je < 5 from hje)⟩
 obtain ⟨z,rfl,hz⟩:=zfr w0 w1 ww wm mkk mT mS1 mS2 v (List.mem_of_getElem? hv)
 exact ⟨_,rfl,_,rfl,c,28,rfl,(by decide),(by decide),_,_,rfl,rfl,(by decide),p5,_,_,.str z,rfl,rfl,SqL.of h11,(by rw [show (mixF c 28).fmod 5 = (je:Int) from eje]; exact zm hv),q z H11 G11 hz⟩
noncomputable def tI (k:Int) (M:List (List Int)):List (List Nb):=M.map fun r=>r.map (nnum k)
structure Mc where
 t:Str
 r:Str
 y:Str
 A:List (List Int)
 B:List (List Int)
 C:List (List Int)
 S:List Int
 U:List (List Int)
 st:List (List Int)
 out:List (List Int)
 n:Nat
 h:Nat
 s:Nat
noncomputable def mc0:Mc:=⟨Str.ofString "0 1; 1 0 | 0; 0 | 1 0; 0 1",Str.ofString "1 0 | 1; 0",Str.ofString "1 0; 0 1; 1 0",[[0,1],[1,0]],[[0],[0]],[[1,0],[0,1]],[1,0],[[1],[0]],[[1,0],[0,1],[1,0]],[[1,0],[0,1],[1,0]],2,1,2⟩
noncomputable def mc1:Mc:=⟨Str.ofString "0 | 1 0 | 1",Str.ofString "1 | 0 1; 1 0",Str.ofString "1; 0; 1",[[0]],[[1,0]],[[1]],[1],[[0,1],[1,0]],[[1],[0],[1]],[[1],[0],[1]],1,2,1⟩
noncomputable def bits (M:List (List Int)) (r c:Nat):Bool:=decide (M.length = r) && M.all fun x=>decide (x.length = c) && x.all fun i=>decide (i = 0∨i = 1)
noncomputable def Mc.fits (m:Mc):Bool:=bits m.A m.n m.n && bits m.B m.n m.h && bits m.C m.s m.n && bits [m.S] 1 m.n && bits m.U 2 m.h && bits m.st 3 m.n && bits m.out 3 m.s && decide (m.n≤2∧m.h≤2∧m.s≤2∧1≤m.n) && decide (m.t.length≤100∧m.r.length≤100)
noncomputable def Mc.ok (m:Mc) (k:Int):Bool:=decide (machW k m.t = some (tI k m.A,tI k m.B,tI k m.C)) && decide (tabsW k m.r 2 = some [tI k [m.S],tI k m.U]) && (List.range 3).all (fun i=>decide (stM k (tI k m.A) (tI k m.B) (m.S.map (nnum k)) ((tI k m.U).take i) = (m.st.getD i []).map (nnum k))) && decide (runM k (tI k m.A) (tI k m.B) (tI k m.C) (m.S.map (nnum k)) (tI k m.U) = tI k m.out) && decide (shT (tI k m.out) = cl m.y) && fitB (tI k m.A) (tI k m.B) (tI k [m.S]) (tI k m.U)
theorem mc_fits:mc0.fits = true∧mc1.fits = true:=by decide +kernel
theorem zgr:kindsL.all (fun k=>mc0.ok k && mc1.ok k) = true:=by decide +kernel
theorem zdF:∀ n:Nat,n < 99→primeB n = true→kindsL.contains (n:Int) = true:=by decide +kernel
theorem YB {k:Int} (h:KindS k):k∈kindsL:=by
 rcases h with rfl | h
 ·decide
 ·have:=zdF k.toNat (by have:=h.hi; have:=h.lo; omega) h.pr
  rw [show ((k.toNat:Nat):Int) = k by have:=h.lo; omega] at this
  exact List.contains_iff_mem.mp this
structure McK (m:Mc) (k:Int):Prop where
 f:m.fits = true
 o:m.ok k = true
theorem mcK0 {k:Int} (h:KindS k):McK mc0 k:=⟨mc_fits.1,by have:=List.all_eq_true.mp zgr k (YB h); exact (Bool.and_eq_true _ _ ▸ this).1⟩
theorem mcK1 {k:Int} (h:KindS k):McK mc1 k:=⟨mc_fits.2,by have:=List.all_eq_true.mp zgr k (YB h); exact (Bool.and_eq_true _ _ ▸ this).2⟩
theorem Qi {k:Int} (hk:KindOk k) {x:List Int} {c:Nat} (l:x.length = c) (b:∀ i∈x,i = 0∨i = 1):ROk k c 61 (x.map (nnum k)):=by
 refine ⟨by rw [List.length_map,l],fun y hy=>?_,fun y hy=>?_⟩
 ·obtain ⟨i,_,rfl⟩:=List.mem_map.mp hy
  exact La.xM hk i
 ·obtain ⟨i,hi,rfl⟩:=List.mem_map.mp hy
  rcases b i hi with rfl | rfl
  ·exact YM hk (JW 61) (by decide)
  ·exact YM hk (Sm.mono sm_one (by decide)) (by decide)
theorem YJ {M:List (List Int)} {r c:Nat} (h:bits M r c = true):M.length = r∧∀ x∈M,x.length = c∧∀ i∈x,i = 0∨i = 1:=by
 unfold bits at h
 simp only [Bool.and_eq_true,decide_eq_true_eq,List.all_eq_true] at h
 exact h
theorem jR {k:Int} (hk:KindOk k) {M:List (List Int)} {r c:Nat} (h:bits M r c = true):TOk k r c 61 (tI k M):=by
 obtain ⟨l,b⟩:=YJ h
 refine ⟨by unfold tI; rw [List.length_map,l],fun x hx=>?_,fun x hx=>?_⟩
 ·obtain ⟨y,hy,rfl⟩:=List.mem_map.mp hx
  have:=Qi hk (b y hy).1 (b y hy).2
  exact ⟨this.len,this.ok⟩
 ·obtain ⟨y,hy,rfl⟩:=List.mem_map.mp hx
  exact (Qi hk (b y hy).1 (b y hy).2).sz
noncomputable def smB:Nb→Bool
 | .q r=>decide (r.num.natAbs < 10 ^ 21∧r.den < 10 ^ 21)
 | .z i=>decide (i.natAbs < 10 ^ 21)
theorem ze9 {x:Nb} (h:smB x = true):SmN x:=by
 cases x with
 | q r =>
  have h':r.num.natAbs < 10 ^ 21∧r.den < 10 ^ 21:=of_decide_eq_true h
  exact h'
 | z i =>
  have h':i.natAbs < 10 ^ 21:=of_decide_eq_true h
  exact h'
theorem zd0:kindsL.all (fun k=>smB (nnum k 0) && smB (nnum k 1)) = true:=by decide +kernel
theorem zdU {k i:Int} (hk:KindS k) (h:i = 0∨i = 1):SmN (nnum k i):=by
 have:=List.all_eq_true.mp zd0 k (YB hk)
 rw [Bool.and_eq_true] at this
 rcases h with rfl | rfl
 ·exact ze9 this.1
 ·exact ze9 this.2
structure McIs (m:Mc) (k:Int):Prop where
 mach:machW k m.t = some (tI k m.A,tI k m.B,tI k m.C)
 tabs:tabsW k m.r 2 = some [tI k [m.S],tI k m.U]
 fit:fitB (tI k m.A) (tI k m.B) (tI k [m.S]) (tI k m.U) = true
 run:RunS k (tI k m.A) (tI k m.B) (tI k m.C) (tI k [m.S]) (tI k m.U)
 sh:shT (runM k (tI k m.A) (tI k m.B) (tI k m.C) (m.S.map (nnum k)) (tI k m.U)) = cl m.y
 la:(tI k m.A).length = m.n
 nb:tI k m.B≠[]
 lb:((tI k m.B).headD []).length = m.h
 lt:m.t.length≤100
 lr:m.r.length≤100
theorem XD {m:Mc} {k:Int} (hk:KindS k) (K0:McK m k):McIs m k:=by
 have f:=K0.f
 have o:=K0.o
 unfold Mc.fits at f
 unfold Mc.ok at o
 simp only [Bool.and_eq_true,decide_eq_true_eq] at f o
 obtain ⟨⟨⟨⟨⟨⟨⟨⟨fA,fB⟩,fC⟩,fS⟩,fU⟩,fs⟩,fo⟩,n2,h2,s2,n1⟩,lt,lr⟩:=f
 obtain ⟨⟨⟨⟨⟨oM,oT⟩,oS⟩,oR⟩,oh⟩,oF⟩:=o
 have tB:=jR hk.ok fB
 have tU:=jR hk.ok fU
 have lU:(tI k m.U).length = 2:=tU.len
 have nB:tI k m.B≠[]:=fun z=>by have:=tB.len; rw [z] at this; simp at this; omega
 refine ⟨oM,oT,oF,⟨m.S.map (nnum k),m.n,m.h,m.s,61,rfl,⟨jR hk.ok fA,tB,jR hk.ok fC⟩,by rw [lU]; exact tU,fun i hi=>?_,by decide,?_,by omega,by rw [lU]; decide,?_⟩,by rw [oR]; exact oh,(jR hk.ok fA).len,nB,?_,lt,lr⟩
 ·rw [lU] at hi
  have e:=of_decide_eq_true (List.all_eq_true.mp oS i (List.mem_range.mpr (by omega)))
  rw [e]
  obtain ⟨ls,bs⟩:=YJ fs
  have hi':i < m.st.length:=by omega
  have:=bs m.st[i] (List.getElem_mem hi')
  rw [show m.st.getD i [] = m.st[i] by rw [List.getD_eq_getElem?_getD,List.getElem?_eq_getElem hi']; rfl]
  exact Qi hk.ok this.1 this.2
 ·have:(m.n + m.h + 2) * 61≤6 * 61:=Nat.mul_le_mul_right _ (by omega)
  omega
 ·rw [oR]
  intro x hx
  obtain ⟨lo,bo⟩:=YJ fo
  obtain ⟨y,hy,rfl⟩:=List.mem_map.mp hx
  obtain ⟨ly,by'⟩:=bo y hy
  refine ⟨by rw [List.length_map,ly]; omega,fun z hz=>?_⟩
  obtain ⟨i,hi,rfl⟩:=List.mem_map.mp hz
  exact ⟨La.xM hk.ok i,zdU hk (by' i hi)⟩
 ·obtain ⟨lb,bb⟩:=YJ fB
  obtain ⟨b0,r,e⟩:=List.exists_cons_of_ne_nil (l:=m.B) (fun z=>by rw [z] at lb; simp at lb; omega)
  unfold tI
  rw [e]
  show (b0.map (nnum k)).length = _
  rw [List.length_map]
  exact (bb b0 (by rw [e]; exact List.mem_cons_self)).1
noncomputable def MachO (H:Hp) (k:Int) (m:Mc) (p:Addr):Prop:=∃ ta tb tc ra rb rc,MachAt H (tI k m.A) (tI k m.B) (tI k m.C) p ta tb tc ra rb rc
theorem MachO.mono {H H':Hp} {k:Int} {m:Mc} {p:Addr} (h:MachO H k m p) (g:Same H H'):MachO H' k m p:=by
 obtain ⟨ta,tb,tc,ra,rb,rc,M⟩:=h
 exact ⟨ta,tb,tc,ra,rb,rc,M.mono g⟩
structure DkI (H:Hp) (Cl d:Addr) (k:Int) (n0 n1 n2:Str) (dx pm:Addr) (kvs:List (Key×V)) (p0 p1:Addr):Prop where
 at_:DeskAt H d Cl dx k pm kvs
 lk:kvs.length≤1000
 v0:valV kvs (.inr n0) = some (.ref p0)
 v1:valV kvs (.inr n1) = some (.ref p1)
 v2:valV kvs (.inr n2) = none
 m0:MachO H k mc0 p0
 m1:MachO H k mc1 p1
theorem DkI.mono {H H':Hp} {Cl d:Addr} {k:Int} {n0 n1 n2:Str} {dx pm:Addr} {kvs:List (Key×V)} {p0 p1:Addr} (h:DkI H Cl d k n0 n1 n2 dx pm kvs p0 p1) (g:Same H H'):DkI H' Cl d k n0 n1 n2 dx pm kvs p0 p1:=⟨⟨g _ _ h.at_.1,g _ _ h.at_.2⟩,h.lk,h.v0,h.v1,h.v2,h.m0.mono g,h.m1.mono g⟩
section
variable {Cl CR CN CT d dx pm:Addr} {H:Hp} {Q:VK} {E:XK} {k:Int} {kvs:List (Key×V)}
noncomputable def GoR (H:Hp) (Q:VK) (i:Nat):Prop:=∀ p H',Same H H'→H' p = some (.lst [.int (i:Int)])→Q (.ref p) H'
theorem zaB {v:V} (hD:DeskAt H d Cl dx k pm kvs) (lk:kvs.length≤1000) (no:NoR H v) (q:GoR H Q 0):yR Cl CR CN CT [.ref d,v] H Q E :=
 ⟨d,v,rfl,⟨_,_,_,hD.1⟩,fun Q' E' hQ hE=>⟨d,dx,pm,k,kvs,v,rfl,hD,no.1,lk,fun _ H' g=>hE 0 CR H' rfl fun p H'' g' hp=>q p H'' (g.trans g') hp,fun x ws ev hw=>by rw [no.2 x ev] at hw; cases hw⟩⟩
theorem ju {x:Str} {ws:List Str} (R:RowIs x ws) (hD:DeskAt H d Cl dx k pm kvs) (lk:kvs.length≤1000)
  (q:∀ (Q':VK) (E':XK),(∀ u H',Q u H'→Q' u H')→(∀ (i:Nat) c H',[CR,CN,CT][i]? = some c→GoR H' Q i→E' (.ref c) none H')→(¬ namesOk kvs ws→∀ H',Same H H'→E' (.ref CN) none H')∧(namesOk kvs ws→SayR Cl CT d k kvs H Q' E' ws)):yR Cl CR CN CT [.ref d,.str x] H Q E :=
 ⟨d,.str x,rfl,⟨_,_,_,hD.1⟩,fun Q' E' hQ hE=>by
  refine ⟨d,dx,pm,k,kvs,.str x,rfl,hD,.str x (by have:=R.ln; omega),lk,fun z=>?_,fun x' ws' ev hw=>?_⟩
  ·have z1:=z x rfl
   rw [R.row] at z1
   cases z1
  ·cases V.str.inj ev
   rw [R.row] at hw
   cases hw
   obtain ⟨q1,q2⟩:=q Q' E' hQ hE
   exact ⟨R.ne,by have:=R.few; omega,fun y hy=>by have:=R.each y hy; omega,q1,q2⟩⟩
theorem GoR.up {H':Hp} {i:Nat} (q:GoR H Q i) (g:Same H H'):GoR H' Q i:=fun p H'' g' hp=>q p H'' (g.trans g') hp
theorem jK {aw x:Str} (hD:DeskAt H d Cl dx k pm kvs) (lk:kvs.length≤1000) (va:valV kvs (.inr aw) = none) (no:NoN aw x) (q:GoR H Q 1):yR Cl CR CN CT [.ref d,.str x] H Q E:=by
 obtain ⟨ws,R,i,y,hi,bad⟩:=no
 refine ju R hD lk fun Q' E' hQ hE=>⟨fun _ H' g=>hE 1 CN H' rfl (q.up g),fun ok=>?_⟩
 have:=ok i y hi
 unfold nmOk at this
 rcases bad with e | ⟨rfl,e⟩
 ·rw [e] at this; cases this
 ·rw [va] at this
  rcases e with e | e
  ·rw [decide_eq_false e] at this; simp at this
  ·rw [e] at this; simp at this
theorem zai {y:Str}:namesOk kvs [Str.ofString "kind",y]:=fun i x hx=>by
 rw [show namesW [Str.ofString "kind",y] = [] from if_pos rfl] at hx
 cases hx
theorem zfA {r:List Str}:newW (Str.ofString "machine" :: r) = true:=by
 show inV (.str (Str.ofString "machine")) [.str "machine",.str "core"] = true
 decide +kernel
theorem zcy {n y:Str} (h:nameW n = true):namesOk kvs [Str.ofString "machine",n,y]:=fun i x hx=>by
 rw [ZA (by decide +kernel) (by decide +kernel)] at hx
 match i,hx with
 | 0,hx =>
  cases hx
  unfold nmOk
  rw [h,zfA]
  rfl
theorem Qd {n y:Str} {v:V} (h:nameW n = true) (hv:valV kvs (.inr n) = some v):namesOk kvs [Str.ofString "run",n,y]:=fun i x hx=>by
 rw [ZA (by decide +kernel) (by decide +kernel)] at hx
 match i,hx with
 | 0,hx =>
  cases hx
  unfold nmOk
  rw [h,hv]
  simp
theorem zcz {n n':Str} {v v':V} (h:nameW n = true) (h':nameW n' = true) (hv:valV kvs (.inr n) = some v) (hv':valV kvs (.inr n') = some v'):namesOk kvs [Str.ofString "alike",n,n']:=fun i x hx=>by
 rw [XX (by decide +kernel) (by decide +kernel)] at hx
 match i,hx with
 | 0,hx =>
  cases hx
  unfold nmOk
  rw [h,hv]
  simp
 | 1,hx =>
  cases hx
  unfold nmOk
  rw [h',hv']
  simp
theorem zcl {m:Mc} {p:Addr} {y:Str} (hk:KindS k) (I:McIs m k) (hD:DeskAt H d Cl dx k pm kvs) (M:MachO H k m p) (ly:y.length≤9999) (bad:runB k m.n m.h y = true) {Q':VK} {E':XK} (q:∀ H',Same H H'→E' (.ref CT) none H'):Zp Cl CT [.ref d,.ref p,.str y] H Q' E':=by
 obtain ⟨ta,tb,tc,ra,rb,rc,M⟩:=M
 refine ⟨d,dx,pm,k,kvs,y,_,_,_,p,ta,tb,tc,ra,rb,rc,rfl,hD,hk,by omega,M,I.nb,fun _=>q,fun _ _ _ _=>q,fun S U hT hf=>?_⟩
 unfold runB at bad
 rw [hT] at bad
 unfold fitB at hf
 rw [I.la,I.lb] at hf
 dsimp only at bad
 rw [hf] at bad
 cases bad
theorem Qz {n0 n1 n2 x:Str} {p0 p1:Addr} (hk:KindS k) (D:DkI H Cl d k n0 n1 n2 dx pm kvs p0 p1) (w0:nameW n0 = true) (w1:nameW n1 = true) (w2:nameW n2 = true) (no:NoT n0 n1 [n0,n1,n2] x) (q:GoR H Q 2):yR Cl CR CN CT [.ref d,.str x] H Q E:=by
 obtain ⟨ws,R,no⟩:=no
 refine ju R D.at_ D.lk fun Q' E' hQ hE=>?_
 have no2:∀ H',Same H H'→E' (.ref CT) none H':=fun H' g=>hE 2 CT H' rfl (q.up g)
 rcases no with ⟨y,rfl,e⟩ | ⟨n,y,hn,rfl,e⟩ | ⟨y,rfl,e⟩ | ⟨y,rfl,e⟩
 ·refine ⟨fun z=>absurd zai z,fun _=>.inl ⟨y,rfl,fun H' g=>⟨d,dx,pm,k,kvs,y,rfl,⟨g _ _ D.at_.1,g _ _ D.at_.2⟩,fun k' r pm' H'' e'=>?_,fun _ H'' g'=>no2 H'' (g.trans g')⟩⟩⟩
  rw [e] at e'; cases e'
 ·have wn:nameW n = true:=by
   rcases List.mem_cons.mp hn with rfl | hn
   ·exact w0
   ·rcases List.mem_cons.mp hn with rfl | hn
    ·exact w1
    ·rw [List.mem_singleton.mp hn]; exact w2
  have ly:=R.each y (by simp)
  refine ⟨fun z=>absurd (zcy wn) z,fun _=>.inr (.inl ⟨n,y,rfl,fun H' g=>⟨d,dx,pm,k,kvs,n,y,rfl,⟨g _ _ D.at_.1,g _ _ D.at_.2⟩,hk,by omega,D.lk,fun A B C p ta tb tc ra rb rc H'' e'=>?_,fun _ H'' g'=>no2 H'' (g.trans g')⟩⟩)⟩
  rw [e k hk] at e'; cases e'
 ·have ly:=R.each y (by simp)
  refine ⟨fun z=>absurd (Qd w0 D.v0) z,fun _=>.inr (.inr (.inr ⟨n0,y,p0,rfl,D.v0,fun H' g=>?_⟩))⟩
  exact zcl hk (XD hk (mcK0 hk)) ⟨g _ _ D.at_.1,g _ _ D.at_.2⟩ (D.m0.mono g) ly (e k hk) fun H'' g'=>no2 H'' (g.trans g')
 ·have ly:=R.each y (by simp)
  refine ⟨fun z=>absurd (Qd w1 D.v1) z,fun _=>.inr (.inr (.inr ⟨n1,y,p1,rfl,D.v1,fun H' g=>?_⟩))⟩
  exact zcl hk (XD hk (mcK1 hk)) ⟨g _ _ D.at_.1,g _ _ D.at_.2⟩ (D.m1.mono g) ly (e k hk) fun H'' g'=>no2 H'' (g.trans g')
theorem QK {m:Mc} {n x:Str} {p:Addr} (hk:KindS k) (I:McIs m k) (hD:DeskAt H d Cl dx k pm kvs) (lk:kvs.length≤1000) (hn:nameW n = true) (hv:valV kvs (.inr n) = some (.ref p)) (M:MachO H k m p) (R:RowIs x [Str.ofString "run",n,m.r]) (q:∀ H',Same H H'→Q (.str m.y) H'):yR Cl CR CN CT [.ref d,.str x] H Q E:=by
 refine ju R hD lk fun Q' E' hQ hE=>⟨fun z=>absurd (Qd hn hv) z,fun _=>.inr (.inr (.inr ⟨n,m.r,p,rfl,hv,fun H' g=>?_⟩))⟩
 obtain ⟨ta,tb,tc,ra,rb,rc,M⟩:=M.mono g
 have lr:=I.lr
 refine ⟨d,dx,pm,k,kvs,m.r,_,_,_,p,ta,tb,tc,ra,rb,rc,rfl,⟨g _ _ hD.1,g _ _ hD.2⟩,hk,by omega,M,I.nb,fun z=>?_,fun S U z f=>?_,fun S U z f=>?_⟩
 ·rw [I.tabs] at z; cases z
 ·rw [I.tabs] at z
  cases z
  rw [I.fit] at f
  cases f
 ·rw [I.tabs] at z
  cases z
  refine ⟨I.run,fun y H'' g' e=>hQ _ _ ?_⟩
  rw [show y = m.y from xD (e.trans I.sh)]
  exact q H'' (g.trans g')
theorem zaI {n0 n1 n2 x:Str} {p0 p1:Addr} (hk:KindS k) (D:DkI H Cl d k n0 n1 n2 dx pm kvs p0 p1) (w0:nameW n0 = true) (w1:nameW n1 = true) (R:RowIs x [Str.ofString "alike",n0,n1]) (q:∀ H',Same H H'→Q (.str "no") H'):yR Cl CR CN CT [.ref d,.str x] H Q E:=by
 refine ju R D.at_ D.lk fun Q' E' hQ hE=>⟨fun z=>absurd (zcz w0 w1 D.v0 D.v1) z,fun _=>.inr (.inr (.inl ?_))⟩
 obtain ⟨ta,tb,tc,ra,rb,rc,M⟩:=D.m0
 obtain ⟨ta2,tb2,tc2,ra2,rb2,rc2,M2⟩:=D.m1
 have I0:=XD hk (mcK0 hk)
 have I1:=XD hk (mcK1 hk)
 exact ⟨n0,n1,_,_,_,_,_,_,p0,ta,tb,tc,p1,ta2,tb2,tc2,ra,rb,rc,ra2,rb2,rc2,rfl,D.v0,D.v1,M,M2,I0.nb,I1.nb,by rw [I0.lb,I1.lb]; decide,fun H' g=>hQ _ _ (q H' g)⟩
theorem qO {m:Mc} {n x:Str} (hk:KindS k) (I:McIs m k) (hD:DeskAt H d Cl dx k pm kvs) (lk:kvs.length≤1000) (hn:nameW n = true) (R:RowIs x [Str.ofString "machine",n,m.t]) (q:∀ p H',SameX pm H H'→DeskAt H' d Cl dx k pm (putK kvs (.inr n) (.ref p))→MachO H' k m p→Q (.str "ok") H'):yR Cl CR CN CT [.ref d,.str x] H Q E:=by
 refine ju R hD lk fun Q' E' hQ hE=>⟨fun z=>absurd (zcy hn) z,fun _=>.inr (.inl ⟨n,m.t,rfl,fun H' g=>?_⟩)⟩
 have lt:=I.lt
 refine ⟨d,dx,pm,k,kvs,n,m.t,rfl,⟨g _ _ hD.1,g _ _ hD.2⟩,hk,by omega,lk,fun A B C p ta tb tc ra rb rc H'' e g' hD' M=>?_,fun z=>?_⟩
 ·rw [I.mach] at e
  cases e
  exact hQ _ _ (q p H'' ((Same.x g).trans g') hD' ⟨_,_,_,_,_,_,M⟩)
 ·rw [I.mach] at z; cases z
theorem Xx {k':Int} {x y:Str} {r:List Int} (hD:DeskAt H d Cl dx k pm kvs) (lk:kvs.length≤1000) (e:kindsW y = k' :: r) (R:RowIs x [Str.ofString "kind",y]) (q:∀ pm' H',SameX d H H'→DeskAt H' d Cl dx k' pm' []→Q (.str "ok") H'):yR Cl CR CN CT [.ref d,.str x] H Q E:=by
 refine ju R hD lk fun Q' E' hQ hE=>⟨fun z=>absurd zai z,fun _=>.inl ⟨y,rfl,fun H' g=>?_⟩⟩
 refine ⟨d,dx,pm,k,kvs,y,rfl,⟨g _ _ hD.1,g _ _ hD.2⟩,fun k2 r2 pm' H'' e2 g' hD'=>?_,fun z=>?_⟩
 ·rw [e] at e2
  cases e2
  exact hQ _ _ (q pm' H'' ((Same.x g).trans g') hD')
 ·rw [e] at z; cases z
end
noncomputable def RowD (a:Nat) (ts:List Nat) (H:Hp) (v:V) (m:Nat):Prop:=(m = 0∧NoR H v)∨(m = 1∧∃ x,v = .str x∧NoN (nmK a ts 2) x)∨(m = 2∧∃ x,v = .str x∧NoT (nmK a ts 0) (nmK a ts 1) [nmK a ts 0,nmK a ts 1,nmK a ts 2] x)
theorem NoR.mono {H H':Hp} {v:V} (h:NoR H v) (g:Same H H'):NoR H' v:=by
 obtain ⟨r,n⟩:=h
 refine ⟨?_,n⟩
 cases r with
 | str x l=>exact .str x l
 | non=>exact .non
 | int i=>exact .int i
 | lst p xs h=>exact .lst p xs (g _ _ h)
 | tup p xs h=>exact .tup p xs (g _ _ h)
noncomputable def zcs:Sp:=fun vs H Q _=>∃ (pn:Addr) (a:Nat) (ts:List Nat) (c:Int),vs = [.ref pn,.int c]∧H pn = some (.lst [.str (nmK a ts 0),.str (nmK a ts 1),.str (nmK a ts 2)])∧ts.length≤7∧smallW ts∧∀ v (m:Nat) p H',Same H H'→H' p = some (.lst [v,.int (m:Int)])→RowD a ts H' v m→Q (.ref p) H'
theorem zfx (D:Df K mg "_law_row" ["_law_names_here", "_law_cell"] jD) (zA:Kn P w K mg base "_law_mix" 1 ["_law_cell", "_law_j"] Zr) (YO:Kn P w K mg base "_law_no_row" 2 ["_law_names_here", "_law_cell"] QV) (ZO:Kn P w K mg base "_law_no_name" 2 ["_law_names_here", "_law_cell"] Jt) (Yb:Kn P w K mg base "_law_no_text" 2 ["_law_names_here", "_law_cell"] Jc):Kn P w K mg base "_law_row" 3 ["_law_names_here", "_law_cell"] zcs:=by
 refine D.kn sc__law_row (fun vs H Q E h=>?_) (fun f cdv A outer s H vs Q E hr h=>?_)
 ·obtain ⟨pn,a,ts,c,rfl,_⟩:=h; rfl
 obtain ⟨pn,a,ts,c,rfl,hn,lt,st,q⟩:=h
 refine ⟨_,(zb (zp (i:=2) sc__law_row.nd rfl (.inl rfl) (zk zG (zE zA hr (za (pv 1) (za ze zc))) ze)) (zb (zV (zr xi (pv 2) ze (nomark _)) (zi (zt (zM (za (zE YO hr (za (pv 0) (za (pv 1) zc))) (za ze zc))))) zx) (zb (zV (zr xi (pv 2) ze (nomark _)) (zi (zt (zM (za (zE ZO hr (za (pv 0) (za (pv 1) zc))) (za ze zc))))) zx) (zi (zt (zM (za (zE Yb hr (za (pv 0) (za (pv 1) zc))) (za ze zc)))))))),?_⟩
 refine ⟨_,rfl,c,29,rfl,(by decide),(by decide),_,_,rfl,rfl,(by decide),_,rfl,rfl,_,rfl,?_⟩
 refine ite2 (fun d=>?_) (fun d=>?_)
 ·exact ⟨_,rfl,_,rfl,pn,a,ts,c,rfl,hn,lt,st,fun v H1 g1 no=>⟨(by show 2≤sizeLine; decide),fun p hp=>q v 0 p _ (g1.trans (zh hp _)) zf (.inl ⟨rfl,no.mono (zh hp _)⟩)⟩⟩
 refine ⟨_,rfl,rfl,_,rfl,?_⟩
 refine ite2 (fun d=>?_) (fun d=>?_)
 ·exact ⟨_,rfl,_,rfl,pn,a,ts,c,rfl,hn,lt,st,fun x H1 g1 no=>⟨(by show 2≤sizeLine; decide),fun p hp=>q (.str x) 1 p _ (g1.trans (zh hp _)) zf (.inr (.inl ⟨rfl,x,rfl,no⟩))⟩⟩
 ·exact ⟨_,rfl,_,rfl,pn,a,ts,c,rfl,hn,lt,st,fun x H1 g1 no=>⟨(by show 2≤sizeLine; decide),fun p hp=>q (.str x) 2 p _ (g1.trans (zh hp _)) zf (.inr (.inr ⟨rfl,x,rfl,no⟩))⟩⟩
theorem c_r0:cl (Str.ofString " 1 0 | 1; 0") = 32 :: cl mc0.r:=by decide +kernel
theorem c_r1:cl (Str.ofString " 1 | 0 1; 1 0") = 32 :: cl mc1.r:=by decide +kernel
theorem zhH {n:Str} [Sml n 8] (wn:Wd n):RowIs (Str.ofString "run " ++ n ++ Str.ofString " 1 0 | 1; 0") [Str.ofString "run",n,mc0.r]:=jP (by decide +kernel) (by decide +kernel) c_mac.2.1 wn (by simp only [zC,yH,c_r0,List.append_assoc,List.cons_append,List.nil_append])
theorem zhb {n:Str} [Sml n 8] (wn:Wd n):RowIs (Str.ofString "run " ++ n ++ Str.ofString " 1 | 0 1; 1 0") [Str.ofString "run",n,mc1.r]:=jP (by decide +kernel) (by decide +kernel) c_mac.2.1 wn (by simp only [zC,yH,c_r1,List.append_assoc,List.cons_append,List.nil_append])
theorem zc9 {n:Str} [Sml n 8] (wn:Wd n):NoN n (Str.ofString "rest " ++ n):=by
 obtain ⟨z,e,h⟩:=ja (aw:=n) (x:=Str.ofString "rest " ++ n) (w0:=Str.ofString "rest") (r:=[n]) (i:=1) (by decide +kernel) (Wds.cons (by decide +kernel) (Wds.cons wn .nil)) (by simp only [zC,yg,List.map_cons,List.map_nil,join2,List.append_assoc,List.cons_append,List.nil_append]) (by decide +kernel) (by decide +kernel) rfl (by decide +kernel) (j:=0) rfl (.inr ⟨rfl,.inr (qP (by decide +kernel))⟩)
 rw [V.str.inj e]
 exact h
theorem zas (i:Int):PyData.eqv (intsD [i]) (intsD [i]) = true:=by simp [intsD,PyData.eqv,PyData.eqvAll]
theorem qV (i:Int):(intsD [i]).canLay0 = true:=by simp [intsD,PyData.canLay0,PyData.canLayAll0]
theorem QN (i:Int):(intsD [i]).depth≤5:=by simp [intsD,PyData.depth,PyData.depthAll]
noncomputable def XY (Cl:Addr):Sp:=fun vs H Q _=>∃ (d pn:Addr) (a:Nat) (ts:List Nat) (c k:Int) (dx pm:Addr) (kvs:List (Key×V)) (p0 p1:Addr),vs = [.ref d,.ref pn,.int c]∧H pn = some (.lst [.str (nmK a ts 0),.str (nmK a ts 1),.str (nmK a ts 2)])∧ts.length≤7∧smallW ts∧KindS k∧DkI H Cl d k (nmK a ts 0) (nmK a ts 1) (nmK a ts 2) dx pm kvs p0 p1∧∀ H',Same H H'→Q (.bl true) H'
theorem zcS {Cl CR CN CT:Addr} (D:Df K mg "_law_looked" ["_law_desk", "_law_names_here", "_law_turn"] yZ) (yi:Kn P w K mg base "_law_said" 51 ["_law_desk", "_law_row_here"] (yR Cl CR CN CT)):Kn P w K mg base "_law_looked" 52 ["_law_desk", "_law_names_here", "_law_turn"] (XY Cl):=by
 refine D.kn sc__law_looked (fun vs H Q E h=>?_) (fun f cdv A outer s H vs Q E hr h=>?_)
 ·obtain ⟨d,pn,a,ts,c,k,dx,pm,kvs,p0,p1,rfl,_⟩:=h; rfl
 obtain ⟨d,pn,a,ts,c,k,dx,pm,kvs,p0,p1,rfl,hn,lt,st,hk,D0,q⟩:=h
 have szl:sizeLine = 16777216:=by decide
 refine ⟨_,(zb (zp (i:=3) sc__law_looked.nd rfl (.inl rfl) (zM (za (zM (za (zk zd (zk zd zg (zu zo (pv 1) ze)) zg) (za zg zc))) (za (zM (za (zk zd (zk zd zg (zu zo (pv 1) ze)) zg) (za zg zc))) zc)))) (zb (Zy PassesOwn.never rfl (yB (zM (za (zk zG (pv 2) ze) (za (zk QT ze (zk zG (pv 2) ze)) zc)))) (yd (i:=4) sc__law_looked.nd rfl (.inl rfl)) (zi (zV (zr jG (zE yi hr (za (pv 0) (za (zu zo (zu zo (pv 3) (pv 4)) ze) zc))) (zu zo (zu zo (pv 3) (pv 4)) ze) (nomark _)) (zi (zt zaT)) zx))) (zi (zt (xA (zbv hr) (zE yi hr (za (pv 0) (za (zk zd zg (zu zo (pv 1) ze)) zc))) (zM (za ze zc)) (nomark _)))))),?_⟩
 have i0:Sml (nmK a ts 0) 8:=⟨by rw [xm]; omega⟩
 have i1:Sml (nmK a ts 1) 8:=⟨by rw [xm]; omega⟩
 have i2:Sml (nmK a ts 2) 8:=⟨by rw [xm]; omega⟩
 have w0:Wd (nmK a ts 0):=qu st
 have w1:Wd (nmK a ts 1):=qu st
 have w2:Wd (nmK a ts 2):=qu st
 have m0:nameW (nmK a ts 0) = true:=qD lt st
 have m1:nameW (nmK a ts 1) = true:=qD lt st
 have m2:nameW (nmK a ts 2) = true:=qD lt st
 generalize nmK a ts 0 = n0 at *
 generalize nmK a ts 1 = n1 at *
 generalize nmK a ts 2 = n2 at *
 let x0:Str:=Str.ofString "run " ++ n0 ++ Str.ofString " 1 0 | 1; 0"
 let x1:Str:=Str.ofString "run " ++ n1 ++ Str.ofString " 1 | 0 1; 1 0"
 refine ⟨_,rfl,pn,_,_,.str n0,rfl,rfl,SqL.of hn,zm (j:=0) rfl,_,_,rfl,rfl,zq (by decide +kernel),_,_,rfl,rfl,zq (by decide +kernel),(by show 2≤sizeLine; decide),fun pa hpa=>?_⟩
 have g1:=zh hpa (.lst [.str x0,.str mc0.y])
 have ha:upd H pa (.lst [.str x0,.str mc0.y]) pa = some (.lst [.str x0,.str mc0.y]):=zf
 change tVar 1 _ (upd H pa (.lst [.str x0,.str mc0.y])) _
 generalize upd H pa (.lst [.str x0,.str mc0.y]) = H1 at *
 refine ⟨_,rfl,pn,_,_,.str n1,rfl,rfl,SqL.of (g1 _ _ hn),zm (j:=1) rfl,_,_,rfl,rfl,zq (by decide +kernel),_,_,rfl,rfl,zq (by decide +kernel),(by show 2≤sizeLine; decide),fun pb hpb=>?_⟩
 have g2:=zh hpb (.lst [.str x1,.str mc1.y])
 have hb:upd H1 pb (.lst [.str x1,.str mc1.y]) pb = some (.lst [.str x1,.str mc1.y]):=zf
 refine ⟨(by show 2≤sizeLine; decide),fun pc hpc=>?_⟩
 change upd H1 pb (.lst [.str x1,.str mc1.y]) pc = none at hpc
 have g3:=zh hpc (.lst [.ref pa,.ref pb])
 have hc:upd (upd H1 pb (.lst [.str x1,.str mc1.y])) pc (.lst [.ref pa,.ref pb]) pc = some (.lst [.ref pa,.ref pb]):=zf
 change tSeq _ _ _ _ (upd (upd H1 pb (.lst [.str x1,.str mc1.y])) pc (.lst [.ref pa,.ref pb]))
 generalize upd H1 pb (.lst [.str x1,.str mc1.y]) = H2 at *
 generalize upd H2 pc (.lst [.ref pa,.ref pb]) = H3 at *
 have ha3:=(g2.trans g3) _ _ ha
 have hb3:=g3 _ _ hb
 have G3:=(g1.trans g2).trans g3
 obtain ⟨t,ht,et⟩:=yw (x:=c) (m:=2) (by decide)
 refine ⟨_,rfl,_,_,rfl,rfl,(by decide),_,rfl,_,_,rfl,rfl,(by decide),_,_,rfl,rfl,(by show 2≤sizeLine; decide),fun pl hpl=>?_⟩
 have g4:=zh hpl (.lst [.int (c.fmod 2),.int (1 - c.fmod 2)])
 have hl:upd H3 pl (.lst [.int (c.fmod 2),.int (1 - c.fmod 2)]) pl = some (.lst [.int (c.fmod 2),.int (1 - c.fmod 2)]):=zf
 refine ⟨pl,rfl,⟨_,SqL.of hl⟩,?_⟩
 generalize upd H3 pl (.lst [.int (c.fmod 2),.int (1 - c.fmod 2)]) = H4 at *
 have ha4:=g4 _ _ ha3
 have hb4:=g4 _ _ hb3
 have hc4:=g4 _ _ hc
 have G4:=G3.trans g4
 have I0:=XD hk (mcK0 hk)
 have I1:=XD hk (mcK1 hk)
 refine qo (xs:=[.int (c.fmod 2),.int (1 - c.fmod 2)]) (fun i σ H'=>∃ o4,σ = [some (.ref d),some (.ref pn),some (.int c),some (.ref pc),o4]∧Same H4 H') ⟨none,rfl,Same.refl _⟩ ?_ ?_ ?_
 ·rintro i σ H' _ ⟨o4,rfl,g⟩
  exact SqL.of (g _ _ hl)
 rotate_left
 ·rintro σ H5 ⟨o4,rfl,g⟩
  have G5:=G4.trans g
  have D5:=D0.mono G5
  refine ⟨_,rfl,_,rfl,pn,_,_,.str n2,rfl,rfl,SqL.of (G5 _ _ hn),zm (j:=2) rfl,_,_,rfl,rfl,zq (by decide +kernel),?_⟩
  refine jK (E:=E0) D5.at_ D5.lk D5.v2 (zc9 w2) fun p H6 g6 hp=>?_
  refine ⟨(by show 1≤sizeLine; decide),fun p2 hp2=>?_⟩
  have g7:=zh hp2 (.lst [.int 1])
  refine ⟨intsD [1],intsD [1],xw (g7 _ _ hp),xw zf,qV 1,qV 1,Nat.le_trans (Nat.min_le_left _ _) (Nat.le_trans (QN 1) (by decide)),?_⟩
  rw [zas]
  exact q _ ((G5.trans g6).trans g7)
 rintro i v σ H5 hv ⟨o4,rfl,g⟩
 have G5:=G4.trans g
 have D5:=D0.mono G5
 have ha5:=g _ _ ha4
 have hb5:=g _ _ hb4
 have hc5:=g _ _ hc4
 have two:v = .int 0∨v = .int 1:=by
  have hm:=List.mem_of_getElem? hv
  rw [show c.fmod 2 = (t:Int) from et] at hm
  rcases List.mem_cons.mp hm with e | e
  ·rw [e]
   match t,ht with
   | 0,_=>exact .inl rfl
   | 1,_=>exact .inr rfl
  ·rw [List.mem_singleton.mp e]
   match t,ht with
   | 0,_=>exact .inr rfl
   | 1,_=>exact .inl rfl
 rcases two with rfl | rfl
 ·refine ⟨_,rfl,_,rfl,_,rfl,pc,_,_,.ref pa,rfl,rfl,SqL.of hc5,zm (j:=0) rfl,pa,_,_,.str x0,rfl,rfl,SqL.of ha5,zm (j:=0) rfl,?_⟩
  refine QK (E:=E0) hk I0 D5.at_ D5.lk m0 D5.v0 D5.m0 (zhH w0) fun H6 g6=>?_
  refine ⟨_,rfl,_,rfl,pc,_,_,.ref pa,rfl,rfl,SqL.of (g6 _ _ hc5),zm (j:=0) rfl,pa,_,_,.str mc0.y,rfl,rfl,SqL.of (g6 _ _ ha5),zm (j:=1) rfl,rfl,_,rfl,?_⟩
  rw [decide_eq_true rfl]
  exact iteF ⟨_,rfl,g.trans g6⟩
 ·refine ⟨_,rfl,_,rfl,_,rfl,pc,_,_,.ref pb,rfl,rfl,SqL.of hc5,zm (j:=1) rfl,pb,_,_,.str x1,rfl,rfl,SqL.of hb5,zm (j:=0) rfl,?_⟩
  refine QK (E:=E0) hk I1 D5.at_ D5.lk m1 D5.v1 D5.m1 (zhb w1) fun H6 g6=>?_
  refine ⟨_,rfl,_,rfl,pc,_,_,.ref pb,rfl,rfl,SqL.of (g6 _ _ hc5),zm (j:=1) rfl,pb,_,_,.str mc1.y,rfl,rfl,SqL.of (g6 _ _ hb5),zm (j:=1) rfl,rfl,_,rfl,?_⟩
  rw [decide_eq_true rfl]
  exact iteF ⟨_,rfl,g.trans g6⟩
noncomputable def zcD (Cl:Addr):Sp:=fun vs H Q _=>∃ (d dx:Addr),vs = [.ref d]∧H d = some (.ins Cl dx [])∧∀ pm H',SameX d H H'→DeskAt H' d Cl dx 0 pm []→Q .non H'
theorem zgh {Cl:Addr} (C_D:DeskC K Cl) (D:Di K mg Cl "Desk" "Desk.__init__" ["self"] xH):Mi P w K mg base Cl "Desk" 1 ["self"] (zcD Cl):=by
 refine D.mi XU (fun vs H Q E h=>?_) (fun f cdv A outer s H vs Q E hr h=>?_)
 ·obtain ⟨d,dx,rfl,_⟩:=h; rfl
 obtain ⟨d,dx,rfl,hd,q⟩:=h
 refine ⟨_,(zb (QR (pv 0) ze rfl) (zi (QR (pv 0) QX rfl))),?_⟩
 refine ⟨_,rfl,d,Cl,dx,_,rfl,hd,C_D.c,C_D.nk,(by show 0 < 1000; decide),?_⟩
 have hd1:upd H d (.ins Cl dx [(("kind" : Str),V.int 0)]) d = some (.ins Cl dx [(("kind" : Str),V.int 0)]):=zf
 have gx:SameX d H (upd H d (.ins Cl dx [(("kind" : Str),V.int 0)])):=SameX.upd
 rw [show putF "kind" (.int 0) [] = [(("kind" : Str),V.int 0)] from rfl]
 generalize upd H d (.ins Cl dx [(("kind" : Str),V.int 0)]) = H2 at *
 refine fun pm' hpm'=>?_
 have nd:d≠pm':=fun z=>by rw [← z,hd1] at hpm'; cases hpm'
 refine ⟨_,rfl,d,Cl,dx,_,rfl,(by rw [zw nd]; exact hd1),C_D.c,C_D.nm,(by show 1 < 1000; decide),?_⟩
 have e2:putF "machines" (.ref pm') [(("kind" : Str),V.int 0)] = dkF 0 pm':=rfl
 rw [e2]
 exact q pm' _ ((gx.trans (Same.x (zh hpm' _))).trans SameX.upd) ⟨zf,by rw [zw (Ne.symm nd)]; exact zf⟩
theorem ze1 {H:Hp} {ds:List PyData} {vs:List V} {a:Addr} (h:H a = some (.lst vs)) (r:Rps H ds vs):Rp H (.list ds) (.ref a):=by
 simp only [Rp]
 exact ⟨a,_,rfl,h,r⟩
theorem zad:(PyData.list [intsD [1],intsD [1],intsD [1]]).canLay0 = true:=by simp [intsD,PyData.canLay0,PyData.canLayAll0]
theorem zeo:(PyData.list [intsD [1],intsD [1],intsD [1]]).depth≤60:=by simp [intsD,PyData.depth,PyData.depthAll]
theorem zd3:PyData.eqv (.list [intsD [1],intsD [1],intsD [1]]) (.list [intsD [1],intsD [1],intsD [1]]) = true:=by simp [intsD,PyData.eqv,PyData.eqvAll]
theorem cutN {ns:List Int} (N:Nat):cutV (ns.map V.int) none (some (N:Int)) = (ns.take N).map V.int:=by rw [cutTo,List.map_take]
theorem c_t0:cl (Str.ofString " 0 1; 1 0 | 0; 0 | 1 0; 0 1") = 32 :: cl mc0.t:=by decide +kernel
theorem c_t1:cl (Str.ofString " 0 | 1 0 | 1") = 32 :: cl mc1.t:=by decide +kernel
theorem zhG {n:Str} [Sml n 8] (wn:Wd n):RowIs (Str.ofString "machine " ++ n ++ Str.ofString " 0 1; 1 0 | 0; 0 | 1 0; 0 1") [Str.ofString "machine",n,mc0.t]:=jP (by decide +kernel) (by decide +kernel) c_mac.1 wn (by simp only [zC,zy,c_t0,List.append_assoc,List.cons_append,List.nil_append])
theorem zg7 {n:Str} [Sml n 8] (wn:Wd n):RowIs (Str.ofString "machine " ++ n ++ Str.ofString " 0 | 1 0 | 1") [Str.ofString "machine",n,mc1.t]:=jP (by decide +kernel) (by decide +kernel) c_mac.1 wn (by simp only [zC,zy,c_t1,List.append_assoc,List.cons_append,List.nil_append])
theorem zgx {n n':Str} [Sml n 8] [Sml n' 8] (wn:Wd n) (wn':Wd n'):RowIs (Str.ofString "alike " ++ n ++ Str.ofString " " ++ n') [Str.ofString "alike",n,n']:=by
 have e:cl (Str.ofString "alike " ++ n ++ Str.ofString " " ++ n') = joinN [32] ([Str.ofString "alike",n,n'].map cl):=by simp only [zC,zO,yI,List.map_cons,List.map_nil,join3,List.append_assoc,List.cons_append,List.nil_append]
 exact Ja (by decide +kernel) e (Qw (i:=2) (Wds.cons (by decide +kernel) (Wds.cons wn (Wds.cons wn' .nil))).all e (by decide +kernel) (by decide +kernel) rfl) (List.cons_ne_nil _ _) (Nat.le_refl 3)
theorem zbq:kindsL.all (fun k=>decide (kindsW (Str.ofString (toString k)) = [k]) && decide ((Str.ofString (toString k)).length≤8) && decide (Wd (Str.ofString (toString k))) && decide (k.natAbs.log2 < 1920)) = true:=by decide +kernel
theorem zcX {k:Int} (h:KindS k):kindsW (Str.ofString (toString k)) = [k]∧(Str.ofString (toString k)).length≤8∧Wd (Str.ofString (toString k))∧k.natAbs.log2 < 1920:=by
 have:=List.all_eq_true.mp zbq k (YB h)
 simp only [Bool.and_eq_true,decide_eq_true_eq] at this
 exact ⟨this.1.1.1,this.1.1.2,this.1.2,this.2⟩
noncomputable def Told (H:Hp) (Cl d:Addr) (k:Int) (n0 n1:Str):Nat→Prop
 | 0=>∃ dx pm,DeskAt H d Cl dx 0 pm []
 | 1=>∃ dx pm,DeskAt H d Cl dx k pm []
 | 2=>∃ dx pm p0,DeskAt H d Cl dx k pm (putK [] (.inr n0) (.ref p0))∧MachO H k mc0 p0
 | _=>∃ dx pm p0 p1,DeskAt H d Cl dx k pm (putK (putK [] (.inr n0) (.ref p0)) (.inr n1) (.ref p1))∧MachO H k mc0 p0∧MachO H k mc1 p1
theorem MachO.x {H H':Hp} {k:Int} {m:Mc} {p d:Addr} (h:MachO H k m p) (n:NoSeq H d) (g:SameX d H H'):MachO H' k m p:=by
 obtain ⟨ta,tb,tc,ra,rb,rc,M⟩:=h
 exact ⟨ta,tb,tc,ra,rb,rc,MachAt.x M n g⟩
theorem zhf {f:Addr} {fd:FuncData} {Cl CR CN CT:Addr} (F:Fun K "law" "law" zdN f fd) (Qy:Kn P w K mg base "_law_kind" 41 ["_law_drawn"] zcp) (zA:Kn P w K mg base "_law_mix" 1 ["_law_cell", "_law_j"] Zr) (XN:Kn P w K mg base "_law_names" 2 ["_law_cell"] Jj) (Qr:Mi P w K mg base Cl "Desk" 1 ["self"] (zcD Cl)) (yi:Kn P w K mg base "_law_said" 51 ["_law_desk", "_law_row_here"] (yR Cl CR CN CT)) (zaO:Kn P w K mg base "_law_row" 3 ["_law_names_here", "_law_cell"] zcs) (YZ:Kn P w K mg base "_law_looked" 52 ["_law_desk", "_law_names_here", "_law_turn"] (XY Cl)) (m_sum:mg "sum" = none) (m_str:mg "str" = none) :
  FnOk P w K mg base CX0 53 f fd ["_law_script"] (spLaw K):=by
 refine F.ok sc_law (fun vs H Q E h=>?_) (fun cdv A outer s H vs Q E hr h=>?_)
 ·obtain ⟨a,ns,rfl,_⟩:=h; rfl
 obtain ⟨a,ns,rfl,hS,h63,q⟩:=h
 have szl:sizeLine = 16777216:=by decide
 refine ⟨_,(zb (zp (i:=1) sc_law.nd rfl (.inl rfl) (zk jl (xT (zee (K:=K) rfl) (pv 0) qH (jb ze)) (zM (za ze zc)))) (zb (zp (i:=2) sc_law.nd rfl (.inl rfl) (zv (XW (K:=K) rfl rfl) rfl m_sum zeE (za (pv 1) zc))) (zb (zp (i:=3) sc_law.nd rfl (.inl rfl) (zE Qy hr (za (zE zA hr (za (pv 2) (za ze zc))) zc))) (zb (zp (i:=4) sc_law.nd rfl (.inl rfl) (zE XN hr (za (pv 2) zc))) (zb (zp (i:=5) sc_law.nd rfl (.inr rfl) (zgK Qr hr rfl)) (zb (zp (i:=6) sc_law.nd rfl (.inl rfl) (zM (za (zk zd zg (yQ yO rfl m_str Zx (za (pv 3) zc))) (za (zk zd (zk zd zg (zu (Ze (K:=K) rfl) (pv 4) ze)) zg) zc)))) (zb (Zy PassesOwn.never rfl (Yt (K:=K) rfl (zk jl (pv 6) (zM (za (zk zd (zk zd zg (zu (Ze (K:=K) rfl) (pv 4) ze)) zg) zc)))) (yd (i:=7) sc_law.nd rfl (.inl rfl)) (zi (zV (zr jG (zE yi hr (za (pv 5) (za (pv 7) zc))) zg (nomark _)) (zi (zt zaT)) zx))) (zb (Zy PassesOwn.never rfl (Yt (K:=K) rfl (pv 1)) (yd (i:=8) sc_law.nd rfl (.inl rfl)) (zb (zgC (zE zaO hr (za (pv 4) (za (pv 8) zc))) (zfT (K:=K) 2 rfl rfl (xu (yd (i:=7) sc_law.nd rfl (.inl rfl)) (xu (yd (i:=9) sc_law.nd rfl (.inl rfl)) Xc)))) (zi (zV (PW.pt (pw_or (zr (zgj hr) (zE yi hr (za (pv 5) (za (pv 7) zc))) (zM (za (pv 9) zc)) (nomark _)) (pw_or1 (jd (xb (zE YZ hr (za (pv 5) (za (pv 4) (za (zE zA hr (za (pv 8) (za ze zc))) zc))))))))) (zi (zt zaT)) zx)))) (zb (zV (PW.pt (pw_or (zr jG (zE yi hr (za (pv 5) (za (zk zd (zk zd (zk zd zg (zu (Ze (K:=K) rfl) (pv 4) ze)) zg) (zu (Ze (K:=K) rfl) (pv 4) ze)) zc))) zg (nomark _)) (pw_or1 (zr jG (zE yi hr (za (pv 5) (za (zk zd zg (yQ yO rfl m_str Zx (za (pv 3) zc))) zc))) zg (nomark _))))) (zi (zt zaT)) zx) (zi (zt (xA (zbv hr) (ZT ["_law_desk"] [5] (Yt (K:=K) rfl (pv 4)) fun _ _ _ _ _ _=>⟨yv,(zE yi hr (za (pv 1) (za (zk zd zg (pv 0)) zc)))⟩) (zM (za (zM (za ze zc)) (za (zM (za ze zc)) (za (zM (za ze zc)) zc)))) (nomark _))))))))))))),?_⟩
 refine ⟨_,rfl,_,rfl,a,_,rfl,hS,fun p1 hp1=>?_⟩
 refine ⟨(by show 1≤sizeLine; decide),fun p2 hp2=>?_⟩
 have n12:p1≠p2:=fun e=>by rw [e,zf] at hp2; cases hp2
 rw [show ((50:Int)) = ((50:Nat):Int) from rfl,cutN 50] at *
 refine ⟨p1,p2,_,_,rfl,rfl,(by rw [zw n12]; exact zf),zf,?_,fun p3 hp3=>?_⟩
 ·rw [List.length_map,List.length_take]; show min 50 ns.length + 1≤sizeLine; omega
 have e3:(ns.take 50).map V.int ++ [V.int 0] = (ns.take 50 ++ [0]).map V.int:=by simp
 rw [e3]
 generalize ns.take 50 ++ [0] = cs
 have h3:upd (upd (upd H p1 (.lst ((ns.take 50).map V.int))) p2 (.lst [.int 0])) p3 (.lst (cs.map V.int)) p3 = some (.lst (cs.map V.int)):=zf
 refine ⟨_,rfl,p3,cs,rfl,SqL.of h3,?_⟩
 generalize upd (upd (upd H p1 (.lst ((ns.take 50).map V.int))) p2 (.lst [.int 0])) p3 (.lst (cs.map V.int)) = H3 at *
 clear hp3 hp2 hp1 n12
 generalize cs.sum = tt
 refine ⟨_,rfl,tt,1,rfl,(by decide),(by decide),_,rfl,fun k hk=>?_⟩
 refine ⟨_,rfl,tt,rfl,fun a0 ts pn H4 ha lt st g4 hn=>?_⟩
 have h4:=g4 _ _ h3
 clear h3 g4 H3
 have i0:Sml (nmK a0 ts 0) 8:=⟨by rw [xm]; omega⟩
 have i1:Sml (nmK a0 ts 1) 8:=⟨by rw [xm]; omega⟩
 have i2:Sml (nmK a0 ts 2) 8:=⟨by rw [xm]; omega⟩
 have w0:Wd (nmK a0 ts 0):=qu st
 have w1:Wd (nmK a0 ts 1):=qu st
 have w2:Wd (nmK a0 ts 2):=qu st
 have m0:nameW (nmK a0 ts 0) = true:=qD lt st
 have m1:nameW (nmK a0 ts 1) = true:=qD lt st
 have m2:nameW (nmK a0 ts 2) = true:=qD lt st
 have n01:nmK a0 ts 1≠nmK a0 ts 0:=zfv (by decide) (by decide) (by decide)
 have n20:nmK a0 ts 2≠nmK a0 ts 0:=zfv (by decide) (by decide) (by decide)
 have n21:nmK a0 ts 2≠nmK a0 ts 1:=zfv (by decide) (by decide) (by decide)
 have I0:=XD hk (mcK0 hk)
 have I1:=XD hk (mcK1 hk)
 obtain ⟨ek,lks,wks,kl⟩:=zcX hk
 refine fun d dx hd hdx nd=>?_
 refine ⟨d,dx,rfl,zf,fun pm H5 g5 D5=>⟨rfl,?_⟩⟩
 have keep5:∀ b u,H4 b = some u→H5 b = some u:=fun b u hb=>by
  have nb:b≠d:=fun e=>by rw [e,hd] at hb; cases hb
  have nb2:b≠dx:=fun e=>by rw [e,hdx] at hb; cases hb
  refine g5 b u nb ?_
  rw [zw nb,zw nb2]
  exact hb
 have h5:=keep5 _ _ h4
 have hn5:=keep5 _ _ hn
 clear keep5 g5 h4 hn hd hdx nd H4
 refine ⟨_,rfl,k,rfl,kl,?_⟩
 have iks:Sml (Str.ofString (toString k)) 8:=⟨lks⟩
 have rk:RowIs (Str.ofString "kind " ++ Str.ofString (toString k)) [Str.ofString "kind",Str.ofString (toString k)]:=by
  generalize Str.ofString (toString k) = ks at *
  exact QH (by decide +kernel) wks (by simp only [zC,ya,List.append_assoc,List.cons_append,List.nil_append])
 have sk:(Str.ofString "kind ").length + (Str.ofString (toString k)).length≤sizeLine:=by
  rw [show (Str.ofString "kind ").length = 5 by decide +kernel]; omega
 have ak:(Str.ofString "kind " ++ Str.ofString (toString k)).length≤9999:=rk.ln
 let xk:Str:=Str.ofString "kind " ++ Str.ofString (toString k)
 let x0:Str:=Str.ofString "machine " ++ nmK a0 ts 0 ++ Str.ofString " 0 1; 1 0 | 0; 0 | 1 0; 0 1"
 let x1:Str:=Str.ofString "machine " ++ nmK a0 ts 1 ++ Str.ofString " 0 | 1 0 | 1"
 refine ⟨_,_,rfl,rfl,sk,_,rfl,pn,_,_,.str (nmK a0 ts 0),rfl,rfl,SqL.of hn5,zm (j:=0) rfl,_,_,rfl,rfl,zq (by decide +kernel),_,_,rfl,rfl,zq (by decide +kernel),(by show 2≤sizeLine; decide),fun pr hpr=>?_⟩
 have g6:=zh hpr (.lst [.str xk,.str x0])
 have hr6:upd H5 pr (.lst [.str xk,.str x0]) pr = some (.lst [.str xk,.str x0]):=zf
 change tSeq _ _ _ _ (upd H5 pr (.lst [.str xk,.str x0]))
 generalize upd H5 pr (.lst [.str xk,.str x0]) = H6 at *
 refine ⟨_,rfl,_,rfl,pn,_,_,.str (nmK a0 ts 1),rfl,rfl,SqL.of (g6 _ _ hn5),zm (j:=1) rfl,_,_,rfl,rfl,zq (by decide +kernel),_,_,rfl,rfl,zq (by decide +kernel),(by show 1≤sizeLine; decide),fun pr2 hpr2=>?_⟩
 have g7:=zh hpr2 (.lst [.str x1])
 have hr7:upd H6 pr2 (.lst [.str x1]) pr2 = some (.lst [.str x1]):=zf
 refine ⟨pr,pr2,_,_,rfl,rfl,g7 _ _ hr6,hr7,(by show 3≤sizeLine; decide),fun pr3 hpr3=>?_⟩
 generalize upd H6 pr2 (.lst [.str x1]) = H7 at *
 have g8:=zh hpr3 (.lst ([.str xk,.str x0] ++ [.str x1]))
 have hr8:upd H7 pr3 (.lst ([.str xk,.str x0] ++ [.str x1])) pr3 = some (.lst ([.str xk,.str x0] ++ [.str x1])):=zf
 refine ⟨pr3,rfl,⟨_,SqL.of hr8⟩,?_⟩
 generalize upd H7 pr3 (.lst ([.str xk,.str x0] ++ [.str x1])) = H8 at *
 have G8:Same H5 H8:=(g6.trans g7).trans g8
 have T0:Told H8 Cl d k (nmK a0 ts 0) (nmK a0 ts 1) 0:=⟨dx,pm,G8 _ _ D5.1,G8 _ _ D5.2⟩
 have h8:=G8 _ _ h5
 have hn8:=G8 _ _ hn5
 clear g6 g7 g8 G8 hr6 hr7 hpr hpr2 hpr3 H6 H7 D5 h5 hn5
 have Rk:RowIs xk [Str.ofString "kind",Str.ofString (toString k)]:=rk
 have R0:RowIs x0 [Str.ofString "machine",nmK a0 ts 0,mc0.t]:=zhG w0
 have R1:RowIs x1 [Str.ofString "machine",nmK a0 ts 1,mc1.t]:=zg7 w1
 have at0:([.str xk,.str x0] ++ [.str x1]:List V)[0]? = some (.str xk):=rfl
 have at1:([.str xk,.str x0] ++ [.str x1]:List V)[1]? = some (.str x0):=rfl
 have at2:([.str xk,.str x0] ++ [.str x1]:List V)[2]? = some (.str x1):=rfl
 have lxs:([.str xk,.str x0] ++ [.str x1]:List V).length = 3:=rfl
 clear_value xk x0 x1
 generalize ([.str xk,.str x0] ++ [.str x1]:List V) = xs at *
 refine qo (xs:=xs) (fun i σ H'=>∃ o7,σ = [some (.ref a),some (.ref p3),some (.int tt),some (.int k),some (.ref pn),some (.ref d),some (.ref pr),o7,none,none]∧H' p3 = some (.lst (cs.map V.int))∧H' pn = some (.lst [.str (nmK a0 ts 0),.str (nmK a0 ts 1),.str (nmK a0 ts 2)])∧H' pr3 = some (.lst xs)∧Told H' Cl d k (nmK a0 ts 0) (nmK a0 ts 1) i) ⟨none,rfl,h8,hn8,hr8,T0⟩ ?_ ?_ ?_
 ·rintro i σ H' _ ⟨o7,rfl,_,_,h,_⟩
  exact SqL.of h
 ·rintro i v σ H' hv ⟨o7,rfl,e3',en,er,T⟩
  have hi:=(List.getElem?_eq_some_iff.mp hv).1
  rw [lxs] at hi
  match i,hi with
  | 0,_ =>
   rw [at0] at hv
   cases hv
   obtain ⟨dx',pm',D'⟩:=T
   have nl:∀ {b:Addr} {xs:List V},H' b = some (.lst xs)→b≠d:=fun h z=>by rw [z,D'.1] at h; cases h
   refine ⟨_,rfl,_,rfl,?_⟩
   refine Xx (E:=E0) D' (Nat.zero_le _) ek Rk fun pm2 H2 g D2=>?_
   refine ⟨rfl,_,rfl,?_⟩
   rw [decide_eq_true rfl]
   exact iteF ⟨_,rfl,g _ _ (nl e3') e3',g _ _ (nl en) en,g _ _ (nl er) er,dx',pm2,D2⟩
  | 1,_ =>
   rw [at1] at hv
   cases hv
   obtain ⟨dx',pm',D'⟩:=T
   have nl:∀ {b:Addr} {xs:List V},H' b = some (.lst xs)→b≠pm':=fun h z=>by rw [z,D'.2] at h; cases h
   refine ⟨_,rfl,_,rfl,?_⟩
   refine qO (E:=E0) hk I0 D' (Nat.zero_le _) m0 R0 fun p H2 g D2 M=>?_
   refine ⟨rfl,_,rfl,?_⟩
   rw [decide_eq_true rfl]
   exact iteF ⟨_,rfl,g _ _ (nl e3') e3',g _ _ (nl en) en,g _ _ (nl er) er,dx',pm',p,D2,M⟩
  | 2,_ =>
   rw [at2] at hv
   cases hv
   obtain ⟨dx',pm',p0,D',M0⟩:=T
   have nl:∀ {b:Addr} {xs:List V},H' b = some (.lst xs)→b≠pm':=fun h z=>by rw [z,D'.2] at h; cases h
   refine ⟨_,rfl,_,rfl,?_⟩
   refine qO (E:=E0) hk I1 D' (Nat.le_trans (xf _ _ _) (by decide)) m1 R1 fun p H2 g D2 M=>?_
   refine ⟨rfl,_,rfl,?_⟩
   rw [decide_eq_true rfl]
   exact iteF ⟨_,rfl,g _ _ (nl e3') e3',g _ _ (nl en) en,g _ _ (nl er) er,dx',pm',p0,p,D2,M0.x (zay D'.2) g,M⟩
 rintro σ H9 ⟨o7,rfl,h9,hn9,_,T9⟩
 rw [lxs] at T9
 obtain ⟨dx',pm',p0,p1,D9,M0,M1⟩:=T9
 have DI:DkI H9 Cl d k (nmK a0 ts 0) (nmK a0 ts 1) (nmK a0 ts 2) dx' pm' (putK (putK [] (.inr (nmK a0 ts 0)) (.ref p0)) (.inr (nmK a0 ts 1)) (.ref p1)) p0 p1:=by
  have nk:∀ {x y:Str},x≠y→¬ ((Sum.inr x:Key) = .inr y):=fun h z=>h (Sum.inr.inj z)
  refine ⟨D9,?_,?_,?_,?_,M0,M1⟩
  ·exact Nat.le_trans (xf _ _ _) (Nat.le_trans (Nat.succ_le_succ (xf _ _ _)) (by decide))
  ·rw [qk,if_neg (nk (Ne.symm n01)),qk,if_pos rfl]
  ·rw [qk,if_pos rfl]
  ·rw [qk,if_neg (nk n21),qk,if_neg (nk n20)]
   rfl
 generalize putK (putK ([]:List (Key×V)) (Sum.inr (nmK a0 ts 0)) (.ref p0)) (Sum.inr (nmK a0 ts 1)) (.ref p1) = kvs at *
 clear h8 hn8 hr8 T0 D9 M0 M1 H8 H5
 refine ⟨_,rfl,p3,rfl,⟨_,SqL.of h9⟩,?_⟩
 refine qo (xs:=cs.map V.int) (fun i σ H'=>∃ o7 o8 o9,σ = [some (.ref a),some (.ref p3),some (.int tt),some (.int k),some (.ref pn),some (.ref d),some (.ref pr),o7,o8,o9]∧Same H9 H') ⟨_,_,_,rfl,Same.refl _⟩ ?_ ?_ ?_
 ·rintro i σ H' _ ⟨o7,o8,o9,rfl,g⟩
  exact SqL.of (g _ _ h9)
 ·rintro i v σ H' hv ⟨o7',o8,o9,rfl,g⟩
  rw [List.getElem?_map] at hv
  obtain ⟨c,_,rfl⟩:=Option.map_eq_some_iff.mp hv
  clear hv
  refine ⟨_,rfl,_,rfl,pn,a0,ts,c,rfl,g _ _ hn9,lt,st,fun v m pq H2 g2 hq R=>?_⟩
  refine ⟨pq,_,rfl,SqL.of hq,rfl,_,_,rfl,_,_,rfl,rfl,?_⟩
  have G2:=g.trans g2
  have D2:=DI.mono G2
  have go:∀ {Q1:VK},GoR H2 Q1 m→yR Cl CR CN CT [.ref d,v] H2 Q1 E0:=fun {Q1} hq1=>by
   rcases R with ⟨rfl,R⟩ | ⟨rfl,x,rfl,R⟩ | ⟨rfl,x,rfl,R⟩
   ·exact zaB D2.at_ D2.lk R hq1
   ·exact jK D2.at_ D2.lk D2.v2 R hq1
   ·exact Qz hk D2 m0 m1 m2 R hq1
  refine ⟨_,rfl,_,rfl,go fun p H4 g4 hp=>?_⟩
  refine ⟨_,rfl,(by show 1≤sizeLine; decide),fun pz hpz=>?_⟩
  have g5:=zh hpz (.lst [.int (m:Int)])
  refine ⟨intsD [(m:Int)],intsD [(m:Int)],xw (g5 _ _ hp),xw zf,qV _,qV _,Nat.le_trans (Nat.min_le_left _ _) (Nat.le_trans (QN _) (by decide)),_,rfl,?_⟩
  rw [zas]
  refine iteF ?_
  generalize upd H4 pz (.lst [.int (m:Int)]) = H5 at *
  have G5:=(G2.trans g4).trans g5
  refine ⟨_,rfl,_,rfl,_,rfl,c,30,rfl,(by decide),(by decide),d,pn,a0,ts,_,k,dx',pm',kvs,p0,p1,rfl,G5 _ _ hn9,lt,st,hk,DI.mono G5,fun H6 g6=>⟨_,rfl,iteF ?_⟩⟩
  exact ⟨_,_,_,rfl,G5.trans g6⟩
 rintro σ H10 ⟨o7',o8,o9,rfl,g⟩
 have D10:=DI.mono g
 have hn10:=g _ _ hn9
 refine ⟨_,rfl,_,rfl,pn,_,_,.str (nmK a0 ts 0),rfl,rfl,SqL.of hn10,zm (j:=0) rfl,_,_,rfl,rfl,zq (by decide +kernel),_,_,rfl,rfl,zq (by decide +kernel),_,rfl,pn,_,_,.str (nmK a0 ts 1),rfl,rfl,SqL.of hn10,zm (j:=1) rfl,_,_,rfl,rfl,zq (by decide +kernel),?_⟩
 refine zaI (E:=E0) hk D10 m0 m1 (zgx w0 w1) fun H11 g11=>?_
 refine ⟨rfl,_,rfl,?_⟩
 rw [decide_eq_true rfl]
 refine iteF ?_
 have D11:=D10.mono g11
 have hn11:=g11 _ _ hn10
 refine ⟨_,rfl,_,rfl,k,rfl,kl,_,_,rfl,rfl,sk,?_⟩
 refine Xx (E:=E0) D11.at_ D11.lk ek rk fun pm2 H12 g12 D12=>?_
 refine ⟨rfl,_,rfl,?_⟩
 rw [decide_eq_true rfl]
 refine iteF ?_
 have hn12:=g12 _ _ (fun z=>by rw [z,D11.at_.1] at hn11; cases hn11) hn11
 refine ⟨_,rfl,pn,rfl,⟨_,SqL.of hn12⟩,?_⟩
 refine yD (xs:=[.str (nmK a0 ts 0),.str (nmK a0 ts 1),.str (nmK a0 ts 2)]) (fun i ys H'=>∃ qs:List Addr,ys = qs.map V.ref∧qs.length = i∧(∀ y∈qs,H' y = some (.lst [.int 1]))∧Same H12 H') ⟨[],rfl,rfl,(fun _ h=>nomatch h),Same.refl _⟩ ?_ ?_ ?_
 ·rintro i ys H' hi ⟨qs,rfl,lq,hq,g⟩
  refine ⟨SqL.of (g _ _ hn12),?_⟩
  have hi:i≤3:=hi
  rw [List.length_map]; omega
 ·rintro i v ys H' hv hi ⟨qs,rfl,lq,hq,g⟩
  obtain ⟨j,hj,rfl⟩ : ∃ j,j < 3∧v = .str (nmK a0 ts j):=by
   have hi:i < 3:=hi
   exact ⟨i,hi,(Option.some.inj (hv.symm.trans (zdM hi)))⟩
  have ij:Sml (nmK a0 ts j) 8:=⟨by rw [xm]; omega⟩
  have wj:Wd (nmK a0 ts j):=qu st
  refine gyes ?_
  refine ⟨_,rfl,_,rfl,_,_,rfl,rfl,zq (by decide +kernel),?_⟩
  refine jK (E:=E0) (kvs:=[]) ⟨g _ _ D12.1,g _ _ D12.2⟩ (Nat.zero_le _) rfl (zc9 wj) fun p H2 g2 hp=>?_
  refine nxt hi ⟨qs ++ [p],by rw [List.map_append]; rfl,by rw [List.length_append,lq]; rfl,fun y hy=>?_,g.trans g2⟩
  rcases List.mem_append.mp hy with h | h
  ·exact g2 _ _ (hq y h)
  ·rw [List.mem_singleton.mp h]; exact hp
 rintro ys H13 ⟨qs,rfl,lq,hq,_⟩ pz hpz
 obtain ⟨q1,q2,q3,rfl⟩ : ∃ q1 q2 q3,qs = [q1,q2,q3]:=by
  have lq:qs.length = 3:=lq
  match qs,lq with
  | [a,b,c],_=>exact ⟨a,b,c,rfl⟩
 have hq1:=hq q1 (by simp)
 have hq2:=hq q2 (by simp)
 have hq3:=hq q3 (by simp)
 have g1:=zh hpz (.lst ([q1,q2,q3].map V.ref))
 have hz:upd H13 pz (.lst ([q1,q2,q3].map V.ref)) pz = some (.lst ([q1,q2,q3].map V.ref)):=zf
 refine ⟨(by show 1≤sizeLine; decide),fun r1 hr1=>⟨(by show 1≤sizeLine; decide),fun r2 hr2=>⟨(by show 1≤sizeLine; decide),fun r3 hr3=>⟨(by show 3≤sizeLine; decide),fun r4 hr4=>?_⟩⟩⟩⟩
 have k1:=zh hr1 (.lst [.int 1])
 have k2:=zh hr2 (.lst [.int 1])
 have k3:=zh hr3 (.lst [.int 1])
 have k4:=zh hr4 (.lst [.ref r1,.ref r2,.ref r3])
 have K1:=(k2.trans k3).trans k4
 have K2:=k3.trans k4
 have GG:=(((g1.trans k1).trans k2).trans k3).trans k4
 refine ⟨.list [intsD [1],intsD [1],intsD [1]],.list [intsD [1],intsD [1],intsD [1]],ze1 ((((k1.trans k2).trans k3).trans k4) _ _ hz) (jv (xw (GG _ _ hq1)) (jv (xw (GG _ _ hq2)) (jv (xw (GG _ _ hq3)) zbB))),ze1 zf (jv (xw (K1 _ _ zf)) (jv (xw (K2 _ _ zf)) (jv (xw (k4 _ _ zf)) zbB))),zad,zad,Nat.le_trans (Nat.min_le_left _ _) zeo,?_⟩
 rw [zd3]
 exact q _
end
theorem zhP:BehindW PySem.Challenge.rw_steermill_k92_refused_rows.prog 5000 lk lv:=⟨followB fR zdd zaS,followB fR zcT zaM,followB fR zbU zbg⟩
theorem zhY {K:PySem.W.Frag} (e:clSh K = some clEx):∃ C CR CN CT CB B,adSh K "Desk" = some C∧adSh K "NoRow" = some CR∧adSh K "NoName" = some CN∧adSh K "NoText" = some CT∧adSh K "NoBack" = some CB∧adSh K "MillError" = some B∧clAt K C CR CN CT CB B = clEx:=by
 unfold clSh at e
 split at e
 ·rename_i C CR CN CT CB B h1 h2 h3 h4 h5 h6
  exact ⟨C,CR,CN,CT,CB,B,h1,h2,h3,h4,h5,h6,Option.some.inj e⟩
 ·cases e
theorem zhV {K:PySem.W.Frag} {mg:Str→Option Value} {h:Heap} {C CR CN CT CB B:Addr} (X:K.In h) (G:h.Ns mainGlobals mg) (a1:adSh K "NoRow" = some CR) (a2:adSh K "NoName" = some CN) (a3:adSh K "NoText" = some CT) (a4:adSh K "NoBack" = some CB) (a5:adSh K "MillError" = some B) (e:clAt K C CR CN CT CB B = clEx):XS K mg CR CN CT CB B:=by
 have eB:=congrArg (·.1) e
 have eF:=congrArg (·.2.1) e
 have eO:=congrArg (·.2.2.1) e
 have eT:PySem.W.typeIn K (.ref B) = some (.type "type"):=congrArg (·.2.2.2.1) e
 refine ⟨⟨JB X G a1,zj eB 0 rfl rfl⟩,⟨JB X G a2,zj eB 1 rfl rfl⟩,⟨JB X G a3,zj eB 2 rfl rfl⟩,JB X G a4,JB X G a5,fun c hc=>by
   rcases List.mem_cons.mp hc with rfl | hc
   ·exact ⟨zj eF 0 rfl rfl,zj eF 1 rfl rfl,zj eF 2 rfl rfl,zj eF 9 rfl rfl,zj eO 0 rfl rfl,zj eO 2 rfl rfl,zj eO 3 rfl rfl⟩
   rcases List.mem_cons.mp hc with rfl | hc
   ·exact ⟨zj eF 3 rfl rfl,zj eF 4 rfl rfl,zj eF 5 rfl rfl,zj eF 9 rfl rfl,zj eO 0 rfl rfl,zj eO 10 rfl rfl,zj eO 11 rfl rfl⟩
   rw [List.mem_singleton.mp hc]
   exact ⟨zj eF 6 rfl rfl,zj eF 7 rfl rfl,zj eF 8 rfl rfl,zj eF 9 rfl rfl,zj eO 0 rfl rfl,zj eO 18 rfl rfl,zj eO 19 rfl rfl⟩,fun c hc=>by
   rcases List.mem_cons.mp hc with rfl | hc
   ·exact ⟨eT,zj eO 1 rfl rfl,zj eO 4 rfl rfl⟩
   rcases List.mem_cons.mp hc with rfl | hc
   ·exact ⟨eT,zj eO 1 rfl rfl,zj eO 12 rfl rfl⟩
   rw [List.mem_singleton.mp hc]
   exact ⟨eT,zj eO 1 rfl rfl,zj eO 20 rfl rfl⟩,fun i j c c' hi hj=>?_,fun c hc=>by
   rcases List.mem_cons.mp hc with rfl | hc
   ·exact zj eO 9 rfl rfl
   rcases List.mem_cons.mp hc with rfl | hc
   ·exact zj eO 17 rfl rfl
   rw [List.mem_singleton.mp hc]
   exact zj eO 25 rfl rfl⟩
 match i,j,hi,hj with
 | 0,0,hi,hj=>cases hi; cases hj; exact zj eO 5 rfl rfl
 | 0,1,hi,hj=>cases hi; cases hj; exact zj eO 6 rfl rfl
 | 0,2,hi,hj=>cases hi; cases hj; exact zj eO 7 rfl rfl
 | 0,3,hi,hj=>cases hi; cases hj; exact zj eO 8 rfl rfl
 | 1,0,hi,hj=>cases hi; cases hj; exact zj eO 13 rfl rfl
 | 1,1,hi,hj=>cases hi; cases hj; exact zj eO 14 rfl rfl
 | 1,2,hi,hj=>cases hi; cases hj; exact zj eO 15 rfl rfl
 | 1,3,hi,hj=>cases hi; cases hj; exact zj eO 16 rfl rfl
 | 2,0,hi,hj=>cases hi; cases hj; exact zj eO 21 rfl rfl
 | 2,1,hi,hj=>cases hi; cases hj; exact zj eO 22 rfl rfl
 | 2,2,hi,hj=>cases hi; cases hj; exact zj eO 23 rfl rfl
 | 2,3,hi,hj=>cases hi; cases hj; exact zj eO 24 rfl rfl
theorem zhJ {K:PySem.W.Frag} {C CR CN CT CB B:Addr} (e:clAt K C CR CN CT CB B = clEx):DeskC K C:=by
 have eB:=congrArg (·.1) e
 have eF:=congrArg (·.2.1) e
 exact ⟨⟨zj eB 3 rfl rfl,zj eB 4 rfl rfl,zj eB 5 rfl rfl,zj eF 10 rfl rfl⟩,zj eF 11 rfl rfl,zj eF 12 rfl rfl⟩
end KL
open PySem PySem.W PyProof.Rows
set_option maxRecDepth 100000 in
set_option maxHeartbeats 0 in
theorem PySem.Challenge.cw_steermill_k92_refused_rows_holds : PySem.Challenge.rw_steermill_k92_refused_rows.Holds := by
 refine L2.QC (l:=PySem.Challenge.rw_steermill_k92_refused_rows) 53 5000 KL.lk KL.lv KL.h_ws rfl rfl rfl (by kernel_rfl) (by decide) (fun s=>by kernel_rfl) KL.zhP (by kernel_rfl) (by kernel_rfl) (by kernel_rfl) (by kernel_rfl) (by kernel_rfl) (by kernel_rfl) ⟨rfl,rfl,rfl,rfl,rfl,by decide +kernel⟩ (by w_witness2) (by decide +kernel) ⟨rfl,by decide,by decide,rfl⟩ ?F
 case F =>
  intro w mg fa h K KX hq G hmg
  have qf:=congrArg (·.1) hq
  have qm:=congrArg (·.2.1) hq
  have qs:=congrArg (·.2.2.1) hq
  have qi:=congrArg (·.2.2.2.1) hq
  have qc:=congrArg (·.2.2.2.2.1) hq
  have qd:=congrArg (·.2.2.2.2.2.1) hq
  have qt:=congrArg (·.2.2.2.2.2.2) hq
  have qT:L2.Df K mg "_law_is_prime" ["_law_whole"] KL.yE:=L2.zU KX G (L2.zj qf 0 rfl rfl) fun _ _ _ _ _ _ us hl=>L2.bind1 (fun _=>rfl) us hl
  have Je:L2.Df K mg "_law_kind" ["_law_drawn"] KL.xV:=L2.zU KX G (L2.zj qf 1 rfl rfl) fun _ _ _ _ _ _ us hl=>L2.bind1 (fun _=>rfl) us hl
  have qJ:L2.Df K mg "common_divisor" ["one", "other"] KL.yq:=L2.zU KX G (L2.zj qf 2 rfl rfl) fun _ _ _ _ _ _ us hl=>L2.bind2 (fun _ _=>rfl) us hl
  have Qb:L2.Df K mg "fraction" ["top", "bottom"] KL.jq:=L2.zU KX G (L2.zj qf 3 rfl rfl) fun _ _ _ _ _ _ us hl=>L2.bind2 (fun _ _=>rfl) us hl
  have zcR:L2.Df K mg "number" ["kind", "whole"] KL.Zf:=L2.zU KX G (L2.zj qf 4 rfl rfl) fun _ _ _ _ _ _ us hl=>L2.bind2 (fun _ _=>rfl) us hl
  have YX:L2.Df K mg "show_whole" ["whole"] KL.xj:=L2.zU KX G (L2.zj qf 5 rfl rfl) fun _ _ _ _ _ _ us hl=>L2.bind1 (fun _=>rfl) us hl
  have ZS:L2.Df K mg "show_number" ["kind", "told"] KL.yU:=L2.zU KX G (L2.zj qf 6 rfl rfl) fun _ _ _ _ _ _ us hl=>L2.bind2 (fun _ _=>rfl) us hl
  have YT:L2.Df K mg "show_table" ["kind", "table"] KL.xp:=L2.zU KX G (L2.zj qf 7 rfl rfl) fun _ _ _ _ _ _ us hl=>L2.bind2 (fun _ _=>rfl) us hl
  have Xq:L2.Df K mg "read_whole" ["word"] KL.xv:=L2.zU KX G (L2.zj qf 8 rfl rfl) fun _ _ _ _ _ _ us hl=>L2.bind1 (fun _=>rfl) us hl
  have qU:L2.Df K mg "read_fraction" ["word"] KL.yz:=L2.zU KX G (L2.zj qf 9 rfl rfl) fun _ _ _ _ _ _ us hl=>L2.bind1 (fun _=>rfl) us hl
  have ZX:L2.Df K mg "read_number" ["kind", "word"] KL.yY:=L2.zU KX G (L2.zj qf 10 rfl rfl) fun _ _ _ _ _ _ us hl=>L2.bind2 (fun _ _=>rfl) us hl
  have YS:L2.Df K mg "read_table" ["kind", "text"] KL.xq:=L2.zU KX G (L2.zj qf 11 rfl rfl) fun _ _ _ _ _ _ us hl=>L2.bind2 (fun _ _=>rfl) us hl
  have Qm:L2.Df K mg "words_of" ["row"] KL.jA:=L2.zU KX G (L2.zj qf 12 rfl rfl) fun _ _ _ _ _ _ us hl=>L2.bind1 (fun _=>rfl) us hl
  have ZM:L2.Df K mg "names_among" ["words"] KL.yW:=L2.zU KX G (L2.zj qf 13 rfl rfl) fun _ _ _ _ _ _ us hl=>L2.bind1 (fun _=>rfl) us hl
  have za4:L2.Df K mg "is_name" ["word"] KL.jX:=L2.zU KX G (L2.zj qf 14 rfl rfl) fun _ _ _ _ _ _ us hl=>L2.bind1 (fun _=>rfl) us hl
  have JN:L2.Df K mg "read_kind" ["word"] KL.xL:=L2.zU KX G (L2.zj qf 15 rfl rfl) fun _ _ _ _ _ _ us hl=>L2.bind1 (fun _=>rfl) us hl
  have ZP:L2.Df K mg "read_tables" ["kind", "text", "many"] KL.yV:=L2.zU KX G (L2.zj qf 16 rfl rfl) fun _ _ _ _ _ _ us hl=>L2.bind3 (fun _ _ _=>rfl) us hl
  have Jb:L2.Df K mg "has_sizes" ["table", "rows", "columns"] KL.xI:=L2.zU KX G (L2.zj qf 17 rfl rfl) fun _ _ _ _ _ _ us hl=>L2.bind3 (fun _ _ _=>rfl) us hl
  have Zh:L2.Df K mg "read_machine" ["kind", "text"] KL.yM:=L2.zU KX G (L2.zj qf 18 rfl rfl) fun _ _ _ _ _ _ us hl=>L2.bind2 (fun _ _=>rfl) us hl
  have XF:L2.Df K mg "are_alike" ["kind", "one", "other"] KL.xK:=L2.zU KX G (L2.zj qf 19 rfl rfl) fun _ _ _ _ _ _ us hl=>L2.bind3 (fun _ _ _=>rfl) us hl
  have Qg:L2.Df K mg "one_over" ["prime", "rest"] KL.jz:=L2.zU KX G (L2.zj qf 20 rfl rfl) fun _ _ _ _ _ _ us hl=>L2.bind2 (fun _ _=>rfl) us hl
  have zfX:L2.Df K mg "over" ["kind", "one", "other"] KL.QM:=L2.zU KX G (L2.zj qf 21 rfl rfl) fun _ _ _ _ _ _ us hl=>L2.bind3 (fun _ _ _=>rfl) us hl
  have zcM:L2.Df K mg "scaled" ["kind", "row"] KL.qW:=L2.zU KX G (L2.zj qf 22 rfl rfl) fun _ _ _ _ _ _ us hl=>L2.bind2 (fun _ _=>rfl) us hl
  have Qf:L2.Df K mg "quotient" ["kind", "top", "bottom"] KL.jo:=L2.zU KX G (L2.zj qf 23 rfl rfl) fun _ _ _ _ _ _ us hl=>L2.bind3 (fun _ _ _=>rfl) us hl
  have JI:L2.Df K mg "whole_sum" ["one", "other"] KL.xF:=L2.zU KX G (L2.zj qf 24 rfl rfl) fun _ _ _ _ _ _ us hl=>L2.bind2 (fun _ _=>rfl) us hl
  have qg:L2.Df K mg "sum_of_products" ["kind", "one", "other"] KL.yn:=L2.zU KX G (L2.zj qf 25 rfl rfl) fun _ _ _ _ _ _ us hl=>L2.bind3 (fun _ _ _=>rfl) us hl
  have zd6:L2.Df K mg "image" ["kind", "table", "row"] KL.Yu:=L2.zU KX G (L2.zj qf 26 rfl rfl) fun _ _ _ _ _ _ us hl=>L2.bind3 (fun _ _ _=>rfl) us hl
  have zaG:L2.Df K mg "abreast" ["one", "other"] KL.qb:=L2.zU KX G (L2.zj qf 27 rfl rfl) fun _ _ _ _ _ _ us hl=>L2.bind2 (fun _ _=>rfl) us hl
  have za1:L2.Df K mg "leading" ["machine"] KL.jS:=L2.zU KX G (L2.zj qf 28 rfl rfl) fun _ _ _ _ _ _ us hl=>L2.bind1 (fun _=>rfl) us hl
  have zaY:L2.Df K mg "next_of" ["kind", "machine", "standing", "inputs"] KL.qe:=L2.zU KX G (L2.zj qf 29 rfl rfl) fun _ _ _ _ _ _ us hl=>L2.bind4 (fun _ _ _ _=>rfl) us hl
  have zaF:L2.Df K mg "seen_of" ["kind", "machine", "standing"] KL.qh:=L2.zU KX G (L2.zj qf 30 rfl rfl) fun _ _ _ _ _ _ us hl=>L2.bind3 (fun _ _ _=>rfl) us hl
  have zgI:L2.Df K mg "run" ["kind", "machine", "standing", "inputs"] KL.zdB:=L2.zU KX G (L2.zj qf 31 rfl rfl) fun _ _ _ _ _ _ us hl=>L2.bind4 (fun _ _ _ _=>rfl) us hl
  have JA:L2.Df K mg "_law_said" ["_law_desk", "_law_row_here"] KL.xN:=L2.zU KX G (L2.zj qf 32 rfl rfl) fun _ _ _ _ _ _ us hl=>L2.bind2 (fun _ _=>rfl) us hl
  have JT:L2.Df K mg "_law_mix" ["_law_cell", "_law_j"] KL.jn:=L2.zU KX G (L2.zj qf 33 rfl rfl) fun _ _ _ _ _ _ us hl=>L2.bind2 (fun _ _=>rfl) us hl
  have YI:L2.Df K mg "_law_names" ["_law_cell"] KL.xl:=L2.zU KX G (L2.zj qf 34 rfl rfl) fun _ _ _ _ _ _ us hl=>L2.bind1 (fun _=>rfl) us hl
  have ZZ:L2.Df K mg "_law_no_row" ["_law_names_here", "_law_cell"] KL.yT:=L2.zU KX G (L2.zj qf 35 rfl rfl) fun _ _ _ _ _ _ us hl=>L2.bind2 (fun _ _=>rfl) us hl
  have Zu:L2.Df K mg "_law_no_name" ["_law_names_here", "_law_cell"] KL.yL:=L2.zU KX G (L2.zj qf 36 rfl rfl) fun _ _ _ _ _ _ us hl=>L2.bind2 (fun _ _=>rfl) us hl
  have Zt:L2.Df K mg "_law_no_text" ["_law_names_here", "_law_cell"] KL.yN:=L2.zU KX G (L2.zj qf 37 rfl rfl) fun _ _ _ _ _ _ us hl=>L2.bind2 (fun _ _=>rfl) us hl
  have QD:L2.Df K mg "_law_row" ["_law_names_here", "_law_cell"] KL.jD:=L2.zU KX G (L2.zj qf 38 rfl rfl) fun _ _ _ _ _ _ us hl=>L2.bind2 (fun _ _=>rfl) us hl
  have ZY:L2.Df K mg "_law_looked" ["_law_desk", "_law_names_here", "_law_turn"] KL.yZ:=L2.zU KX G (L2.zj qf 39 rfl rfl) fun _ _ _ _ _ _ us hl=>L2.bind3 (fun _ _ _=>rfl) us hl
  have jh:mg "ValueError" = none:=PySem.W.mg_none_of KX G (L2.zj qm 0 rfl rfl)
  have m_abs:mg "abs" = none:=PySem.W.mg_none_of KX G (L2.zj qm 1 rfl rfl)
  have m_all:mg "all" = none:=PySem.W.mg_none_of KX G (L2.zj qm 2 rfl rfl)
  have m_any:mg "any" = none:=PySem.W.mg_none_of KX G (L2.zj qm 3 rfl rfl)
  have jJ:mg "enumerate" = none:=PySem.W.mg_none_of KX G (L2.zj qm 4 rfl rfl)
  have m_int:mg "int" = none:=PySem.W.mg_none_of KX G (L2.zj qm 5 rfl rfl)
  have zH:mg "isinstance" = none:=PySem.W.mg_none_of KX G (L2.zj qm 6 rfl rfl)
  have m_len:mg "len" = none:=PySem.W.mg_none_of KX G (L2.zj qm 7 rfl rfl)
  have zbQ:mg "list" = none:=PySem.W.mg_none_of KX G (L2.zj qm 8 rfl rfl)
  have xz:mg "range" = none:=PySem.W.mg_none_of KX G (L2.zj qm 9 rfl rfl)
  have m_str:mg "str" = none:=PySem.W.mg_none_of KX G (L2.zj qm 10 rfl rfl)
  have m_sum:mg "sum" = none:=PySem.W.mg_none_of KX G (L2.zj qm 11 rfl rfl)
  have JY:mg "tuple" = none:=PySem.W.mg_none_of KX G (L2.zj qm 12 rfl rfl)
  have m_zip:mg "zip" = none:=PySem.W.mg_none_of KX G (L2.zj qm 13 rfl rfl)
  obtain ⟨t_STROKE,xG⟩:=L2.zaP KX G (x := "STROKE") (L2.zj qs 0 rfl rfl)
  obtain ⟨t_BETWEEN_ROWS,yc⟩:=L2.zaP KX G (x := "BETWEEN_ROWS") (L2.zj qs 1 rfl rfl)
  obtain ⟨t_BETWEEN_NUMBERS,zR⟩:=L2.zaP KX G (x := "BETWEEN_NUMBERS") (L2.zj qs 2 rfl rfl)
  obtain ⟨t_FIGURES,Zz⟩:=L2.zaP KX G (x := "FIGURES") (L2.zj qs 3 rfl rfl)
  obtain ⟨t_LETTERS,ZD⟩:=L2.zaP KX G (x := "LETTERS") (L2.zj qs 4 rfl rfl)
  obtain ⟨t_BETWEEN_TEXTS,xc⟩:=L2.zaP KX G (x := "BETWEEN_TEXTS") (L2.zj qs 5 rfl rfl)
  obtain ⟨t_MOST_FIGURES,xB⟩:=L2.JV KX G (x := "MOST_FIGURES") (L2.zj qi 0 rfl rfl)
  obtain ⟨t_MOST_ROWS,jM⟩:=L2.JV KX G (x := "MOST_ROWS") (L2.zj qi 1 rfl rfl)
  obtain ⟨t_MOST_COLUMNS,xx⟩:=L2.JV KX G (x := "MOST_COLUMNS") (L2.zj qi 2 rfl rfl)
  obtain ⟨t_MOST_LETTERS,xC⟩:=L2.JV KX G (x := "MOST_LETTERS") (L2.zj qi 3 rfl rfl)
  obtain ⟨t_MOST_NUMBERS,xy⟩:=L2.JV KX G (x := "MOST_NUMBERS") (L2.zj qi 4 rfl rfl)
  obtain ⟨t_MOST_HANDS,jc⟩:=L2.JV KX G (x := "MOST_HANDS") (L2.zj qi 5 rfl rfl)
  obtain ⟨t_MOST_SIGHTS,xP⟩:=L2.JV KX G (x := "MOST_SIGHTS") (L2.zj qi 6 rfl rfl)
  obtain ⟨C,CR,CN,CT,CB,B,aC,aR,aN,aT,aB,aM,qx⟩:=KL.zhY qc
  have X0:=KL.zhV KX G aR aN aT aB aM qx
  have C_D:=KL.zhJ qx
  have c_NoRow:=X0.r
  have c_NoName:=X0.n
  have c_NoText:=X0.t
  have qB:=congrArg (·.1) qx
  have qM:=congrArg (·.2.2.2.2) qx
  obtain ⟨aF,eF,D_FB⟩:=L2.zhT PySem.Challenge.rw_steermill_k92_refused_rows.prog qd (by decide +kernel)
  have yX:=L2.JB KX G eF
  obtain ⟨aK,eK,T_K⟩:=L2.zhL qt
  have Qo:=L2.JB KX G eK
  have dm_refuse_names:L2.Dm K C "refuse_names" "Desk.refuse_names" ["self", "words"] KL.zZ:=L2.zaD (L2.zj qM 0 rfl rfl) fun _ _ _ _ _ _ us hl=>L2.bind2 (fun _ _=>rfl) us hl
  have dm_change_kind:L2.Dm K C "change_kind" "Desk.change_kind" ["self", "word"] KL.yh:=L2.zaD (L2.zj qM 1 rfl rfl) fun _ _ _ _ _ _ us hl=>L2.bind2 (fun _ _=>rfl) us hl
  have dm_keep_machine:L2.Dm K C "keep_machine" "Desk.keep_machine" ["self", "name", "text"] KL.zW:=L2.zaD (L2.zj qM 2 rfl rfl) fun _ _ _ _ _ _ us hl=>L2.bind3 (fun _ _ _=>rfl) us hl
  have dm_tell_run:L2.Dm K C "tell_run" "Desk.tell_run" ["self", "machine", "text"] KL.yC:=L2.zaD (L2.zj qM 3 rfl rfl) fun _ _ _ _ _ _ us hl=>L2.bind3 (fun _ _ _=>rfl) us hl
  have dm_tell_of:L2.Dm K C "tell_of" "Desk.tell_of" ["self", "machine", "words"] KL.yK:=L2.zaD (L2.zj qM 4 rfl rfl) fun _ _ _ _ _ _ us hl=>L2.bind3 (fun _ _ _=>rfl) us hl
  have dm_say:L2.Dm K C "say" "Desk.say" ["self", "row"] KL.jm:=L2.zaD (L2.zj qM 5 rfl rfl) fun _ _ _ _ _ _ us hl=>L2.bind2 (fun _ _=>rfl) us hl
  have di_Desk:L2.Di K mg C "Desk" "Desk.__init__" ["self"] KL.xH:=L2.zhO (L2.JB KX G aC) (L2.zj qB 6 rfl rfl) (L2.zj qB 7 rfl rfl) (L2.zj qM 6 rfl rfl) fun _ _ _ _ _ _ us hl=>L2.bind1 (fun _=>rfl) us hl
  obtain ⟨fd,FL,hb⟩:=L2.zg6 (st:=KL.zdN) KX G hmg (L2.zj qf 40 rfl rfl) (fun _ _ _ _ _ _ _=>rfl)
  refine ⟨fd,hb,fun base _ _ hS=>?_⟩
  have hP:PySem.Challenge.rw_steermill_k92_refused_rows.prog.given.tree = none:=rfl
  have k__law_is_prime:=KL.QA (P:=PySem.Challenge.rw_steermill_k92_refused_rows.prog) (w:=w) (base:=base) qT
  have k__law_kind:=KL.zf7 (P:=PySem.Challenge.rw_steermill_k92_refused_rows.prog) (w:=w) (base:=base) hP hS Je k__law_is_prime
  have k_common_divisor:=KL.zhU (P:=PySem.Challenge.rw_steermill_k92_refused_rows.prog) (w:=w) (base:=base) qJ m_abs
  have k_fraction:=KL.Qt (P:=PySem.Challenge.rw_steermill_k92_refused_rows.prog) (w:=w) (base:=base) hP hS Qb k_common_divisor
  have k_number:=KL.zcb (P:=PySem.Challenge.rw_steermill_k92_refused_rows.prog) (w:=w) (base:=base) zcR
  have k_show_whole:=KL.zhF (P:=PySem.Challenge.rw_steermill_k92_refused_rows.prog) (w:=w) (base:=base) hP hS YX m_abs m_str
  have k_show_number:=KL.zg5 (P:=PySem.Challenge.rw_steermill_k92_refused_rows.prog) (w:=w) (base:=base) ZS k_show_whole xG
  have k_show_table:=KL.zgE (P:=PySem.Challenge.rw_steermill_k92_refused_rows.prog) (w:=w) (base:=base) YT k_show_number yc zR
  have k_read_whole:=KL.zgL (P:=PySem.Challenge.rw_steermill_k92_refused_rows.prog) (w:=w) (base:=base) c_NoText Xq Zz xB m_len m_any m_int
  have k_read_fraction:=KL.zgw (P:=PySem.Challenge.rw_steermill_k92_refused_rows.prog) (w:=w) (base:=base) c_NoText qU k_read_whole k_fraction xG
  have k_read_number:=KL.zhB (P:=PySem.Challenge.rw_steermill_k92_refused_rows.prog) (w:=w) (base:=base) c_NoText ZX k_read_fraction k_read_whole k_number k_show_number
  have k_read_table:=KL.zhx (P:=PySem.Challenge.rw_steermill_k92_refused_rows.prog) (w:=w) (base:=base) c_NoText YS k_read_number yc zR jM xx m_len m_any zH m_str
  have k_words_of:=KL.zdK (P:=PySem.Challenge.rw_steermill_k92_refused_rows.prog) (w:=w) (base:=base) c_NoRow D_FB yX Qm m_len zH m_str
  have k_names_among:=KL.zep (P:=PySem.Challenge.rw_steermill_k92_refused_rows.prog) (w:=w) (base:=base) ZM
  have k_is_name:=KL.zdr (P:=PySem.Challenge.rw_steermill_k92_refused_rows.prog) (w:=w) (base:=base) za4 ZD xC m_len m_all
  have k_read_kind:=KL.zhA (P:=PySem.Challenge.rw_steermill_k92_refused_rows.prog) (w:=w) (base:=base) c_NoText T_K Qo JN m_len m_str
  have k_read_tables:=KL.zg9 (P:=PySem.Challenge.rw_steermill_k92_refused_rows.prog) (w:=w) (base:=base) c_NoText xc ZP k_read_table m_len
  have k_has_sizes:=KL.zgy (P:=PySem.Challenge.rw_steermill_k92_refused_rows.prog) (w:=w) (base:=base) Jb m_len
  have k_read_machine:=KL.zgB (P:=PySem.Challenge.rw_steermill_k92_refused_rows.prog) (w:=w) (base:=base) c_NoText xy jc xP Zh k_read_tables k_has_sizes m_len JY
  have k_are_alike:=KL.zdQ (P:=PySem.Challenge.rw_steermill_k92_refused_rows.prog) (w:=w) (base:=base) XF m_len
  have k_Desk_refuse_names:=KL.zcu (P:=PySem.Challenge.rw_steermill_k92_refused_rows.prog) (w:=w) (base:=base) C_D c_NoName dm_refuse_names k_names_among k_is_name jJ
  have k_Desk_change_kind:=KL.zgV (P:=PySem.Challenge.rw_steermill_k92_refused_rows.prog) (w:=w) (base:=base) C_D c_NoText dm_change_kind k_read_kind
  have k_Desk_keep_machine:=KL.zgd (P:=PySem.Challenge.rw_steermill_k92_refused_rows.prog) (w:=w) (base:=base) C_D dm_keep_machine k_read_machine
  have k_one_over:=KL.Qc (P:=PySem.Challenge.rw_steermill_k92_refused_rows.prog) (w:=w) (base:=base) hP hS Qg
  have k_over:=KL.zfG (P:=PySem.Challenge.rw_steermill_k92_refused_rows.prog) (w:=w) (base:=base) zfX k_fraction k_number k_one_over
  have k_scaled:=KL.zbl (P:=PySem.Challenge.rw_steermill_k92_refused_rows.prog) (w:=w) (base:=base) hP hS zcM k_common_divisor zbQ
  have k_quotient:=KL.zfj (P:=PySem.Challenge.rw_steermill_k92_refused_rows.prog) (w:=w) (base:=base) Qf k_over k_number
  have k_whole_sum:=KL.zfF (P:=PySem.Challenge.rw_steermill_k92_refused_rows.prog) (w:=w) (base:=base) JI m_sum m_zip
  have k_sum_of_products:=KL.zhs (P:=PySem.Challenge.rw_steermill_k92_refused_rows.prog) (w:=w) (base:=base) qg k_quotient k_whole_sum
  have k_image:=KL.zdC (P:=PySem.Challenge.rw_steermill_k92_refused_rows.prog) (w:=w) (base:=base) zd6 (KL.zcL k_scaled) k_sum_of_products
  have k_abreast:=KL.zbd (P:=PySem.Challenge.rw_steermill_k92_refused_rows.prog) (w:=w) (base:=base) zaG m_zip
  have k_leading:=KL.za2 (P:=PySem.Challenge.rw_steermill_k92_refused_rows.prog) (w:=w) (base:=base) za1 k_abreast
  have k_next_of:=KL.zfm (P:=PySem.Challenge.rw_steermill_k92_refused_rows.prog) (w:=w) (base:=base) zaY k_image k_leading
  have k_seen_of:=KL.zfW (P:=PySem.Challenge.rw_steermill_k92_refused_rows.prog) (w:=w) (base:=base) zaF k_image
  have k_run:=KL.zgW (P:=PySem.Challenge.rw_steermill_k92_refused_rows.prog) (w:=w) (base:=base) zgI k_next_of k_seen_of
  have k_Desk_tell_run:=KL.zga (P:=PySem.Challenge.rw_steermill_k92_refused_rows.prog) (w:=w) (base:=base) C_D c_NoText dm_tell_run k_read_tables k_has_sizes k_show_table k_run m_len
  have k_Desk_tell_of:=KL.zbu (P:=PySem.Challenge.rw_steermill_k92_refused_rows.prog) (w:=w) (base:=base) C_D dm_tell_of k_Desk_tell_run
  have k_Desk_say:=KL.zgF (P:=PySem.Challenge.rw_steermill_k92_refused_rows.prog) (w:=w) (base:=base) C_D dm_say k_words_of k_Desk_refuse_names k_Desk_change_kind k_Desk_keep_machine k_are_alike k_Desk_tell_of
  have k__law_said:=KL.zfB (P:=PySem.Challenge.rw_steermill_k92_refused_rows.prog) (w:=w) (base:=base) C_D X0 JA k_Desk_say zH jh xz
  have k__law_mix:=KL.zgG (P:=PySem.Challenge.rw_steermill_k92_refused_rows.prog) (w:=w) (base:=base) JT
  have k__law_names:=KL.zct (P:=PySem.Challenge.rw_steermill_k92_refused_rows.prog) (w:=w) (base:=base) YI k__law_mix xz
  have k__law_no_row:=KL.zd5 (P:=PySem.Challenge.rw_steermill_k92_refused_rows.prog) (w:=w) (base:=base) ZZ k__law_mix
  have k__law_no_name:=KL.zdq (P:=PySem.Challenge.rw_steermill_k92_refused_rows.prog) (w:=w) (base:=base) Zu k__law_mix
  have k__law_no_text:=KL.zcY (P:=PySem.Challenge.rw_steermill_k92_refused_rows.prog) (w:=w) (base:=base) Zt k__law_mix xz
  have k__law_row:=KL.zfx (P:=PySem.Challenge.rw_steermill_k92_refused_rows.prog) (w:=w) (base:=base) QD k__law_mix k__law_no_row k__law_no_name k__law_no_text
  have k__law_looked:=KL.zcS (P:=PySem.Challenge.rw_steermill_k92_refused_rows.prog) (w:=w) (base:=base) ZY k__law_said
  have k_Desk_init:=KL.zgh (P:=PySem.Challenge.rw_steermill_k92_refused_rows.prog) (w:=w) (base:=base) C_D di_Desk
  exact KL.zhf FL k__law_kind k__law_mix k__law_names k_Desk_init k__law_said k__law_row k__law_looked m_sum m_str
