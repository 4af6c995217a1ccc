import PyProof.Rows.All
import Wide.All
import OpenK.AllK
import Wide.FinOn
import Lean
import PyProof.EqAt
import PyProof.EqKinds
import PyProof.TupleCall
import PyProof.NeKinds
import PyProof.WalksEnum
import PyProof.EnumMake
import PyProof.ZipIter
import PyProof.Draws
import PyProof.DictIter
import PyProof.DictWalks
import PyProof.Rows.DictUnroll
import PyProof.DictCompW
import PyProof.ReprRoads
import PyProof.ReprLen
import PyProof.P3Eq
import PyProof.Rows.FStr
import PyProof.Rows.StrSplitAre
import PyProof.Rows.StrItems
import PyProof.Rows.FStrParts
import KE.KIntText
import PyProof.StrWalks
import PyProof.MeetsStr
import PyProof.StationsW
import PyProof.Rows.TopTwo
import PyProof.RulesAs
import PyProof.RulesDel
import PyProof.ExcArgs
import OpenK.KOwn
import KE.KRevIter
import PyProof.Rows.StrLen
import PyProof.SliceStr2
import PyProof.StrBlockI
import KE.KDictOf
import PyProof.AttrMissSeq
import KE.KRevSl
import PyProof.Rows.ReprOcc
import PyProof.StrLawsTight
import PyProof.Rows.SetFrom
import PyProof.WalksMore
import PyProof.SetRoads
import KE.KEqDict
import PyProof.Rows.SumAny
import PySem.Challenge.RW_fuseboard_k19_draws_summed
set_option Elab.async false
set_option linter.all false
set_option genSizeOf false
set_option genSizeOfSpec false
set_option maxRecDepth 100000
def PySem.W.Fast.tw15903911181684750059 : Unit := ()
def PySem.W.Fast.tw7570236706709735842 : Unit := ()
def PySem.W.Fast.tw14766965865867245670 : Unit := ()
def PySem.W.Fast.tw12023772461495255042 : Unit := ()
def PySem.W.Fast.tw9142210327714089856 : Unit := ()
def PySem.W.Fast.tw6761266942383232412 : Unit := ()
def PySem.W.Fast.tw15291183307888191159 : Unit := ()
def PySem.W.Fast.tw7411150393495050031 : Unit := ()
def PySem.W.Fast.tw5733883116747785455 : Unit := ()
def PySem.W.Fast.tw12859465465215608796 : Unit := ()
def PySem.W.Fast.tw7065625361794596665 : Unit := ()
def PySem.W.Fast.tw4541435158865000014 : Unit := ()
def PySem.W.Fast.tw6963706903928889506 : Unit := ()
def PySem.W.Fast.tw3912687108948852663 : Unit := ()
def PySem.W.Fast.tw14822190771333096456 : Unit := ()
def PySem.W.Fast.tw2008907618181886944 : Unit := ()
def PySem.W.Fast.tw2439657381930025750 : Unit := ()
def PySem.W.Fast.tw7796341364682408702 : Unit := ()
def PySem.W.Fast.tw1865134396930232279 : Unit := ()
def PySem.W.Fast.tw8016333856381197048 : Unit := ()
def PySem.W.Fast.tw270256719910122799 : Unit := ()
def PySem.W.Fast.tw5070876699911275317 : Unit := ()
def PySem.W.Fast.tw12234822228014688941 : Unit := ()
def PySem.W.Fast.tw16091971236424978288 : Unit := ()
def PySem.W.Fast.tw15218603155561566309 : Unit := ()
def PySem.W.Fast.tw2385422487098140727 : Unit := ()
def PySem.W.Fast.tw10677408482403894382 : Unit := ()
def PySem.W.Fast.tw4373745195733316295 : Unit := ()
def PySem.W.Fast.tw8986236837189889119 : Unit := ()
def PySem.W.Fast.tw14675787505838063995 : Unit := ()
def PySem.W.Fast.tw9534063375900946877 : Unit := ()
def PySem.W.Fast.tw5078477120414516938 : Unit := ()
def PySem.W.Fast.tw17319380758510933150 : Unit := ()
def PySem.W.Fast.tw13238520404417751158 : Unit := ()
def PySem.W.Fast.tw15814782462373220867 : Unit := ()
def PySem.W.Fast.tw15794205389960957998 : Unit := ()
def PySem.W.Fast.tw2324083195801599176 : Unit := ()
def PySem.W.Fast.tw8615899666915248346 : Unit := ()
def PySem.W.Fast.tw5339001153270595385 : Unit := ()
def PySem.W.Fast.tw5186302371224171698 : Unit := ()
def PySem.W.Fast.tw17626178395011210038 : Unit := ()
def PySem.W.Fast.tw10978244710736141438 : Unit := ()
def PySem.W.Fast.tw17412661561897425431 : Unit := ()
def PySem.W.Fast.tw12090319790591034184 : Unit := ()
def PySem.W.Fast.tw12436485622031389371 : Unit := ()
def PySem.W.Fast.tw173952877725422413 : Unit := ()
def PySem.W.Fast.tw13173716520412268104 : Unit := ()
def PySem.W.Fast.tw7959913047994297364 : Unit := ()
def PySem.W.Fast.tw12692931970823720955 : Unit := ()
def PySem.W.Fast.tw989706740543599672 : Unit := ()
def PySem.W.Fast.tw16216469525610796500 : Unit := ()
def PySem.W.Fast.tw9353433266302460457 : Unit := ()
def PySem.W.Fast.tw3371254339549330189 : Unit := ()
def PySem.W.Fast.tw5125571554899291973 : Unit := ()
def PySem.W.Fast.tw10171454742937788990 : Unit := ()
def PySem.W.Fast.tw196510272291414449 : Unit := ()
def PySem.W.Fast.tw10309710107759784118 : Unit := ()
def PySem.W.Fast.tw3402537036282323001 : Unit := ()
def PySem.W.Fast.tw11150776638877397012 : Unit := ()
def PySem.W.Fast.tw1898342606292246862 : Unit := ()
def PySem.W.Fast.tw7992113294567837851 : Unit := ()
def PySem.W.Fast.tw14230679879866746264 : Unit := ()
def PySem.W.Fast.tw6424178942395418035 : Unit := ()
def PySem.W.Fast.tw8374038944962539213 : Unit := ()
def PySem.W.Fast.tw9266836658275545636 : Unit := ()
def PySem.W.Fast.tw2006897177038450923 : Unit := ()
def PySem.W.Fast.tw1634741888331190881 : Unit := ()
def PySem.W.Fast.tw1441050874917767461 : Unit := ()
def PySem.W.Fast.tw16211351716668660867 : Unit := ()
def PySem.W.Fast.tw13263894374464049541 : Unit := ()
def PySem.W.Fast.tw3299930937375571363 : Unit := ()
def PySem.W.Fast.tw13470661353679145780 : Unit := ()
def PySem.W.Fast.tw2551215208250724416 : Unit := ()
def PySem.W.Fast.tw12248801626240848491 : Unit := ()
def PySem.W.Fast.tw3172494867924441674 : Unit := ()
def PySem.W.Fast.tw16798007347840778243 : Unit := ()
def PySem.W.Fast.tw3344913565258000927 : Unit := ()
def PySem.W.Fast.tw9182953585693544389 : Unit := ()
def PySem.W.Fast.tw9774965465748110803 : Unit := ()
def PySem.W.Fast.tw945063617698146334 : Unit := ()
def PySem.W.Fast.tw12651480353100400923 : Unit := ()
def PySem.W.Fast.tw10194181161960592431 : Unit := ()
def PySem.W.Fast.tw15475356397795879981 : Unit := ()
def PySem.W.Fast.tw2604776159444711112 : Unit := ()
def PySem.W.Fast.tw5202774870114755630 : Unit := ()
def PySem.W.Fast.tw709952565906137352 : Unit := ()
def PySem.W.Fast.tw8417030524279799513 : Unit := ()
def PySem.W.Fast.tw11419001984934894781 : Unit := ()
def PySem.W.Fast.tw5441872864753329142 : Unit := ()
def PySem.W.Fast.tw15019789769717574295 : Unit := ()
def PySem.W.Fast.tw4793764984690527531 : Unit := ()
namespace L2
open PySem PySem.Spec PyProof.Rows
noncomputable abbrev Key:=Sum Int Str
noncomputable def keyIs:Key -> Value -> Bool
 | .inl k,v=>Value.isInt k v
 | .inr x,v=>Value.isStrOf x v
noncomputable def keyH (w:World):Key -> Int
 | .inl k=>hashInt k
 | .inr x=>hashStr w x
theorem keyIs_shape:∀ {k:Key} {v:Value},keyIs k v = true -> (∃ i t,k = Sum.inl i /\ v = Value.int i t) \/ (∃ x t,k = Sum.inr x /\ v = Value.str x t)
 | .inl i,v,h=>by
  obtain ⟨t,e⟩:=Value.isInt_shape (k:=i) (v:=v) h
  exact .inl ⟨i,t,rfl,e⟩
 | .inr x,v,h=>by
  obtain ⟨t,e⟩:=Value.isStrOf_shape (x:=x) (v:=v) h
  exact .inr ⟨x,t,rfl,e⟩
theorem keyIs_int (i:Int) (t:Tok):keyIs (.inl i) (.int i t) = true:=by simp [keyIs,Value.isInt]
theorem keyIs_str (x:Str) (t:Tok):keyIs (.inr x) (.str x t) = true:=by simp [keyIs,Value.isStrOf]
theorem key_ll (a b:Int):decide ((Sum.inl a:Key) = Sum.inl b) = (a == b):=by
 by_cases e:a = b
 ·subst e; simp
 ·have h:¬ (Sum.inl a:Key) = Sum.inl b:=fun q=>e (Sum.inl.inj q)
  rw [decide_eq_false h]
  exact (beq_eq_false_iff_ne.mpr e).symm
theorem key_rr (a b:Str):decide ((Sum.inr a:Key) = Sum.inr b) = decide (a = b):=by
 by_cases e:a = b
 ·subst e; simp
 ·have h:¬ (Sum.inr a:Key) = Sum.inr b:=fun q=>e (Sum.inr.inj q)
  rw [decide_eq_false h,decide_eq_false e]
theorem key_lr (a:Int) (b:Str):decide ((Sum.inl a:Key) = Sum.inr b) = false:=decide_eq_false (fun q=>nomatch q)
theorem key_rl (a:Str) (b:Int):decide ((Sum.inr a:Key) = Sum.inl b) = false:=decide_eq_false (fun q=>nomatch q)
noncomputable def mixKind (prog:Program) (w:World):PySem.KeyKind prog w Key where
 is:=keyIs
 hash:=keyH w
 inj:=fun v a b ha hb=>by
  rcases keyIs_shape ha with ⟨i,t,rfl,rfl⟩ | ⟨x,t,rfl,rfl⟩
  ·rcases keyIs_shape hb with ⟨j,u,rfl,e⟩ | ⟨y,u,rfl,e⟩
   ·injection e with e1 _; rw [e1]
   ·exact nomatch e
  ·rcases keyIs_shape hb with ⟨j,u,rfl,e⟩ | ⟨y,u,rfl,e⟩
   ·exact nomatch e
   ·injection e with e1 _; rw [e1]
 byValue:=fun k v h=>by
  rcases keyIs_shape h with ⟨i,t,rfl,rfl⟩ | ⟨x,t,rfl,rfl⟩ <;> rfl
 pyHash:=fun hv h=>by
  rcases keyIs_shape hv with ⟨i,t,rfl,rfl⟩ | ⟨x,t,rfl,rfl⟩
  ·exact wpAny_pyHash_int h
  ·exact wpAny_pyHash_str h
 eqBool:=fun hu hv h=>by
  rcases keyIs_shape hu with ⟨i,t,rfl,rfl⟩ | ⟨x,t,rfl,rfl⟩
  ·rcases keyIs_shape hv with ⟨j,u,rfl,rfl⟩ | ⟨y,u,rfl,rfl⟩
   ·rw [key_ll] at h; exact wpAny_eqBool_int h
   ·rw [key_lr] at h; exact SeqAt.EqAt.int_str i t y u _ _ _ _ h
  ·rcases keyIs_shape hv with ⟨j,u,rfl,rfl⟩ | ⟨y,u,rfl,rfl⟩
   ·rw [key_rl] at h; exact SeqAt.EqAt.str_int x t j u _ _ _ _ h
   ·rw [key_rr] at h; exact wpAny_eqBool_str h
 «strs»:=fun k x t v h=>by
  rcases keyIs_shape h with ⟨i,u,rfl,e⟩ | ⟨y,u,rfl,e⟩
  ·exact nomatch e
  ·injection e with e1 _
   subst e1
   cases v <;> rfl
theorem mixKind_int (prog:Program) (w:World) (i:Int) (t:Tok):(mixKind prog w).is (.inl i) (.int i t) = true:=keyIs_int i t
theorem mixKind_str (prog:Program) (w:World) (x:Str) (t:Tok):(mixKind prog w).is (.inr x) (.str x t) = true:=keyIs_str x t
end L2
namespace L2
open PySem PySem.Spec PyProof.Rows
inductive V where
 | non | bl (b:Bool) | int (i:Int) | str (x:Str) | byt (b:Array UInt8) | flt (b:UInt64) | ref (a:Addr) | ty (n:String)
 deriving DecidableEq
noncomputable def RelV:V -> Value -> Prop
 | .non,u=>u = Value.none
 | .bl b,u=>u = Value.bool b
 | .int i,u=>∃ t,u = Value.int i t
 | .str x,u=>∃ t,u = Value.str x t
 | .byt b,u=>∃ t,u = Value.bytes b t
 | .flt b,u=>∃ t,u = Value.float b t
 | .ref a,u=>u = Value.ref a
 | .ty n,u=>u = Value.type n
noncomputable abbrev Vals:List V -> List Value -> Prop:=Paired RelV
theorem Vals.length {xs:List V} {us:List Value} (r:Vals xs us):xs.length = us.length:=Paired.length r
theorem Vals.get:∀ {xs:List V} {us:List Value} {i:Nat} {x:V},Vals xs us -> xs[i]? = some x -> ∃ u,us[i]? = some u /\ RelV x u
 | _,_,_,_,.nil,e=>by simp at e
 | _,_,0,_,.cons r _,e=>by simp at e; subst e; exact ⟨_,rfl,r⟩
 | _,_,i + 1,x,.cons _ t,e=>by
  obtain ⟨u,h1,h2⟩:=Vals.get (i:=i) (x:=x) t (by simpa using e)
  exact ⟨u,by simpa using h1,h2⟩
theorem Vals.set {x:V} {u:Value} (r:RelV x u):∀ {xs:List V} {us:List Value} (i:Nat),Vals xs us -> Vals (xs.set i x) (us.set i u)
 | _,_,_,.nil=>.nil
 | _,_,0,.cons _ t=>.cons r t
 | _,_,i + 1,.cons q t=>.cons q (Vals.set r i t)
theorem Vals.append:∀ {xs ys:List V} {us ws:List Value},Vals xs us -> Vals ys ws -> Vals (xs ++ ys) (us ++ ws)
 | _,_,_,_,.nil,s=>s
 | _,_,_,_,.cons r t,s=>.cons r (Vals.append t s)
theorem Vals.take:∀ {xs:List V} {us:List Value} (n:Nat),Vals xs us -> Vals (xs.take n) (us.take n)
 | _,_,0,_=>.nil
 | _,_,_ + 1,.nil=>.nil
 | _,_,n + 1,.cons r t=>.cons r (Vals.take n t)
theorem Vals.drop:∀ {xs:List V} {us:List Value} (n:Nat),Vals xs us -> Vals (xs.drop n) (us.drop n)
 | _,_,0,r=>r
 | _,_,_ + 1,.nil=>.nil
 | _,_,n + 1,.cons _ t=>Vals.drop n t
noncomputable def RelO:Option V -> Option Value -> Prop
 | some v,some u=>RelV v u
 | none,none=>True
 | _,_=>False
noncomputable def KV {κ:Type}:List (κ × V) -> List (κ × Value) -> Prop:=Paired fun (p:κ × V) (q:κ × Value)=>p.1 = q.1 /\ RelV p.2 q.2
noncomputable def kV:Key -> V
 | .inl i=>.int i
 | .inr x=>.str x
inductive HO where
 /-- a list -/
 | lst (xs:List V)
 /-- a tuple (never changes) -/
 | tup (xs:List V)
 /-- a dict whose keys are ints and texts; one whose keys are tuples of ints and texts (the empty one is both) -/
 | dK (kvs:List (Key × V)) | dE (kvs:List (Key × V)) (ep:Nat) | dT (kvs:List (List Key × V))
 /-- a set of ints: its members,its size -/
 | set (S:Key -> Bool) (n:Nat)
 /-- an instance of the class at C,its dict at dx,its attributes -/
 | ins (C dx:Addr) (fs:List (Str × V))
 /-- the dict of the instance at x -/
 | own (x:Addr)
 /-- the dict of an exception -/
 | xd (fs:List (Str × V))
 /-- a bound method,f of x -/
 | met (f x:Addr)
 /-- a range object lo,lo + 1,.. below hi -/
 | rng (lo hi:Int)
 /-- a thing that is known to the object (the script; a dict while a loop walks it): read,never written while it is so -/
 | frz (o:Obj) (u:HO)
 /-- a code object's table -/
 | tbl (ps:Array Value)
 /-- any other thing,by what is true of its one object (a def of one's own: SetO a S n:=HO.ext fun h=>..) -/
 | ext (φ:Heap -> Prop)
noncomputable abbrev Hp:=Addr -> Option HO
noncomputable def upd (H:Hp) (a:Addr) (o:HO):Hp:=fun b=>if b = a then some o else H b
theorem upd_same {H:Hp} {a:Addr} {o:HO}:upd H a o a = some o:=by unfold upd; rw [if_pos rfl]
theorem upd_ne {H:Hp} {a b:Addr} {o:HO} (h:b ≠ a):upd H a o b = H b:=by unfold upd; rw [if_neg h]
theorem upd_upd {H:Hp} {a:Addr} {o u:HO}:upd (upd H a o) a u = upd H a u:=by
 funext b; unfold upd; split <;> rfl
theorem ne_of {H:Hp} {a b:Addr} {o u:HO} (h:H a = some o) (h':H b = some u) (d:o ≠ u):a ≠ b:=by
 intro e; subst e; rw [h] at h'; exact d (Option.some.inj h')
theorem ne_of_none {H:Hp} {a b:Addr} {o:HO} (h:H a = some o) (h':H b = none):a ≠ b:=by
 intro e; subst e; rw [h] at h'; cases h'
section
variable (P:Program) (w:World)
noncomputable def ObjOk (H:Hp) (h:Heap) (a:Addr):HO -> Prop
 | .lst xs=>xs.length <= sizeLine /\ ∃ (its:List Value) (n:Nat),Vals xs its /\ h.get? a = some { cls:=.type "list",data:=.seq its.toArray n }
 | .tup xs=>xs.length <= sizeLine /\ ∃ its:List Value,Vals xs its /\ IsTup h a its.toArray
 | .dK kvs=>kvs.length <= sizeLine /\ (a == sysModules) = false /\ ∃ vs,KV kvs vs /\ h.DictOf (mixKind P w) a vs
 | .dE kvs ep=>kvs.length <= sizeLine /\ (a == sysModules) = false /\ ∃ vs,KV kvs vs /\ h.DictAt (mixKind P w) a vs ep
 | .dT kvs=>kvs.length <= sizeLine /\ (a == sysModules) = false /\ ∃ xs:List (List Key × Addr × Value),
   Paired (fun (p:List Key × V) (q:List Key × Addr × Value)=>p.1 = q.1 /\ H q.2.1 = some (.tup (p.1.map kV)) /\ RelV p.2 q.2.2) kvs xs /\
   ∃ o es ep,h.get? a = some o /\ o.ExactDict /\ o.data = .dict es ep /\ es.toList = xs.map (entryOfKey (tupleKind (mixKind P w))) /\ (xs.map (·.1)).Nodup
 | .set S n=>h.SetOf (mixKind P w) a S n
 | .ins C dx fs=>H dx = some (.own a) /\ fs.length <= 1000 /\ dx ≠ a /\ h.get? a = some (PySem.W.instObj C dx) /\
   ∃ mA,h.Ns1 dx mA /\ (∀ f,RelO (fs.lookup f) (mA f)) /\ PySem.Within mA (fs.map (·.1))
 | .own _=>∃ o,h.get? a = some o
 | .xd fs=>∃ mA,h.Ns1 a mA /\ ∀ f,RelO (fs.lookup f) (mA f)
 | .rng lo hi=>∃ t u v,h.get? a = some { cls:=.type "range",data:=.fields #[.int lo t,.int hi u,.int 1 v] }
 | .frz o u=>h.get? a = some o /\ ObjOk H h a u
 | .tbl ps=>h.get? a = some { cls:=.none,data:=.fields ps }
 | .met f x=>h.get? a = some (PySem.W.methodObj (.ref f) (.ref x))
 | .ext φ=>φ h /\ (∃ o,h.get? a = some o) /\ ∀ h1 h2:Heap,φ h1 -> (∀ o,h1.get? a = some o -> h2.get? a = some o) -> φ h2
noncomputable def HOk (H:Hp) (h:Heap):Prop:=∀ a o,H a = some o -> ObjOk P w H h a o
end
section
variable {P:Program} {w:World} {H H':Hp} {h h':Heap} {a:Addr} {o:HO}
theorem ObjOk.lt (x:ObjOk P w H h a o):a < h.objs.size:=by
 cases o with
 | lst xs=>obtain ⟨_,_,_,_,e⟩:=x; exact Heap.lt_size e
 | tup xs=>obtain ⟨_,_,_,p⟩:=x; exact p.lt
 | dK kvs=>obtain ⟨_,_,_,_,o,_,_,e,_⟩:=x; exact Heap.lt_size e
 | dE kvs ep=>obtain ⟨_,_,_,_,o,_,e,_⟩:=x; exact Heap.lt_size e
 | dT kvs=>obtain ⟨_,_,_,_,o,_,_,e,_⟩:=x; exact Heap.lt_size e
 | set S n=>obtain ⟨o,_,_,_,e,_⟩:=x; exact Heap.lt_size e
 | ins C dx fs=>obtain ⟨_,_,_,e,_⟩:=x; exact Heap.lt_size e
 | own y=>obtain ⟨_,e⟩:=x; exact Heap.lt_size e
 | xd fs=>obtain ⟨_,⟨_,_,_,e,_⟩,_⟩:=x; exact Heap.lt_size e
 | rng lo hi=>obtain ⟨_,_,_,e⟩:=x; exact Heap.lt_size e
 | frz ob u=>obtain ⟨e,_⟩:=x; exact Heap.lt_size e
 | tbl ps=>exact Heap.lt_size (show h.get? a = some _ from x)
 | met f y=>exact Heap.lt_size (show h.get? a = some _ from x)
 | ext φ=>obtain ⟨_,⟨_,e⟩,_⟩:=x; exact Heap.lt_size e
theorem Paired.mapP {α β:Type} {F G:α -> β -> Prop}:∀ {l₁:List α} {l₂:List β},Paired F l₁ l₂ -> (∀ a b,F a b -> G a b) -> Paired G l₁ l₂
 | _,_,.nil,_=>.nil
 | _,_,.cons r t,f=>.cons (f _ _ r) (Paired.mapP t f)
theorem ObjOk.stay (x:ObjOk P w H h a o) (k:∀ b u,(b = a \/ H b = some (.own a)) -> h.get? b = some u -> h'.get? b = some u)
  (ho:∀ b,H b = some (.own a) -> H' b = some (.own a)) (ht:∀ b xs,H b = some (.tup xs) -> H' b = some (.tup xs)):ObjOk P w H' h' a o:=by
 induction o with
 | lst xs=>obtain ⟨z,its,n,r,e⟩:=x; exact ⟨z,its,n,r,k _ _ (.inl rfl) e⟩
 | tup xs=>obtain ⟨z,its,r,ob,e,c⟩:=x; exact ⟨z,its,r,ob,k _ _ (.inl rfl) e,c⟩
 | dK kvs=>obtain ⟨z,y,vs,r,ob,es,ep,e,c⟩:=x; exact ⟨z,y,vs,r,ob,es,ep,k _ _ (.inl rfl) e,c⟩
 | dE kvs ep=>obtain ⟨z,y,vs,r,ob,es,e,c⟩:=x; exact ⟨z,y,vs,r,ob,es,k _ _ (.inl rfl) e,c⟩
 | dT kvs=>
  obtain ⟨z,y,xs,r,ob,es,ep,e,c⟩:=x
  exact ⟨z,y,xs,Paired.mapP r fun p q z=>⟨z.1,ht _ _ z.2.1,z.2.2⟩,ob,es,ep,k _ _ (.inl rfl) e,c⟩
 | set S n=>obtain ⟨ob,es,ep,t,e,c⟩:=x; exact ⟨ob,es,ep,t,k _ _ (.inl rfl) e,c⟩
 | ins C dx fs=>
  obtain ⟨d,z,ne,e,mA,⟨od,es,ep,e2,c⟩,r⟩:=x
  exact ⟨ho _ d,z,ne,k _ _ (.inl rfl) e,mA,⟨od,es,ep,k _ _ (.inr d) e2,c⟩,r⟩
 | own y=>obtain ⟨ob,e⟩:=x; exact ⟨ob,k _ _ (.inl rfl) e⟩
 | xd fs=>obtain ⟨mA,⟨od,es,ep,e,c⟩,r⟩:=x; exact ⟨mA,⟨od,es,ep,k _ _ (.inl rfl) e,c⟩,r⟩
 | rng lo hi=>obtain ⟨t,u,v,e⟩:=x; exact ⟨t,u,v,k _ _ (.inl rfl) e⟩
 | frz ob u ih=>obtain ⟨e,q⟩:=x; exact ⟨k _ _ (.inl rfl) e,ih q⟩
 | tbl ps=>
  have e:h.get? a = some { cls:=.none,data:=.fields ps }:=x
  show h'.get? a = some { cls:=.none,data:=.fields ps }
  exact k a _ (.inl rfl) e
 | met f y=>
  have e:h.get? a = some (PySem.W.methodObj (.ref f) (.ref y)):=x
  show h'.get? a = some (PySem.W.methodObj (.ref f) (.ref y))
  exact k a _ (.inl rfl) e
 | ext φ=>obtain ⟨p,⟨o,e⟩,st⟩:=x; exact ⟨st _ _ p fun o q=>k _ _ (.inl rfl) q,⟨o,k _ _ (.inl rfl) e⟩,st⟩
theorem HOk.lt (x:HOk P w H h) (e:H a = some o):a < h.objs.size:=(x a o e).lt
theorem HOk.fresh (x:HOk P w H h) (e:h.objs.size <= a):H a = none:=by
 cases q:H a with
 | none=>rfl
 | some u=>exact absurd (Nat.lt_of_lt_of_le (x.lt q) e) (Nat.lt_irrefl _)
theorem HOk.kept (x:HOk P w H h) (k:∀ b u,h.get? b = some u -> h'.get? b = some u):HOk P w H h':=fun a o e=>
 (x a o e).stay (fun b u _ q=>k b u q) (fun _ q=>q) fun _ _ q=>q
theorem HOk.laid (x:HOk P w H h) (k:∀ b u,h.get? b = some u -> h'.get? b = some u) (hp:h.objs.size <= a) (new:ObjOk P w (upd H a o) h' a o):HOk P w (upd H a o) h':=fun b u e=>by
 have hn:=x.fresh hp
 by_cases hb:b = a
 ·subst hb; rw [upd_same] at e; cases e; exact new
 ·rw [upd_ne hb] at e
  exact (x b u e).stay (fun c v _ q=>k c v q) (fun c q=>by rw [upd_ne (ne_of_none q hn)]; exact q) fun c xs q=>by rw [upd_ne (ne_of_none q hn)]; exact q
end
noncomputable def Dd (H:Hp) (a:Addr) (kvs:List (Key × V)):Prop:=H a = some (.dK kvs) \/ ∃ ep,H a = some (.dE kvs ep)
theorem Dd.ok {P:Program} {w:World} {H:Hp} {h:Heap} {a:Addr} {kvs:List (Key × V)} (r:Dd H a kvs) (x:HOk P w H h):ObjOk P w H h a (.dK kvs):=by
 rcases r with r | ⟨ep,r⟩
 ·exact x a _ r
 ·obtain ⟨z,y,vs,r2,d⟩:=(show ObjOk P w H h a (.dE kvs ep) from x a _ r)
  exact ⟨z,y,vs,r2,d.dictOf⟩
noncomputable def Rd (H:Hp) (a:Addr) (u:HO):Prop:=H a = some u \/ ∃ o,H a = some (.frz o u)
theorem Rd.ok {P:Program} {w:World} {H:Hp} {h:Heap} {a:Addr} {u:HO} (r:Rd H a u) (x:HOk P w H h):ObjOk P w H h a u:=by
 rcases r with r | ⟨o,r⟩
 ·exact x a u r
 ·obtain ⟨_,q⟩:=x a _ r
  exact q
noncomputable def Mut:Option HO -> Prop
 | some (.lst _)=>True
 | some (.dK _)=>True
 | some (.dE _ _)=>True
 | some (.dT _)=>True
 | some (.set _ _)=>True
 | some (.ins _ _ _)=>True
 | some (.ext _)=>True
 | _=>False
theorem Dd.mut {H:Hp} {a:Addr} {kvs:List (Key × V)} (r:Dd H a kvs):Mut (H a):=by
 rcases r with r | ⟨ep,r⟩ <;> (rw [r]; exact True.intro)
section
variable {P:Program} {w:World} {H:Hp} {h h':Heap} {x e:Addr} {o':HO}
theorem HOk.write (ok:HOk P w H h) (mu:Mut (H x)) (he:e = x \/ H e = some (.own x)) (k:∀ b u,b ≠ e -> h.get? b = some u -> h'.get? b = some u) (heo:∃ u,h'.get? e = some u)
  (new:ObjOk P w (upd H x o') h' x o'):HOk P w (upd H x o') h':=fun b u q=>by
 have nown:∀ c y,H c = some (.own y) -> c ≠ x:=fun c y r z=>by subst z; rw [r] at mu; exact mu
 have ntup:∀ c xs,H c = some (.tup xs) -> c ≠ x:=fun c xs r z=>by subst z; rw [r] at mu; exact mu
 by_cases hb:b = x
 ·subst hb; rw [upd_same] at q; cases q; exact new
 ·rw [upd_ne hb] at q
  by_cases hbe:b = e
  ·have q':H b = some (.own x):=by
    rcases he with z | z
    ·exact absurd (hbe.trans z) hb
    ·rw [hbe]; exact z
   rw [q] at q'; cases q'
   obtain ⟨v,hv⟩:=heo
   exact ⟨v,by rw [hbe]; exact hv⟩
  ·refine (ok b u q).stay (fun c v hc r=>k c v ?_ r) (fun c r=>by rw [upd_ne (nown c b r)]; exact r) fun c xs r=>by rw [upd_ne (ntup c xs r)]; exact r
   rcases hc with rfl | hc
   ·exact hbe
   ·rintro rfl
    rcases he with z | z
    ·exact nown c b hc z
    ·rw [hc] at z; cases z; exact hb rfl
end
structure Un (fs ex:List Addr) (H H':Hp) (h h':Heap):Prop where
 keep:∀ b o,h.get? b = some o -> H b = none -> b ∉ fs -> b ∉ ex -> h'.get? b = some o
 slot:∀ b o,h.get? b = some o -> H b = none -> b ∈ fs -> b ∉ ex -> ∃ sl,h'.get? b = some { o with slots:=sl }
 free:∀ b o,h.get? b = some o -> H b = none -> b ∉ ex -> H' b = none
 there:∀ b o,h.get? b = some o -> b ∉ ex -> ∃ o',h'.get? b = some o'
 tups:∀ b xs,H b = some (.tup xs) -> H' b = some (.tup xs)
 frzs:∀ b o u,H b = some (.frz o u) -> H' b = some (.frz o u)
 tbls:∀ b ps,H b = some (.tbl ps) -> ∃ more,H' b = some (.tbl (ps ++ more))
section
variable {fs fs' ex ex':List Addr} {H H1 H2:Hp} {h h1 h2 h':Heap} {a x e:Addr} {o:HO}
theorem Un.any (u:Un fs ex H H1 h h1) {b:Addr} {ob:Obj} (q:h.get? b = some ob) (n:H b = none) (hx:b ∉ ex):∃ sl,h1.get? b = some { ob with slots:=sl }:=by
 by_cases hb:b ∈ fs
 ·exact u.slot b ob q n hb hx
 ·exact ⟨ob.slots,u.keep b ob q n hb hx⟩
theorem Un.trans (a:Un fs ex H H1 h h1) (b:Un fs ex H1 H2 h1 h2):Un fs ex H H2 h h2 where
 keep:=fun c ob q n hc hx=>b.keep c ob (a.keep c ob q n hc hx) (a.free c ob q n hx) hc hx
 slot:=fun c ob q n hc hx=>by
  obtain ⟨sl,e1⟩:=a.slot c ob q n hc hx
  obtain ⟨sl',e2⟩:=b.slot c _ e1 (a.free c ob q n hx) hc hx
  exact ⟨sl',e2⟩
 free:=fun c ob q n hx=>by
  obtain ⟨o',e1⟩:=a.there c ob q hx
  exact b.free c o' e1 (a.free c ob q n hx) hx
 there:=fun c ob q hx=>by
  obtain ⟨o',e1⟩:=a.there c ob q hx
  exact b.there c o' e1 hx
 tups:=fun c xs q=>b.tups c xs (a.tups c xs q)
 frzs:=fun c ob xs q=>b.frzs c ob xs (a.frzs c ob xs q)
 tbls:=fun c ps q=>by
  obtain ⟨m1,e1⟩:=a.tbls c ps q
  obtain ⟨m2,e2⟩:=b.tbls c _ e1
  exact ⟨m1 ++ m2,by rw [e2,Array.append_assoc]⟩
theorem Un.kept (k:∀ b u,h.get? b = some u -> h'.get? b = some u):Un fs ex H H h h':=
 ⟨fun b ob q _ _ _=>k b ob q,fun b ob q _ _ _=>⟨ob.slots,k b ob q⟩,fun _ _ _ n _=>n,fun b ob q _=>⟨ob,k b ob q⟩,fun _ _ q=>q,fun _ _ _ q=>q,fun _ ps q=>⟨#[],by rw [q]; simp⟩⟩
theorem Un.refl:Un fs ex H H h h:=Un.kept fun _ _ q=>q
theorem Un.laid (k:∀ b u,h.get? b = some u -> h'.get? b = some u) (hp:h.objs.size <= a) (hn:H a = none):Un fs ex H (upd H a o) h h' where
 keep:=fun b u q _ _ _=>k b u q
 slot:=fun b u q _ _ _=>⟨u.slots,k b u q⟩
 free:=fun b u q n _=>by rw [upd_ne (Nat.ne_of_lt (Nat.lt_of_lt_of_le (Heap.lt_size q) hp))]; exact n
 there:=fun b u q _=>⟨u,k b u q⟩
 tups:=fun b xs q=>by rw [upd_ne (ne_of_none q hn)]; exact q
 frzs:=fun b u xs q=>by rw [upd_ne (ne_of_none q hn)]; exact q
 tbls:=fun b ps q=>⟨#[],by rw [upd_ne (ne_of_none q hn),q]; simp⟩
theorem Un.write (mu:Mut (H x)) (he:e = x \/ H e = some (.own x)) (k:∀ b u,b ≠ e -> h.get? b = some u -> h'.get? b = some u) (heo:∃ u,h'.get? e = some u):Un fs ex H (upd H x o) h h':=by
 have hx:∀ b,H b = none -> b ≠ x:=fun b n z=>by subst z; rw [n] at mu; exact mu
 have hb:∀ b,H b = none -> b ≠ e:=fun b n z=>by
  subst z
  rcases he with r | r
  ·exact hx b n r
  ·rw [n] at r; cases r
 have hm:∀ b u,H b = some u -> ¬ Mut (some u) -> b ≠ x:=fun b u q nm z=>by subst z; rw [q] at mu; exact nm mu
 refine ⟨fun b u q n _ _=>k b u (hb b n) q,fun b u q n _ _=>⟨u.slots,k b u (hb b n) q⟩,fun b u q n _=>by rw [upd_ne (hx b n)]; exact n,fun b u q _=>?_,
  fun b xs q=>by rw [upd_ne (hm b _ q fun z=>z)]; exact q,fun b u xs q=>by rw [upd_ne (hm b _ q fun z=>z)]; exact q,fun b ps q=>⟨#[],by rw [upd_ne (hm b _ q fun z=>z),q]; simp⟩⟩
 by_cases hbe:b = e
 ·subst hbe; exact heo
 ·exact ⟨u,k b u hbe q⟩
theorem Un.mono (u:Un fs ex H H1 h h1) (hs:∀ b ∈ fs,b ∈ fs') (hx:∀ b ∈ ex,b ∈ ex'):Un fs' ex' H H1 h h1:=
 ⟨fun b ob q n hb he=>u.keep b ob q n (fun z=>hb (hs b z)) fun z=>he (hx b z),fun _ _ q n _ he=>u.any q n fun z=>he (hx _ z),fun b ob q n he=>u.free b ob q n fun z=>he (hx b z),fun b ob q he=>u.there b ob q fun z=>he (hx b z),u.tups,u.frzs,u.tbls⟩
end
noncomputable def trk (h:Heap) (H:Hp):List Addr:=(List.range h.objs.size).filter fun a=>(H a).isSome
noncomputable def hidT (h:Heap) (H:Hp):Heap:=PySem.W.hideAll h (trk h H)
theorem hidT_size (h:Heap) (H:Hp):(hidT h H).objs.size = h.objs.size:=PySem.W.hideAll_size _ _
theorem hidT_get {h:Heap} {H:Hp} {b:Addr} {o:Obj} (e:h.get? b = some o) (n:H b = none):(hidT h H).get? b = some o:=
 PySem.W.hideAll_get _ e fun hm=>by
  have q:(H b).isSome = true:=(List.mem_filter.mp hm).2
  rw [n] at q; simp at q
theorem of_hidT {h:Heap} {H:Hp} {b:Addr} {o:Obj} (e:(hidT h H).get? b = some o):h.get? b = some o /\ H b = none:=by
 have e':h.get? b = some o:=PySem.W.of_hideAll (trk h H) e
 refine ⟨e',?_⟩
 cases q:H b with
 | none=>rfl
 | some x=>
  have hm:b ∈ trk h H:=List.mem_filter.mpr ⟨List.mem_range.mpr (Heap.lt_size e'),by simp [q]⟩
  have z:(hidT h H).get? b = none:=PySem.W.hideAll_none (trk h H) hm
  rw [z] at e; cases e
end L2
namespace L2
open PySem PySem.Spec PyProof.Rows
structure Mod (K:PySem.W.Frag) (mg:Str -> Option Value) (base:Heap):Prop where
 kin:K.In base
 glob:base.Ns mainGlobals mg
 blt:∃ mb,base.Ns builtinsNs mb /\ ∀ x:Str,x ≠ "__name__" -> mb x = bootBuiltins x
 nolimit:base.NoLimit
structure Cx where
 prog:Program
 w:World
 K:PySem.W.Frag
 mg:Str -> Option Value
 base:Heap
 A:Around
 N:List Str
 s₀:Shared
 H₀:Hp
 env:Env
 outer:List Env
 stack:List Env
 ex:List Addr
 fn:Str -> Bool
 calm:Bool
 pn:List (Addr × Obj)
 xe:Value -> Shared -> Prop
noncomputable def frs (l:List Env):List Addr:=l.filterMap (·.frame)
noncomputable abbrev Cx.fs (X:Cx):List Addr:=frs X.outer
noncomputable def Vis (sc:Scope) (x:Str):Prop:=sc.names.lookup x = some .local \/ sc.names.lookup x = some .cell \/ sc.names.lookup x = some .free
noncomputable def Loc (sc:Scope) (x:Str):Prop:=sc.names.lookup x = some .local \/ sc.names.lookup x = some .cell
noncomputable def Look (env:Env) (h:Heap) (m:Str -> Option Value) (x:Str) (u:Value):Prop:=
 (env.kindOf x = some .local /\ m x = some u) \/ ((env.kindOf x = some .cell \/ env.kindOf x = some .free) /\ ∃ c,env.cells.lookup x = some c /\ h.IsCell c (some u))
structure Cx.Ok (X:Cx):Prop where
 mod:Mod X.K X.mg X.base
 kind:X.env.scope.kind = .function
 glob:X.env.globals = mainGlobals
 blt:X.env.builtins = builtinsNs
 above:X.s₀.heap.objs.size <= X.env.locals
 inj:∀ x y c,X.env.cells.lookup x = some c -> X.env.cells.lookup y = some c -> x = y
 has:∀ x,(X.env.kindOf x = some .cell \/ X.env.kindOf x = some .free) -> ∃ c,X.env.cells.lookup x = some c
 cab:∀ x c,X.fn x = true -> X.env.cells.lookup x = some c -> X.s₀.heap.objs.size <= c
 hd:X.calm = true -> X.A.handled = none
 frames:X.A.frames = some X.stack
 stk:X.stack = X.outer \/ (X.stack = X.env :: X.outer /\ X.env.frame = some X.env.locals)
 exf:∀ b ∈ X.ex,b ≠ X.env.locals /\ ∀ x c,X.env.cells.lookup x = some c -> c ≠ b
 bs:∀ b o,X.base.get? b = some o -> X.s₀.heap.get? b = some o /\ X.H₀ b = none
 bsz:X.base.objs.size <= X.s₀.heap.objs.size
 noex:∀ b o,X.base.get? b = some o -> b ∉ X.ex
 exfs:∀ b ∈ X.ex,b ∉ X.fs
 funs:X.s₀.heap.FunFrames X.base X.outer
 frf:∀ b ∈ X.fs,X.H₀ b = none
structure Inv (X:Cx) (pins:List (Addr × Obj)) (σ:List (Option V)) (H:Hp) (s:Shared):Prop where
 ok:X.Ok
 os:s.os = X.s₀.os
 bare:AllBare s.gens
 base:Un X.fs X.ex X.H₀ H X.s₀.heap s.heap
 loc:∃ m,s.heap.Ns X.env.locals m /\ ∀ (i:Nat) (x:Str) (v:V),X.N[i]? = some x -> σ[i]? = some (some v) -> Vis X.env.scope x -> ∃ u,RelV v u /\ Look X.env s.heap m x u
 cell:∀ x c,X.env.cells.lookup x = some c -> ∃ v,s.heap.IsCell c v
 free:H X.env.locals = none
 freeC:∀ x c,X.env.cells.lookup x = some c -> H c = none
 pin:∀ p ∈ X.pn ++ pins,s.heap.get? p.1 = some p.2 /\ H p.1 = none /\ p.1 ≠ X.env.locals /\ p.1 ∉ X.fs /\ ∀ v,p.2.data ≠ .cell v
 hok:HOk X.prog X.w H s.heap
 len:σ.length = X.N.length
section
variable {X:Cx} {pins:List (Addr × Obj)} {σ:List (Option V)} {H H':Hp} {s:Shared} {h':Heap}
theorem Cx.Ok.nofr (ok:X.Ok) {b:Addr} {o:Obj} (e:X.base.get? b = some o):b ∉ X.fs:=fun hb=>by
 have:=(ok.funs.mem hb).1
 rw [e] at this; cases this
theorem Inv.bs (I:Inv X pins σ H s):∀ b o,X.base.get? b = some o -> s.heap.get? b = some o /\ H b = none:=fun b o e=>
 ⟨I.base.keep b o (I.ok.bs b o e).1 (I.ok.bs b o e).2 (I.ok.nofr e) (I.ok.noex b o e),I.base.free b o (I.ok.bs b o e).1 (I.ok.bs b o e).2 (I.ok.noex b o e)⟩
theorem Inv.bk (I:Inv X pins σ H s):∀ b o,X.base.get? b = some o -> s.heap.get? b = some o:=fun b o e=>(I.bs b o e).1
theorem Inv.mod (I:Inv X pins σ H s):Mod X.K X.mg X.base:=I.ok.mod
theorem Inv.kIn (I:Inv X pins σ H s):X.K.In s.heap:=I.ok.mod.kin.keeps I.bk
theorem Inv.lt (I:Inv X pins σ H s):X.env.locals < s.heap.objs.size:=let ⟨_,hn,_⟩:=I.loc; hn.lt
theorem Inv.sz (I:Inv X pins σ H s):X.s₀.heap.objs.size <= s.heap.objs.size:=Nat.le_trans I.ok.above (Nat.le_of_lt I.lt)
theorem Inv.nofs (I:Inv X pins σ H s) {a:Addr} (h:s.heap.objs.size <= a):a ∉ X.fs:=fun hb=>by
 obtain ⟨_,o,ho,_⟩:=I.ok.funs.mem hb
 exact absurd (Nat.lt_of_lt_of_le (Heap.lt_size ho) (Nat.le_trans I.sz h)) (Nat.lt_irrefl _)
theorem Inv.cne (I:Inv X pins σ H s):∀ x c,X.env.cells.lookup x = some c -> c ≠ X.env.locals:=fun x c e z=>by
 obtain ⟨v,o,ho,hd⟩:=I.cell x c e
 obtain ⟨m,⟨o',es,ep,ho',hd',_⟩,_⟩:=I.loc
 rw [z,ho'] at ho; cases ho; rw [hd'] at hd; cases hd
theorem Inv.funs (I:Inv X pins σ H s):s.heap.FunFrames X.base X.outer:=by
 have all:∀ (l:List Env),(∀ b ∈ frs l,b ∈ X.fs) -> X.s₀.heap.FunFrames X.base l -> s.heap.FunFrames X.base l:=by
  intro l
  induction l with
  | nil=>intro _ _; trivial
  | cons env r ih=>
   intro hs hl
   obtain ⟨hk,⟨L,o,hf,hn,ho,hd⟩,hr⟩:=hl
   have hL:L ∈ X.fs:=hs L (by unfold frs; rw [List.filterMap_cons,hf]; exact List.mem_cons_self)
   obtain ⟨sl,e⟩:=I.base.slot L o ho (I.ok.frf L hL) hL fun z=>I.ok.exfs L z hL
   exact ⟨hk,⟨L,_,hf,hn,e,hd⟩,ih (fun b hb=>hs b (by unfold frs; rw [List.filterMap_cons,hf]; exact List.mem_cons_of_mem _ hb)) hr⟩
 exact all X.outer (fun _ hb=>hb) I.ok.funs
theorem Inv.stack (I:Inv X pins σ H s):s.heap.FunFrames X.base X.stack:=by
 rcases I.ok.stk with e | ⟨e,hf⟩
 ·rw [e]; exact I.funs
 ·rw [e]
  obtain ⟨m,hn,_⟩:=I.loc
  refine .cons (by rw [I.ok.kind]; decide) hf hn ?_ I.funs
  exact Heap.get?_none_of_le (Nat.le_trans I.ok.bsz I.ok.above)
theorem Inv.stkSub (I:Inv X pins σ H s):∀ b ∈ frs X.stack,b ∈ X.env.locals :: X.fs:=fun b hb=>by
 rcases I.ok.stk with e | ⟨e,hf⟩
 ·rw [e] at hb; exact List.mem_cons_of_mem _ hb
 ·rw [e] at hb
  unfold frs at hb
  rw [List.filterMap_cons,hf] at hb
  exact hb
theorem Inv.stkFree (I:Inv X pins σ H s):∀ b ∈ frs X.stack,H b = none:=fun b hb=>by
 rcases List.mem_cons.mp (I.stkSub b hb) with e | hb
 ·rw [e]; exact I.free
 ·obtain ⟨_,o,ho,_⟩:=I.ok.funs.mem hb
  exact I.base.free b o ho (I.ok.frf b hb) fun z=>I.ok.exfs b z hb
theorem Inv.step {g':Array GenState} {t':Nat} {d':Drawn} {ch:List Addr} (I:Inv X pins σ H s)
  (hch:∀ b ∈ ch,(b ∈ X.ex \/ X.s₀.heap.objs.size <= b) /\ b ≠ X.env.locals /\ (∀ x c,X.env.cells.lookup x = some c -> c ≠ b) /\ ∀ p ∈ X.pn ++ pins,p.1 ≠ b)
  (keep:∀ b o,b ≠ X.env.locals -> b ∉ X.fs -> b ∉ ch -> s.heap.get? b = some o -> H b = none -> h'.get? b = some o)
  (slot:∀ b o,b ≠ X.env.locals -> b ∈ X.fs -> b ∉ ch -> s.heap.get? b = some o -> H b = none -> ∃ sl,h'.get? b = some { o with slots:=sl }) (free:∀ b o,b ∉ ch -> s.heap.get? b = some o -> H b = none -> H' b = none)
  (there:∀ b o,b ∉ ch -> s.heap.get? b = some o -> ∃ o',h'.get? b = some o')
  (tups:∀ b xs,H b = some (.tup xs) -> H' b = some (.tup xs)) (frzs:∀ b o u,H b = some (.frz o u) -> H' b = some (.frz o u)) (tbls:∀ b ps,H b = some (.tbl ps) -> ∃ more,H' b = some (.tbl (ps ++ more)))
  (ns:∀ m,s.heap.Ns X.env.locals m -> h'.Ns X.env.locals m) (hok:HOk X.prog X.w H' h') (hg:AllBare g') :
  Inv X pins σ H' { s with heap:=h',gens:=g',drawn:=d',toks:=t' }:=by
 have neL:∀ b o,X.s₀.heap.get? b = some o -> b ≠ X.env.locals:=fun b o e=>Nat.ne_of_lt (Nat.lt_of_lt_of_le (Heap.lt_size e) I.ok.above)
 have neC:∀ b o,X.s₀.heap.get? b = some o -> b ∉ X.ex -> b ∉ ch:=fun b o e hx hb=>by
  rcases (hch b hb).1 with z | z
  ·exact hx z
  ·exact absurd (Nat.lt_of_lt_of_le (Heap.lt_size e) z) (Nat.lt_irrefl _)
 have cellK:∀ x c,X.env.cells.lookup x = some c -> ∀ v,s.heap.IsCell c v -> h'.IsCell c v:=fun x c e v ⟨o,ho,hd⟩=>by
  have nch:c ∉ ch:=fun z=>(hch c z).2.2.1 x c e rfl
  by_cases hc:c ∈ X.fs
  ·obtain ⟨sl,q⟩:=slot c o (I.cne x c e) hc nch ho (I.freeC x c e)
   exact ⟨_,q,hd⟩
  ·exact ⟨o,keep c o (I.cne x c e) hc nch ho (I.freeC x c e),hd⟩
 refine ⟨I.ok,I.os,hg,⟨fun b o e n hb hx=>?_,fun b o e n hb hx=>?_,fun b o e n hx=>?_,fun b o e hx=>?_,fun b xs e=>tups b xs (I.base.tups b xs e),fun b o xs e=>frzs b o xs (I.base.frzs b o xs e),fun b ps e=>?_⟩,?_,fun x c e=>?_,?_,fun x c e=>?_,fun p hp=>?_,hok,I.len⟩
 ·exact keep b o (neL b o e) hb (neC b o e hx) (I.base.keep b o e n hb hx) (I.base.free b o e n hx)
 ·obtain ⟨sl,e1⟩:=I.base.slot b o e n hb hx
  obtain ⟨sl',e2⟩:=slot b _ (neL b o e) hb (neC b o e hx) e1 (I.base.free b o e n hx)
  exact ⟨sl',e2⟩
 ·obtain ⟨o',e1⟩:=I.base.there b o e hx
  exact free b o' (neC b o e hx) e1 (I.base.free b o e n hx)
 ·obtain ⟨o',e1⟩:=I.base.there b o e hx
  exact there b o' (neC b o e hx) e1
 ·obtain ⟨m1,e1⟩:=I.base.tbls b ps e
  obtain ⟨m2,e2⟩:=tbls b _ e1
  exact ⟨m1 ++ m2,by rw [e2,Array.append_assoc]⟩
 ·obtain ⟨m,hn,hl⟩:=I.loc
  refine ⟨m,ns m hn,fun i x v e1 e2 e3=>?_⟩
  obtain ⟨u,r,l⟩:=hl i x v e1 e2 e3
  refine ⟨u,r,?_⟩
  rcases l with l | ⟨k,c,e,z⟩
  ·exact .inl l
  ·exact .inr ⟨k,c,e,cellK x c e _ z⟩
 ·obtain ⟨v,z⟩:=I.cell x c e
  exact ⟨v,cellK x c e v z⟩
 ·obtain ⟨m,⟨o,_,_,ho,_⟩,_⟩:=I.loc
  exact free _ o (fun z=>(hch _ z).2.1 rfl) ho I.free
 ·obtain ⟨v,o,ho,hd⟩:=I.cell x c e
  exact free c o (fun z=>(hch c z).2.2.1 x c e rfl) ho (I.freeC x c e)
 ·obtain ⟨e,n,ne,nf,d⟩:=I.pin p hp
  have nch:p.1 ∉ ch:=fun z=>(hch p.1 z).2.2.2 p hp rfl
  exact ⟨keep p.1 p.2 ne nf nch e n,free p.1 p.2 nch e n,ne,nf,d⟩
theorem Inv.un {t':Nat} (I:Inv X pins σ H s) (u:Un X.fs [] H H' s.heap h') (hok:HOk X.prog X.w H' h'):Inv X pins σ H' { s with heap:=h',toks:=t' }:=by
 obtain ⟨m,⟨o,es,ep,ho,r⟩,_⟩:=id I.loc
 obtain ⟨sl,hL⟩:=u.any ho I.free (by simp)
 exact I.step (g':=s.gens) (d':=s.drawn) (ch:=[]) (fun _ z=>nomatch z) (fun b o _ hb _ e n=>u.keep b o e n hb (by simp)) (fun b o _ hb _ e n=>u.slot b o e n hb (by simp)) (fun b o _ e n=>u.free b o e n (by simp)) (fun b o _ e=>u.there b o e (by simp)) u.tups u.frzs u.tbls (fun m' hm=>by
  obtain ⟨o',es',ep',ho',r'⟩:=hm
  rw [ho] at ho'; cases ho'
  exact ⟨_,es',ep',hL,r'⟩) hok I.bare
theorem Inv.call {g':Array GenState} {t':Nat} {d':Drawn} {ch:List Addr} (I:Inv X pins σ H s) (u:Un (frs X.stack) ch H H' s.heap h') (hok:HOk X.prog X.w H' h') (hg:AllBare g')
  (hch:∀ b ∈ ch,(b ∈ X.ex \/ X.s₀.heap.objs.size <= b) /\ b ≠ X.env.locals /\ (∀ x c,X.env.cells.lookup x = some c -> c ≠ b) /\ ∀ p ∈ X.pn ++ pins,p.1 ≠ b) :
  Inv X pins σ H' { s with heap:=h',gens:=g',drawn:=d',toks:=t' }:=by
 obtain ⟨m,⟨o,es,ep,ho,r⟩,_⟩:=id I.loc
 obtain ⟨sl,hL⟩:=u.any ho I.free fun z=>(hch _ z).2.1 rfl
 exact I.step (ch:=ch) hch (fun b o hL hb hc e n=>u.keep b o e n (fun z=>(List.mem_cons.mp (I.stkSub b z)).elim hL hb) hc) (fun b o _ _ hc e n=>u.any e n hc) (fun b o hc e n=>u.free b o e n hc) (fun b o hc e=>u.there b o e hc) u.tups u.frzs u.tbls (fun m' hm=>by
  obtain ⟨o',es',ep',ho',r'⟩:=hm
  rw [ho] at ho'; cases ho'
  exact ⟨_,es',ep',hL,r'⟩) hok hg
theorem Inv.turned {t':Nat} {it:Addr} (I:Inv X pins σ H s) (k:∀ b o,b ≠ it -> s.heap.get? b = some o -> h'.get? b = some o) (hn:H it = none) (hL:it ≠ X.env.locals)
  (h1:it ∈ X.ex \/ X.s₀.heap.objs.size <= it) (h2:∀ x c,X.env.cells.lookup x = some c -> c ≠ it) (h3:∀ p ∈ X.pn ++ pins,p.1 ≠ it):Inv X pins σ H { s with heap:=h',toks:=t' }:=by
 have nit:∀ b u,H b = some u -> b ≠ it:=fun b u e z=>by rw [z,hn] at e; cases e
 refine I.step (g':=s.gens) (d':=s.drawn) (ch:=[it]) (fun b hb=>?_) (fun b o _ _ hc e _=>k b o (fun z=>hc (by simp [z])) e) (fun b o _ _ hc e _=>⟨o.slots,k b o (fun z=>hc (by simp [z])) e⟩) (fun _ _ _ _ n=>n)
  (fun b o hc e=>⟨o,k b o (fun z=>hc (by simp [z])) e⟩) (fun _ _ e=>e) (fun _ _ _ e=>e) (fun b ps e=>⟨#[],by rw [e]; simp⟩) (fun m hm=>?_) (fun b u e=>?_) I.bare
 ·have e:b = it:=by simpa using hb
  subst e
  exact ⟨h1,hL,h2,h3⟩
 ·obtain ⟨o,es,ep,ho,r⟩:=hm
  exact ⟨o,es,ep,k _ o (Ne.symm hL) ho,r⟩
 ·refine (I.hok b u e).stay (fun c v hc q=>k c v ?_ q) (fun _ q=>q) fun _ _ q=>q
  rcases hc with z | z
  ·rw [z]; exact nit b u e
  ·exact nit c _ z
theorem Inv.tok (I:Inv X pins σ H s) (t:Nat):Inv X pins σ H { s with toks:=t }:=I.un (h':=s.heap) (t':=t) Un.refl I.hok
theorem Inv.kept {t':Nat} (I:Inv X pins σ H s) (k:∀ b u,s.heap.get? b = some u -> h'.get? b = some u):Inv X pins σ H { s with heap:=h',toks:=t' }:=I.un (Un.kept k) (I.hok.kept k)
theorem Inv.laid {a:Addr} {o:HO} {t':Nat} (I:Inv X pins σ H s) (k:∀ b u,s.heap.get? b = some u -> h'.get? b = some u) (hp:s.heap.objs.size <= a) (new:ObjOk X.prog X.w (upd H a o) h' a o) :
  Inv X pins σ (upd H a o) { s with heap:=h',toks:=t' }:=I.un (Un.laid k hp (I.hok.fresh hp)) (I.hok.laid k hp new)
theorem Inv.write {x e:Addr} {o:HO} {t':Nat} (I:Inv X pins σ H s) (mu:Mut (H x)) (he:e = x \/ H e = some (.own x)) (k:∀ b u,b ≠ e -> s.heap.get? b = some u -> h'.get? b = some u) (heo:∃ u,h'.get? e = some u)
  (new:ObjOk X.prog X.w (upd H x o) h' x o):Inv X pins σ (upd H x o) { s with heap:=h',toks:=t' }:=I.un (Un.write mu he k heo) (I.hok.write mu he k heo new)
theorem Inv.pins_of {pins':List (Addr × Obj)} (I:Inv X pins σ H s) (h:∀ p ∈ pins',s.heap.get? p.1 = some p.2 /\ H p.1 = none /\ p.1 ≠ X.env.locals /\ p.1 ∉ X.fs /\ ∀ v,p.2.data ≠ .cell v):Inv X pins' σ H s:=
 ⟨I.ok,I.os,I.bare,I.base,I.loc,I.cell,I.free,I.freeC,fun p hp=>(List.mem_append.mp hp).elim (fun z=>I.pin p (List.mem_append_left _ z)) (h p),I.hok,I.len⟩
theorem nodup_ix {N:List Str} (hN:N.Nodup) {i j:Nat} {x:Str} (a:N[i]? = some x) (b:N[j]? = some x):i = j:=by
 obtain ⟨h1,e1⟩:=List.getElem?_eq_some_iff.mp a
 obtain ⟨h2,e2⟩:=List.getElem?_eq_some_iff.mp b
 exact (List.getElem_inj hN).mp (e1.trans e2.symm)
theorem store_ok2 {M:Model} {A:Around} {E:Value -> Shared -> Prop} {i:Nat} {x:Str} {v:V} {u:Value} {Q:Unit -> Shared -> Prop} (I:Inv X pins σ H s) (hN:X.N.Nodup) (hi:X.N[i]? = some x) (hx:Loc X.env.scope x) (r:RelV v u)
  (h:∀ s',Inv X pins (σ.set i (some v)) H s' -> (∃ a,Heap.SameBut a s.heap s'.heap /\ (a = X.env.locals \/ X.env.cells.lookup x = some a)) -> Q () s') (hf:X.fn x = true \/ X.env.scope.names.lookup x = some .local:=by first | exact .inl rfl | exact .inr rfl | assumption):wpAny M A (storeName X.env x u) Q E s:=by
 obtain ⟨m,hn,hl⟩:=id I.loc
 have hcls:(X.env.scope.kind == .class || (X.env.scope.kind == .module && X.env.locals != X.env.globals)) = false:=by rw [I.ok.kind]; rfl
 have hiσ:i < σ.length:=by rw [I.len]; exact (List.getElem?_eq_some_iff.mp hi).1
 have cne:=I.cne
 have tracked:∀ {a:Addr} {h':Heap},(∃ o,s.heap.get? a = some o /\ H a = none) -> Heap.SameBut a s.heap h' -> HOk X.prog X.w H h':=fun {a h'} ha hs b ob e=>by
  obtain ⟨_,_,hfree⟩:=ha
  refine (I.hok b ob e).stay (fun c w' hc q=>(hs.2 c ?_).trans q) (fun _ q=>q) fun _ _ q=>q
  rintro rfl
  rcases hc with rfl | hc
  ·rw [hfree] at e; cases e
  ·rw [hfree] at hc; cases hc
 rcases hx with hk | hk
 ·refine wpAny_storeName_local hk hn (fun h' hn' hs=>?_) hcls
  obtain ⟨oL,_,_,hoL,_⟩:=id hn
  refine h _ ⟨I.ok,I.os,I.bare,⟨fun b o e n hb hx=>?_,fun b o e n hb hx=>?_,I.base.free,fun b o e hx=>?_,I.base.tups,I.base.frzs,I.base.tbls⟩,⟨_,hn',fun j y v' e1 e2 e3=>?_⟩,fun y c e=>?_,I.free,I.freeC,fun p hp=>?_,tracked ⟨oL,hoL,I.free⟩ hs,by simpa using I.len⟩ ⟨_,hs,.inl rfl⟩
  ·exact (hs.2 b (Nat.ne_of_lt (Nat.lt_of_lt_of_le (Heap.lt_size e) I.ok.above))).trans (I.base.keep b o e n hb hx)
  ·obtain ⟨sl,e1⟩:=I.base.slot b o e n hb hx
   exact ⟨sl,(hs.2 b (Nat.ne_of_lt (Nat.lt_of_lt_of_le (Heap.lt_size e) I.ok.above))).trans e1⟩
  ·obtain ⟨o',e1⟩:=I.base.there b o e hx
   exact ⟨o',(hs.2 b (Nat.ne_of_lt (Nat.lt_of_lt_of_le (Heap.lt_size e) I.ok.above))).trans e1⟩
  ·by_cases hj:j = i
   ·subst hj
    rw [hi] at e1; cases e1
    rw [List.getElem?_set_self hiσ] at e2
    cases e2
    exact ⟨u,r,.inl ⟨hk,by simp⟩⟩
   ·rw [List.getElem?_set_ne (Ne.symm hj)] at e2
    obtain ⟨u',r',q⟩:=hl j y v' e1 e2 e3
    refine ⟨u',r',?_⟩
    rcases q with ⟨k,e⟩ | ⟨k,c,e,z⟩
    ·refine .inl ⟨k,?_⟩
     have:y ≠ x:=fun e=>hj (nodup_ix hN e1 (e ▸ hi))
     simp [this,e]
    ·exact .inr ⟨k,c,e,z.sameBut hs (cne y c e)⟩
  ·obtain ⟨w',z⟩:=I.cell y c e
   exact ⟨w',z.sameBut hs (cne y c e)⟩
  ·obtain ⟨e,n,ne,nf,d⟩:=I.pin p hp
   exact ⟨(hs.2 p.1 ne).trans e,n,ne,nf,d⟩
 ·have hfn:X.fn x = true:=by
   rcases hf with z | z
   ·exact z
   ·rw [z] at hk; cases hk
  obtain ⟨c,hc⟩:=I.ok.has x (.inl hk)
  obtain ⟨w',z⟩:=I.cell x c hc
  refine wpAny_storeName_cell I.ok.kind hk hc z (fun h' hc' hs=>?_)
  obtain ⟨oc,hoc,hocd⟩:=id z
  refine h { s with heap:=h' } ⟨I.ok,I.os,I.bare,⟨fun b o e n hb hx=>?_,fun b o e n hb hx=>?_,I.base.free,fun b o e hx=>?_,I.base.tups,I.base.frzs,I.base.tbls⟩,⟨m,hn.sameBut hs (Ne.symm (cne x c hc)),fun j y v' e1 e2 e3=>?_⟩,fun y c' e=>?_,I.free,I.freeC,fun p hp=>?_,tracked ⟨oc,hoc,I.freeC x c hc⟩ hs,by simpa using I.len⟩ ⟨c,hs,.inr hc⟩
  ·exact (hs.2 b (Nat.ne_of_lt (Nat.lt_of_lt_of_le (Heap.lt_size e) (I.ok.cab x c hfn hc)))).trans (I.base.keep b o e n hb hx)
  ·obtain ⟨sl,e1⟩:=I.base.slot b o e n hb hx
   exact ⟨sl,(hs.2 b (Nat.ne_of_lt (Nat.lt_of_lt_of_le (Heap.lt_size e) (I.ok.cab x c hfn hc)))).trans e1⟩
  ·obtain ⟨o',e1⟩:=I.base.there b o e hx
   exact ⟨o',(hs.2 b (Nat.ne_of_lt (Nat.lt_of_lt_of_le (Heap.lt_size e) (I.ok.cab x c hfn hc)))).trans e1⟩
  ·by_cases hj:j = i
   ·subst hj
    rw [hi] at e1; cases e1
    rw [List.getElem?_set_self hiσ] at e2
    cases e2
    exact ⟨u,r,.inr ⟨.inl hk,c,hc,hc'⟩⟩
   ·rw [List.getElem?_set_ne (Ne.symm hj)] at e2
    obtain ⟨u',r',q⟩:=hl j y v' e1 e2 e3
    refine ⟨u',r',?_⟩
    rcases q with q | ⟨k,c',e,z'⟩
    ·exact .inl q
    ·refine .inr ⟨k,c',e,z'.sameBut hs ?_⟩
     rintro rfl
     exact hj (nodup_ix hN e1 (I.ok.inj _ _ _ e hc ▸ hi))
  ·by_cases hcc:c' = c
   ·subst hcc; exact ⟨_,hc'⟩
   ·obtain ⟨w2,z2⟩:=I.cell y c' e
    exact ⟨w2,z2.sameBut hs hcc⟩
  ·obtain ⟨e,n,ne,nf,d⟩:=I.pin p hp
   refine ⟨(hs.2 p.1 ?_).trans e,n,ne,nf,d⟩
   intro q
   rw [q,hoc] at e
   have q':oc = p.2:=Option.some.inj e
   exact d w' (by rw [<- q']; exact hocd)
theorem store_ok {M:Model} {A:Around} {E:Value -> Shared -> Prop} {i:Nat} {x:Str} {v:V} {u:Value} {Q:Unit -> Shared -> Prop} (I:Inv X pins σ H s) (hN:X.N.Nodup) (hi:X.N[i]? = some x) (hx:Loc X.env.scope x) (r:RelV v u)
  (h:∀ s',Inv X pins (σ.set i (some v)) H s' -> Q () s') (hf:X.fn x = true \/ X.env.scope.names.lookup x = some .local:=by first | exact .inl rfl | exact .inr rfl | assumption):wpAny M A (storeName X.env x u) Q E s:=
 store_ok2 I hN hi hx r (fun s' I' _=>h s' I') hf
theorem Inv.call' {s':Shared} {ch:List Addr} (I:Inv X pins σ H s) (ho:s'.os = s.os) (u:Un (frs X.stack) ch H H' s.heap s'.heap) (hok:HOk X.prog X.w H' s'.heap) (hg:AllBare s'.gens)
  (hch:∀ b ∈ ch,(b ∈ X.ex \/ X.s₀.heap.objs.size <= b) /\ b ≠ X.env.locals /\ (∀ x c,X.env.cells.lookup x = some c -> c ≠ b) /\ ∀ p ∈ X.pn ++ pins,p.1 ≠ b):Inv X pins σ H' s':=by
 obtain ⟨h',g',d',t',o'⟩:=s'
 have e:o' = s.os:=ho
 subst e
 exact I.call (g':=g') (t':=t') (d':=d') u hok hg hch
end
noncomputable abbrev XK:=Value -> Option Addr -> Hp -> Prop
noncomputable abbrev St:=List (Option V)
noncomputable abbrev VK:=V -> Hp -> Prop
noncomputable abbrev TE:=St -> Hp -> VK -> Prop
noncomputable abbrev TT:=St -> Hp -> (Bool -> Hp -> Prop) -> Prop
noncomputable abbrev TA:=St -> Hp -> (List V -> Hp -> Prop) -> Prop
structure Ends where
 nx:St -> Hp -> Prop
 rt:VK
 bk:St -> Hp -> Prop:=fun _ _=>False
 ct:St -> Hp -> Prop:=fun _ _=>False
noncomputable abbrev TS:=Ends -> St -> Hp -> Prop
noncomputable def EP (X:Cx) (pins:List (Addr × Obj)) (σ:St) (Q:VK) (u:Value) (s':Shared):Prop:=∃ v H',Inv X pins σ H' s' /\ RelV v u /\ Q v H'
noncomputable def TP (X:Cx) (pins:List (Addr × Obj)) (σ:St) (Q:Bool -> Hp -> Prop) (b:Bool) (s':Shared):Prop:=∃ H',Inv X pins σ H' s' /\ Q b H'
noncomputable def AP (X:Cx) (pins:List (Addr × Obj)) (σ:St) (Q:List V -> Hp -> Prop) (us:List Value) (s':Shared):Prop:=∃ vs H',Inv X pins σ H' s' /\ Vals vs us /\ Q vs H'
noncomputable def SP (X:Cx) (pins:List (Addr × Obj)) (D:Ends) (f:Flow) (s':Shared):Prop:=
 match f with
 | .next=>∃ σ' H',Inv X pins σ' H' s' /\ D.nx σ' H'
 | .brk=>∃ σ' H',Inv X pins σ' H' s' /\ D.bk σ' H'
 | .cont=>∃ σ' H',Inv X pins σ' H' s' /\ D.ct σ' H'
 | .ret u=>∃ v σ' H',Inv X pins σ' H' s' /\ RelV v u /\ D.rt v H'
structure PE (X:Cx) (e:Expr) (t:TE)  : Prop where
 of ::
 run :
 ∀ (pins:List (Addr × Obj)) (s:Shared) (σ:St) (H:Hp) (Q:VK),Inv X pins σ H s -> t σ H Q -> wpAny (model X.prog X.w) X.A (eval e X.env) (EP X pins σ Q) X.xe s
noncomputable instance {X:Cx} {e:Expr} {t:TE}  : CoeFun (PE X e t) fun _=>
 ∀ (pins:List (Addr × Obj)) (s:Shared) (σ:St) (H:Hp) (Q:VK),Inv X pins σ H s -> t σ H Q -> wpAny (model X.prog X.w) X.A (eval e X.env) (EP X pins σ Q) X.xe s:=⟨PE.run⟩
structure PT (X:Cx) (e:Expr) (t:TT)  : Prop where
 of ::
 run :
 ∀ (pins:List (Addr × Obj)) (s:Shared) (σ:St) (H:Hp) (Q:Bool -> Hp -> Prop),Inv X pins σ H s -> t σ H Q -> wpAny (model X.prog X.w) X.A (isTrue e X.env (eval e X.env)) (TP X pins σ Q) X.xe s
noncomputable instance {X:Cx} {e:Expr} {t:TT}  : CoeFun (PT X e t) fun _=>
 ∀ (pins:List (Addr × Obj)) (s:Shared) (σ:St) (H:Hp) (Q:Bool -> Hp -> Prop),Inv X pins σ H s -> t σ H Q -> wpAny (model X.prog X.w) X.A (isTrue e X.env (eval e X.env)) (TP X pins σ Q) X.xe s:=⟨PT.run⟩
structure PW (X:Cx) (e:Expr) (t:TT)  : Prop where
 of ::
 run :
 ∀ (whole:Sem Value) (pins:List (Addr × Obj)) (s:Shared) (σ:St) (H:Hp) (Q:Bool -> Hp -> Prop),Inv X pins σ H s -> t σ H Q -> wpAny (model X.prog X.w) X.A (isTrue e X.env whole) (TP X pins σ Q) X.xe s
noncomputable instance {X:Cx} {e:Expr} {t:TT}  : CoeFun (PW X e t) fun _=>
 ∀ (whole:Sem Value) (pins:List (Addr × Obj)) (s:Shared) (σ:St) (H:Hp) (Q:Bool -> Hp -> Prop),Inv X pins σ H s -> t σ H Q -> wpAny (model X.prog X.w) X.A (isTrue e X.env whole) (TP X pins σ Q) X.xe s:=⟨PW.run⟩
theorem PW.pt {X:Cx} {e:Expr} {t:TT} (h:PW X e t):PT X e t:=.of (h _)
structure PA (X:Cx) (es:List Expr) (t:TA)  : Prop where
 of ::
 run :
 ∀ (pos:Pos) (pins:List (Addr × Obj)) (s:Shared) (σ:St) (H:Hp) (Q:List V -> Hp -> Prop),Inv X pins σ H s -> t σ H Q -> wpAny (model X.prog X.w) X.A (spliced (backTo pos (starEach es X.env))) (AP X pins σ Q) X.xe s
noncomputable instance {X:Cx} {es:List Expr} {t:TA}  : CoeFun (PA X es t) fun _=>
 ∀ (pos:Pos) (pins:List (Addr × Obj)) (s:Shared) (σ:St) (H:Hp) (Q:List V -> Hp -> Prop),Inv X pins σ H s -> t σ H Q -> wpAny (model X.prog X.w) X.A (spliced (backTo pos (starEach es X.env))) (AP X pins σ Q) X.xe s:=⟨PA.run⟩
structure PS (X:Cx) (st:Stmt) (t:TS)  : Prop where
 of ::
 run :
 ∀ (pins:List (Addr × Obj)) (s:Shared) (σ:St) (H:Hp) (D:Ends),Inv X pins σ H s -> t D σ H -> wpAny (model X.prog X.w) X.A (exec st X.env) (SP X pins D) X.xe s
noncomputable instance {X:Cx} {st:Stmt} {t:TS}  : CoeFun (PS X st t) fun _=>
 ∀ (pins:List (Addr × Obj)) (s:Shared) (σ:St) (H:Hp) (D:Ends),Inv X pins σ H s -> t D σ H -> wpAny (model X.prog X.w) X.A (exec st X.env) (SP X pins D) X.xe s:=⟨PS.run⟩
structure PSs (X:Cx) (st:List Stmt) (t:TS)  : Prop where
 of ::
 run :
 ∀ (pins:List (Addr × Obj)) (s:Shared) (σ:St) (H:Hp) (D:Ends),Inv X pins σ H s -> t D σ H -> wpAny (model X.prog X.w) X.A (execs st X.env) (SP X pins D) X.xe s
noncomputable instance {X:Cx} {st:List Stmt} {t:TS}  : CoeFun (PSs X st t) fun _=>
 ∀ (pins:List (Addr × Obj)) (s:Shared) (σ:St) (H:Hp) (D:Ends),Inv X pins σ H s -> t D σ H -> wpAny (model X.prog X.w) X.A (execs st X.env) (SP X pins D) X.xe s:=⟨PSs.run⟩
theorem thn {α:Type} {t:Sem α} {Q Q':α -> Shared -> Prop} {M:Model} {A:Around} {E:Value -> Shared -> Prop} {s:Shared} (h:wpAny M A t Q E s) (hQ:∀ a s,Q a s -> Q' a s):wpAny M A t Q' E s:=wpAny_mono h hQ fun _ _ x=>x
end L2
namespace L2
open PySem PySem.Spec PyProof.Rows
section
variable {X:Cx}
noncomputable def tVar (i:Nat):TE:=fun σ H Q=>∃ v,σ[i]? = some (some v) /\ Q v H
noncomputable def tC (v:V):TE:=fun _ H Q=>Q v H
theorem pe_var {i:Nat} {x:Str} {pos:Pos} (hN:X.N[i]? = some x) (hv:Vis X.env.scope x) (hd:(x == ("__debug__" : Str)) = false:=by decide) (hcd:(x == ("__classdict__" : Str)) = false:=by decide):PE X (.Name x pos) (tVar i):=by
 refine .of ?_
 intro pins s σ H Q I h
 obtain ⟨v,e,h⟩:=h
 obtain ⟨m,hn,hl⟩:=I.loc
 obtain ⟨u,r,l⟩:=hl i x v hN e hv
 have fin:EP X pins σ Q u s:=⟨v,H,I,r,h⟩
 rcases l with ⟨hk,hm⟩ | ⟨hk,c,hc,hcell⟩
 ·exact wpAny_Name (wpAny_loadName_local I.ok.kind hk hn hm fin) hd
 ·rcases hk with hk | hk
  ·exact wpAny_Name (wpAny_loadName_cell I.ok.kind hk hc hcell fin) hd
  ·exact wpAny_Name (wpAny_loadName_free I.ok.kind hk hc hcell fin hcd) hd
theorem pe_int {i j pos}:PE X (.Constant (.int i) j pos) (tC (.int i)):=.of <|  fun _ _ _ H _ I h=>wpAny_Constant_int ⟨.int i,H,I.tok _,⟨_,rfl⟩,h⟩
theorem pe_bl {b j pos}:PE X (.Constant (.bool b) j pos) (tC (.bl b)):=.of <|  fun _ _ _ H _ I h=>Constant_bool ⟨.bl b,H,I,rfl,h⟩
theorem pe_non {j pos}:PE X (.Constant .none j pos) (tC .non):=.of <|  fun _ _ _ H _ I h=>Constant_none ⟨.non,H,I,rfl,h⟩
theorem pe_str {x j pos}:PE X (.Constant (.str x) j pos) (tC (.str x)):=.of <|  fun _ _ _ H _ I h=>Calls.Constant_str ⟨.str x,H,I.tok _,⟨_,rfl⟩,h⟩
noncomputable def Gl (X:Cx) (x:Str):Prop:=X.env.kindOf x = some .globalImplicit
theorem ld_glob {E:Value -> Shared -> Prop} {pins:List (Addr × Obj)} {s:Shared} {σ:St} {H:Hp} {x:Str} {u:Value} {pos:Pos} {Q:Value -> Shared -> Prop} (I:Inv X pins σ H s) (hg:Gl X x) (hm:X.mg x = some u) (h:Q u s)
  (hd:(x == ("__debug__" : Str)) = false:=by decide):wpAny (model X.prog X.w) X.A (eval (.Name x pos) X.env) Q E s:=
 Calls.Name_function_global I.ok.kind hg (Calls.loadGlobal_global (by rw [I.ok.glob]; exact I.mod.glob.keeps I.bk) hm h) hd
theorem ld_blt {E:Value -> Shared -> Prop} {pins:List (Addr × Obj)} {s:Shared} {σ:St} {H:Hp} {x:Str} {u:Value} {pos:Pos} {Q:Value -> Shared -> Prop} (I:Inv X pins σ H s) (hg:Gl X x) (hm:X.mg x = none) (hv:bootBuiltins x = some u) (h:Q u s)
  (hn:x ≠ "__name__" := by decide) (hd:(x == ("__debug__" : Str)) = false:=by decide):wpAny (model X.prog X.w) X.A (eval (.Name x pos) X.env) Q E s:=by
 obtain ⟨mb,h1,h2⟩:=I.mod.blt
 exact Calls.Name_function_global I.ok.kind hg (Calls.loadGlobal_builtin (by rw [I.ok.glob]; exact I.mod.glob.keeps I.bk) hm (by rw [I.ok.blt]; exact h1.keeps I.bk) ((h2 x hn).trans hv) h) hd
theorem pe_bltn {x:Str} {v:V} {u:Value} {pos:Pos} (hg:Gl X x) (hm:X.mg x = none) (hv:bootBuiltins x = some u) (r:RelV v u) (hn:x ≠ "__name__" := by decide) (hd:(x == ("__debug__" : Str)) = false:=by decide):PE X (.Name x pos) (tC v):=.of <| 
 fun _ _ _ H _ I h=>ld_blt I hg hm hv ⟨v,H,I,r,h⟩ hn hd
variable {a b:Expr} {ta tb:TE} {pos:Pos}
variable {tA tB':TT} {rest:List Expr}
noncomputable def tAnd (t u:TT):TT:=fun σ H Q=>t σ H fun c H1=>if c = true then u σ H1 Q else Q false H1
noncomputable def tOr (t u:TT):TT:=fun σ H Q=>t σ H fun c H1=>if c = true then Q true H1 else u σ H1 Q
noncomputable def tNot (t:TT):TT:=fun σ H Q=>t σ H fun c H1=>Q (!c) H1
theorem pw_and1 (ha:PT X a tA):PW X (.BoolOp .And [a] pos) tA:=by
 refine .of ?_
 intro wh pins s σ H Q I h
 refine isTrue_and (thn (ha pins s σ H Q I h) fun c s1 e=>?_)
 cases c with
 | true=>exact isTrue_and_nil e
 | false=>exact e
theorem pw_or1 (ha:PT X a tA):PW X (.BoolOp .Or [a] pos) tA:=by
 refine .of ?_
 intro wh pins s σ H Q I h
 refine isTrue_or (thn (ha pins s σ H Q I h) fun c s1 e=>?_)
 cases c with
 | false=>exact isTrue_or_nil e
 | true=>exact e
theorem pw_and (ha:PT X a tA) (hb:PW X (.BoolOp .And (b :: rest) pos) tB'):PW X (.BoolOp .And (a :: b :: rest) pos) (tAnd tA tB'):=by
 refine .of ?_
 intro wh pins s σ H Q I h
 refine isTrue_and (thn (ha pins s σ H _ I h) fun c s1 ⟨H1,I1,q1⟩=>?_)
 cases c with
 | true=>exact hb wh pins s1 σ H1 Q I1 q1
 | false=>exact ⟨H1,I1,q1⟩
theorem pw_or (ha:PT X a tA) (hb:PW X (.BoolOp .Or (b :: rest) pos) tB'):PW X (.BoolOp .Or (a :: b :: rest) pos) (tOr tA tB'):=by
 refine .of ?_
 intro wh pins s σ H Q I h
 refine isTrue_or (thn (ha pins s σ H _ I h) fun c s1 ⟨H1,I1,q1⟩=>?_)
 cases c with
 | true=>exact ⟨H1,I1,q1⟩
 | false=>exact hb wh pins s1 σ H1 Q I1 q1
theorem pt_not (ha:PT X a tA):PT X (.UnaryOp .Not a pos) (tNot tA):=by
 refine .of ?_
 intro pins s σ H Q I h
 exact isTrue_not (ha pins s σ H (fun c H1=>Q (!c) H1) I h)
noncomputable def tAndV (ta tb:TE):TE:=fun σ H Q=>ta σ H fun x H1=>∃ c,x = .bl c /\ if c = true then tb σ H1 Q else Q (.bl false) H1
noncomputable def tOrV (ta tb:TE):TE:=fun σ H Q=>ta σ H fun x H1=>∃ c,x = .bl c /\ if c = true then Q (.bl true) H1 else tb σ H1 Q
theorem pe_one {op} {t:TE} (h:PE X a t):PE X (.BoolOp op [a] pos) t:=.of <|  fun pins s σ H Q I hw=>BoolOp_one (h pins s σ H Q I hw)
theorem pe_and (ha:PE X a ta) (hb:PE X (.BoolOp .And (b :: rest) pos) tb):PE X (.BoolOp .And (a :: b :: rest) pos) (tAndV ta tb):=by
 refine .of ?_
 intro pins s σ H Q I h
 refine BoolOp_and (thn (ha pins s σ H _ I h) fun v s1 ⟨x,H1,I1,r1,q1⟩=>?_)
 obtain ⟨c,rfl,q1⟩:=q1
 cases r1
 refine wpAny_truthy_bool ?_
 cases c with
 | true=>exact hb pins s1 σ H1 Q I1 q1
 | false=>exact ⟨.bl false,H1,I1,rfl,q1⟩
theorem pe_or (ha:PE X a ta) (hb:PE X (.BoolOp .Or (b :: rest) pos) tb):PE X (.BoolOp .Or (a :: b :: rest) pos) (tOrV ta tb):=by
 refine .of ?_
 intro pins s σ H Q I h
 refine BoolOp_or (thn (ha pins s σ H _ I h) fun v s1 ⟨x,H1,I1,r1,q1⟩=>?_)
 obtain ⟨c,rfl,q1⟩:=q1
 cases r1
 refine wpAny_truthy_bool ?_
 cases c with
 | false=>exact hb pins s1 σ H1 Q I1 q1
 | true=>exact ⟨.bl true,H1,I1,rfl,q1⟩
end
end L2
namespace L2
open PySem PySem.Spec PyProof.Rows
noncomputable def SqL (K:PySem.W.Frag) (H:Hp) (a:Addr) (xs:List V):Prop:=
 Rd H a (.lst xs) \/
  ∃ (o:Obj) (its:Array Value) (n:Nat),K.lookup a = some o /\ o.cls = .type "list" /\ o.dict = none /\ o.data = .seq its n /\ its.size <= sizeLine /\ Vals xs its.toList
noncomputable def SqT (K:PySem.W.Frag) (H:Hp) (a:Addr) (xs:List V):Prop:=
 Rd H a (.tup xs) \/
  ∃ (o:Obj) (its:Array Value) (n:Nat),K.lookup a = some o /\ o.cls = .type "tuple" /\ o.data = .seq its n /\ its.size <= sizeLine /\ Vals xs its.toList
noncomputable def absV:Value -> Option V
 | .none=>some .non
 | .bool b=>some (.bl b)
 | .int i _=>some (.int i)
 | .str x _=>some (.str x)
 | .bytes b _=>some (.byt b)
 | .float b _=>some (.flt b)
 | .ref a=>some (.ref a)
 | .type n=>some (.ty n)
 | _=>none
theorem RelV.abs {x:V} {u:Value} (r:RelV x u):absV u = some x:=by
 cases x with
 | non=>cases r; rfl
 | bl _=>cases r; rfl
 | int _=>obtain ⟨t,rfl⟩:=r; rfl
 | str _=>obtain ⟨t,rfl⟩:=r; rfl
 | byt _=>obtain ⟨t,rfl⟩:=r; rfl
 | flt _=>obtain ⟨t,rfl⟩:=r; rfl
 | ref _=>cases r; rfl
 | ty _=>cases r; rfl
theorem RelV.inj {x y:V} {u:Value} (r:RelV x u) (q:RelV y u):x = y:=Option.some.inj (r.abs.symm.trans q.abs)
theorem Vals.inj:∀ {xs ys:List V} {us:List Value},Vals xs us -> Vals ys us -> xs = ys
 | _,_,_,.nil,.nil=>rfl
 | _,_,_,.cons r t,.cons r' t'=>by rw [r.inj r',Vals.inj t t']
section
variable {X:Cx} {pins:List (Addr × Obj)} {σ:St} {H:Hp} {s:Shared} {a:Addr} {xs ys:List V}
theorem SqL.of {K:PySem.W.Frag} (h:H a = some (.lst xs)):SqL K H a xs:=.inl (.inl h)
theorem SqT.of {K:PySem.W.Frag} (h:H a = some (.tup xs)):SqT K H a xs:=.inl (.inl h)
theorem Inv.list (I:Inv X pins σ H s) (h:SqL X.K H a xs):∃ its:List Value,Vals xs its /\ PlainL s.heap a its.toArray /\ xs.length <= sizeLine:=by
 rcases h with h | ⟨o,its,n,hk,hc,hd,hs,hz,r⟩
 ·obtain ⟨z,its,n,r,e⟩:=h.ok I.hok
  exact ⟨its,r,⟨_,n,e,rfl,rfl,rfl⟩,z⟩
 ·refine ⟨its.toList,r,⟨o,n,I.kIn a o hk,hc,hd,by simpa using hs⟩,?_⟩
  have e:=r.length
  simp only [Array.length_toList] at e
  omega
theorem Inv.tuple (I:Inv X pins σ H s) (h:SqT X.K H a xs):∃ its:List Value,Vals xs its /\ IsTup s.heap a its.toArray /\ xs.length <= sizeLine:=by
 rcases h with h | ⟨o,its,n,hk,hc,hs,hz,r⟩
 ·obtain ⟨z,its,r,p⟩:=h.ok I.hok
  exact ⟨its,r,p,z⟩
 ·refine ⟨its.toList,r,⟨o,I.kIn a o hk,hc,n,by simpa using hs⟩,?_⟩
  have e:=r.length
  simp only [Array.length_toList] at e
  omega
theorem Inv.list_inj (I:Inv X pins σ H s) (h:SqL X.K H a xs) (h':SqL X.K H a ys):xs = ys:=by
 obtain ⟨its,r,⟨o,n,e,_,_,d⟩,_⟩:=I.list h
 obtain ⟨its',r',⟨o',n',e',_,_,d'⟩,_⟩:=I.list h'
 rw [e] at e'; cases e'
 rw [d] at d'
 injection d' with d1 _
 have:its = its':=by simpa using congrArg Array.toList d1
 subst this
 exact r.inj r'
theorem Inv.tuple_inj (I:Inv X pins σ H s) (h:SqT X.K H a xs) (h':SqT X.K H a ys):xs = ys:=by
 obtain ⟨its,r,⟨o,e,_,n,d⟩,_⟩:=I.tuple h
 obtain ⟨its',r',⟨o',e',_,n',d'⟩,_⟩:=I.tuple h'
 rw [e] at e'; cases e'
 rw [d] at d'
 injection d' with d1 _
 have:its = its':=by simpa using congrArg Array.toList d1
 subst this
 exact r.inj r'
end
noncomputable abbrev Cx.wish (X:Cx) (E:Value -> Shared -> Prop):Cx:={ X with xe:=E }
noncomputable abbrev Cx.nox (X:Cx):Cx:=X.wish fun _ _=>False
theorem Cx.Ok.wish {X:Cx} (ok:X.Ok) (E:Value -> Shared -> Prop):(X.wish E).Ok:=
 ⟨ok.mod,ok.kind,ok.glob,ok.blt,ok.above,ok.inj,ok.has,ok.cab,ok.hd,ok.frames,ok.stk,ok.exf,ok.bs,ok.bsz,ok.noex,ok.exfs,ok.funs,ok.frf⟩
theorem Cx.Ok.unwish {X:Cx} {E:Value -> Shared -> Prop} (ok:(X.wish E).Ok):X.Ok:=
 ⟨ok.mod,ok.kind,ok.glob,ok.blt,ok.above,ok.inj,ok.has,ok.cab,ok.hd,ok.frames,ok.stk,ok.exf,ok.bs,ok.bsz,ok.noex,ok.exfs,ok.funs,ok.frf⟩
section
variable {X:Cx} {pins:List (Addr × Obj)} {σ:St} {H:Hp} {s:Shared} {E:Value -> Shared -> Prop}
theorem Inv.wish (I:Inv X pins σ H s) (E:Value -> Shared -> Prop):Inv (X.wish E) pins σ H s:=⟨I.ok.wish E,I.os,I.bare,I.base,I.loc,I.cell,I.free,I.freeC,I.pin,I.hok,I.len⟩
theorem Inv.unwish (I:Inv (X.wish E) pins σ H s):Inv X pins σ H s:=⟨I.ok.unwish,I.os,I.bare,I.base,I.loc,I.cell,I.free,I.freeC,I.pin,I.hok,I.len⟩
theorem SP.unwish {D:Ends} {f:Flow} {s':Shared} (h:SP (X.wish E) pins D f s'):SP X pins D f s':=by
 cases f with
 | next=>obtain ⟨σ',H',I,q⟩:=h; exact ⟨σ',H',I.unwish,q⟩
 | brk=>obtain ⟨σ',H',I,q⟩:=h; exact ⟨σ',H',I.unwish,q⟩
 | cont=>obtain ⟨σ',H',I,q⟩:=h; exact ⟨σ',H',I.unwish,q⟩
 | ret u=>obtain ⟨v,σ',H',I,r,q⟩:=h; exact ⟨v,σ',H',I.unwish,r,q⟩
theorem PSs.nox {st:List Stmt} {t:TS} (h:PSs X.nox st t):PSs X st t:=.of <|  fun pins s σ H D I hw=>
 wpAny_mono (h pins s σ H D (I.wish _) hw) (fun _ _ q=>q.unwish) fun _ _ z=>False.elim z
end
section
variable {X:Cx} {st:Stmt} {rest:List Stmt} {t u:TS} {e:Expr} {te:TE} {pos:Pos}
noncomputable def tNext:TS:=fun D σ H=>D.nx σ H
noncomputable def tSeq (t u:TS):TS:=fun D σ H=>t { D with nx:=u D } σ H
theorem pss_nil:PSs X [] tNext:=.of <|  fun _ _ σ H _ I h=>wpAny_execs_nil ⟨σ,H,I,h⟩
theorem pss_cons (h1:PS X st t) (h2:PSs X rest u):PSs X (st :: rest) (tSeq t u):=by
 refine .of ?_
 intro pins s σ H D I h
 refine wpAny_execs_cons (thn (h1 pins s σ H { D with nx:=u D } I h) fun f s1 q=>?_)
 cases f with
 | next=>
  obtain ⟨σ',H',I',q⟩:=q
  exact h2 pins s1 σ' H' D I' q
 | ret v=>exact q
 | brk=>exact q
 | cont=>exact q
theorem pss_one (h1:PS X st t):PSs X [st] t:=by
 refine .of ?_
 intro pins s σ H D I h
 refine wpAny_execs_cons (thn (h1 pins s σ H D I h) fun f s1 q=>?_)
 cases f with
 | next=>exact wpAny_execs_nil q
 | ret v=>exact q
 | brk=>exact q
 | cont=>exact q
theorem Inv.quiet {pins:List (Addr × Obj)} {σ:St} {H:Hp} {s:Shared} (I:Inv X pins σ H s):interactive X.env = false:=by simp [interactive,I.ok.kind]
noncomputable def tDrop (te:TE):TS:=fun D σ H=>te σ H fun _ H1=>D.nx σ H1
theorem ps_expr (he:PE X e te) (hs:swapsWith e none pos.line X.env = pure false:=by rfl):PS X (.Expr e pos) (tDrop te):=by
 refine .of ?_
 intro pins s σ H D I h
 exact wpAny_Expr_any (thn (he pins s σ H _ I h) fun v s1 ⟨x,H1,I1,r1,q1⟩=>⟨σ,H1,I1,q1⟩) I.quiet hs
noncomputable def tRet (te:TE):TS:=fun D σ H=>te σ H D.rt
theorem ps_ret (he:PE X e te):PS X (.Return (some e) pos) (tRet te):=by
 refine .of ?_
 intro pins s σ H D I h
 exact wpAny_Return_some (thn (he pins s σ H _ I h) fun v s1 ⟨x,H1,I1,r1,q1⟩=>⟨x,σ,H1,I1,r1,q1⟩)
noncomputable def tIfS (c:TT) (t u:TS):TS:=fun D σ H=>c σ H fun b H1=>if b = true then t D σ H1 else u D σ H1
theorem ps_if {c:Expr} {a b:List Stmt} {tc:TT} (hc:PT X c tc) (ha:PSs X a t) (hb:PSs X b u):PS X (.If c a b pos) (tIfS tc t u):=by
 refine .of ?_
 intro pins s σ H D I h
 refine wpAny_If (thn (hc pins s σ H _ I h) fun d s1 ⟨H1,I1,q1⟩=>?_)
 cases d with
 | true=>exact ha pins s1 σ H1 D I1 q1
 | false=>exact hb pins s1 σ H1 D I1 q1
end
noncomputable abbrev TG:=V -> St -> Hp -> (St -> Hp -> Prop) -> Prop
noncomputable abbrev TGs:=List V -> St -> Hp -> (St -> Hp -> Prop) -> Prop
structure PG (X:Cx) (target:Expr) (t:TG)  : Prop where
 of ::
 run :
 ∀ (pins:List (Addr × Obj)) (s:Shared) (σ:St) (H:Hp) (v:V) (u:Value) (Q:St -> Hp -> Prop),Inv X pins σ H s -> RelV v u -> t v σ H Q ->
  wpAny (model X.prog X.w) X.A (assign target X.env u) (fun _ s'=>∃ σ' H',Inv X pins σ' H' s' /\ Q σ' H') X.xe s
noncomputable instance {X:Cx} {target:Expr} {t:TG}  : CoeFun (PG X target t) fun _=>
 ∀ (pins:List (Addr × Obj)) (s:Shared) (σ:St) (H:Hp) (v:V) (u:Value) (Q:St -> Hp -> Prop),Inv X pins σ H s -> RelV v u -> t v σ H Q ->
  wpAny (model X.prog X.w) X.A (assign target X.env u) (fun _ s'=>∃ σ' H',Inv X pins σ' H' s' /\ Q σ' H') X.xe s:=⟨PG.run⟩
structure PGs (X:Cx) (ts:List Expr) (t:TGs)  : Prop where
 of ::
 run :
 ∀ (pins:List (Addr × Obj)) (s:Shared) (σ:St) (H:Hp) (vs:List V) (us:List Value) (Q:St -> Hp -> Prop),Inv X pins σ H s -> Vals vs us -> t vs σ H Q ->
  wpAny (model X.prog X.w) X.A (assignInOrder ((assignEach ts X.env).map (·.2)) us) (fun _ s'=>∃ σ' H',Inv X pins σ' H' s' /\ Q σ' H') X.xe s
noncomputable instance {X:Cx} {ts:List Expr} {t:TGs}  : CoeFun (PGs X ts t) fun _=>
 ∀ (pins:List (Addr × Obj)) (s:Shared) (σ:St) (H:Hp) (vs:List V) (us:List Value) (Q:St -> Hp -> Prop),Inv X pins σ H s -> Vals vs us -> t vs σ H Q ->
  wpAny (model X.prog X.w) X.A (assignInOrder ((assignEach ts X.env).map (·.2)) us) (fun _ s'=>∃ σ' H',Inv X pins σ' H' s' /\ Q σ' H') X.xe s:=⟨PGs.run⟩
noncomputable abbrev TSet:=V -> V -> V -> Hp -> (Hp -> Prop) -> Prop
noncomputable def PSet (X:Cx) (t:TSet):Prop:=
 ∀ (pins:List (Addr × Obj)) (s:Shared) (σ:St) (H:Hp) (o i v:V) (ov iv u:Value) (Q:Hp -> Prop),Inv X pins σ H s -> RelV o ov -> RelV i iv -> RelV v u -> t o i v H Q ->
  wpAny (model X.prog X.w) X.A (setItem ov iv u) (fun _ s'=>∃ H',Inv X pins σ H' s' /\ Q H') X.xe s
noncomputable abbrev TIp:=V -> V -> Hp -> VK -> Prop
noncomputable def PIp (X:Cx) (op:Operator) (t:TIp):Prop:=
 ∀ (pins:List (Addr × Obj)) (s:Shared) (σ:St) (H:Hp) (x y:V) (v u:Value) (Q:VK),Inv X pins σ H s -> RelV x v -> RelV y u -> t x y H Q ->
  wpAny (model X.prog X.w) X.A (inplaceOp op v u) (EP X pins σ Q) X.xe s
section
variable {X:Cx} {pos:Pos}
noncomputable def gName (i:Nat):TG:=fun v σ H Q=>Q (σ.set i (some v)) H
theorem pg_name {i:Nat} {x:Str} (hN:X.N.Nodup) (hi:X.N[i]? = some x) (hx:Loc X.env.scope x) (hf:X.fn x = true \/ X.env.scope.names.lookup x = some .local:=by first | exact .inl rfl | exact .inr rfl | assumption):PG X (.Name x pos) (gName i):=by
 refine .of ?_
 intro pins s σ H v u Q I r h
 exact wpAny_assign_Name (store_ok I hN hi hx r (fun s' I'=>⟨_,H,I',h⟩) hf)
noncomputable def gNil:TGs:=fun vs σ H Q=>vs = [] /\ Q σ H
noncomputable def gCons (t:TG) (u:TGs):TGs:=fun vs σ H Q=>∃ v r,vs = v :: r /\ t v σ H fun σ' H'=>u r σ' H' Q
theorem pgs_nil:PGs X [] gNil:=by
 refine .of ?_
 intro pins s σ H vs us Q I r h
 obtain ⟨e,h⟩:=h
 subst e
 cases r
 exact assignInOrder_nil ⟨σ,H,I,h⟩
theorem pgs_cons {e:Expr} {es:List Expr} {t:TG} {u:TGs} (h1:PG X e t) (h2:PGs X es u)
  (hs:(assignEach (e :: es) X.env).map (·.2) = assign e X.env :: (assignEach es X.env).map (·.2):=by rfl):PGs X (e :: es) (gCons t u):=by
 refine .of ?_
 intro pins s σ H vs us Q I r h
 obtain ⟨v,vr,e1,h⟩:=h
 subst e1
 cases r with
 | cons r rr=>
  rw [hs]
  refine assignInOrder_cons (thn (h1 pins s σ H _ _ _ I r h) fun _ s1 ⟨σ1,H1,I1,q1⟩=>?_)
  exact h2 pins s1 σ1 H1 _ _ Q I1 rr q1
noncomputable def gTup (K:PySem.W.Frag) (n:Nat) (t:TGs):TG:=fun v σ H Q=>∃ a xs,v = .ref a /\ SqT K H a xs /\ xs.length = n /\ t xs σ H Q
theorem pg_tup {es:List Expr} {k:Nat} {t:TGs} {n:Nat} (hc:X.calm = true) (h:PGs X es t)
  (hn:(assignEach es X.env).length = n:=by rfl) (hst:(assignEach es X.env).findIdx? (·.1) = none:=by rfl):PG X (.Tuple es k pos) (gTup X.K n t):=by
 refine .of ?_
 intro pins s σ H v u Q I r hw
 obtain ⟨a,xs,e1,hq,hl,hw⟩:=hw
 subst e1
 cases r
 obtain ⟨its,rv,ht,hz⟩:=I.tuple hq
 refine assign_Tuple_tuple (I.ok.hd hc) ht (by simp [hn,<- hl,rv.length]) hst fun h' hx=>?_
 have I1:Inv X pins σ H { s with heap:=h' }:=I.kept (t':=s.toks) fun b o e=>hx b o (Nat.ne_of_lt (Heap.lt_size e)) e
 exact h pins _ σ H xs _ Q I1 (by simpa using rv) hw
noncomputable def gSub (to ti:TE) (t:TSet):TG:=fun v σ H Q=>to σ H fun o H1=>ti σ H1 fun i H2=>t o i v H2 fun H3=>Q σ H3
theorem pg_sub {o i:Expr} {to ti:TE} {t:TSet} (ho:PE X o to) (hi:PE X i ti) (hs:PSet X t)
  (ha:∀ v,assign (.Subscript o i pos) X.env v = (do
   let ov <- holding [v] (eval o X.env)
   let iv <- holding [v,ov] (eval i X.env)
   standAt pos
   holding [v,ov,iv] (setItem ov iv v)
   release [v,ov,iv] []):=by intro _; rfl):PG X (.Subscript o i pos) (gSub to ti t):=by
 refine .of ?_
 intro pins s σ H v u Q I r h
 rw [ha]
 refine wpAny_bind (wpAny_holding (thn (ho pins s σ H _ I h) fun ov s1 ⟨x,H1,I1,r1,q1⟩=>?_))
 refine wpAny_bind (wpAny_holding (thn (hi pins s1 σ H1 _ I1 q1) fun iv s2 ⟨y,H2,I2,r2,q2⟩=>?_))
 refine wpAny_bind (wpAny_standAt (wpAny_bind (wpAny_holding (thn (hs pins s2 σ H2 x y v ov iv u _ I2 r1 r2 r q2) fun _ s3 ⟨H3,I3,q3⟩=>?_))))
 exact wpAny_release ⟨σ,H3,I3,q3⟩
noncomputable def tAsg (te:TE) (g:TG):TS:=fun D σ H=>te σ H fun x H1=>g x σ H1 D.nx
theorem ps_asg {tg e:Expr} {te:TE} {g:TG} (he:PE X e te) (hg:PG X tg g) (hs:swapsWithSole [tg] e pos.line X.env = pure false:=by rfl) (hw:swappedStores [tg] e X.env = pure none:=by rfl)
  (h1:(assignEach [tg] X.env).map (·.2) = [assign tg X.env]:=by rfl):PS X (.Assign [tg] e pos) (tAsg te g):=by
 refine .of ?_
 intro pins s σ H D I h
 refine wpAny_Assign_stores (thn (he pins s σ H _ I h) fun v s1 ⟨x,H1,I1,r1,q1⟩=>?_) hs hw
 rw [h1]
 exact thn (hg pins s1 σ H1 x v _ I1 r1 q1) fun _ s2 q=>q
theorem ps_set {i:Nat} {x:Str} {e:Expr} {te:TE} {pos':Pos} (hN:X.N.Nodup) (hi:X.N[i]? = some x) (hx:Loc X.env.scope x) (he:PE X e te) (hs:swapsWith e (some (.Name x pos')) pos.line X.env = pure false:=by rfl) (hf:X.fn x = true \/ X.env.scope.names.lookup x = some .local:=by first | exact .inl rfl | exact .inr rfl | assumption) :
  PS X (.Assign [.Name x pos'] e pos) (tAsg te (gName i)):=by
 refine .of ?_
 intro pins s σ H D I h
 refine wpAny_Assign_Name (thn (he pins s σ H _ I h) fun v s1 ⟨y,H1,I1,r1,q1⟩=>?_) hs
 exact store_ok I1 hN hi hx r1 (fun s2 I2=>⟨_,H1,I2,q1⟩) hf
noncomputable def tPar (i j:Nat) (ta:TA):TS:=fun D σ H=>ta σ H fun vs H1=>∃ v w,vs = [v,w] /\ D.nx ((σ.set i (some v)).set j (some w)) H1
theorem ps_par {i j:Nat} {x y:Str} {a b:Expr} {ta:TA} {px py pt:Pos} {kt k2 pt2} (hc:X.calm = true) (hN:X.N.Nodup) (hi:X.N[i]? = some x) (hj:X.N[j]? = some y) (hij:i ≠ j)
  (hx:X.env.scope.names.lookup x = some .local) (hy:X.env.scope.names.lookup y = some .local) (ha:PA X [a,b] ta)
  (hw:swappedStores [.Tuple [.Name x px,.Name y py] kt pt] (.Tuple [a,b] k2 pt2) X.env = pure (some [x,y]))
  (hs:swapsWithSole [.Tuple [.Name x px,.Name y py] kt pt] (.Tuple [a,b] k2 pt2) pos.line X.env = pure false:=by rfl) :
  PS X (.Assign [.Tuple [.Name x px,.Name y py] kt pt] (.Tuple [a,b] k2 pt2) pos) (tPar i j ta):=by
 refine .of ?_
 intro pins s σ H D I h
 rw [exec_Assign_arm]
 refine wpAny_bind (wpAny_standAt ?_)
 rw [hs]
 refine wpAny_bind (wpAny_pure ?_)
 rw [if_neg (by decide)]
 refine wpAny_bind (Tuple_ (thn (ha _ pins s σ H _ I h) fun us s1 ⟨vs,H1,I1,r1,q1⟩=>?_))
 obtain ⟨v,w,e1,q1⟩:=q1
 subst e1
 obtain ⟨u1,u2,rfl,rv,rw'⟩:∃ u1 u2,us = [u1,u2] /\ RelV v u1 /\ RelV w u2:=by
  cases r1 with
  | cons p q=>
   cases q with
   | cons p' q'=>
    cases q'
    exact ⟨_,_,rfl,p,p'⟩
 refine wpAny_newObj_type ?_ (by show 2 <= sizeLine; decide)
 have I2:Inv X pins σ H1 { s1 with heap:=s1.heap.push { cls:=.type "tuple",data:=.seq [u1,u2].toArray } }:=I1.kept (t':=s1.toks) fun b o e=>Heap.get?_push_of_some _ e
 rw [hw]
 refine wpAny_bind (wpAny_pure ?_)
 show wpAny (model X.prog X.w) X.A (do rule "assign.swapped-stores"; let items <- unpackItems (.ref s1.heap.objs.size) 2 none; assignInOrder [fun v=>bindName X.env y v,fun v=>bindName X.env x v] items.reverse; pure Flow.next) _ _ _
 refine wpAny_bind (wpAny_rule (wpAny_bind (unpackItems_tuple (items:=#[u1,u2]) (I.ok.hd hc) (IsTup.new s1.heap _) fun h' hx'=>?_)))
 have I3:=I2.kept (h':=h') (t':=s1.toks) fun b o e=>hx' b o (Nat.ne_of_lt (Heap.lt_size e)) e
 show wpAny _ _ (assignInOrder [fun v=>bindName X.env y v,fun v=>bindName X.env x v] [u2,u1] >>= fun _=>pure Flow.next) _ _ _
 refine wpAny_bind (assignInOrder_cons (wpAny_bindName (store_ok I3 hN hj (.inl hy) rw' (fun s2 I4=>?_) (.inr hy))))
 refine assignInOrder_cons (wpAny_bindName (store_ok I4 hN hi (.inl hx) rv (fun s3 I5=>assignInOrder_nil (wpAny_pure ?_)) (.inr hx)))
 rw [List.set_comm _ _ (Ne.symm hij)] at I5
 exact ⟨_,H1,I5,q1⟩
noncomputable def ipI (f:Int -> Int -> Int):TIp:=fun x y H Q=>∃ i j,x = .int i /\ y = .int j /\ Q (.int (f i j)) H
theorem ip_add:PIp X .Add (ipI fun i j=>i + j):=by
 intro pins s σ H x y v u Q I r1 r2 h
 obtain ⟨i,j,e1,e2,q⟩:=h
 subst e1; subst e2
 obtain ⟨t,rfl⟩:=r1
 obtain ⟨t',rfl⟩:=r2
 exact iadd_int ⟨.int _,H,I.tok _,⟨_,rfl⟩,q⟩
end
section
variable {X:Cx} {pos:Pos}
noncomputable def tWhile (c:TT) (tb:TS):TS:=fun D σ H=>∃ W:Nat -> St -> Hp -> Prop,(∃ m,W m σ H) /\ ∀ m σ H,W m σ H ->
 c σ H fun b H1=>if b = true then ∃ N:St -> Hp -> Prop,(∀ σ' H',N σ' H' -> ∃ m',m' < m /\ W m' σ' H') /\ tb { D with nx:=N,ct:=N,bk:=D.nx } σ H1 else D.nx σ H1
theorem ps_while {c:Expr} {body:List Stmt} {tc:TT} {tb:TS} (hp:PassesOwn (model X.prog X.w) X.A X.env X.xe) (hc:PT X c tc) (hb:PSs X body tb):PS X (.While c body [] pos) (tWhile tc tb):=by
 refine .of ?_
 intro pins s σ H D I h
 obtain ⟨W,⟨m0,w0⟩,turn⟩:=h
 refine wpAny_While (codeAny_whileLoop (fun n s'=>∃ σ' H',Inv X pins σ' H' s' /\ W n σ' H') ?_ m0 ⟨σ,H,I,w0⟩)
 rintro n s1 ⟨σ1,H1,I1,w1⟩
 refine wpAny_passesOwn hp (thn (hc pins s1 σ1 H1 _ I1 (turn n σ1 H1 w1)) fun b s2 ⟨H2,I2,q2⟩=>?_)
 cases b with
 | true=>
  obtain ⟨N,hN,q2⟩:=q2
  rw [if_pos rfl]
  refine wpAny_passesOwn hp (thn (hb pins s2 σ1 H2 _ I2 q2) fun f s3 q3=>?_)
  cases f with
  | next=>
   obtain ⟨σ3,H3,I3,n3⟩:=q3
   obtain ⟨m',hm,w3⟩:=hN σ3 H3 n3
   exact ⟨m',hm,σ3,H3,I3,w3⟩
  | cont=>
   obtain ⟨σ3,H3,I3,n3⟩:=q3
   obtain ⟨m',hm,w3⟩:=hN σ3 H3 n3
   exact ⟨m',hm,σ3,H3,I3,w3⟩
  | brk=>exact q3
  | ret v=>exact q3
 | false=>
  rw [if_neg Bool.false_ne_true]
  exact wpAny_execs_nil ⟨σ1,H2,I2,q2⟩
end
structure It where
 go:Nat -> Hp -> Prop
 yld:Nat -> Hp -> V -> Hp -> Prop
 stop:Nat -> Hp -> Prop
noncomputable def FpOk (X:Cx) (pins:List (Addr × Obj)) (H:Hp) (b:Addr):Prop:=
 H b = none /\ b ≠ X.env.locals /\ b ∉ X.fs /\ (b ∈ X.ex \/ X.s₀.heap.objs.size <= b) /\ (∀ x c,X.env.cells.lookup x = some c -> c ≠ b) /\ ∀ p ∈ X.pn ++ pins,p.1 ≠ b
theorem Inv.fpOk {X:Cx} {pins:List (Addr × Obj)} {σ:St} {H H':Hp} {s:Shared} {b:Addr} (I:Inv X pins σ H s) (hb:s.heap.objs.size <= b) (hn:H' b = none):FpOk X pins H' b:=by
 refine ⟨hn,Nat.ne_of_gt (Nat.lt_of_lt_of_le I.lt hb),I.nofs hb,.inr (Nat.le_trans I.sz hb),fun x c e z=>?_,fun p hp z=>?_⟩
 ·obtain ⟨v,q⟩:=I.cell x c e
  exact absurd (Nat.lt_of_lt_of_le q.lt (by rw [z]; exact hb)) (Nat.lt_irrefl _)
 ·exact absurd (Nat.lt_of_lt_of_le (Heap.lt_size (I.pin p hp).1) (by rw [z]; exact hb)) (Nat.lt_irrefl _)
structure Turn (P:Program) (w:World) (K:PySem.W.Frag) (tg:Expr) (J:It) (fp:List Addr) (it:Addr) (tn:Nat -> Heap -> Prop):Prop where
 mem:it ∈ fp
 obj:∀ i h,tn i h -> ∀ b ∈ fp,∃ o,h.get? b = some o /\ ∀ v,o.data ≠ .cell v
 keep:∀ i h h',tn i h -> (∀ b ∈ fp,∀ o,h.get? b = some o -> h'.get? b = some o) -> tn i h'
 item:∀ (X:Cx),X.prog = P -> X.w = w -> X.K = K -> X.calm = true -> ∀ (i:Nat) (pins:List (Addr × Obj)) (s:Shared) (σ:St) (H:Hp) (E:Value -> Shared -> Prop),Inv X pins σ H s -> (∀ b ∈ fp,FpOk X pins H b) -> tn i s.heap -> J.go i H ->
  wpAny (model P w) X.A (pyNext (.ref it)) (fun r s1=>∃ u,r = some u /\
   wpAny (model P w) X.A (letOwnedTupleGo tg (.ref it) u) (fun _ s2=>∃ x H',Inv X pins σ H' s2 /\ RelV x u /\ J.yld i H x H' /\ tn (i + 1) s2.heap /\ ∀ b ∈ fp,H' b = none) E s1) E s
 done:∀ (X:Cx),X.prog = P -> X.w = w -> X.K = K -> X.calm = true -> ∀ (i:Nat) (pins:List (Addr × Obj)) (s:Shared) (σ:St) (H:Hp) (E:Value -> Shared -> Prop),Inv X pins σ H s -> (∀ b ∈ fp,FpOk X pins H b) -> tn i s.heap -> J.stop i H ->
  wpAny (model P w) X.A (pyNext (.ref it)) (fun r s1=>r = none /\ Inv X pins σ H s1) E s
 self:∀ (A:Around) (i:Nat) (s:Shared) (Q:Value -> Shared -> Prop) (E:Value -> Shared -> Prop),tn i s.heap -> Q (.ref it) s -> wpAny (model P w) A (pyIter (.ref it)) Q E s
noncomputable abbrev TI:=St -> Hp -> (It -> Hp -> Prop) -> Prop
noncomputable def PIE (X:Cx) (pins:List (Addr × Obj)) (σ:St) (tg:Expr) (R:It -> Hp -> Prop) (itv:Value) (s2:Shared):Prop:=
 ∃ (it:Addr) (fp:List Addr) (tn:Nat -> Heap -> Prop) (J:It) (H':Hp),itv = .ref it /\ Inv X pins σ H' s2 /\ Turn X.prog X.w X.K tg J fp it tn /\ tn 0 s2.heap /\ (∀ b ∈ fp,FpOk X pins H' b) /\ R J H'
structure PI (X:Cx) (tg iter:Expr) (wi:TI)  : Prop where
 of ::
 run :
 ∀ (pins:List (Addr × Obj)) (s:Shared) (σ:St) (H:Hp) (R:It -> Hp -> Prop),Inv X pins σ H s -> wi σ H R ->
  wpAny (model X.prog X.w) X.A (eval iter X.env) (fun v s1=>wpAny (model X.prog X.w) X.A (pyIter v) (PIE X pins σ tg R) X.xe s1) X.xe s
noncomputable instance {X:Cx} {tg iter:Expr} {wi:TI}  : CoeFun (PI X tg iter wi) fun _=>
 ∀ (pins:List (Addr × Obj)) (s:Shared) (σ:St) (H:Hp) (R:It -> Hp -> Prop),Inv X pins σ H s -> wi σ H R ->
  wpAny (model X.prog X.w) X.A (eval iter X.env) (fun v s1=>wpAny (model X.prog X.w) X.A (pyIter v) (PIE X pins σ tg R) X.xe s1) X.xe s:=⟨PI.run⟩
theorem go_of {M:Model} {A:Around} {E:Value -> Shared -> Prop} {s:Shared} {tg:Expr} {it:Addr} {u:Value} {o:Obj} {n:String} {vs:Array Value} {Q:Unit -> Shared -> Prop} (ho:s.heap.get? it = some o) (hc:o.cls = .type n) (hd:o.data = .fields vs)
    (hn:["enumerate", "zip", "dict_itemiterator", "dict_reverseitemiterator", "odict_iterator", "itertools.zip_longest", "itertools.pairwise"].contains n = false) (hQ:Q () s):wpAny M A (letOwnedTupleGo tg (.ref it) u) Q E s:=by
  unfold letOwnedTupleGo
  cases tg <;> first
    | exact wpAny_pure hQ
    | (cases u <;> first
        | exact wpAny_pure hQ
        | (refine wpAny_bind (wpAny_load ho ?_)
           rw [hc,hd]
           show wpAny M A (if (["enumerate", "zip", "dict_itemiterator", "dict_reverseitemiterator", "odict_iterator", "itertools.zip_longest", "itertools.pairwise"].contains n && vs[0]? == some (rawInt _)) = true then _ else _) Q E s
           rw [if_neg (by intro h; rw [hn,Bool.false_and] at h; cases h)]
           exact wpAny_pure hQ))
noncomputable def Itl (K:PySem.W.Frag) (a:Addr):It:=
 ⟨fun i H=>∃ xs x,SqL K H a xs /\ xs[i]? = some x,fun i H x H'=>H' = H /\ ∀ xs,SqL K H a xs -> xs[i]? = some x,fun i H=>∃ xs,SqL K H a xs /\ xs.length <= i⟩
noncomputable def Itt (K:PySem.W.Frag) (a:Addr):It:=
 ⟨fun i H=>∃ xs x,SqT K H a xs /\ xs[i]? = some x,fun i H x H'=>H' = H /\ ∀ xs,SqT K H a xs -> xs[i]? = some x,fun i H=>∃ xs,SqT K H a xs /\ xs.length <= i⟩
noncomputable def Itr (lo:Int) (n:Nat):It:=⟨fun i _=>i < n,fun i H x H'=>H' = H /\ x = .int (lo + i),fun i _=>n <= i⟩
theorem turn_list {P:Program} {w:World} {K:PySem.W.Frag} {tg:Expr} (a it:Addr):Turn P w K tg (Itl K a) [it] it (fun i h=>h.IsListIter it a i) where
 mem:=by simp
 obj:=fun i h st b hb=>by
  have e:b = it:=by simpa using hb
  subst e
  obtain ⟨o,e,c,d⟩:=st
  exact ⟨o,e,fun v z=>by rw [d] at z; cases z⟩
 keep:=fun i h h' st k=>st.at fun o e=>k it (by simp) o e
 item:=by
  intro X hP hw hK hc i pins s σ H E I hf st hg
  subst hP hw hK
  obtain ⟨xs,x,hq,hx⟩:=hg
  obtain ⟨its,rv,p,hz⟩:=I.list hq
  obtain ⟨u,hu,ru⟩:=rv.get hx
  obtain ⟨f0,f1,f2,f3,f4,f5⟩:=hf it (by simp)
  refine wpAny_pyNext_list_item st p.isList (x:=u) (by simpa using hu) fun h' st' sb=>?_
  have I1:Inv X pins σ H { s with heap:=h' }:=I.turned (t':=s.toks) (fun b o hb e=>(sb.2 b hb).trans e) f0 f1 f3 f4 f5
  obtain ⟨o,e,c,d⟩:=id st'
  exact ⟨u,rfl,go_of (s:={ s with heap:=h' }) e c d (by decide) ⟨x,H,I1,ru,⟨rfl,fun ys hy=>by rw [I.list_inj hy hq]; exact hx⟩,st',fun b hb=>(hf b hb).1⟩⟩
 done:=by
  intro X hP hw hK hc i pins s σ H E I hf st hg
  subst hP hw hK
  obtain ⟨xs,hq,hx⟩:=hg
  obtain ⟨its,rv,p,hz⟩:=I.list hq
  obtain ⟨f0,f1,f2,f3,f4,f5⟩:=hf it (by simp)
  have hl:=rv.length
  exact wpAny_pyNext_list_end (I.ok.hd hc) st p.isList (by simp; omega) fun h' eb=>⟨rfl,I.turned (t':=s.toks) (fun b o hb e=>eb b o hb e) f0 f1 f3 f4 f5⟩
 self:=fun _ _ _ _ _ st h=>wpAny_pyIter_listiter st h
theorem turn_tuple {P:Program} {w:World} {K:PySem.W.Frag} {tg:Expr} (a it:Addr):Turn P w K tg (Itt K a) [it] it (fun i h=>h.IsTupleIter it a i) where
 mem:=by simp
 obj:=fun i h st b hb=>by
  have e:b = it:=by simpa using hb
  subst e
  obtain ⟨o,e,c,d⟩:=st
  exact ⟨o,e,fun v z=>by rw [d] at z; cases z⟩
 keep:=fun i h h' st k=>st.at fun o e=>k it (by simp) o e
 item:=by
  intro X hP hw hK hc i pins s σ H E I hf st hg
  subst hP hw hK
  obtain ⟨xs,x,hq,hx⟩:=hg
  obtain ⟨its,rv,p,hz⟩:=I.tuple hq
  obtain ⟨u,hu,ru⟩:=rv.get hx
  obtain ⟨f0,f1,f2,f3,f4,f5⟩:=hf it (by simp)
  refine wpAny_pyNext_tuple_item st (show s.heap.IsTuple a its.toArray from p) (x:=u) (by simpa using hu) fun h' st' sb=>?_
  have I1:Inv X pins σ H { s with heap:=h' }:=I.turned (t':=s.toks) (fun b o hb e=>(sb.2 b hb).trans e) f0 f1 f3 f4 f5
  obtain ⟨o,e,c,d⟩:=id st'
  exact ⟨u,rfl,go_of (s:={ s with heap:=h' }) e c d (by decide) ⟨x,H,I1,ru,⟨rfl,fun ys hy=>by rw [I.tuple_inj hy hq]; exact hx⟩,st',fun b hb=>(hf b hb).1⟩⟩
 done:=by
  intro X hP hw hK hc i pins s σ H E I hf st hg
  subst hP hw hK
  obtain ⟨xs,hq,hx⟩:=hg
  obtain ⟨its,rv,p,hz⟩:=I.tuple hq
  obtain ⟨f0,f1,f2,f3,f4,f5⟩:=hf it (by simp)
  have hl:=rv.length
  exact wpAny_pyNext_tuple_end (I.ok.hd hc) st (show s.heap.IsTuple a its.toArray from p) (by simp; omega) fun h' eb=>⟨rfl,I.turned (t':=s.toks) (fun b o hb e=>eb b o hb e) f0 f1 f3 f4 f5⟩
 self:=fun _ _ _ _ _ st h=>wpAny_pyIter_tupleiter st h
theorem turn_range {P:Program} {w:World} {K:PySem.W.Frag} {tg:Expr} (it:Addr) (lo:Int) (n:Nat):Turn P w K tg (Itr lo n) [it] it (fun i h=>IsRangeIter h it (lo + (i:Nat) * 1) ((n:Int) - (i:Nat)) 1) where
 mem:=by simp
 obj:=fun i h st b hb=>by
  have e:b = it:=by simpa using hb
  subst e
  exact ⟨_,st,fun v z=>by
   have z':Data.fields _ = Data.cell v:=z
   cases z'⟩
 keep:=fun i h h' st k=>k it (by simp) _ st
 item:=by
  intro X hP hw hK hc i pins s σ H E I hf st hg
  subst hP hw hK
  obtain ⟨f0,f1,f2,f3,f4,f5⟩:=hf it (by simp)
  have W:=Walks.range (prog:=X.prog) (w:=X.w) (I.ok.hd hc) it lo 1 n
  refine W.item i s _ _ hg st fun v h' tk hv st' kk=>?_
  obtain ⟨t,rfl⟩:=hv
  have I1:Inv X pins σ H { s with heap:=h',toks:=tk }:=I.turned (fun b o hb e=>kk b o (by simpa using hb) e) f0 f1 f3 f4 f5
  refine ⟨_,rfl,go_of (s:={ s with heap:=h',toks:=tk }) (n := "range_iterator") st' rfl rfl (by decide) ⟨.int (lo + i),H,I1,⟨t,?_⟩,⟨rfl,rfl⟩,st',fun b hb=>(hf b hb).1⟩⟩
  rw [Int.mul_one]
 done:=by
  intro X hP hw hK hc i pins s σ H E I hf st hg
  subst hP hw hK
  obtain ⟨f0,f1,f2,f3,f4,f5⟩:=hf it (by simp)
  exact wpAny_pyNext_range_end (I.ok.hd hc) st (by have:n <= i:=hg; omega) fun h' eb=>⟨rfl,I.turned (t':=s.toks) (fun b o hb e=>eb b o hb e) f0 f1 f3 f4 f5⟩
 self:=fun _ _ _ _ _ st h=>wpAny_pyIter_rangeiter st h
end L2
namespace L2
open PySem PySem.Spec PyProof.Rows
section
variable {X:Cx} {tg:Expr}
theorem range_it {pins:List (Addr × Obj)} {σ:St} {H:Hp} {s:Shared} {R:It -> Hp -> Prop} {E:Value -> Shared -> Prop} {lo hi:Int} {t u v:Tok} {tk:Nat} (I:Inv X pins σ H s) (h1:-(2 ^ 62) <= lo) (h2:lo < 2 ^ 62) (h3:-(2 ^ 62) <= hi) (h4:hi < 2 ^ 62)
  (q:R (Itr lo (hi - lo).toNat) H):wpAny (model X.prog X.w) X.A (pyIter (.ref s.heap.objs.size)) (PIE X pins σ tg R) E { s with heap:=s.heap.push { cls:=.type "range",data:=.fields #[.int lo t,.int hi u,.int 1 v] },toks:=tk }:=by
 refine wpAny_pyIter_range (IsRange.new ..) (small_one h1 h2 h3 h4) ?_
 have I1:Inv X pins σ H { s with heap:=s.heap.push { cls:=.type "range",data:=.fields #[.int lo t,.int hi u,.int 1 v] },toks:=tk }:=I.kept fun b o e=>Heap.get?_push_of_some _ e
 refine ⟨(s.heap.push { cls:=.type "range",data:=.fields #[.int lo t,.int hi u,.int 1 v] }).objs.size,[(s.heap.push { cls:=.type "range",data:=.fields #[.int lo t,.int hi u,.int 1 v] }).objs.size],_,_,H,rfl,
  I1.kept (t':=tk) fun b o e=>Heap.get?_push_of_some _ e,turn_range _ lo (hi - lo).toNat,?_,fun b hb=>?_,q⟩
 ·have e1:lo + ((0:Nat):Int) * 1 = lo:=by simp
  have e2:(((hi - lo).toNat:Nat):Int) - ((0:Nat):Int) = Builtin.Range.rangeSize lo hi 1:=by rw [rangeSize_one]; split <;> omega
  show IsRangeIter _ _ (lo + ((0:Nat):Int) * 1) ((((hi - lo).toNat:Nat):Int) - ((0:Nat):Int)) 1
  rw [e1,e2]
  exact Heap.get?_push_size _ rfl
 ·have e:b = (s.heap.push { cls:=.type "range",data:=.fields #[.int lo t,.int hi u,.int 1 v] }).objs.size:=by simpa using hb
  subst e
  exact I1.fpOk (Nat.le_refl _) (I1.hok.fresh (Nat.le_refl _))
noncomputable def iRng1 (ta:TA):TI:=fun σ H R=>ta σ H fun vs H1=>∃ j:Int,vs = [.int j] /\ -(2 ^ 62) <= j /\ j < 2 ^ 62 /\ R (Itr 0 j.toNat) H1
theorem pi_range1 {a:Expr} {ta:TA} {p pos:Pos} (hg:Gl X "range") (hm:X.mg "range" = none) (ha:PA X [a] ta) (hs:starEach [a] X.env = [(false,eval a X.env)]:=by rfl):PI X tg (.Call (.Name "range" p) [a] [] pos) (iRng1 ta):=by
 refine .of ?_
 intro pins s σ H R I h
 refine Call_ (ld_blt I hg hm boot_range (PyProof.Rows.callWith_type1 (thn (ha pos pins s σ H _ I h) fun us s1 ⟨vs,H1,I1,r1,q1⟩=>?_) hs rfl))
 obtain ⟨j,e,q1,q2,q⟩:=q1
 subst e
 cases r1 with
 | cons r rr=>
  cases rr
  obtain ⟨t,rfl⟩:=r
  exact call_range_1 (range_it I1 (by omega) (by omega) q1 q2 (by simpa using q))
noncomputable def tFor (wi:TI) (g:TG) (tb:TS):TS:=fun D σ H=>wi σ H fun J H1=>∃ W:Nat -> Nat -> St -> Hp -> Prop,(∃ m,W 0 m σ H1) /\ ∀ i m σ H,W i m σ H ->
 (J.stop i H /\ D.nx σ H) \/ (J.go i H /\ ∃ N:St -> Hp -> Prop,(∀ σ' H',N σ' H' -> ∃ m',m' < m /\ W (i + 1) m' σ' H') /\ ∀ x H',J.yld i H x H' -> g x σ H' fun σ2 H2=>tb { D with nx:=N,ct:=N,bk:=D.nx } σ2 H2)
noncomputable def pinsAt (fp:List Addr) (h:Heap):List (Addr × Obj):=fp.filterMap fun b=>(h.get? b).map fun o=>(b,o)
theorem mem_pinsAt {fp:List Addr} {h:Heap} {b:Addr} {o:Obj} (hb:b ∈ fp) (e:h.get? b = some o):(b,o) ∈ pinsAt fp h:=List.mem_filterMap.mpr ⟨b,hb,by rw [e]; rfl⟩
theorem of_pinsAt {fp:List Addr} {h:Heap} {p:Addr × Obj} (hp:p ∈ pinsAt fp h):p.1 ∈ fp /\ h.get? p.1 = some p.2:=by
 obtain ⟨b,hb,e⟩:=List.mem_filterMap.mp hp
 cases q:h.get? b with
 | none=>rw [q] at e; cases e
 | some o=>
  rw [q] at e
  have e':(b,o) = p:=Option.some.inj e
  subst e'
  exact ⟨hb,q⟩
theorem Inv.pinned {pins:List (Addr × Obj)} {σ:St} {H:Hp} {s:Shared} {fp:List Addr} (I:Inv X pins σ H s) (hf:∀ b ∈ fp,FpOk X pins H b) (ho:∀ b ∈ fp,∃ o,s.heap.get? b = some o /\ ∀ v,o.data ≠ .cell v):Inv X (pins ++ pinsAt fp s.heap) σ H s:=
 I.pins_of fun p hp=>(List.mem_append.mp hp).elim (fun z=>I.pin p (List.mem_append_right _ z)) fun z=>by
  obtain ⟨hb,e⟩:=of_pinsAt z
  obtain ⟨f0,f1,f2,_⟩:=hf p.1 hb
  obtain ⟨o,e',d⟩:=ho p.1 hb
  rw [e] at e'; cases e'
  exact ⟨e,f0,f1,f2,d⟩
theorem Inv.unpinned {pins pl:List (Addr × Obj)} {σ:St} {H:Hp} {s:Shared} (I:Inv X (pins ++ pl) σ H s):Inv X pins σ H s:=I.pins_of fun p hp=>I.pin p (List.mem_append_right _ (List.mem_append_left _ hp))
theorem ps_for {iter:Expr} {body:List Stmt} {wi:TI} {g:TG} {tb:TS} {pos:Pos} (hp:PassesOwn (model X.prog X.w) X.A X.env X.xe) (hc:X.calm = true) (hi:PI X tg iter wi) (hg:PG X tg g) (hb:PSs X body tb)
  (hs:∀ x,foldedSetIterable iter X.env x = pure x:=by intro _; rfl):PS X (.For tg iter body [] pos) (tFor wi g tb):=by
 refine .of ?_
 intro pins s σ H D I h
 refine wpAny_For (thn (hi pins s σ H _ I h) fun v s1 h1=>thn h1 fun itv s2 h2=>?_) hs
 obtain ⟨it,fp,tn,J,H2,e,I2,T,st2,f2,W,⟨m0,w0⟩,turn⟩:=h2
 subst e
 have stat:∀ {H':Hp},(∀ b ∈ fp,H' b = none) -> ∀ b ∈ fp,FpOk X pins H' b:=fun hn b hb=>⟨hn b hb,(f2 b hb).2⟩
 refine codeAny_forLoop_any (fun n s'=>∃ i σ' H',Inv X pins σ' H' s' /\ tn i s'.heap /\ (∀ b ∈ fp,H' b = none) /\ W i n σ' H') ?_ m0 ⟨0,σ,H2,I2,st2,fun b hb=>(f2 b hb).1,w0⟩
 rintro n s3 ⟨i,σ3,H3,I3,st3,fr3,w3⟩
 rcases turn i n σ3 H3 w3 with ⟨stop,qn⟩ | ⟨go,N,hN,step⟩
 ·refine wpAny_passesOwn hp (thn (T.done X rfl rfl rfl hc i pins s3 σ3 H3 X.xe I3 (stat fr3) st3 stop) fun r s4 ⟨hr,I4⟩=>?_)
  subst hr
  exact wpAny_execs_nil ⟨σ3,H3,I4,qn⟩
 ·refine wpAny_passesOwn hp (thn (T.item X rfl rfl rfl hc i pins s3 σ3 H3 X.xe I3 (stat fr3) st3 go) fun r s4 ⟨u,hr,h4⟩=>?_)
  subst hr
  refine wpAny_passesOwn hp (thn h4 fun _ s5 ⟨x,H5,I5,r5,y5,st5,fr5⟩=>?_)
  have I5':=I5.pinned (stat fr5) (T.obj _ _ st5)
  refine wpAny_passesOwn hp (thn (hg _ s5 σ3 H5 x u _ I5' r5 (step x H5 y5)) fun _ s6 ⟨σ6,H6,I6,q6⟩=>?_)
  refine wpAny_passesOwn hp (thn (hb _ s6 σ6 H6 _ I6 q6) fun f s7 q7=>?_)
  have again:∀ {σ7:St} {H7:Hp},Inv X (pins ++ pinsAt fp s5.heap) σ7 H7 s7 -> N σ7 H7 -> ∃ m,m < n /\ ∃ i σ' H',Inv X pins σ' H' s7 /\ tn i s7.heap /\ (∀ b ∈ fp,H' b = none) /\ W i m σ' H':=fun {σ7 H7} I7 n7=>by
   obtain ⟨m',hm,w7⟩:=hN σ7 H7 n7
   refine ⟨m',hm,i + 1,σ7,H7,I7.unpinned,T.keep _ _ _ st5 fun b hb o e=>(I7.pin (b,o) (List.mem_append_right _ (List.mem_append_right _ (mem_pinsAt hb e)))).1,fun b hb=>?_,w7⟩
   obtain ⟨o,e,d⟩:=T.obj _ _ st5 b hb
   exact (I7.pin (b,o) (List.mem_append_right _ (List.mem_append_right _ (mem_pinsAt hb e)))).2.1
  cases f with
  | next=>obtain ⟨σ7,H7,I7,n7⟩:=q7; exact again I7 n7
  | cont=>obtain ⟨σ7,H7,I7,n7⟩:=q7; exact again I7 n7
  | brk=>obtain ⟨σ7,H7,I7,q7⟩:=q7; exact ⟨σ7,H7,I7.unpinned,q7⟩
  | ret v=>obtain ⟨x7,σ7,H7,I7,r7,q7⟩:=q7; exact ⟨x7,σ7,H7,I7.unpinned,r7,q7⟩
end
end L2
namespace L2
open PySem PySem.Spec PyProof.Rows
noncomputable abbrev R2:=V -> V -> Hp -> VK -> Prop
noncomputable def OpR (X:Cx) (f:Value -> Value -> Sem Value) (r:R2):Prop:=
 ∀ (pins:List (Addr × Obj)) (s:Shared) (σ:St) (H:Hp) (x y:V) (v u:Value) (Q:VK),Inv X pins σ H s -> RelV x v -> RelV y u -> r x y H Q ->
  wpAny (model X.prog X.w) X.A (f v u) (EP X pins σ Q) X.xe s
noncomputable def UnR (X:Cx) (f:Value -> Sem Value) (r:V -> Hp -> VK -> Prop):Prop:=
 ∀ (pins:List (Addr × Obj)) (s:Shared) (σ:St) (H:Hp) (x:V) (v:Value) (Q:VK),Inv X pins σ H s -> RelV x v -> r x H Q ->
  wpAny (model X.prog X.w) X.A (f v) (EP X pins σ Q) X.xe s
noncomputable def CallR (X:Cx) (f:Value) (r:List V -> Hp -> VK -> Prop):Prop:=
 ∀ (pins:List (Addr × Obj)) (s:Shared) (σ:St) (H:Hp) (xs:List V) (us:List Value) (Q:VK),Inv X pins σ H s -> Vals xs us -> r xs H Q ->
  wpAny (model X.prog X.w) X.A (call f us) (EP X pins σ Q) X.xe s
noncomputable def TruR (X:Cx) (r:V -> Hp -> (Bool -> Hp -> Prop) -> Prop):Prop:=
 ∀ (pins:List (Addr × Obj)) (s:Shared) (σ:St) (H:Hp) (x:V) (v:Value) (Q:Bool -> Hp -> Prop),Inv X pins σ H s -> RelV x v -> r x H Q ->
  wpAny (model X.prog X.w) X.A (truthy v) (TP X pins σ Q) X.xe s
noncomputable def tOp (r:R2) (ta tb:TE):TE:=fun σ H Q=>ta σ H fun x H1=>tb σ H1 fun y H2=>r x y H2 Q
noncomputable def tUn (r:V -> Hp -> VK -> Prop) (ta:TE):TE:=fun σ H Q=>ta σ H fun x H1=>r x H1 Q
noncomputable def rI (C:Int -> Int -> Prop) (g:Int -> Int -> V):R2:=fun x y H Q=>∃ i j,x = .int i /\ y = .int j /\ C i j /\ Q (g i j) H
noncomputable def rI0 (g:Int -> Int -> V):R2:=fun x y H Q=>∃ i j,x = .int i /\ y = .int j /\ Q (g i j) H
noncomputable def rU (g:Int -> V):V -> Hp -> VK -> Prop:=fun x H Q=>∃ i,x = .int i /\ Q (g i) H
section
variable {X:Cx} {a b c:Expr} {ta tb tc:TE} {pos:Pos}
theorem binT (ha:PE X a ta) (hb:PE X b tb) {pins:List (Addr × Obj)} {s:Shared} {σ:St} {H:Hp} {R:V -> V -> Hp -> Prop} (I:Inv X pins σ H s)
  (h:ta σ H fun x H1=>tb σ H1 fun y H2=>R x y H2) {Q:Value -> Shared -> Prop} {f:Value -> Value -> Sem Value}
  (hf:∀ v u s2 x y H2,Inv X pins σ H2 s2 -> RelV x v -> RelV y u -> R x y H2 -> wpAny (model X.prog X.w) X.A (f v u) Q X.xe s2) :
  wpAny (model X.prog X.w) X.A (eval a X.env) (fun v s₁=>wpAny (model X.prog X.w) X.A (eval b X.env) (fun u s₂=>wpAny (model X.prog X.w) X.A (f v u) Q X.xe s₂) X.xe s₁) X.xe s:=by
 refine thn (ha pins s σ H _ I h) fun v s1 ⟨x,H1,I1,r1,q1⟩=>?_
 refine thn (hb pins s1 σ H1 _ I1 q1) fun u s2 ⟨y,H2,I2,r2,q2⟩=>?_
 exact hf v u s2 x y H2 I2 r1 r2 q2
theorem pe_op {op:Operator} {r:R2} (ho:OpR X (binaryOp op) r) (ha:PE X a ta) (hb:PE X b tb):PE X (.BinOp a op b pos) (tOp r ta tb):=by
 refine .of ?_
 intro pins s σ H Q I h
 exact wpAny_BinOp (binT ha hb I h fun v u s2 x y H2 I2 rx ry q=>ho pins s2 σ H2 x y v u Q I2 rx ry q)
theorem pe_un {op:UnaryOp} {r:V -> Hp -> VK -> Prop} (ho:UnR X (unaryOp op) r) (ha:PE X a ta):PE X (.UnaryOp op a pos) (tUn r ta):=by
 refine .of ?_
 intro pins s σ H Q I h
 exact UnaryOp_ (thn (ha pins s σ H _ I h) fun v s1 ⟨x,H1,I1,r1,q1⟩=>ho pins s1 σ H1 x v Q I1 r1 q1)
theorem opI {f:Value -> Value -> Sem Value} {C:Int -> Int -> Prop} {g:Int -> Int -> Int}
  (rule:∀ (i j:Int) (t u:Tok) (s:Shared) (Q:Value -> Shared -> Prop) (E:Value -> Shared -> Prop),C i j -> Q (.int (g i j) s.toks) { s with toks:=s.toks + 1 } -> wpAny (model X.prog X.w) X.A (f (.int i t) (.int j u)) Q E s) :
  OpR X f (rI C fun i j=>.int (g i j)):=by
 intro pins s σ H x y v u Q I rx ry h
 obtain ⟨i,j,rfl,rfl,hc,q⟩:=h
 obtain ⟨t,rfl⟩:=rx
 obtain ⟨t',rfl⟩:=ry
 exact rule i j t t' s _ _ hc ⟨.int (g i j),H,I.tok _,⟨_,rfl⟩,q⟩
theorem opI0 {f:Value -> Value -> Sem Value} {g:Int -> Int -> Int}
  (rule:∀ (i j:Int) (t u:Tok) (s:Shared) (Q:Value -> Shared -> Prop) (E:Value -> Shared -> Prop),Q (.int (g i j) s.toks) { s with toks:=s.toks + 1 } -> wpAny (model X.prog X.w) X.A (f (.int i t) (.int j u)) Q E s) :
  OpR X f (rI0 fun i j=>.int (g i j)):=by
 intro pins s σ H x y v u Q I rx ry h
 obtain ⟨i,j,rfl,rfl,q⟩:=h
 obtain ⟨t,rfl⟩:=rx
 obtain ⟨t',rfl⟩:=ry
 exact rule i j t t' s _ _ ⟨.int (g i j),H,I.tok _,⟨_,rfl⟩,q⟩
theorem opB0 {f:Value -> Value -> Sem Value} {g:Int -> Int -> Bool}
  (rule:∀ (i j:Int) (t u:Tok) (s:Shared) (Q:Value -> Shared -> Prop) (E:Value -> Shared -> Prop),Q (.bool (g i j)) s -> wpAny (model X.prog X.w) X.A (f (.int i t) (.int j u)) Q E s) :
  OpR X f (rI0 fun i j=>.bl (g i j)):=by
 intro pins s σ H x y v u Q I rx ry h
 obtain ⟨i,j,rfl,rfl,q⟩:=h
 obtain ⟨t,rfl⟩:=rx
 obtain ⟨t',rfl⟩:=ry
 exact rule i j t t' s _ _ ⟨.bl (g i j),H,I,rfl,q⟩
noncomputable def CPow (i j:Int):Prop:=0 <= j /\ j <= 1000000 /\ i.natAbs < 2 ^ 64
noncomputable def CMul (i j:Int):Prop:=(-(2 ^ 64) < i /\ i < 2 ^ 64) \/ (-(2 ^ 64) < j /\ j < 2 ^ 64)
theorem CMul.ok {i j:Int} (h:CMul i j):IntMulOk i j:=by
 rcases h with ⟨h1,h2⟩ | ⟨h1,h2⟩
 ·exact .of_left (intBits_le_64 h1 h2)
 ·exact .of_right (intBits_le_64 h1 h2)
theorem op_add:OpR X (binaryOp .Add) (rI0 fun i j=>.int (i + j)):=opI0 fun _ _ _ _ _ _ _ q=>add_int q
theorem op_sub:OpR X (binaryOp .Sub) (rI0 fun i j=>.int (i - j)):=opI0 fun _ _ _ _ _ _ _ q=>sub_int q
theorem op_mul:OpR X (binaryOp .Mult) (rI CMul fun i j=>.int (i * j)):=opI fun _ _ _ _ _ _ _ hc q=>mul_int q hc.ok
theorem op_mod:OpR X (binaryOp .Mod) (rI (fun _ j=>0 < j) fun i j=>.int (i % j)):=opI fun i j _ _ _ _ _ hc q=>by
 have h1:(0:Int) < j:=hc
 exact mod_int' (by omega) (by rw [Int.fmod_eq_emod_of_nonneg i (by omega)]; exact q)
theorem op_pow:OpR X (binaryOp .Pow) (rI CPow fun i j=>.int (i ^ j.toNat)):=opI fun _ _ _ _ _ _ _ hc q=>pow_int_small hc.1 hc.2.1 hc.2.2 q
theorem unI {f:Value -> Sem Value} {g:Int -> Int}
  (rule:∀ (i:Int) (t:Tok) (s:Shared) (Q:Value -> Shared -> Prop) (E:Value -> Shared -> Prop),Q (.int (g i) s.toks) { s with toks:=s.toks + 1 } -> wpAny (model X.prog X.w) X.A (f (.int i t)) Q E s) :
  UnR X f (rU fun i=>.int (g i)):=by
 intro pins s σ H x v Q I rx h
 obtain ⟨i,rfl,q⟩:=h
 obtain ⟨t,rfl⟩:=rx
 exact rule i t s _ _ ⟨.int (g i),H,I.tok _,⟨_,rfl⟩,q⟩
theorem un_neg:UnR X (unaryOp .USub) (rU fun i=>.int (-i)):=unI fun _ _ _ _ _ q=>neg_int q
end
noncomputable def scal:V -> V -> Bool
 | .non,.non=>true | .non,.int _=>true | .int _,.non=>true | .non,.bl _=>true | .bl _,.non=>true | .non,.str _=>true | .str _,.non=>true
 | .int _,.int _=>true | .bl _,.bl _=>true | .str _,.str _=>true | .byt _,.byt _=>true
 | .int _,.str _=>true | .str _,.int _=>true | .bl _,.str _=>true | .str _,.bl _=>true
 | _,_=>false
noncomputable def rEq:R2:=fun x y H Q=>scal x y = true /\ Q (.bl (decide (x = y))) H
theorem dec_int {i j:Int}:decide (V.int i = V.int j) = (i == j):=by
 rw [Bool.eq_iff_iff]
 simp
theorem dec_bl {i j:Bool}:decide (V.bl i = V.bl j) = (i == j):=by
 rw [Bool.eq_iff_iff]
 simp
theorem dec_str {i j:Str}:decide (V.str i = V.str j) = (i == j):=by
 rw [Bool.eq_iff_iff]
 simp
theorem dec_byt {i j:Array UInt8}:decide (V.byt i = V.byt j) = (i.toList == j.toList):=by
 rw [Bool.eq_iff_iff]
 cases i
 cases j
 simp
section
variable {X:Cx} {a b c:Expr} {ta tb tc:TE} {pos:Pos}
theorem fin_bl {pins:List (Addr × Obj)} {σ:St} {H:Hp} {s:Shared} {Q:VK} {k k':Bool} (I:Inv X pins σ H s) (q:Q (.bl k) H) (e:k = k'):EP X pins σ Q (.bool k') s:=by
 subst e
 exact ⟨.bl k,H,I,rfl,q⟩
theorem op_eq:OpR X (compareOp .Eq) rEq:=by
 intro pins s σ H x y v u Q I rx ry h
 obtain ⟨hs,q⟩:=h
 cases x with
 | non=>
  cases rx
  cases y with
  | non=>cases ry; exact PySem.EqNone.eq_none_none (fin_bl I q (by simp))
  | bl j=>cases ry; exact PySem.EqNone.eq_none_bool (fin_bl I q (by simp))
  | int j=>obtain ⟨t',rfl⟩:=ry; exact PySem.EqNone.eq_none_int (fin_bl I q (by simp))
  | str j=>obtain ⟨t',rfl⟩:=ry; exact PySem.EqNone.eq_none_str (fin_bl I q (by simp))
  | _=>exact absurd (show false = true from hs) Bool.false_ne_true
 | bl i=>
  cases rx
  cases y with
  | non=>cases ry; exact PySem.EqNone.eq_bool_none (fin_bl I q (by simp))
  | bl j=>cases ry; exact eq_bool (fin_bl I q dec_bl)
  | str j=>obtain ⟨t',rfl⟩:=ry; exact PySem.EqMixed.eq_bool_str (fin_bl I q (by simp))
  | _=>exact absurd (show false = true from hs) Bool.false_ne_true
 | int i=>
  obtain ⟨t,rfl⟩:=rx
  cases y with
  | non=>cases ry; exact PySem.EqNone.eq_int_none (fin_bl I q (by simp))
  | int j=>obtain ⟨t',rfl⟩:=ry; exact eq_int (fin_bl I q dec_int)
  | str j=>obtain ⟨t',rfl⟩:=ry; exact PySem.EqMixed.eq_int_str (fin_bl I q (by simp))
  | _=>exact absurd (show false = true from hs) Bool.false_ne_true
 | str i=>
  obtain ⟨t,rfl⟩:=rx
  cases y with
  | non=>cases ry; exact PySem.EqNone.eq_str_none (fin_bl I q (by simp))
  | bl j=>cases ry; exact PySem.EqMixed.eq_str_bool (fin_bl I q (by simp))
  | int j=>obtain ⟨t',rfl⟩:=ry; exact PySem.EqMixed.eq_str_int (fin_bl I q (by simp))
  | str j=>obtain ⟨t',rfl⟩:=ry; exact eq_str (fin_bl I q dec_str)
  | _=>exact absurd (show false = true from hs) Bool.false_ne_true
 | byt i=>
  obtain ⟨t,rfl⟩:=rx
  cases y with
  | byt j=>obtain ⟨t',rfl⟩:=ry; exact PySem.W.eq_bytes (fin_bl I q dec_byt)
  | _=>exact absurd (show false = true from hs) Bool.false_ne_true
 | _=>cases y <;> exact absurd (show false = true from hs) Bool.false_ne_true
theorem op_lt:OpR X (compareOp .Lt) (rI0 fun i j=>.bl (decide (i < j))):=opB0 fun _ _ _ _ _ _ _ q=>lt_int q
theorem op_gt:OpR X (compareOp .Gt) (rI0 fun i j=>.bl (decide (j < i))):=opB0 fun _ _ _ _ _ _ _ q=>gt_int q
theorem op_ge:OpR X (compareOp .GtE) (rI0 fun i j=>.bl (decide (j <= i))):=opB0 fun _ _ _ _ _ _ _ q=>ge_int q
theorem op_in_str:OpR X (compareOp .In) (fun x y H Q=>∃ i j,x = .str i /\ y = .str j /\ Q (.bl (!(Builtin.Str.occurrences j i 0 j.length 1).isEmpty)) H):=by
 intro pins s σ H x y v u Q I rx ry h
 obtain ⟨i,j,rfl,rfl,q⟩:=h
 obtain ⟨t,rfl⟩:=rx
 obtain ⟨t',rfl⟩:=ry
 exact in_str (fin_bl I q rfl)
theorem op_isN:OpR X (compareOp .Is) (fun x y H Q=>y = .non /\ Q (.bl (decide (x = .non))) H):=by
 intro pins s σ H x y v u Q I rx ry h
 obtain ⟨rfl,q⟩:=h
 cases ry
 refine is_none_gen (fin_bl I q ?_)
 cases x <;> first
  | (cases rx; rfl)
  | (obtain ⟨t,rfl⟩:=rx; rfl)
theorem op_notN:OpR X (compareOp .IsNot) (fun x y H Q=>y = .non /\ Q (.bl (!decide (x = .non))) H):=by
 intro pins s σ H x y v u Q I rx ry h
 obtain ⟨rfl,q⟩:=h
 cases ry
 refine isnot_none_gen (fin_bl I q ?_)
 cases x <;> first
  | (cases rx; rfl)
  | (obtain ⟨t,rfl⟩:=rx; rfl)
theorem OpR.or {f:Value -> Value -> Sem Value} {r r':R2} (h:OpR X f r) (h':OpR X f r'):OpR X f (fun x y H Q=>r x y H Q \/ r' x y H Q):=by
 intro pins s σ H x y v u Q I rx ry q
 rcases q with q | q
 ·exact h pins s σ H x y v u Q I rx ry q
 ·exact h' pins s σ H x y v u Q I rx ry q
theorem nomark (b:Expr) {op:CmpOp} (h:op ≠ .In:=by decide) (h2:op ≠ .NotIn:=by decide):behindInMarks op b = false:=by
 have e1:(op == CmpOp.In) = false:=by cases op <;> first | rfl | exact absurd rfl h
 have e2:(op == CmpOp.NotIn) = false:=by cases op <;> first | rfl | exact absurd rfl h2
 cases b <;> simp [behindInMarks,e1,e2]
theorem pe_cmpR {op:CmpOp} {r:R2} (ho:OpR X (compareOp op) r) (ha:PE X a ta) (hb:PE X b tb) (hm:behindInMarks op b = false):PE X (.Compare a [op] [b] pos) (tOp r ta tb):=by
 refine .of ?_
 intro pins s σ H Q I h
 exact wpAny_Compare1 (binT ha hb I h fun v u s2 x y H2 I2 rx ry q=>ho pins s2 σ H2 x y v u Q I2 rx ry q) hm
noncomputable def tTest (t:TE):TT:=fun σ H Q=>t σ H fun x H'=>∃ k,x = .bl k /\ Q k H'
theorem pt_cmpR {op:CmpOp} {r:R2} (ho:OpR X (compareOp op) r) (ha:PE X a ta) (hb:PE X b tb) (hm:behindInMarks op b = false):PT X (.Compare a [op] [b] pos) (tTest (tOp r ta tb)):=by
 refine .of ?_
 intro pins s σ H Q I h
 refine wpAny_isTrue_Compare1 (thn (ha pins s σ H _ I h) fun v s1 ⟨x,H1,I1,r1,q1⟩=>thn (hb pins s1 σ H1 _ I1 q1) fun u s2 ⟨y,H2,I2,r2,q2⟩=>
  thn (ho pins s2 σ H2 x y v u _ I2 r1 r2 q2) fun c s3 ⟨z,H3,I3,r3,k,e,q3⟩=>?_) hm
 subst e
 cases r3
 exact wpAny_truthy_bool ⟨H3,I3,q3⟩
noncomputable def TruV (K:PySem.W.Frag) (x:V) (H:Hp) (k:Bool):Prop:=
 match x with
 | .non=>k = false
 | .bl b=>k = b
 | .int i=>k = (i != 0)
 | .str y=>y.length <= sizeLine /\ k = ((y.length:Int) != 0)
 | .byt y=>y.size <= sizeLine /\ k = ((y.size:Int) != 0)
 | .ref p=>(∃ xs,SqL K H p xs /\ k = !xs.isEmpty) \/ (∃ xs,SqT K H p xs /\ k = !xs.isEmpty) \/ ∃ kvs,Dd H p kvs /\ k = !kvs.isEmpty
 | _=>False
theorem isEmpty_kv {κ:Type} {kvs:List (κ × V)} {vs:List (κ × Value)} (r:KV kvs vs):(!vs.isEmpty) = !kvs.isEmpty:=by
 cases r <;> rfl
theorem isEmpty_of {xs:List V} {its:List Value} (r:Vals xs its):(!its.toArray.isEmpty) = !xs.isEmpty:=by
 cases r <;> simp
theorem line63:(sizeLine:Nat) < 2 ^ 63:=by rw [sizeLine_eq]; decide
theorem tru_ok:TruR X (fun x H Q=>∃ k,TruV X.K x H k /\ Q k H):=by
 intro pins s σ H x v Q I rx h
 obtain ⟨k,e,q⟩:=h
 have hl:=line63
 have hs:sizeLine = 16777216:=sizeLine_eq
 cases x with
 | non=>
  cases rx
  have e':k = false:=e
  subst e'
  exact truthy_none ⟨H,I,q⟩
 | bl b=>
  cases rx
  have e':k = b:=e
  subst e'
  exact wpAny_truthy_bool ⟨H,I,q⟩
 | int i=>
  obtain ⟨t,rfl⟩:=rx
  have e':k = (i != 0):=e
  subst e'
  exact PySem.P.truthy_int ⟨H,I,q⟩
 | str y=>
  obtain ⟨t,rfl⟩:=rx
  obtain ⟨hy,e'⟩:y.length <= sizeLine /\ k = ((y.length:Int) != 0):=e
  subst e'
  exact PySem.P.truthy_str (by omega) ⟨H,I.tok _,q⟩
 | byt y=>
  obtain ⟨t,rfl⟩:=rx
  obtain ⟨hy,e'⟩:y.size <= sizeLine /\ k = ((y.size:Int) != 0):=e
  subst e'
  exact PySem.W.truthy_bytes (by omega) ⟨H,I.tok _,q⟩
 | ref p=>
  cases rx
  have e':(∃ xs,SqL X.K H p xs /\ k = !xs.isEmpty) \/ (∃ xs,SqT X.K H p xs /\ k = !xs.isEmpty) \/ ∃ kvs,Dd H p kvs /\ k = !kvs.isEmpty:=e
  rcases e' with ⟨xs,hx,e'⟩ | ⟨xs,hx,e'⟩ | ⟨kvs,hx,e'⟩
  ·subst e'
   obtain ⟨its,r,pl,hz⟩:=I.list hx
   have hlen:=r.length
   exact wpAny_truthy_list pl.isList (by simp only [List.size_toArray]; omega) ⟨H,I.tok _,by rw [isEmpty_of r]; exact q⟩
  ·subst e'
   obtain ⟨its,r,pl,hz⟩:=I.tuple hx
   have hlen:=r.length
   exact truthy_tuple pl (by simp only [List.size_toArray]; omega) ⟨H,I.tok _,by rw [isEmpty_of r]; exact q⟩
  ·subst e'
   obtain ⟨hz,hS,vs,r,m⟩:kvs.length <= sizeLine /\ (p == sysModules) = false /\ ∃ vs,KV kvs vs /\ s.heap.DictOf (mixKind X.prog X.w) p vs:=(show ObjOk X.prog X.w H s.heap p (.dK kvs) from hx.ok I.hok)
   have hlen:kvs.length = vs.length:=Paired.length r
   exact wpAny_truthy_dict hS m (by omega) ⟨H,I.tok _,by rw [isEmpty_kv r]; exact q⟩
 | _=>exact (show False from e).elim
theorem pt_truth (ha:PE X a ta) (he:∀ whole,isTrue a X.env whole = (do let v <- whole; standAt a.pos; holding [v] (truthy v))) :
  PT X a (fun σ H Q=>ta σ H fun x H'=>∃ k,TruV X.K x H' k /\ Q k H'):=by
 refine .of ?_
 intro pins s σ H Q I h
 exact isTrue_plain (thn (ha pins s σ H _ I h) fun v s1 ⟨x,H1,I1,r1,q1⟩=>tru_ok pins s1 σ H1 x v Q I1 r1 q1) (he _)
theorem op_add_str:OpR X (binaryOp .Add) (fun x y H Q=>∃ i j,x = .str i /\ y = .str j /\ i.length + j.length <= sizeLine /\ Q (.str (i ++ j)) H):=by
 intro pins s σ H x y v u Q I rx ry h
 obtain ⟨i,j,rfl,rfl,hz,q⟩:=h
 obtain ⟨t,rfl⟩:=rx
 obtain ⟨t',rfl⟩:=ry
 exact add_str (fun t' tk=>⟨.str (i ++ j),H,I.tok _,⟨_,rfl⟩,q⟩) hz
theorem vals1 {x:V} {us:List Value} (r:Vals [x] us):∃ u,us = [u] /\ RelV x u:=by
 cases r with
 | cons r1 r2=>cases r2; exact ⟨_,rfl,r1⟩
theorem vals2 {x y:V} {us:List Value} (r:Vals [x,y] us):∃ u w',us = [u,w'] /\ RelV x u /\ RelV y w':=by
 cases r with
 | cons r1 r2=>
  cases r2 with
  | cons r3 r4=>cases r4; exact ⟨_,_,rfl,r1,r3⟩
theorem call_max2 (hc:X.calm = true):CallR X (.builtin "max") (fun xs H Q=>∃ i j,xs = [.int i,.int j] /\ Q (.int (if j > i then j else i)) H):=by
 intro pins s σ H xs us Q I r h
 obtain ⟨i,j,rfl,q⟩:=h
 obtain ⟨u,w',rfl,⟨t,rfl⟩,⟨t',rfl⟩⟩:=vals2 r
 refine max_two_ints (I.ok.hd hc) fun h' tk k=>⟨_,H,I.kept k,?_,q⟩
 by_cases hj:j > i
 ·rw [if_pos hj,if_pos hj]; exact ⟨_,rfl⟩
 ·rw [if_neg hj,if_neg hj]; exact ⟨_,rfl⟩
theorem call_min2 (hc:X.calm = true):CallR X (.builtin "min") (fun xs H Q=>∃ i j,xs = [.int i,.int j] /\ Q (.int (if j < i then j else i)) H):=by
 intro pins s σ H xs us Q I r h
 obtain ⟨i,j,rfl,q⟩:=h
 obtain ⟨u,w',rfl,⟨t,rfl⟩,⟨t',rfl⟩⟩:=vals2 r
 refine min_two_ints (I.ok.hd hc) fun h' tk k=>⟨_,H,I.kept k,?_,q⟩
 by_cases hj:j < i
 ·rw [if_pos hj,if_pos hj]; exact ⟨_,rfl⟩
 ·rw [if_neg hj,if_neg hj]; exact ⟨_,rfl⟩
noncomputable def LenV (K:PySem.W.Frag) (x:V) (H:Hp) (n:Nat):Prop:=
 match x with
 | .str y=>y.length <= sizeLine /\ n = y.length
 | .byt y=>y.size <= sizeLine /\ n = y.size
 | .ref p=>(∃ xs,SqL K H p xs /\ n = xs.length) \/ ∃ xs,SqT K H p xs /\ n = xs.length
 | _=>False
theorem call_len:CallR X (.builtin "len") (fun xs H Q=>∃ x n,xs = [x] /\ LenV X.K x H n /\ Q (.int n) H):=by
 intro pins s σ H xs us Q I r h
 obtain ⟨x,n,rfl,e,q⟩:=h
 obtain ⟨u,rfl,rx⟩:=vals1 r
 have hl:=line63
 have hs:sizeLine = 16777216:=sizeLine_eq
 cases x with
 | str y=>
  obtain ⟨t,rfl⟩:=rx
  obtain ⟨hy,e'⟩:y.length <= sizeLine /\ n = y.length:=e
  subst e'
  exact len_str (by omega) ⟨.int _,H,I.tok _,⟨_,rfl⟩,q⟩
 | byt y=>
  obtain ⟨t,rfl⟩:=rx
  obtain ⟨hy,e'⟩:y.size <= sizeLine /\ n = y.size:=e
  subst e'
  exact PySem.W.len_bytes (by omega) ⟨.int _,H,I.tok _,⟨_,rfl⟩,q⟩
 | ref p=>
  cases rx
  have e':(∃ xs,SqL X.K H p xs /\ n = xs.length) \/ ∃ xs,SqT X.K H p xs /\ n = xs.length:=e
  rcases e' with ⟨xs,hx,e'⟩ | ⟨xs,hx,e'⟩
  ·subst e'
   obtain ⟨its,r',pl,hz⟩:=I.list hx
   have hlen:=r'.length
   exact Calls.call_len_list pl.isList (by simp only [List.size_toArray]; omega) ⟨.int xs.length,H,I.tok _,⟨_,by simp only [List.size_toArray]; rw [hlen]⟩,q⟩
  ·subst e'
   obtain ⟨its,r',pl,hz⟩:=I.tuple hx
   have hlen:=r'.length
   exact len_tuple pl (by simp only [List.size_toArray]; omega) ⟨.int xs.length,H,I.tok _,⟨_,by simp only [List.size_toArray]; rw [hlen]⟩,q⟩
 | _=>exact (show False from e).elim
end
end L2
namespace L2
open PySem PySem.Spec PyProof.Rows
structure ObjM (h:Heap) (x dx C:Addr) (mA:Str -> Option Value):Prop where
 obj:h.get? x = some (PySem.W.instObj C dx)
 ns:h.Ns1 dx mA
 ne:dx ≠ x
theorem lookIn_ns {h:Heap} {dx:Addr} {mA:Str -> Option Value} (n:h.Ns1 dx mA):∃ od,h.get? dx = some od /\ ∀ name,PySem.W.lookIn name od = some (mA name):=by
 obtain ⟨o,es,ep,ho,hd,hk,_,hm⟩:=n
 refine ⟨o,ho,fun name=>?_⟩
 have e:=hm name
 unfold nsFind findBy at e
 rw [<- Array.find?_toList] at e
 unfold PySem.W.lookIn
 rw [hd]
 dsimp only
 split
 ·rename_i y q
  rw [q] at e
  exact congrArg some e
 ·rename_i q
  rw [q] at e
  have a:es.toList.any (·.refKey) = false:=by
   rw [List.any_eq_false]
   intro y hy
   obtain ⟨z,t,hkey⟩:=hk y (Array.mem_toList_iff.mp hy)
   simp [DictEntry.refKey,hkey]
  have a':¬ es.toList.any (·.refKey) = true:=by rw [a]; exact Bool.false_ne_true
  rw [if_neg a']
  exact congrArg some e
theorem ObjM.look {h:Heap} {x dx C:Addr} {mA:Str -> Option Value} (I:ObjM h x dx C mA):∃ od,PySem.W.InstAt h x (PySem.W.instObj C dx) C (some od) /\ ∀ name,PySem.W.lookIn name od = some (mA name):=
 let ⟨od,ho,hl⟩:=lookIn_ns I.ns
 ⟨od,⟨I.obj,rfl,rfl,ho⟩,hl⟩
section
variable {prog:Program} {w:World} {A:Around} {E:Value -> Shared -> Prop} {s:Shared} {K:PySem.W.Frag} {x dx C f:Addr} {mA:Str -> Option Value} {name:Str} {v:Value}
theorem get_map {expr:Bool} {Q:Value -> Shared -> Prop} (X:K.In s.heap) (I:ObjM s.heap x dx C mA) (hg:PySem.W.plainGet K C name = true) (hh:PySem.W.hasDictIn K C = true)
  (ha:PySem.W.findIn K (.ref C) name = some none) (hv:mA name = some v) (hv':PySem.W.handedIn v = true) (h:Q v { s with toks:=s.toks + 1 }) :
  wpAny (model prog w) A (getAttr (.ref x) name expr) Q E s:=by
 obtain ⟨od,J,hl⟩:=I.look
 exact PySem.W.get_value X J (PySem.W.plainGet_of hg).1 (PySem.W.findObj_own hh ha rfl (by rw [hl,hv])) hv' h
end
theorem RelO.some_of {v:V} {o:Option Value} (r:RelO (some v) o):∃ u,o = some u /\ RelV v u:=by
 cases o with
 | none=>exact (show False from r).elim
 | some u=>exact ⟨u,rfl,r⟩
section
variable {P:Program} {w:World} {H H':Hp} {h h':Heap} {a C dx:Addr} {fs fs':List (Str × V)}
theorem ins_get (hok:HOk P w H h) (e:H a = some (.ins C dx fs)):∃ mA,ObjM h a dx C mA /\ (∀ f,RelO (fs.lookup f) (mA f)) /\ PySem.Within mA (fs.map (·.1)) /\ fs.length <= 1000 /\ H dx = some (.own a):=by
 obtain ⟨d,z,ne,ob,mA,n,r,q⟩:=(show ObjOk P w H h a (.ins C dx fs) from hok a _ e)
 exact ⟨mA,⟨ob,n,ne⟩,r,q,z,d⟩
end
structure Cls (K:PySem.W.Frag) (C:Addr):Prop where
 pg:PySem.W.plainGet K C Str.empty = true
 hd:PySem.W.hasDictIn K C = true
 po:PySem.W.plainOver K C = true
 sa:PySem.W.findIn K (.ref C) "__setattr__" = some (some (.builtin "object.__setattr__"))
theorem Cls.get {K:PySem.W.Frag} {C:Addr} (c:Cls K C) (f:Str):PySem.W.plainGet K C f = true:=c.pg
section
variable {X:Cx} {pins:List (Addr × Obj)} {σ:St} {H:Hp} {s:Shared} {a C dx:Addr} {fs:List (Str × V)} {f:Str} {v:V} {A:Around} {E:Value -> Shared -> Prop}
end
noncomputable def InOp (X:Cx) (op:Operator) (rd:V -> V -> Hp -> VK -> Prop):Prop:=
 ∀ (pins:List (Addr × Obj)) (s:Shared) (σ:St) (H:Hp) (x y:V) (u v:Value) (Q:VK),Inv X pins σ H s -> RelV x u -> RelV y v -> rd x y H Q -> wpAny (model X.prog X.w) X.A (inplaceOp op u v) (EP X pins σ Q) X.xe s
section
variable {X:Cx} {o e value:Expr} {f:Str} {pos pos' tpos:Pos} {ta tv:TE}
end
section
variable {X:Cx} {pins:List (Addr × Obj)} {σ:St} {H:Hp} {s:Shared} {A:Around} {E:Value -> Shared -> Prop} {Q:Value -> Shared -> Prop} {c:Value} {b:Bool}
inductive TyOf (K:PySem.W.Frag) (H:Hp):V -> Value -> Prop where
 | non:TyOf K H .non (.type "NoneType")
 | bl (x:Bool):TyOf K H (.bl x) (.type "bool")
 | int (i:Int):TyOf K H (.int i) (.type "int")
 | str (x:Str):TyOf K H (.str x) (.type "str")
 | flt (x:UInt64):TyOf K H (.flt x) (.type "float")
 | lst {a:Addr} {xs:List V} (e:H a = some (.lst xs)):TyOf K H (.ref a) (.type "list")
 | frz {a:Addr} {o:Obj} {xs:List V} (e:H a = some (.frz o (.lst xs))):TyOf K H (.ref a) (.type "list")
 | tup {a:Addr} {xs:List V} (e:H a = some (.tup xs)):TyOf K H (.ref a) (.type "tuple")
 | dK {a:Addr} {kvs:List (Key × V)} (e:Dd H a kvs):TyOf K H (.ref a) (.type "dict")
 | dT {a:Addr} {kvs:List (List Key × V)} (e:H a = some (.dT kvs)):TyOf K H (.ref a) (.type "dict")
 | ins {a C dx:Addr} {fs:List (Str × V)} (e:H a = some (.ins C dx fs)) (cl:Cls K C) (ha:PySem.W.findIn K (.ref C) "__class__" = some (some (.builtin "object.__class__")))
   (hn:PySem.W.specialIn K (.builtin "object.__class__") "__get__" = some (some (.builtin "getset_descriptor.__get__"))) (htk:PySem.W.takesIn K (.builtin "object.__class__") = some true)
   (hm:PySem.W.mroIn K C (.type "object") = some true):TyOf K H (.ref a) (.ref C)
theorem isinst_ok {x:V} {u t:Value} (I:Inv X pins σ H s) (rx:RelV x u) (ty:TyOf X.K H x t) (e:PySem.W.kitOne X.K t c = some b) (h:∀ tk,Q (.bool b) { s with toks:=tk }) :
  wpAny (model X.prog X.w) A (call (.builtin "isinstance") [u,c]) Q E s:=by
 cases ty with
 | non=>cases (show u = Value.none from rx); exact PySem.W.kia_one PySem.W.kitx_none I.kIn True.intro e (fun z=>nomatch z) h
 | bl y=>cases (show u = Value.bool y from rx); exact PySem.W.kia_one PySem.W.kitx_bool I.kIn True.intro e (fun z=>nomatch z) h
 | int i=>obtain ⟨t,q⟩:=(show ∃ t,u = Value.int i t from rx); cases q; exact PySem.W.kia_one PySem.W.kitx_int I.kIn True.intro e (fun z=>nomatch z) h
 | str y=>obtain ⟨t,q⟩:=(show ∃ t,u = Value.str y t from rx); cases q; exact PySem.W.kia_one PySem.W.kitx_str I.kIn True.intro e (fun z=>nomatch z) h
 | flt y=>obtain ⟨t,q⟩:=(show ∃ t,u = Value.float y t from rx); cases q; exact PySem.W.kia_one PySem.W.kitx_float I.kIn True.intro e (fun z=>nomatch z) h
 | @lst a xs ea=>
  cases (show u = Value.ref a from rx)
  obtain ⟨_,_,n,_,h1⟩:=(show ObjOk X.prog X.w H s.heap a (.lst xs) from I.hok a _ ea)
  exact PySem.W.kia_one PySem.W.kitx_list I.kIn ⟨_,h1,rfl⟩ e (fun z=>nomatch z) h
 | @frz a ob xs ea=>
  cases (show u = Value.ref a from rx)
  obtain ⟨_,_,_,n,_,h1⟩:=(show ObjOk X.prog X.w H s.heap a (.frz ob (.lst xs)) from I.hok a _ ea)
  exact PySem.W.kia_one PySem.W.kitx_list I.kIn ⟨_,h1,rfl⟩ e (fun z=>nomatch z) h
 | @tup a xs ea=>
  cases (show u = Value.ref a from rx)
  obtain ⟨_,_,_,p⟩:=(show ObjOk X.prog X.w H s.heap a (.tup xs) from I.hok a _ ea)
  obtain ⟨o,h1,h2,_⟩:=p
  exact PySem.W.kia_one PySem.W.kitx_tuple I.kIn ⟨o,h1,h2⟩ e (fun z=>nomatch z) h
 | @dK a kvs ea=>
  cases (show u = Value.ref a from rx)
  obtain ⟨_,_,vs,_,p⟩:=(show ObjOk X.prog X.w H s.heap a (.dK kvs) from ea.ok I.hok)
  obtain ⟨o,es,ep,h1,h2,_⟩:=p
  exact PySem.W.kia_one PySem.W.kitx_dict I.kIn ⟨o,h1,h2.1⟩ e (fun z=>nomatch z) h
 | @dT a kvs ea=>
  cases (show u = Value.ref a from rx)
  obtain ⟨_,_,xs,_,o,es,ep,h1,h2,_⟩:=(show ObjOk X.prog X.w H s.heap a (.dT kvs) from I.hok a _ ea)
  exact PySem.W.kia_one PySem.W.kitx_dict I.kIn ⟨o,h1,h2.1⟩ e (fun z=>nomatch z) h
 | @ins a C dx fs ea cl ha hn htk hm=>
  cases (show u = Value.ref a from rx)
  obtain ⟨mA,O,_⟩:=ins_get I.hok ea
  obtain ⟨od,J,_⟩:=O.look
  exact PySem.W.kia_one (PySem.W.kitx_own (cl.get _) cl.hd ha hn htk hm) I.kIn J e (fun z=>nomatch z) h
end
end L2
namespace L2
open PySem PySem.Spec PyProof.Rows
structure Room (k:Nat) (A:Around):Prop where
 hd:A.handled = none
 dp:A.depth + 3 * k + 5 < recursionLimit
 un:A.units + 16 * k + 200 < cLine
 gd:A.guards = some []
theorem Room.mono {j k:Nat} {A:Around} (r:Room k A) (h:j <= k):Room j A:=⟨r.hd,by have:=r.dp; omega,by have:=r.un; omega,r.gd⟩
theorem Room.deeper {k:Nat} {A:Around} (r:Room (k + 1) A) (env:Env):Room k (A.deeper env):=
 ⟨r.hd,by have:=r.dp; show A.depth + 1 + 3 * k + 5 < _; omega,by have:=r.un; show A.units + 3 + 16 * k + 200 < _; omega,r.gd⟩
theorem Room.depth {k:Nat} {A:Around} (r:Room k A):A.depth < recursionLimit:=by have:=r.dp; omega
theorem Room.units {k:Nat} {A:Around} (r:Room k A):A.units + 64 < cLine:=by have:=r.un; omega
noncomputable def tNil:TA:=fun _ H Q=>Q [] H
noncomputable def tCons (ta:TE) (tr:TA):TA:=fun σ H Q=>ta σ H fun x H1=>tr σ H1 fun xs H2=>Q (x :: xs) H2
section
variable {X:Cx} {e:Expr} {es:List Expr} {te:TE} {t:TA} {pos:Pos}
theorem pa_nil:PA X [] tNil:=.of <|  fun _ _ _ _ H Q I h=>Calls.spliced_nil ⟨[],H,I,.nil,h⟩
theorem pa_cons (ha:PE X e te) (hr:PA X es t) (hs:starEach (e :: es) X.env = (false,eval e X.env) :: starEach es X.env:=by rfl):PA X (e :: es) (tCons te t):=by
 refine .of ?_
 intro pos pins s σ H Q I h
 rw [hs]
 show wpAny _ _ (spliced ((false,eval e X.env) :: backTo pos (starEach es X.env))) _ _ s
 refine Calls.spliced_cons (thn (ha pins s σ H _ I h) fun u s1 ⟨x,H1,I1,r1,q1⟩=>?_)
 exact thn (hr pos pins s1 σ H1 _ I1 q1) fun us s2 ⟨xs,H2,I2,r2,q2⟩=>⟨x :: xs,H2,I2,.cons r1 r2,q2⟩
noncomputable def tTup (t:TA):TE:=fun σ H Q=>t σ H fun xs H1=>xs.length <= sizeLine /\ ∀ p,H1 p = none -> Q (.ref p) (upd H1 p (.tup xs))
noncomputable def tLst (t:TA):TE:=fun σ H Q=>t σ H fun xs H1=>xs.length <= sizeLine /\ ∀ p,H1 p = none -> Q (.ref p) (upd H1 p (.lst xs))
theorem pe_tup {x1} (h:PA X es t):PE X (.Tuple es x1 pos) (tTup t):=by
 refine .of ?_
 intro pins s σ H Q I hq
 refine wpAny_Tuple_spliced (thn (h pos pins s σ H _ I hq) fun us s1 ⟨xs,H1,I1,r,z,q⟩=>⟨by rw [<- r.length]; exact z,?_⟩)
 have hf:H1 s1.heap.objs.size = none:=I1.hok.fresh (Nat.le_refl _)
 refine ⟨.ref s1.heap.objs.size,upd H1 s1.heap.objs.size (.tup xs),I1.laid (t':=s1.toks) (fun b u e=>Heap.get?_push_of_some _ e) (Nat.le_refl _) ?_,rfl,q _ hf⟩
 exact ⟨z,us,r,⟨_,Heap.get?_push_size _ rfl,rfl,_,rfl⟩⟩
theorem pe_lst (h:PA X es t):PE X (.List es pos) (tLst t):=by
 refine .of ?_
 intro pins s σ H Q I hq
 refine wpAny_List_spliced (thn (h pos pins s σ H _ I hq) fun us s1 ⟨xs,H1,I1,r,z,q⟩=>⟨by rw [<- r.length]; exact z,?_⟩)
 have hf:H1 s1.heap.objs.size = none:=I1.hok.fresh (Nat.le_refl _)
 refine ⟨.ref s1.heap.objs.size,upd H1 s1.heap.objs.size (.lst xs),I1.laid (t':=s1.toks) (fun b u e=>Heap.get?_push_of_some _ e) (Nat.le_refl _) ?_,rfl,q _ hf⟩
 exact ⟨z,us,0,r,Heap.get?_push_size _ rfl⟩
end
noncomputable abbrev Sp:=List V -> Hp -> VK -> XK -> Prop
noncomputable abbrev CXT:=List Env -> Hp -> Shared -> XK -> Value -> Shared -> Prop
structure Env0 (P:Program) (w:World) (K:PySem.W.Frag) (mg:Str -> Option Value) (base:Heap) (A:Around) (outer:List Env) (s:Shared) (H:Hp):Prop where
 frames:A.frames = some outer
 mod:Mod K mg base
 bs:∀ b o,base.get? b = some o -> s.heap.get? b = some o /\ H b = none
 bsz:base.objs.size <= s.heap.objs.size
 funs:s.heap.FunFrames base outer
 frf:∀ b ∈ frs outer,H b = none
 hok:HOk P w H s.heap
 bare:AllBare s.gens
noncomputable def CE (outer:List Env) (P:Program) (w:World) (H:Hp) (s:Shared) (Q:VK) (u:Value) (s':Shared):Prop:=
 ∃ v H',s'.os = s.os /\ AllBare s'.gens /\ Un (frs outer) [] H H' s.heap s'.heap /\ HOk P w H' s'.heap /\ RelV v u /\ Q v H'
noncomputable def CR (CX:CXT) (outer:List Env) (P:Program) (w:World) (H:Hp) (s:Shared) (Q:VK) (E:XK) (r:Result) (s':Shared):Prop:=
 match r with
 | .ok (.ret u)=>CE outer P w H s Q u s'
 | .ok _=>False
 | .error e=>CX outer H s E e s'
structure FnOk (P:Program) (w:World) (K:PySem.W.Frag) (mg:Str -> Option Value) (base:Heap) (CX:CXT) (k:Nat) (f:Addr) (fd:FuncData) (ps:List Str) (sp:Sp):Prop where
 len:∀ vs H Q E,sp vs H Q E -> vs.length = ps.length
 run:∀ (A:Around) (outer:List Env) (s:Shared) (H:Hp) (args:Args) (us:List Value) (vs:List V) (Q:VK) (E:XK),Room k A -> Env0 P w K mg base A outer s H -> BindsTo s fd args (ps.zip us) -> Vals vs us -> sp vs H Q E ->
  codeAny (model P w) A (.call (.ref f) args) (CR CX outer P w H s Q E) s
theorem FnOk.mono {P:Program} {w:World} {K:PySem.W.Frag} {mg:Str -> Option Value} {base:Heap} {CX:CXT} {j k:Nat} {f:Addr} {fd:FuncData} {ps:List Str} {sp:Sp} (F:FnOk P w K mg base CX j f fd ps sp) (h:j <= k) :
  FnOk P w K mg base CX k f fd ps sp:=⟨F.len,fun A outer s H args us vs Q E hr=>F.run A outer s H args us vs Q E (hr.mono h)⟩
theorem FnOk.imp {P:Program} {w:World} {K:PySem.W.Frag} {mg:Str -> Option Value} {base:Heap} {CX:CXT} {k:Nat} {f:Addr} {fd:FuncData} {ps:List Str} {sp sp':Sp} (F:FnOk P w K mg base CX k f fd ps sp)
  (h:∀ vs H Q E,sp' vs H Q E -> sp vs H Q E):FnOk P w K mg base CX k f fd ps sp':=
 ⟨fun vs H Q E q=>F.len vs H Q E (h _ _ _ _ q),fun A outer s H args us vs Q E hr he hb hv hs=>F.run A outer s H args us vs Q E hr he hb hv (h _ _ _ _ hs)⟩
section
variable {X:Cx} {pins:List (Addr × Obj)} {σ:St} {H:Hp} {s s':Shared}
theorem Inv.env0 (I:Inv X pins σ H s):Env0 X.prog X.w X.K X.mg X.base X.A X.stack s H:=
 ⟨I.ok.frames,I.ok.mod,I.bs,Nat.le_trans I.ok.bsz I.sz,I.stack,I.stkFree,I.hok,I.bare⟩
theorem Inv.after {Q:VK} {u:Value} (I:Inv X pins σ H s) (h:CE X.stack X.prog X.w H s Q u s'):EP X pins σ Q u s':=by
 obtain ⟨v,H',os,bare,un,hok,r,q⟩:=h
 obtain ⟨hh,g,d,t,os'⟩:=s'
 obtain rfl:os' = s.os:=os
 exact ⟨v,H',I.call (h':=hh) (g':=g) (d':=d) (t':=t) (ch:=[]) un hok bare (fun b z=>absurd z (by simp)),r,q⟩
end
noncomputable def tCall (sp:Sp) (dvs:List V) (E:XK) (t:TA):TE:=fun σ H Q=>t σ H fun vs H1=>sp (vs ++ dvs) H1 Q E
noncomputable def Binds (K:PySem.W.Frag) (fd:FuncData) (ps:List Str) (ds:List Value):Prop:=
 ∀ (s:Shared) (us:List Value),K.In s.heap -> (us ++ ds).length = ps.length -> BindsTo s fd ⟨us,[]⟩ (ps.zip (us ++ ds))
theorem Binds.all {K:PySem.W.Frag} {fd:FuncData} {ps:List Str} (h:∀ us:List Value,us.length = ps.length -> bindArgs fd ⟨us,[]⟩ = pure (ps.zip us)):Binds K fd ps []:=fun s us _ hl=>by
 rw [List.append_nil] at hl ⊢
 exact .of_eq (h us hl)
noncomputable def Passes (CX:CXT) (X:Cx) (E:XK):Prop:=∀ (pins:List (Addr × Obj)) (σ:St) (H:Hp) (s:Shared) (e:Value) (s':Shared),Inv X pins σ H s -> CX X.stack H s E e s' -> X.xe e s'
section
variable {X:Cx} {CX:CXT} {k:Nat} {f C:Addr} {fd:FuncData} {ps:List Str} {sp:Sp} {dvs:List V} {ds:List Value} {E:XK} {x m:Str} {p pos apos:Pos} {e o:Expr} {es:List Expr} {ta:TE} {t:TA}
theorem run_fn {pins:List (Addr × Obj)} {σ:St} {H:Hp} {s:Shared} {Q:VK} {us:List Value} {vs:List V} (F:FnOk X.prog X.w X.K X.mg X.base CX k f fd ps sp) (hr:Room k X.A) (hb:Binds X.K fd ps ds) (hd:Vals dvs ds) (hx:Passes CX X E)
  (I:Inv X pins σ H s) (r:Vals vs us) (h:sp (vs ++ dvs) H Q E):wpAny (model X.prog X.w) X.A (call (.ref f) us) (EP X pins σ Q) X.xe s:=by
 have r2:Vals (vs ++ dvs) (us ++ ds):=r.append hd
 have hl:(us ++ ds).length = ps.length:=by rw [<- r2.length]; exact F.len _ _ _ _ h
 refine wpAny_call (codeAny_mono (F.run X.A X.stack s H ⟨us,[]⟩ (us ++ ds) (vs ++ dvs) Q E hr I.env0 (hb s us I.kIn hl) r2 h) fun r s' hq=>?_)
 cases r with
 | error e=>exact hx pins σ H s e s' I hq
 | ok fl=>
  cases fl with
  | ret u=>exact I.after hq
  | next=>exact False.elim hq
  | brk=>exact False.elim hq
  | cont=>exact False.elim hq
theorem pe_call (F:FnOk X.prog X.w X.K X.mg X.base CX k f fd ps sp) (hr:Room k X.A) (hg:Gl X x) (hm:X.mg x = some (.ref f)) (hk:PySem.W.keepIn X.K (.ref f) = true) (hb:Binds X.K fd ps ds) (hd:Vals dvs ds) (hx:Passes CX X E)
  (ha:PA X (e :: es) t) (hdb:(x == ("__debug__" : Str)) = false:=by decide) (he:starEach (e :: es) X.env = (false,eval e X.env) :: starEach es X.env:=by rfl) (hpl:(backTo pos (starEach es X.env)).any (·.1) = false:=by rfl) :
  PE X (.Call (.Name x p) (e :: es) [] pos) (tCall sp dvs E t):=by
 refine .of ?_
 intro pins s σ H Q I h
 refine wpAny_Call_Name_kw (ld_glob I hg hm ?_ hdb)
 refine PySem.W.callWith_K (h₀:=X.base) I.ok.mod.kin hk (thn (ha pos pins s σ H _ I h) fun us s1 ⟨vs,H1,I1,r,q⟩=>⟨I1.kIn,?_⟩) he hpl
 exact run_fn F hr hb hd hx I1 r q
end
section
variable {X:Cx} {CX:CXT} {k:Nat} {f C:Addr} {fd:FuncData} {ps ks:List Str} {sp:Sp} {E:XK} {x m:Str} {p pos apos kpos:Pos} {e o:Expr} {es:List Expr} {kws:List Keyword} {te ta:TE} {t tk:TA} {nm:Option Str}
variable {g:List Value -> List Value -> List Value} {gV:List V -> List V -> List V}
end
structure FnScope (N P:List Str) (sc:Scope):Prop where
 kind:sc.kind = .function
 co:sc.isCoroutine = false
 gen:sc.isGenerator = false
 nd:N.Nodup
 pre:N.take P.length = P
 par:∀ x ∈ P,sc.names.lookup x = some .local \/ sc.names.lookup x = some .cell
 nofree:∀ y ∈ sc.names,y.2 ≠ .free
theorem bindL_out {kindOf:Str -> Option NameKind} {x:Str}:∀ {binds:List (Str × Value)} {m:Str -> Option Value},(∀ v,(x,v) ∉ binds) -> bindL kindOf binds m x = m x
 | [],_,_=>rfl
 | (n,v) :: r,m,h=>by
  unfold bindL
  rw [bindL_out fun w hw=>h w (List.mem_cons_of_mem _ hw)]
  split
  ·have:x ≠ n:=by rintro rfl; exact h v List.mem_cons_self
   simp [this]
  ·rfl
theorem bindC_out {kindOf:Str -> Option NameKind} {x:Str}:∀ {binds:List (Str × Value)} {m:Str -> Option Value},(∀ v,(x,v) ∉ binds) -> bindC kindOf binds m x = m x
 | [],_,_=>rfl
 | (n,v) :: r,m,h=>by
  unfold bindC
  rw [bindC_out fun w hw=>h w (List.mem_cons_of_mem _ hw)]
  split
  ·rfl
  ·have:x ≠ n:=by rintro rfl; exact h v List.mem_cons_self
   simp [this]
theorem bindL_get {kindOf:Str -> Option NameKind} {x:Str} {v:Value}:∀ {P:List Str} {vs:List Value} {i:Nat} {m:Str -> Option Value},P.Nodup -> P[i]? = some x -> vs[i]? = some v -> kindOf x = some .local ->
  bindL kindOf (P.zip vs) m x = some v
 | [],_,_,_,_,h,_,_=>by simp at h
 | _ :: _,[],_,_,_,_,h,_=>by simp at h
 | p :: P,w :: vs,0,m,nd,h1,h2,hk=>by
  simp at h1 h2; subst h1; subst h2
  show bindL kindOf ((p,w) :: P.zip vs) m p = _
  unfold bindL
  rw [bindL_out fun v hv=>(List.nodup_cons.mp nd).1 (List.of_mem_zip hv).1,if_pos hk]
  simp
 | p :: P,w :: vs,i + 1,m,nd,h1,h2,hk=>by
  show bindL kindOf ((p,w) :: P.zip vs) m x = _
  unfold bindL
  exact bindL_get (i:=i) (List.nodup_cons.mp nd).2 (by simpa using h1) (by simpa using h2) hk
theorem bindC_get {kindOf:Str -> Option NameKind} {x:Str} {v:Value}:∀ {P:List Str} {vs:List Value} {i:Nat} {m:Str -> Option Value},P.Nodup -> P[i]? = some x -> vs[i]? = some v -> kindOf x ≠ some .local ->
  bindC kindOf (P.zip vs) m x = some v
 | [],_,_,_,_,h,_,_=>by simp at h
 | _ :: _,[],_,_,_,_,h,_=>by simp at h
 | p :: P,w :: vs,0,m,nd,h1,h2,hk=>by
  simp at h1 h2; subst h1; subst h2
  show bindC kindOf ((p,w) :: P.zip vs) m p = _
  unfold bindC
  rw [bindC_out fun v hv=>(List.nodup_cons.mp nd).1 (List.of_mem_zip hv).1,if_neg hk]
  simp
 | p :: P,w :: vs,i + 1,m,nd,h1,h2,hk=>by
  show bindC kindOf ((p,w) :: P.zip vs) m x = _
  unfold bindC
  exact bindC_get (i:=i) (List.nodup_cons.mp nd).2 (by simpa using h1) (by simpa using h2) hk
noncomputable def start (N:List Str) (vs:List V):St:=vs.map some ++ List.replicate (N.length - vs.length) none
noncomputable def cxOf (CX:CXT) (P:Program) (w:World) (K:PySem.W.Frag) (mg:Str -> Option Value) (base:Heap) (N:List Str) (qual:Str) (scope:Scope) (f:Addr) (cd:Value) (A:Around) (outer:List Env) (s:Shared) (H:Hp) (E:XK):Cx where
 prog:=P
 w:=w
 K:=K
 mg:=mg
 base:=base
 A:=A.deeper (envOfC qual scope s.heap.objs.size f cd)
 N:=N
 s₀:=s
 H₀:=H
 env:=envOfC qual scope s.heap.objs.size f cd
 outer:=outer
 stack:=envOfC qual scope s.heap.objs.size f cd :: outer
 ex:=[]
 calm:=true
 fn:=fun _=>true
 pn:=[]
 xe:=fun e s'=>wpAny (model P w) (A.deeper (envOfC qual scope s.heap.objs.size f cd)) (leaving (envOfC qual scope s.heap.objs.size f cd) e) (fun _ s''=>CX outer H s E e s'') (fun e' s''=>CX outer H s E e' s'') s'
theorem cell_has {sc:Scope} {n:Nat} {x:Str} (h:sc.names.lookup x = some .cell):∃ c,(cellsFrom n sc.names []).lookup x = some c:=by
 have q:=PySem.W.cellsFrom_some sc.names n [] (.inl h)
 exact Option.isSome_iff_exists.mp q
theorem inv_start {CX:CXT} {P:Program} {w:World} {K:PySem.W.Frag} {mg:Str -> Option Value} {base:Heap} {N ps:List Str} {qual:Str} {scope:Scope} {f:Addr} {cd:Value} {A:Around} {outer:List Env} {s s1:Shared} {H:Hp} {E:XK} {us:List Value} {vs:List V}
  (S:FnScope N ps scope) (hd:A.handled = none) (e0:Env0 P w K mg base A outer s H) (hl:vs.length = ps.length) (r:Vals vs us)
  (x:InCallC s s.heap.objs.size (bindL (envOfC qual scope s.heap.objs.size f cd).kindOf (ps.zip us) fun _=>none) (cellsFrom (s.heap.objs.size + 1) scope.names []) (bindC (envOfC qual scope s.heap.objs.size f cd).kindOf (ps.zip us) fun _=>none) s1) :
  Inv (cxOf CX P w K mg base N qual scope f cd A outer s H E) [] (start N vs) H s1:=by
 have hpl:ps.length <= N.length:=by have:=congrArg List.length S.pre; rw [List.length_take] at this; omega
 obtain ⟨h1,tk,rfl,hk⟩:=x.done
 have noA:∀ b:Addr,b ∉ (cxOf CX P w K mg base N qual scope f cd A outer s H E).ex:=fun b z=>absurd (show b ∈ ([]:List Addr) from z) (by simp)
 refine ⟨⟨e0.mod,S.kind,rfl,rfl,Nat.le_refl _,fun y z c h1 h2=>?_,fun y hy=>?_,fun y c _ h=>?_,fun _=>hd,Around.frames_deeper e0.frames,.inr ⟨rfl,rfl⟩,fun b z=>absurd z (noA b),e0.bs,e0.bsz,fun b _ _=>noA b,fun b z=>absurd z (noA b),e0.funs,e0.frf⟩,
  rfl,e0.bare,Un.kept hk,⟨_,x.toInCall.ns,fun i y v h1 h2 h3=>?_⟩,fun y c h=>⟨_,x.cell y c h⟩,e0.hok.fresh (Nat.le_refl _),fun y c h=>?_,fun p hp=>absurd (show p ∈ ([]:List (Addr × Obj)) from hp) (by simp),e0.hok.kept hk,?_⟩
 ·exact name_of_addr x.apart (PySem.mem_of_lookup h1) (PySem.mem_of_lookup h2)
 ·have hy:scope.names.lookup y = some .cell \/ scope.names.lookup y = some .free:=hy
  rcases hy with hy | hy
  ·exact cell_has hy
  ·exact absurd rfl (S.nofree _ (PySem.mem_of_lookup hy))
 ·exact Nat.le_of_lt (x.above y c (PySem.mem_of_lookup h))
 ·have hi:i < vs.length:=by
   unfold start at h2
   by_cases hi:i < vs.length
   ·exact hi
   ·rw [List.getElem?_append_right (by simpa using hi)] at h2
    rw [List.getElem?_replicate] at h2
    split at h2 <;> cases h2
  have ha:vs[i]? = some v:=by
   unfold start at h2
   rw [List.getElem?_append_left (by simpa using hi),List.getElem?_map] at h2
   cases e:vs[i]? with
   | none=>rw [e] at h2; cases h2
   | some a=>rw [e] at h2; cases h2; rfl
  obtain ⟨u,hu,rv⟩:=r.get ha
  have hp:ps[i]? = some y:=by
   rw [<- S.pre,List.getElem?_take_of_lt (by omega)]; exact h1
  have ndP:ps.Nodup:=by rw [<- S.pre]; exact S.nd.sublist (List.take_sublist _ _)
  refine ⟨u,rv,?_⟩
  rcases S.par y (List.mem_of_getElem? hp) with k | k
  ·exact .inl ⟨k,bindL_get ndP hp hu k⟩
  ·obtain ⟨c,e⟩:=cell_has (n:=s.heap.objs.size + 1) k
   refine .inr ⟨.inl k,c,e,?_⟩
   have q:=x.cell y c e
   rw [bindC_get ndP hp hu (by show scope.names.lookup y ≠ _; rw [k]; decide)] at q
   exact q
 ·exact e0.hok.fresh (Nat.le_of_lt (x.above y c (PySem.mem_of_lookup h)))
 ·unfold start
  show _ = N.length
  rw [List.length_append,List.length_map,List.length_replicate]
  omega
theorem fn_of {CX:CXT} {P:Program} {w:World} {K:PySem.W.Frag} {mg:Str -> Option Value} {base:Heap} {k:Nat} {f:Addr} {name qual:Str} {params:Arguments} {body:List Stmt} {scope:Scope} {dV kV doc pm cdv ct oc:Value} {an od:Option Addr}
  {osl:Array (Option Value)} {N ps:List Str} {sp:Sp} (lk:K.lookup f = some ⟨oc,od,.func (PySem.W.fnOf name qual params body scope dV kV doc pm an cdv ct),osl⟩) (hcd:PySem.W.codeIn K cdv qual = true) (S:FnScope N ps scope)
  (len:∀ vs H Q E,sp vs H Q E -> vs.length = ps.length)
  (hbody:∀ (A:Around) (outer:List Env) (s:Shared) (H:Hp) (vs:List V) (Q:VK) (E:XK),Room k (A.deeper (envOfC qual scope s.heap.objs.size f cdv)) -> sp vs H Q E ->
   ∃ t,PSs (cxOf CX P w K mg base N qual scope f cdv A outer s H E) body t /\ t { nx:=fun _ H'=>Q .non H',rt:=Q } (start N vs) H) :
  FnOk P w K mg base CX (k + 1) f (PySem.W.fnOf name qual params body scope dV kV doc pm an cdv ct) ps sp:=by
 refine ⟨len,fun A outer s H args us vs Q E hr e0 hb r hsp=>?_⟩
 have hl:=len _ _ _ _ hsp
 have KX:K.In s.heap:=e0.mod.kin.keeps fun b o e=>(e0.bs b o e).1
 have lim:s.heap.NoLimit:=e0.mod.nolimit.keeps fun b o e=>(e0.bs b o e).1
 have hkind:∀ y ∈ ps.zip us,scope.names.lookup y.1 = some .local \/ (scope.names.lookup y.1 = some .cell /\ ((cellsFrom (s.heap.objs.size + 1) scope.names []).lookup y.1).isSome = true):=fun ⟨n,v⟩ hy=>by
  rcases S.par n (List.of_mem_zip hy).1 with q | q
  ·exact .inl q
  ·exact .inr ⟨q,PySem.W.cellsFrom_some _ _ _ (.inl q)⟩
 refine codeAny_call_function hr.depth (KX _ _ lk) rfl S.co S.gen rfl (PySem.W.codeRec_of KX hcd) (hb _ _ _ _ ?_)
 refine wpAny_newFunctionEnv_cells S.kind hkind fun env he s1 x=>?_
 subst he
 refine ⟨lim.keeps x.toInCall.keep,codeAny_func ?_⟩
 obtain ⟨t,ht,hq⟩:=hbody A outer s H vs Q E (hr.deeper _) hsp
 have I:Inv (cxOf CX P w K mg base N qual scope f cdv A outer s H E) [] (start N vs) H s1:=inv_start S hr.hd e0 hl r x
 refine wpAny_mono (ht [] s1 (start N vs) H _ I hq) (fun fl s' hs=>?_) fun e s' hs=>hs
 have fin:∀ {σ':St} {H':Hp} {v:V} {u:Value},Inv (cxOf CX P w K mg base N qual scope f cdv A outer s H E) [] σ' H' s' -> RelV v u -> Q v H' -> CE outer P w H s Q u s':=
  fun {σ' H' v u} J rv q=>⟨v,H',J.os,J.bare,J.base,J.hok,rv,q⟩
 cases fl with
 | ret u=>
  obtain ⟨v,σ',H',J,rv,q⟩:=hs
  exact fin J rv q
 | next=>
  obtain ⟨σ',H',J,q⟩:=hs
  exact fin (v:=V.non) (u:=Value.none) J rfl q
 | brk=>
  obtain ⟨_,_,_,q⟩:=hs
  exact False.elim q
 | cont=>
  obtain ⟨_,_,_,q⟩:=hs
  exact False.elim q
end L2
namespace L2
open PySem PySem.Spec PyProof.Rows
section
variable {X:Cx} {x:Str} {p pos:Pos} {e:Expr} {es:List Expr} {t:TA} {id T:String} {r:List V -> Hp -> VK -> Prop}
noncomputable def tCB (r:List V -> Hp -> VK -> Prop) (t:TA):TE:=fun σ H Q=>t σ H fun vs H1=>r vs H1 Q
theorem pe_callB (hc:CallR X (.builtin id) r) (hg:Gl X x) (hm:X.mg x = none) (hv:bootBuiltins x = some (.builtin id)) (ha:PA X (e :: es) t) (hn:x ≠ "__name__" := by decide) (hdb:(x == ("__debug__" : Str)) = false:=by decide)
  (he:starEach (e :: es) X.env = (false,eval e X.env) :: starEach es X.env:=by rfl) (hpl:(backTo pos (starEach es X.env)).any (·.1) = false:=by rfl):PE X (.Call (.Name x p) (e :: es) [] pos) (tCB r t):=by
 refine .of ?_
 intro pins s σ H Q I h
 refine wpAny_Call_Name_kw (ld_blt I hg hm hv ?_ hn hdb)
 exact PyProof.Rows.callWith_builtin1 (thn (ha pos pins s σ H _ I h) fun us s1 ⟨vs,H1,I1,r1,q1⟩=>hc pins s1 σ H1 vs us Q I1 r1 q1) he hpl
theorem pe_callTy (hc:CallR X (.type T) r) (hg:Gl X x) (hm:X.mg x = none) (hv:bootBuiltins x = some (.type T)) (ha:PA X (e :: es) t) (hn:x ≠ "__name__" := by decide) (hdb:(x == ("__debug__" : Str)) = false:=by decide)
  (he:starEach (e :: es) X.env = (false,eval e X.env) :: starEach es X.env:=by rfl) (hpl:(backTo pos (starEach es X.env)).any (·.1) = false:=by rfl):PE X (.Call (.Name x p) (e :: es) [] pos) (tCB r t):=by
 refine .of ?_
 intro pins s σ H Q I h
 refine wpAny_Call_Name_kw (ld_blt I hg hm hv ?_ hn hdb)
 exact PyProof.Rows.callWith_type1 (thn (ha pos pins s σ H _ I h) fun us s1 ⟨vs,H1,I1,r1,q1⟩=>hc pins s1 σ H1 vs us Q I1 r1 q1) he hpl
end
end L2
namespace HT
open PySem PyProof.Rows
section
open PySem.SeqAt
open PySem.AutoSeq1 (wpAny_loadPart')
open PySem.MeetsSeq PySem.MeetsSeq2 PySem.MeetsSeq3
end
section
variable {prog:Program} {w:World} {A:Around} {E:Value -> Shared -> Prop} {s:Shared}
theorem cat_tup {t b:Addr} {vs ws:List Value} {Q:Value -> Shared -> Prop} (ht:IsTup s.heap t vs.toArray) (hb:IsTup s.heap b ws.toArray) (hv:vs ≠ [])
  (h1:ws = [] -> Q (.ref t) s) (h2:ws ≠ [] -> Q (.ref s.heap.objs.size) { s with heap:=s.heap.push { cls:=.type "tuple",data:=.seq (vs ++ ws).toArray } })
  (hsz:vs.length + ws.length <= sizeLine):wpAny (model prog w) A (binaryOp .Add (.ref t) (.ref b)) Q E s:=by
 obtain ⟨⟨cls,dd,data,sl⟩,ho,hc,n,hd⟩:=id ht
 obtain ⟨⟨cls2,dd2,data2,sl2⟩,ho2,hc2,n2,hd2⟩:=id hb
 simp only at hc hd hc2 hd2
 subst hc hd hc2 hd2
 have e:vs.toArray ++ ws.toArray = (vs ++ ws).toArray:=by simp
 by_cases hw:ws = []
 ·exact concat_meets ⟨_,ho,rfl⟩ ⟨_,ho2,rfl⟩ noFill_tuple_add seq_tuple_add PySem.F.slot_tuple_add PySem.F.entry_tuple_add (PySem.F.args_tuple_add_2 _ _)
   (tuple_addW1 t b vs.toArray ws.toArray n n2 dd dd2 sl sl2 (by simpa using hv) (by simp [hw])) ⟨ho,ho2,h1 hw⟩
 ·refine concat_meets ⟨_,ho,rfl⟩ ⟨_,ho2,rfl⟩ noFill_tuple_add seq_tuple_add PySem.F.slot_tuple_add PySem.F.entry_tuple_add (PySem.F.args_tuple_add_2 _ _)
   (tuple_addW2 t b vs.toArray ws.toArray n n2 dd dd2 sl sl2 (by simpa using hv) (by simpa using hw) (by rw [List.size_toArray,List.size_toArray]; exact hsz)) ⟨ho,ho2,?_⟩
  rw [e]
  exact h2 hw
noncomputable def sIx (n d:Nat):Option Int -> Nat
 | none=>d
 | some v=>if v < 0 then (v + (n:Int)).toNat else min v.toNat n
theorem sIx_le (n d:Nat) (hd:d <= n) (o:Option Int):sIx n d o <= n:=by
 cases o with
 | none=>exact hd
 | some v=>
  show (if v < 0 then (v + (n:Int)).toNat else min v.toNat n) <= n
  by_cases hv:v < 0
  ·rw [if_pos hv]; omega
  ·rw [if_neg hv]; exact Nat.min_le_right _ _
theorem clip_eq (v:Int) (n d:Nat):(if v < 0 then max (v + (n:Int)) 0 else min v (n:Int)) = ((sIx n d (some v):Nat):Int):=by
 show (if v < 0 then max (v + (n:Int)) 0 else min v (n:Int)) = (((if v < 0 then (v + (n:Int)).toNat else min v.toNat n):Nat):Int)
 by_cases hv:v < 0
 ·simp only [if_pos hv]; omega
 ·simp only [if_neg hv]; omega
theorem adjust_gen (lo hi:Option Int) (n:Nat):Builtin.Slice.sliceAdjust lo hi 1 (n:Int) = (((sIx n 0 lo:Nat):Int),((sIx n n hi:Nat):Int)):=by
 have h1:¬ ((1:Int) < 0):=by omega
 unfold Builtin.Slice.sliceAdjust
 simp only [h1,if_false]
 refine Prod.ext ?_ ?_
 ·cases lo with
  | none=>rfl
  | some v=>exact clip_eq v n 0
 ·cases hi with
  | none=>rfl
  | some v=>exact clip_eq v n n
theorem places_gen (i j:Nat):Builtin.Slice.slicePlaces (i:Int) (j:Int) 1 = j - i:=by
 unfold Builtin.Slice.slicePlaces
 have h1:(1:Int) > 0:=by omega
 simp only [h1,if_true,Int.ediv_one]
 split <;> omega
theorem slicePart_ {v:Value} {o:Option Int} {Q:Option Int -> Shared -> Prop} (p:IsPart v o) (h:Q o s):wpAny (model prog w) A (Builtin.Slice.slicePartIndex v) Q E s:=by
 cases p with
 | none=>exact slicePart_none h
 | int i t=>exact slicePart_int h
theorem sliceApplied_gen {sl:Addr} {vl vu:Value} {lo hi:Option Int} {n:Nat} {Q:Int × Int × Nat -> Shared -> Prop} (hs:s.heap.IsSliceOf sl vl vu .none) (pl:IsPart vl lo) (pu:IsPart vu hi)
  (h:Q (((sIx n 0 lo:Nat):Int),1,sIx n n hi - sIx n 0 lo) s):wpAny (model prog w) A (Builtin.Slice.sliceApplied (.ref sl) (pure (n:Int))) Q E s:=by
 obtain ⟨os,hos,hcs,hds⟩:=id hs
 unfold Builtin.Slice.sliceApplied Builtin.Slice.sliceFields
 refine wpAny_bind (wpAny_bind (wpAny_field hos hds (x:=vl) rfl (wpAny_bind (wpAny_field hos hds (x:=vu) rfl (wpAny_bind (wpAny_field hos hds (x:=.none) rfl (wpAny_pure ?_)))))))
 refine wpAny_bind (slicePart_none ?_)
 show wpAny _ _ (if ((1:Int) == 0) = true then _ else _) _ _ s
 rw [if_neg (by decide)]
 refine wpAny_bind (slicePart_ pl (wpAny_bind (slicePart_ pu (wpAny_bind (wpAny_pure ?_)))))
 show wpAny _ _ (match Builtin.Slice.sliceAdjust lo hi 1 (n:Int) with | (lo,hi)=>pure (lo,(1:Int),Builtin.Slice.slicePlaces lo hi 1)) _ _ s
 rw [adjust_gen lo hi n]
 show wpAny _ _ (pure (((sIx n 0 lo:Nat):Int),(1:Int),Builtin.Slice.slicePlaces ((sIx n 0 lo:Nat):Int) ((sIx n n hi:Nat):Int) 1)) _ _ s
 rw [places_gen]
 exact wpAny_pure h
theorem pick_gen (xs:Array Value) (i k:Nat):((List.range k).filterMap fun (m:Nat)=>xs[((i:Int) + (m:Int) * 1).toNat]?).toArray = ((xs.toList.drop i).take k).toArray:=by
 have e:(fun (m:Nat)=>xs[((i:Int) + (m:Int) * 1).toNat]?) = fun m=>xs[i + m]?:=by
  funext m
  have:((i:Int) + (m:Int) * 1).toNat = i + m:=by omega
  rw [this]
 rw [e]
 have:=pick_run xs i k
 rw [List.filterMap_map] at this
 have e2:((fun x=>xs[x]?) ∘ fun x=>i + x) = fun m=>xs[i + m]?:=rfl
 rw [e2] at this
 rw [this]
theorem getItem_tuple_cut {t sl:Addr} {items:Array Value} {vl vu:Value} {lo hi:Option Int} {Q:Value -> Shared -> Prop} (ht:IsTup s.heap t items) (hs:s.heap.IsSliceOf sl vl vu .none) (pl:IsPart vl lo) (pu:IsPart vu hi)
  (hw:¬ (sIx items.size 0 lo = 0 /\ sIx items.size items.size hi = items.size))
  (h:Q (.ref s.heap.objs.size) { s with heap:=s.heap.push { cls:=.type "tuple",data:=.seq ((items.toList.drop (sIx items.size 0 lo)).take (sIx items.size items.size hi - sIx items.size 0 lo)).toArray } })
  (hsz:items.size <= sizeLine):wpAny (model prog w) A (getItem (.ref t) (.ref sl)) Q E s:=by
 have htake:sizeOk (.seq ((items.toList.drop (sIx items.size 0 lo)).take (sIx items.size items.size hi - sIx items.size 0 lo)).toArray):=by
  show ((items.toList.drop (sIx items.size 0 lo)).take (sIx items.size items.size hi - sIx items.size 0 lo)).toArray.size <= sizeLine
  rw [List.size_toArray,List.length_take,List.length_drop,Array.length_toList]
  omega
 have hj:sIx items.size items.size hi <= items.size:=sIx_le _ _ (Nat.le_refl _) hi
 obtain ⟨os,hos,hcs,hds⟩:=id hs
 have hTs:s.TypeIs (.ref sl) "slice" := ⟨os,hos,hcs⟩
 unfold getItem
 try with_reducible refine wpAny_holding ?_
 first | refine wpAny_bind (wpAny_pure ?_) | skip
 refine wpAny_bind (wpAny_sequenceKey ht.typeIs (by decide) ?_)
 refine wpAny_bind (wpAny_callSpecial?_slot (name:=Str.ofString "__getitem__") ht.typeIs PyProof.Rows.slot_tuple_getitem
  (wpAny_call_entry PyProof.Rows.slot_tuple_getitem ht.typeIs entry_tuple_getitem ?_ (args_tuple_getitem _ _)))
 show wpAny _ _ (Builtin.Tuple.tupleItemsOf (.ref t) >>= _) _ _ s
 refine wpAny_bind (tupleItemsOf_ ht ?_)
 refine wpAny_bind (wpAny_typeOf hTs ?_)
 rw [if_pos (by decide)]
 refine wpAny_bind (sliceApplied_gen hs pl pu ?_)
 have hno:¬ ((((sIx items.size 0 lo:Nat):Int) == 0 && (1:Int) == 1 && (sIx items.size items.size hi - sIx items.size 0 lo) == items.size) = true):=by
  intro q
  rw [Bool.and_eq_true,Bool.and_eq_true] at q
  have q1:((sIx items.size 0 lo:Nat):Int) = 0:=eq_of_beq q.1.1
  have q2:sIx items.size items.size hi - sIx items.size 0 lo = items.size:=eq_of_beq q.2
  exact hw ⟨by omega,by omega⟩
 show wpAny _ _ (if (((sIx items.size 0 lo:Nat):Int) == 0 && (1:Int) == 1 && (sIx items.size items.size hi - sIx items.size 0 lo) == items.size) = true then _ else _) _ _ s
 rw [if_neg hno,pick_gen]
 first
  | exact wpAny_bind (m:=Builtin.Tuple.tupleExact _) (wpAny_newObj_type (wpAny_pure ⟨_,rfl,wpAny_pure h⟩) htake)
  | exact wpAny_bind (m:=Builtin.Tuple.tupleExact _) (wpAny_newObj_type (wpAny_bind (wpAny_pure (wpAny_pure ⟨_,rfl,wpAny_pure h⟩))) htake)
  | exact wpAny_bind (wpAny_bind (m:=Builtin.Tuple.tupleExact _) (wpAny_newObj_type (wpAny_pure (wpAny_pure ⟨_,rfl,wpAny_pure h⟩)) htake))
  | exact wpAny_bind (wpAny_bind (m:=Builtin.Tuple.tupleExact _) (wpAny_newObj_type (wpAny_pure ⟨_,rfl,wpAny_pure h⟩) htake))
end
end HT
namespace L2
open PySem PySem.Spec PyProof.Rows
noncomputable abbrev TO:=St -> Hp -> (Option Int -> Hp -> Prop) -> Prop
structure PO (X:Cx) (e:Option Expr) (t:TO)  : Prop where
 of ::
 run :
 ∀ (pins:List (Addr × Obj)) (s:Shared) (σ:St) (H:Hp) (Q:Option Int -> Hp -> Prop),Inv X pins σ H s -> t σ H Q ->
  wpAny (model X.prog X.w) X.A (evalPart e X.env) (fun u s'=>∃ o H',Inv X pins σ H' s' /\ IsPart u o /\ Q o H') X.xe s
noncomputable instance {X:Cx} {e:Option Expr} {t:TO}  : CoeFun (PO X e t) fun _=>
 ∀ (pins:List (Addr × Obj)) (s:Shared) (σ:St) (H:Hp) (Q:Option Int -> Hp -> Prop),Inv X pins σ H s -> t σ H Q ->
  wpAny (model X.prog X.w) X.A (evalPart e X.env) (fun u s'=>∃ o H',Inv X pins σ H' s' /\ IsPart u o /\ Q o H') X.xe s:=⟨PO.run⟩
noncomputable def tNoPart:TO:=fun _ H Q=>Q none H
noncomputable def tPart (t:TE):TO:=fun σ H Q=>t σ H fun x H1=>∃ i,x = .int i /\ Q (some i) H1
section
variable {X:Cx} {e:Expr} {te:TE} {lo hi:Option Expr} {tl th:TO} {pos p2:Pos}
theorem po_none:PO X none tNoPart:=by
 refine .of ?_
 intro pins s σ H Q I h
 rw [evalPart_none]
 exact wpAny_pure ⟨none,H,I,.none,h⟩
theorem po_some (h:PE X e te):PO X (some e) (tPart te):=by
 refine .of ?_
 intro pins s σ H Q I hw
 rw [evalPart_some]
 refine thn (h pins s σ H _ I hw) fun u s1 ⟨x,H1,I1,r1,q1⟩=>?_
 obtain ⟨i,rfl,q⟩:=q1
 obtain ⟨t,rfl⟩:=r1
 exact ⟨some i,H1,I1,.int i t,q⟩
noncomputable def SlR (X:Cx) (r:V -> Option Int -> Option Int -> Hp -> VK -> Prop):Prop:=
 ∀ (pins:List (Addr × Obj)) (s:Shared) (σ:St) (H:Hp) (x:V) (v vl vu:Value) (lo hi:Option Int) (sl:Addr) (Q:VK),Inv X pins σ H s -> RelV x v -> s.heap.IsSliceOf sl vl vu .none -> IsPart vl lo -> IsPart vu hi -> r x lo hi H Q ->
  ∃ T id,typeLookup (.type T) "__getitem__" = pure (some (.builtin id)) /\ s.TypeIs v T /\ wpAny (model X.prog X.w) X.A (getItem v (.ref sl)) (EP X pins σ Q) X.xe s
theorem SlR.or {r r':V -> Option Int -> Option Int -> Hp -> VK -> Prop} (h:SlR X r) (h':SlR X r'):SlR X (fun x lo hi H Q=>r x lo hi H Q \/ r' x lo hi H Q):=by
 intro pins s σ H x v vl vu lo hi sl Q I rx hs pl pu q
 rcases q with q | q
 ·exact h pins s σ H x v vl vu lo hi sl Q I rx hs pl pu q
 ·exact h' pins s σ H x v vl vu lo hi sl Q I rx hs pl pu q
noncomputable def tSl (r:V -> Option Int -> Option Int -> Hp -> VK -> Prop) (te:TE) (tl th:TO):TE:=fun σ H Q=>te σ H fun x H1=>tl σ H1 fun l H2=>th σ H2 fun u H3=>r x l u H3 Q
theorem pe_slice {r:V -> Option Int -> Option Int -> Hp -> VK -> Prop} (hr:SlR X r) (he:PE X e te) (hl:PO X lo tl) (hu:PO X hi th):PE X (.Subscript e (.Slice lo hi none p2) pos) (tSl r te tl th):=by
 refine .of ?_
 intro pins s σ H Q I h
 refine Subscript_ (thn (he pins s σ H _ I h) fun v s1 ⟨x,H1,I1,r1,q1⟩=>?_)
 refine wpAny_Slice (thn (hl pins s1 σ H1 _ I1 q1) fun vl s2 ⟨l,H2,I2,pl,q2⟩=>thn (hu pins s2 σ H2 _ I2 q2) fun vu s3 ⟨u,H3,I3,pu,q3⟩=>?_)
 rw [evalPart_none]
 refine wpAny_pure ?_
 have I4:Inv X pins σ H3 { s3 with heap:=s3.heap.push { cls:=.type "slice",data:=.fields #[vl,vu,.none] } }:=I3.kept (t':=s3.toks) fun b ob q=>Heap.get?_push_of_some _ q
 obtain ⟨T,id,hT,ht,hg⟩:=hr pins { s3 with heap:=s3.heap.push { cls:=.type "slice",data:=.fields #[vl,vu,.none] } } σ H3 x v vl vu l u s3.heap.objs.size Q I4 r1 (Heap.IsSliceOf.new ..) pl pu q3
 show wpAny (model X.prog X.w) X.A (subscriptTail e (.Slice lo hi none p2) v (.ref s3.heap.objs.size)) (EP X pins σ Q) X.xe { s3 with heap:=s3.heap.push { cls:=.type "slice",data:=.fields #[vl,vu,.none] } }
 exact tail_any (ops:=[.ref s3.heap.objs.size,v]) ht hT hg (by with_unfolding_all rfl)
noncomputable def cutV (xs:List V) (lo hi:Option Int):List V:=(xs.drop (HT.sIx xs.length 0 lo)).take (HT.sIx xs.length xs.length hi - HT.sIx xs.length 0 lo)
theorem cutV_length (xs:List V) (lo hi:Option Int):(cutV xs lo hi).length <= xs.length:=by
 unfold cutV
 rw [List.length_take,List.length_drop]
 omega
noncomputable def rSlT (K:PySem.W.Frag):V -> Option Int -> Option Int -> Hp -> VK -> Prop:=fun x lo hi H Q=>∃ a xs,x = .ref a /\ SqT K H a xs /\
 ¬ (HT.sIx xs.length 0 lo = 0 /\ HT.sIx xs.length xs.length hi = xs.length) /\ ∀ p,H p = none -> Q (.ref p) (upd H p (.tup (cutV xs lo hi)))
theorem sl_tup:SlR X (rSlT X.K):=by
 intro pins s σ H x v vl vu lo hi sl Q I rx hs pl pu h
 obtain ⟨a,xs,rfl,hx,hw,q⟩:=h
 cases rx
 obtain ⟨its,r,ht,hz⟩:=I.tuple hx
 have hlen:its.toArray.size = xs.length:=by rw [List.size_toArray]; exact r.length.symm
 refine ⟨"tuple",_,PyProof.Rows.slot_tuple_getitem.lookup,ht.typeIs,?_⟩
 refine HT.getItem_tuple_cut ht hs pl pu (by rw [hlen]; exact hw) ?_ (by rw [hlen]; exact hz)
 rw [hlen]
 refine ⟨.ref s.heap.objs.size,_,I.laid (t':=s.toks) (o:=.tup (cutV xs lo hi)) (fun b ob q=>Heap.get?_push_of_some _ q) (Nat.le_refl _) ?_,rfl,q _ (I.hok.fresh (Nat.le_refl _))⟩
 exact ⟨Nat.le_trans (cutV_length xs lo hi) hz,_,(r.drop (HT.sIx xs.length 0 lo)).take (HT.sIx xs.length xs.length hi - HT.sIx xs.length 0 lo),IsTup.new _ _⟩
noncomputable def rCatT (K:PySem.W.Frag):R2:=fun x y H Q=>∃ a b xs ys,x = .ref a /\ y = .ref b /\ SqT K H a xs /\ SqT K H b ys /\ xs ≠ [] /\ xs.length + ys.length <= sizeLine /\
 (ys = [] -> Q (.ref a) H) /\ (ys ≠ [] -> ∀ p,H p = none -> Q (.ref p) (upd H p (.tup (xs ++ ys))))
theorem Vals.nil_iff {xs:List V} {us:List Value} (r:Vals xs us):us = [] ↔ xs = []:=by
 cases r with
 | nil=>simp
 | cons _ _=>simp
theorem op_catT:OpR X (binaryOp .Add) (rCatT X.K):=by
 intro pins s σ H x y v u Q I rx ry h
 obtain ⟨a,b,xs,ys,rfl,rfl,ha,hb,hx,hz,q1,q2⟩:=h
 cases rx
 cases ry
 obtain ⟨its,r1,p1,_⟩:=I.tuple ha
 obtain ⟨its2,r2,p2,_⟩:=I.tuple hb
 refine HT.cat_tup p1 p2 (fun z=>hx (r1.nil_iff.mp z)) (fun z=>⟨.ref a,H,I,rfl,q1 (r2.nil_iff.mp z)⟩) (fun z=>?_) (by rw [<- r1.length,<- r2.length]; exact hz)
 refine ⟨.ref s.heap.objs.size,_,I.laid (t':=s.toks) (o:=.tup (xs ++ ys)) (fun b ob q=>Heap.get?_push_of_some _ q) (Nat.le_refl _) ?_,rfl,q2 (fun w=>z (r2.nil_iff.mpr w)) _ (I.hok.fresh (Nat.le_refl _))⟩
 exact ⟨by rw [List.length_append]; exact hz,_,r1.append r2,IsTup.new _ _⟩
end
end L2
namespace L2
open PySem PySem.Spec PyProof.Rows
noncomputable def ixN (n:Nat) (i:Int):Option Nat:=if 0 <= i then (if i < n then some i.toNat else none) else if -(n:Int) <= i then some (i + n).toNat else none
noncomputable def atI {α:Type} (xs:List α) (i:Int):Option α:=(ixN xs.length i).bind fun j=>xs[j]?
theorem ixN_seq {n:Nat} {i:Int} {j:Nat} (h:ixN n i = some j):seqIndex? i n = some j /\ j < n /\ -(n:Int) <= i /\ i < n:=by
 unfold ixN at h
 by_cases h0:0 <= i
 ·rw [if_pos h0] at h
  by_cases h1:i < n
  ·rw [if_pos h1] at h
   have e:i.toNat = j:=Option.some.inj h
   exact ⟨by rw [seqIndex_of h0 h1,e],by omega,by omega,h1⟩
  ·rw [if_neg h1] at h; cases h
 ·rw [if_neg h0] at h
  by_cases h1:-(n:Int) <= i
  ·rw [if_pos h1] at h
   have e:(i + n).toNat = j:=Option.some.inj h
   exact ⟨by rw [seqIndex_neg (by omega) h1,e],by omega,h1,by omega⟩
  ·rw [if_neg h1] at h; cases h
theorem atI_get {α:Type} {xs:List α} {i:Int} {v:α} (h:atI xs i = some v):∃ j,seqIndex? i xs.length = some j /\ xs[j]? = some v /\ j < xs.length /\ -(xs.length:Int) <= i /\ i < xs.length:=by
 unfold atI at h
 cases e:ixN xs.length i with
 | none=>rw [e] at h; cases h
 | some j=>
  rw [e] at h
  obtain ⟨h1,h2,h3,h4⟩:=ixN_seq e
  exact ⟨j,h1,h,h2,h3,h4⟩
noncomputable def PlainIx (b:Expr):Prop:=∀ o i,subscripted b false o i = operate [o,i] (getItem o i)
noncomputable def IxR (X:Cx) (r:R2):Prop:=
 ∀ (value slice:Expr) (pins:List (Addr × Obj)) (s:Shared) (σ:St) (H:Hp) (x y:V) (v u:Value) (Q:VK),Inv X pins σ H s -> RelV x v -> RelV y u -> r x y H Q ->
  subscripted slice false v u = operate [v,u] (getItem v u) -> wpAny (model X.prog X.w) X.A (subscriptTail value slice v u) (EP X pins σ Q) X.xe s
noncomputable def MtR (X:Cx) (id:String) (r:V -> List V -> Hp -> VK -> Prop):Prop:=
 ∀ (pins:List (Addr × Obj)) (s:Shared) (σ:St) (H:Hp) (x:V) (xs:List V) (v:Value) (us:List Value) (Q:VK),Inv X pins σ H s -> RelV x v -> Vals xs us -> r x xs H Q ->
  wpAny (model X.prog X.w) X.A (call (.builtin id) (v :: us)) (EP X pins σ Q) X.xe s
section
variable {X:Cx} {a b:Expr} {ta tb:TE} {pos:Pos}
theorem IxR.or {r r':R2} (h:IxR X r) (h':IxR X r'):IxR X (fun x y H Q=>r x y H Q \/ r' x y H Q):=by
 intro value slice pins s σ H x y v u Q I rx ry q hs
 rcases q with q | q
 ·exact h value slice pins s σ H x y v u Q I rx ry q hs
 ·exact h' value slice pins s σ H x y v u Q I rx ry q hs
theorem pe_ix {r:R2} (hr:IxR X r) (ha:PE X a ta) (hb:PE X b tb) (hs:PlainIx b):PE X (.Subscript a b pos) (tOp r ta tb):=by
 refine .of ?_
 intro pins s σ H Q I h
 exact Subscript_ (binT ha hb I h fun v u s2 x y H2 I2 rx ry q=>hr a b pins s2 σ H2 x y v u Q I2 rx ry q (hs _ _))
noncomputable def rIxL (K:PySem.W.Frag):R2:=fun x y H Q=>∃ p xs i v,x = .ref p /\ y = .int i /\ SqL K H p xs /\ atI xs i = some v /\ Q v H
noncomputable def rIxT (K:PySem.W.Frag):R2:=fun x y H Q=>∃ p xs i v,x = .ref p /\ y = .int i /\ SqT K H p xs /\ atI xs i = some v /\ Q v H
noncomputable def rIxS:R2:=fun x y H Q=>∃ z i c,x = .str z /\ y = .int i /\ z.length <= sizeLine /\ atI z.cps.toList i = some c /\ Q (.str ⟨#[c]⟩) H
theorem ix_list:IxR X (rIxL X.K):=by
 intro value slice pins s σ H x y v u Q I rx ry h hs
 obtain ⟨p,xs,i,z,rfl,rfl,hq,he,q⟩:=h
 cases rx
 obtain ⟨t,rfl⟩:=ry
 obtain ⟨its,r,pl,hz⟩:=I.list hq
 obtain ⟨j,h1,h2,h3,h4,h5⟩:=atI_get he
 obtain ⟨w,ew,rw'⟩:=r.get h2
 have hl:=r.length
 have hn:=line63
 have fin:EP X pins σ Q w s:=⟨z,H,I,rw',q⟩
 by_cases h0:0 <= i
 ·have hj:i.toNat = j:=by
   rw [seqIndex_of h0 h5] at h1
   exact Option.some.inj h1
  exact item_listR pl.isList h0 (by omega) (by rw [hj]; simpa using ew) fin hs
 ·have hj:(i + (its.toArray.size:Int)).toNat = j:=by
   rw [seqIndex_neg (by omega) h4] at h1
   rw [List.size_toArray,<- hl]
   exact Option.some.inj h1
  exact subscriptTail_builtinR (x:=w) pl.isList.typeIs slot_list_getitem.lookup
   (wpAny_getItem_list_neg (Q:=fun r s'=>r = w /\ EP X pins σ Q r s') pl.isList (by omega) (by rw [List.size_toArray] <;> omega) (by omega) (by rw [hj]; simpa using ew) ⟨rfl,fin⟩) hs
theorem ix_tup:IxR X (rIxT X.K):=by
 intro value slice pins s σ H x y v u Q I rx ry h hs
 obtain ⟨p,xs,i,z,rfl,rfl,hq,he,q⟩:=h
 cases rx
 obtain ⟨t,rfl⟩:=ry
 obtain ⟨its,r,pl,hz⟩:=I.tuple hq
 obtain ⟨j,h1,h2,h3,h4,h5⟩:=atI_get he
 obtain ⟨w,ew,rw'⟩:=r.get h2
 have hl:=r.length
 have hn:=line63
 have fin:EP X pins σ Q w s:=⟨z,H,I,rw',q⟩
 exact subscriptTail_builtinR (x:=w) pl.typeIs slot_tuple_getitem.lookup
  (getItem_tuple (j:=j) (Q:=fun r s'=>r = w /\ EP X pins σ Q r s') pl (by omega) (by omega) (by rw [List.size_toArray,<- hl]; exact h1) (by simpa using ew) ⟨rfl,fin⟩) hs
theorem ix_str:IxR X rIxS:=by
 intro value slice pins s σ H x y v u Q I rx ry h hs
 obtain ⟨z,i,c,rfl,rfl,hz,he,q⟩:=h
 obtain ⟨t,rfl⟩:=rx
 obtain ⟨t',rfl⟩:=ry
 obtain ⟨j,h1,h2,h3,h4,h5⟩:=atI_get he
 have hl:z.cps.toList.length = z.length:=by simp [Str.length]
 rw [hl] at h1 h4 h5
 have hn:=line63
 exact tail_any (typeIs_str s z t) slot_str_getitem.lookup (getItem_str (c:=c) (by
  have e1:decide (i < -(2 ^ 63:Int)) = false:=decide_eq_false (by omega)
  have e2:decide (i ≥ 2 ^ 63) = false:=decide_eq_false (by omega)
  rw [e1,e2,Bool.or_false]) (by rw [h1]; simpa using h2) ⟨.str ⟨#[c]⟩,H,I.tok _,⟨_,rfl⟩,q⟩) hs
noncomputable def rIx (K:PySem.W.Frag):R2:=fun x y H Q=>rIxL K x y H Q \/ rIxT K x y H Q \/ rIxS x y H Q
theorem ix_seq:IxR X (rIx X.K):=ix_list.or (ix_tup.or ix_str)
theorem mapSeq_set (its:List Value) (n j:Nat) (u:Value):Obj.mapSeq (·.setIfInBounds j u) { cls:=.type "list",data:=.seq its.toArray n } = { cls:=.type "list",data:=.seq (its.set j u).toArray n }:=by
 simp [Obj.mapSeq]
theorem Inv.lst {pins:List (Addr × Obj)} {σ:St} {H:Hp} {s:Shared} {p:Addr} {xs:List V} (I:Inv X pins σ H s) (h:H p = some (.lst xs)) :
  ∃ (its:List Value) (n:Nat),Vals xs its /\ s.heap.get? p = some { cls:=.type "list",data:=.seq its.toArray n } /\ xs.length <= sizeLine:=by
 obtain ⟨z,its,n,r,e⟩:=I.hok p _ h
 exact ⟨its,n,r,e,z⟩
theorem Inv.lstUpd {pins:List (Addr × Obj)} {σ:St} {H:Hp} {s:Shared} {p:Addr} {xs ys:List V} {its its':List Value} {n n':Nat} {f:Obj -> Obj} (I:Inv X pins σ H s) (h:H p = some (.lst xs))
  (ho:s.heap.get? p = some { cls:=.type "list",data:=.seq its.toArray n }) (hf:f { cls:=.type "list",data:=.seq its.toArray n } = { cls:=.type "list",data:=.seq its'.toArray n' }) (r:Vals ys its') (hz:ys.length <= sizeLine) (t:Nat) :
  Inv X pins σ (upd H p (.lst ys)) { s with heap:=s.heap.update p f,toks:=t }:=by
 have e:(s.heap.update p f).get? p = some { cls:=.type "list",data:=.seq its'.toArray n' }:=by
  rw [Heap.get?_update_self f ho (by rw [hf] <;> rfl),hf]
 refine I.write (x:=p) (e:=p) (by rw [h]; trivial) (.inl rfl) (fun b u hb q=>(Heap.get?_update_other _ _ (Ne.symm hb)).trans q) ⟨_,e⟩ ?_
 exact ⟨hz,its',n',r,e⟩
noncomputable def rSetL:V -> V -> V -> Hp -> (Hp -> Prop) -> Prop:=fun o i v H Q=>∃ p xs k j,o = .ref p /\ i = .int k /\ H p = some (.lst xs) /\ ixN xs.length k = some j /\ Q (upd H p (.lst (xs.set j v)))
theorem set_list:PSet X rSetL:=by
 intro pins s σ H o i v ov iv u Q I ro ri rv h
 obtain ⟨p,xs,k,j,rfl,rfl,hp,hj,q⟩:=h
 cases ro
 obtain ⟨t,rfl⟩:=ri
 obtain ⟨its,n,r,ho,hz⟩:=I.lst hp
 obtain ⟨h1,h2,h3,h4⟩:=ixN_seq hj
 have hl:=r.length
 have hn:=line63
 have I':Inv X pins σ (upd H p (.lst (xs.set j v))) { s with heap:=s.heap.update p (Obj.mapSeq (·.setIfInBounds j u)) }:=
  I.lstUpd hp ho (mapSeq_set its n j u) (r.set rv j) (by rw [List.length_set]; exact hz) s.toks
 by_cases h0:0 <= k
 ·have hk:k.toNat = j:=by
   rw [seqIndex_of h0 h4] at h1
   exact Option.some.inj h1
  exact PySem.W.ki_setAt ho h0 (by omega) (by rw [List.size_toArray,<- hl]; exact h4) (by rw [hk]; exact ⟨_,I',q⟩)
 ·have hk:(k + (its.toArray.size:Int)).toNat = j:=by
   rw [seqIndex_neg (by omega) h3] at h1
   rw [List.size_toArray,<- hl]
   exact Option.some.inj h1
  exact PySem.W.ki_setBack ho (by omega) (by rw [List.size_toArray,<- hl]; exact h3) (by omega) (by rw [hk]; exact ⟨_,I',q⟩)
theorem slice_bounds (lo hi:Option Int) (n:Nat):(sliceBounds lo hi none n).1 = ((HT.sIx n 0 lo:Nat):Int) /\ (sliceBounds lo hi none n).2.1 = ((HT.sIx n n hi:Nat):Int) /\ (sliceBounds lo hi none n).2.2 = 1:=by
 refine ⟨?_,?_,rfl⟩
 ·cases lo with
  | none=>simp [sliceBounds,HT.sIx]
  | some i=>
   simp only [sliceBounds,HT.sIx,Option.getD_none,show (1:Int) > 0 by decide,if_true]
   by_cases h:i < 0
   ·simp only [h,if_true] <;> omega
   ·simp only [h,if_false] <;> omega
 ·cases hi with
  | none=>simp [sliceBounds,HT.sIx]
  | some i=>
   simp only [sliceBounds,HT.sIx,Option.getD_none,show (1:Int) > 0 by decide,if_true]
   by_cases h:i < 0
   ·simp only [h,if_true] <;> omega
   ·simp only [h,if_false] <;> omega
theorem slicePick_cut (its:List Value) (lo hi:Option Int):slicePick its.toArray lo hi none = ((its.drop (HT.sIx its.length 0 lo)).take (HT.sIx its.length its.length hi - HT.sIx its.length 0 lo)).toArray:=by
 obtain ⟨h1,h2,h3⟩:=slice_bounds lo hi its.toArray.size
 unfold slicePick
 rw [h1,h2,h3]
 simp only [sliceRange_one,pick_run,List.size_toArray] <;> rfl
noncomputable def rSlL (K:PySem.W.Frag):V -> Option Int -> Option Int -> Hp -> VK -> Prop:=fun x lo hi H Q=>∃ a xs,x = .ref a /\ SqL K H a xs /\ ∀ p,H p = none -> Q (.ref p) (upd H p (.lst (cutV xs lo hi)))
theorem sl_list:SlR X (rSlL X.K):=by
 intro pins s σ H x v vl vu lo hi sl Q I rx hs pl pu h
 obtain ⟨a,xs,rfl,hx,q⟩:=h
 cases rx
 obtain ⟨its,r,ht,hz⟩:=I.list hx
 have hlen:=r.length
 refine ⟨"list",_,slot_list_getitem.lookup,ht.isList.typeIs,?_⟩
 refine wpAny_getItem_list_slice ht.isList hs pl pu .none (by simp) ?_ (by rw [List.size_toArray] <;> omega)
 rw [slicePick_cut,<- hlen]
 refine ⟨.ref s.heap.objs.size,_,I.laid (t':=s.toks) (o:=.lst (cutV xs lo hi)) (fun b ob q=>Heap.get?_push_of_some _ q) (Nat.le_refl _) ?_,rfl,q _ (I.hok.fresh (Nat.le_refl _))⟩
 exact ⟨Nat.le_trans (cutV_length xs lo hi) hz,_,0,(r.drop (HT.sIx xs.length 0 lo)).take (HT.sIx xs.length xs.length hi - HT.sIx xs.length 0 lo),Heap.get?_push_size _ rfl⟩
noncomputable def flatV:V -> Bool
 | .non=>true
 | .bl _=>true
 | .int _=>true
 | .str _=>true
 | _=>false
noncomputable def eqV:V -> V -> Bool
 | .non,.non=>true
 | .bl a,.bl b=>a == b
 | .bl a,.int b=>(if a then 1 else 0) == b
 | .int a,.bl b=>a == (if b then 1 else 0)
 | .int a,.int b=>a == b
 | .str a,.str b=>a == b
 | _,_=>false
theorem eqAt_V {A:Around} {s:Shared} {y x:V} {u v:Value} (ry:RelV y u) (rx:RelV x v) (fy:flatV y = true) (fx:flatV x = true):SeqAt.EqAt A s u v (eqV y x):=by
 cases y with
 | non=>
  cases ry
  cases x with
  | non=>cases rx; exact SeqAt.EqAt.same _
  | bl b=>cases rx; exact SeqAt.EqAt.none_bool b
  | int b=>obtain ⟨t,rfl⟩:=rx; exact SeqAt.EqAt.none_int b t
  | str b=>obtain ⟨t,rfl⟩:=rx; exact SeqAt.EqAt.none_str b t
  | _=>exact absurd (show false = true from fx) Bool.false_ne_true
 | bl a=>
  cases ry
  cases x with
  | non=>cases rx; exact SeqAt.EqAt.bool_none a
  | bl b=>cases rx; exact SeqAt.EqAt.bool_bool a b
  | int b=>obtain ⟨t,rfl⟩:=rx; exact SeqAt.EqAt.bool_int a b t
  | str b=>obtain ⟨t,rfl⟩:=rx; exact SeqAt.EqAt.bool_str a b t
  | _=>exact absurd (show false = true from fx) Bool.false_ne_true
 | int a=>
  obtain ⟨t',rfl⟩:=ry
  cases x with
  | non=>cases rx; exact SeqAt.EqAt.int_none a t'
  | bl b=>cases rx; exact SeqAt.EqAt.int_bool a t' b
  | int b=>obtain ⟨t,rfl⟩:=rx; exact SeqAt.EqAt.int_int a t' b t
  | str b=>obtain ⟨t,rfl⟩:=rx; exact SeqAt.EqAt.int_str a t' b t
  | _=>exact absurd (show false = true from fx) Bool.false_ne_true
 | str a=>
  obtain ⟨t',rfl⟩:=ry
  cases x with
  | non=>cases rx; exact SeqAt.EqAt.str_none a t'
  | bl b=>cases rx; exact SeqAt.EqAt.str_bool a t' b
  | int b=>obtain ⟨t,rfl⟩:=rx; exact SeqAt.EqAt.str_int a t' b t
  | str b=>obtain ⟨t,rfl⟩:=rx; exact SeqAt.EqAt.str_str a t' b t
  | _=>exact absurd (show false = true from fx) Bool.false_ne_true
 | _=>exact absurd (show false = true from fy) Bool.false_ne_true
noncomputable def eqU (x:V) (u:Value):Bool:=match u with
 | .none=>eqV .non x
 | .bool b=>eqV (.bl b) x
 | .int i _=>eqV (.int i) x
 | .str z _=>eqV (.str z) x
 | _=>false
theorem eqU_of {x y:V} {u:Value} (r:RelV y u) (f:flatV y = true):eqU x u = eqV y x:=by
 cases y with
 | non=>cases r; rfl
 | bl b=>cases r; rfl
 | int i=>obtain ⟨t,rfl⟩:=r; rfl
 | str z=>obtain ⟨t,rfl⟩:=r; rfl
 | _=>exact absurd (show false = true from f) Bool.false_ne_true
theorem any_eqU {x:V}:∀ {xs:List V} {us:List Value},Vals xs us -> xs.all flatV = true -> us.any (eqU x) = xs.any fun y=>eqV y x
 | _,_,.nil,_=>rfl
 | y :: xs,u :: us,.cons r t,f=>by
  rw [List.all_cons,Bool.and_eq_true] at f
  rw [List.any_cons,List.any_cons,eqU_of r f.1,any_eqU t f.2]
theorem mem_eqAt {A:Around} {s:Shared} {x:V} {v:Value} (rx:RelV x v) (fx:flatV x = true):∀ {xs:List V} {us:List Value},Vals xs us -> xs.all flatV = true -> ∀ u ∈ us,SeqAt.EqAt A s u v (eqU x u)
 | _,_,.nil,_=>fun u hu=>by cases hu
 | y :: xs,u :: us,.cons r t,f=>fun u' hu=>by
  rw [List.all_cons,Bool.and_eq_true] at f
  rcases List.mem_cons.mp hu with rfl | hu
  ·rw [eqU_of r f.1]; exact eqAt_V r rx f.1 fx
  ·exact mem_eqAt rx fx t f.2 u' hu
noncomputable def inV (x:V) (xs:List V):Bool:=xs.any fun y=>eqV y x
noncomputable def rIn (K:PySem.W.Frag) (neg:Bool):R2:=fun x y H Q=>∃ p xs,y = .ref p /\ (SqL K H p xs \/ SqT K H p xs) /\ flatV x = true /\ xs.all flatV = true /\ Q (.bl (if neg then !inV x xs else inV x xs)) H
theorem op_in_seq:OpR X (compareOp .In) (rIn X.K false):=by
 intro pins s σ H x y v u Q I rx ry h
 obtain ⟨p,xs,rfl,hq,fx,fs,q⟩:=h
 cases ry
 rcases hq with hq | hq
 ·obtain ⟨its,r,pl,hz⟩:=I.list hq
  refine SeqAt.in_listAt (eqU x) pl.isList (fun w hw=>mem_eqAt rx fx r fs w (by simpa using hw)) ⟨.bl _,H,I,rfl,?_⟩
  rw [show its.toArray.any (eqU x) = its.any (eqU x) by simp,any_eqU r fs]
  exact q
 ·obtain ⟨its,r,pl,hz⟩:=I.tuple hq
  refine SeqAt.in_tupleAt (eqU x) pl (fun w hw=>mem_eqAt rx fx r fs w (by simpa using hw)) ⟨.bl _,H,I,rfl,?_⟩
  rw [show its.toArray.any (eqU x) = its.any (eqU x) by simp,any_eqU r fs]
  exact q
theorem call_list_of:CallR X (.type "list") (fun xs H Q=>∃ p ys,xs = [.ref p] /\ (SqL X.K H p ys \/ SqT X.K H p ys) /\ ∀ l,H l = none -> Q (.ref l) (upd H l (.lst ys))):=by
 intro pins s σ H xs us Q I r h
 obtain ⟨p,ys,rfl,hq,q⟩:=h
 obtain ⟨u,rfl,rx⟩:=vals1 r
 cases rx
 have fin:∀ (its:List Value),Vals ys its -> ys.length <= sizeLine -> ∀ (h':Heap) (c':Nat),(∀ b o',s.heap.get? b = some o' -> h'.get? b = some o') ->
   h'.get? s.heap.objs.size = some { cls:=.type "list",dict:=none,data:=.seq its.toArray c',slots:=#[] } -> EP X pins σ Q (.ref s.heap.objs.size) { s with heap:=h' }:=fun its r' hz h' c' kp e=>
  ⟨.ref s.heap.objs.size,_,I.laid (t':=s.toks) kp (Nat.le_refl _) (show ObjOk X.prog X.w _ h' _ (.lst ys) from ⟨hz,its,c',r',e⟩),rfl,q _ (I.hok.fresh (Nat.le_refl _))⟩
 rcases hq with hq | hq
 ·obtain ⟨its,r',pl,hz⟩:=I.list hq
  have hlen:=r'.length
  obtain ⟨o,ho,hc,n,hd⟩:=pl.isList
  exact call_list_seq p (.inl rfl) ho hc hd (fun h' c' kp e=>fin its r' hz h' c' kp e) (by simp only [List.size_toArray] <;> omega)
 ·obtain ⟨its,r',pl,hz⟩:=I.tuple hq
  have hlen:=r'.length
  obtain ⟨o,ho,hc,n,hd⟩:=pl
  exact call_list_seq p (.inr rfl) ho hc hd (fun h' c' kp e=>fin its r' hz h' c' kp e) (by simp only [List.size_toArray] <;> omega)
theorem call_tuple_of:CallR X (.type "tuple") (fun xs H Q=>∃ p ys,xs = [.ref p] /\ ((SqL X.K H p ys /\ ∀ l,H l = none -> Q (.ref l) (upd H l (.tup ys))) \/ (SqT X.K H p ys /\ Q (.ref p) H))):=by
 intro pins s σ H xs us Q I r h
 obtain ⟨p,ys,rfl,h⟩:=h
 obtain ⟨u,rfl,rx⟩:=vals1 r
 cases rx
 rcases h with ⟨hq,q⟩ | ⟨hq,q⟩
 ·obtain ⟨its,r',pl,hz⟩:=I.list hq
  have hlen:=r'.length
  refine call_tuple_list pl.isList (fun h' kp=>?_) (by simp only [List.size_toArray] <;> omega)
  have I1:Inv X pins σ H { s with heap:=h' }:=I.kept (t':=s.toks) kp
  have I2:Inv X pins σ (upd H h'.objs.size (.tup ys)) { s with heap:=h'.push { cls:=.type "tuple",data:=.seq its.toArray } }:=
   I1.laid (t':=s.toks) (fun b o e=>Heap.get?_push_of_some _ e) (Nat.le_refl _) (show ObjOk X.prog X.w _ _ _ (.tup ys) from ⟨hz,its,r',IsTup.new _ _⟩)
  exact ⟨.ref h'.objs.size,_,I2,rfl,q _ (I1.hok.fresh (Nat.le_refl _))⟩
 ·obtain ⟨its,r',pl,hz⟩:=I.tuple hq
  exact call_tuple_same pl ⟨.ref p,H,I,rfl,q⟩
noncomputable def tyV (K:PySem.W.Frag) (T:String) (x:V) (H:Hp):Prop:=match x with
 | .str _=>T = "str"
 | .int _=>T = "int"
 | .ref p=>(T = "list" /\ ∃ xs,SqL K H p xs) \/ (T = "tuple" /\ ∃ o,K.lookup p = some o /\ o.cls = .type "tuple" /\ o.dict = none) \/
   (T = "dict" /\ ((∃ kvs,Dd H p kvs) \/ ∃ kvs,H p = some (.dT kvs))) \/ (T = "set" /\ ∃ S n,H p = some (.set S n))
 | _=>False
theorem tyV_is {pins:List (Addr × Obj)} {σ:St} {H:Hp} {s:Shared} {T:String} {x:V} {v:Value} (I:Inv X pins σ H s) (r:RelV x v) (ty:tyV X.K T x H) :
  s.TypeIs v T /\ ∀ a,v = .ref a -> ∃ ob,s.heap.get? a = some ob /\ ob.dict = none:=by
 cases x with
 | str z=>
  obtain ⟨t,rfl⟩:=r
  cases (show T = "str" from ty)
  exact ⟨typeIs_str s z t,fun _ e=>nomatch e⟩
 | int i=>
  obtain ⟨t,rfl⟩:=r
  cases (show T = "int" from ty)
  exact ⟨typeIs_int s i t,fun _ e=>nomatch e⟩
 | ref p=>
  cases r
  rcases ty with ⟨rfl,xs,hq⟩ | ⟨rfl,o,hk,hc,hd⟩ | ⟨rfl,hk⟩ | ⟨rfl,S,n,hk⟩
  ·obtain ⟨its,_,pl,_⟩:=I.list hq
   refine ⟨pl.isList.typeIs,fun a e=>?_⟩
   cases e
   obtain ⟨o,n,e,c,hd,_⟩:=pl
   exact ⟨o,e,hd⟩
  ·refine ⟨⟨o,I.kIn p o hk,hc⟩,fun a e=>?_⟩
   cases e
   exact ⟨o,I.kIn _ o hk,hd⟩
  ·have z:∃ o,s.heap.get? p = some o /\ o.ExactDict:=by
    rcases hk with ⟨kvs,hk⟩ | ⟨kvs,hk⟩
    ·obtain ⟨_,_,_,_,o,_,_,e,ex,_⟩:=(show ObjOk X.prog X.w H s.heap p (.dK kvs) from hk.ok I.hok)
     exact ⟨o,e,ex⟩
    ·obtain ⟨_,_,_,_,o,_,_,e,ex,_⟩:=I.hok p _ hk
     exact ⟨o,e,ex⟩
   obtain ⟨o,e,ex⟩:=z
   refine ⟨⟨o,e,ex.1⟩,fun a e2=>?_⟩
   cases e2
   exact ⟨o,e,ex.2.1⟩
  ·obtain ⟨o,_,_,_,e,ex,_⟩:=I.hok p _ hk
   refine ⟨⟨o,e,ex.1⟩,fun a e2=>?_⟩
   cases e2
   exact ⟨o,e,ex.2.1⟩
 | _=>exact False.elim ty
noncomputable def tBM (K:PySem.W.Frag) (T:String) (r:V -> List V -> Hp -> VK -> Prop) (to:TE) (t:TA):TE:=fun σ H Q=>to σ H fun x H1=>tyV K T x H1 /\ t σ H1 fun xs H2=>r x xs H2 Q
variable {o e:Expr} {es:List Expr} {to:TE} {t:TA} {name:Str} {apos cpos:Pos} {T id:String} {r:V -> List V -> Hp -> VK -> Prop}
theorem pe_bm (pa:PlainAttrs T) (slot:Slot T name id) (hty:typeOf (.builtin id) = pure (.type "method_descriptor")) (hm:MtR X id r) (ho:PE X o to) (ha:PA X (e :: es) t)
  (hbase:attributeBase o name X.env (eval o X.env) = eval o X.env:=by rfl)
  (hfew:((backTo cpos (starEach (e :: es) X.env)).all (fun x=>!x.1) && (backToKw cpos (keywordEach [] X.env)).all (fun x=>x.1.isSome)
   && decide ((e :: es).length + ([]:List Keyword).length + (if ([]:List Keyword).isEmpty then 0 else 1) < 30)) = true:=by rfl)
  (hline:(apos.endLine == cpos.line) = true:=by rfl) (hs:starEach (e :: es) X.env = (false,eval e X.env) :: starEach es X.env:=by rfl) (hplain:(backTo cpos (starEach es X.env)).any (·.1) = false:=by rfl) :
  PE X (.Call (.Attribute o name apos) (e :: es) [] cpos) (tBM X.K T r to t):=by
 refine .of ?_
 intro pins s σ H Q I h
 refine wpAny_Call_method_late hbase hfew hline rfl (thn (ho pins s σ H _ I h) fun v s1 ⟨x,H1,I1,r1,ty,q1⟩=>?_)
 obtain ⟨h1,h2⟩:=tyV_is I1 r1 ty
 refine ⟨T,id,pa,slot,hty,h1,h2,?_⟩
 have hA:=ha cpos pins s1 σ H1 _ I1 q1
 rw [hs] at hA ⊢
 refine Calls.callWith_builtin (by show (false || (backTo cpos (starEach es X.env)).any (·.1)) = false; rw [hplain] <;> rfl) (Calls.evalArgs_plain ?_)
 exact thn hA fun us s2 ⟨vs,H2,I2,r2,q2⟩=>hm pins s2 σ H2 x vs v us Q I2 r1 r2 q2
end
end L2
namespace L2
open PySem PySem.Spec PyProof.Rows
noncomputable def MtM (X:Cx) (id:String) (r:V -> List V -> Hp -> VK -> Prop):Prop:=
 ∀ (pins:List (Addr × Obj)) (s:Shared) (σ:St) (H:Hp) (x:V) (xs:List V) (v:Value) (us:List Value) (Q:VK),Inv X pins σ H s -> RelV x v -> Vals xs us -> r x xs H Q ->
  wpAny (model X.prog X.w) X.A (call (.builtin id) (v :: us)) (EP X pins σ Q) X.xe s
theorem Vals.one:∀ {x:V} {us:List Value},Vals [x] us -> ∃ u,us = [u] /\ RelV x u
 | _,_,.cons r .nil=>⟨_,rfl,r⟩
theorem Vals.reverse {xs:List V} {us:List Value} (h:Vals xs us):Vals xs.reverse us.reverse:=by
 induction h with
 | nil=>exact .nil
 | cons r t ih=>rw [List.reverse_cons,List.reverse_cons]; exact Vals.append ih (.cons r .nil)
theorem Vals.rep {xs:List V} {us:List Value} (h:Vals xs us):∀ k:Nat,Vals (List.replicate k xs).flatten (List.replicate k us).flatten
 | 0=>.nil
 | k + 1=>by
  rw [List.replicate_succ,List.replicate_succ,List.flatten_cons,List.flatten_cons]
  exact Vals.append h (Vals.rep h k)
theorem foldl_rep (its:List Value):∀ (k:Nat) (acc:List Value),
  List.foldl (fun x1 x2=>x1 ++ x2) acc.toArray (List.replicate k its.toArray) = (acc ++ (List.replicate k its).flatten).toArray
 | 0,acc=>by simp
 | k + 1,acc=>by
  have e:acc.toArray ++ its.toArray = (acc ++ its).toArray:=by simp
  have e2:(acc ++ its) ++ (List.replicate k its).flatten = acc ++ (List.replicate (k + 1) its).flatten:=by
   rw [List.replicate_succ,List.flatten_cons,List.append_assoc]
  rw [<- e2,<- foldl_rep its k (acc ++ its),<- e,List.replicate_succ,List.foldl_cons]
section
variable {X:Cx} {pins:List (Addr × Obj)} {σ:St} {H:Hp} {s:Shared} {l b:Addr} {xs ys zs:List V}
theorem Inv.lset {its its':List Value} {n:Nat} {f:Array Value -> Array Value} {t':Nat} (I:Inv X pins σ H s) (hH:H l = some (.lst xs))
  (e:s.heap.get? l = some { cls:=.type "list",data:=.seq its.toArray n }) (hf:f its.toArray = its'.toArray) (hv:Vals ys its') (hz:ys.length <= sizeLine) :
  Inv X pins σ (upd H l (.lst ys)) { s with heap:=s.heap.update l (Obj.mapSeq f),toks:=t' }:=by
 have q:=PySem.IsL.update e f
 rw [hf] at q
 refine I.write (x:=l) (e:=l) (by rw [hH]; exact trivial) (.inl rfl) (fun b' u hb hu=>(Heap.get?_update_other s.heap (Obj.mapSeq f) (Ne.symm hb)).trans hu) ⟨_,q⟩ ?_
 exact ⟨hz,its',_,hv,q⟩
theorem Inv.lnew {its:List Value} {t':Nat} (I:Inv X pins σ H s) (hv:Vals ys its) (hz:ys.length <= sizeLine) :
  Inv X pins σ (upd H s.heap.objs.size (.lst ys)) { s with heap:=s.heap.push { cls:=.type "list",data:=.seq its.toArray },toks:=t' }:=
 I.laid (fun _ _ q=>Heap.get?_push_of_some _ q) (Nat.le_refl _) ⟨hz,its,0,hv,Heap.get?_push_size _ rfl⟩
theorem Inv.fresh (I:Inv X pins σ H s):H s.heap.objs.size = none:=I.hok.fresh (Nat.le_refl _)
theorem Inv.lstM (I:Inv X pins σ H s) (hH:H l = some (.lst xs)):xs.length <= sizeLine /\ ∃ (its:List Value) (n:Nat),Vals xs its /\ xs.length = its.length /\ s.heap.get? l = some { cls:=.type "list",data:=.seq its.toArray n }:=by
 obtain ⟨z,its,n,r,e⟩:=I.hok l _ hH
 exact ⟨z,its,n,r,r.length,e⟩
theorem notLongL {n:Nat} (h:n <= sizeLine):Builtin.List.listTooLong n = false:=by
 unfold Builtin.List.listTooLong
 exact decide_eq_false (by omega)
end
section
variable {X:Cx}
noncomputable def rAppend:V -> List V -> Hp -> VK -> Prop:=fun x vs H Q=>∃ l xs y,x = .ref l /\ vs = [y] /\ H l = some (.lst xs) /\ xs.length < sizeLine /\ Q .non (upd H l (.lst (xs ++ [y])))
theorem mt_append:MtM X "list.append" rAppend:=by
 intro pins s σ H x vs v us Q I rx rv h
 obtain ⟨l,xs,y,rfl,rfl,hH,hz,q⟩:=h
 cases rx
 obtain ⟨u,rfl,ru⟩:=rv.one
 obtain ⟨z,its,n,r,hl,e⟩:=I.lstM hH
 refine call_meets F.slot_list_append ⟨_,e,rfl⟩ F.entry_list_append (F.args_list_append_2 _ _) (PySem.list_append l its.toArray n u (by rw [List.size_toArray]; omega)) ⟨e,?_⟩
 refine ⟨.non,_,I.lset (its':=its ++ [u]) hH e (by simp) (r.append (.cons ru .nil)) ?_,rfl,q⟩
 rw [List.length_append,List.length_singleton]
 omega
noncomputable def rCat:R2:=fun x y H Q=>∃ l b xs zs,x = .ref l /\ y = .ref b /\ H l = some (.lst xs) /\ H b = some (.lst zs) /\ xs.length + zs.length <= sizeLine /\ ∀ p,H p = none -> Q (.ref p) (upd H p (.lst (xs ++ zs)))
theorem op_cat:OpR X (binaryOp .Add) rCat:=by
 intro pins s σ H x y v u Q I rx ry h
 obtain ⟨l,b,xs,zs,rfl,rfl,hH,hB,hz,q⟩:=h
 cases rx
 cases ry
 obtain ⟨z,its,n,r,hl,e⟩:=I.lstM hH
 obtain ⟨z2,its2,n2,r2,hl2,e2⟩:=I.lstM hB
 refine PySem.P.add_list e e2 ?_ (by rw [List.size_toArray,List.size_toArray]; omega)
 have ea:its.toArray ++ its2.toArray = (its ++ its2).toArray:=by simp
 rw [ea]
 exact ⟨.ref _,_,I.lnew (t':=s.toks) (r.append r2) (by rw [List.length_append]; omega),rfl,q _ I.fresh⟩
noncomputable def rRep:R2:=fun x y H Q=>∃ l k xs,x = .ref l /\ y = .int k /\ H l = some (.lst xs) /\ -(2 ^ 63) <= k /\ k < 2 ^ 63 /\ xs.length * k.toNat <= sizeLine /\
 ∀ p,H p = none -> Q (.ref p) (upd H p (.lst (List.replicate k.toNat xs).flatten))
theorem len_rep {α:Type} (xs:List α) (k:Nat):(List.replicate k xs).flatten.length = k * xs.length:=by
 induction k with
 | zero=>simp
 | succ k ih=>rw [List.replicate_succ,List.flatten_cons,List.length_append,ih,Nat.succ_mul,Nat.add_comm]
theorem op_rep:OpR X (binaryOp .Mult) rRep:=by
 intro pins s σ H x y v u Q I rx ry h
 obtain ⟨l,k,xs,rfl,rfl,hH,h1,h2,hz,q⟩:=h
 cases rx
 obtain ⟨t,rfl⟩:=ry
 obtain ⟨z,its,n,r,hl,e⟩:=I.lstM hH
 have hlen:its.toArray.size * k.toNat <= sizeLine:=by rw [List.size_toArray,<- hl]; exact hz
 have hcap:¬ its.toArray.size * k.toNat > (2 ^ 63 - 1) / 8:=by
  have:(sizeLine:Nat) <= (2 ^ 63 - 1) / 8:=by decide
  omega
 have hfit:¬ (!Builtin.List.listFitsIndex k) = true:=by
  rw [fitsIndex_both h1 h2]
  exact Bool.false_ne_true
 have hlong:¬ Builtin.List.listTooLong (its.toArray.size * k.toNat) = true:=by
  rw [notLongL hlen]
  exact Bool.false_ne_true
 have hnew:List.foldl (fun x1 x2=>x1 ++ x2) #[] (List.replicate (if its.toArray.isEmpty = true then 0 else k.toNat) its.toArray) = (List.replicate k.toNat its).flatten.toArray:=by
  have f0:∀ m:Nat,List.foldl (fun x1 x2=>x1 ++ x2) #[] (List.replicate m its.toArray) = (List.replicate m its).flatten.toArray:=fun m=>by
   have:=foldl_rep its m []
   rw [List.nil_append] at this
   exact this
  rw [f0]
  cases its with
  | nil=>simp
  | cons a r'=>rw [if_neg (by simp)]
 refine wpAny_binaryOp_repeat_ref (T := "list") (U := "int") (by decide) ⟨_,e,rfl⟩ (fun s'=>typeIs_int s' k t) noFill_list_mul F.fills_int_mul F.slot_int_rmul repeat_list F.slot_int_index.lookup
  (call_meets F.slot_int_rmul (typeIs_int s k t) F.entry_int_rmul (F.args_int_rmul_2 _ _) (int___rmul___int_list k t l its.toArray n)
   ⟨e,rfl,⟨_,e,rfl⟩,call_meets F.slot_list_mul ⟨_,e,rfl⟩ F.entry_list_mul (F.args_list_mul_2 _ _) (AutoListH.list___mul___list_int_3 l its.toArray n k t hfit hcap hlong) ⟨e,?_⟩⟩)
 rw [hnew]
 exact ⟨.ref _,_,I.lnew (t':=s.toks) (r.rep k.toNat) (by rw [len_rep,Nat.mul_comm]; exact hz),rfl,q _ I.fresh⟩
end
section
variable {prog:Program} {w:World} {A:Around} {E:Value -> Shared -> Prop} {s:Shared}
set_option maxRecDepth 100000 in
end
section
variable {X:Cx}
end
end L2
namespace Att
open PySem PySem.W PySem.Calls PyProof.Rows
theorem ints_of_wellAll {P:Params} {h:Heap}:∀ (ns:List Int) (vs:List Value),WellAll P h vs (ns.map WData.int) -> IntsAre vs ns:=by
 intro ns
 induction ns with
 | nil=>
  intro vs w
  rw [List.map_nil] at w
  cases w
  exact .nil
 | cons n ns ih=>
  intro vs w
  rw [List.map_cons] at w
  cases w with
  | cons a b=>
   cases a
   exact .cons _ _ (ih _ b)
theorem script_of {l:OpenLaw} {n:Nat} (hn:l.most = some n) {P:Params} {h:Heap} {args:List WData} {vals:List Value}
  (hpre:l.row.toRowW.claim.pre args = true) (hwl:WellAll P h vals args) :
  ∃ a vs ns,vals = [Value.ref a] /\ args = [WData.list (ns.map WData.int)] /\ h.get? a = some { cls:=.type "list",data:=.seq vs.toArray } /\ IntsAre vs ns /\ ns.length <= n:=by
 have hsh:WShape.hasAll [] args [.list .int] = true:=(pre_splitW hpre).1
 have hc:l.pre.holds [] { args:=args } = true:=(pre_splitW hpre).2
 obtain ⟨d,r,rfl,h1,h2⟩:=hasAllW_cons hsh
 obtain rfl:=hasAllW_nil h2
 obtain ⟨xs,rfl,h3⟩:=hasW_list h1
 obtain ⟨ns,rfl⟩:=items_int h3
 have hlen:ns.length <= n:=by
  unfold OpenLaw.pre at hc
  have h4:(WTm.not (.lt (.lit (.int (n:Int))) (.len (.arg 0)))).holds [] { args:=[.list (ns.map .int)] } = true:=by
   have h4:=(holds_andW hc).1
   rw [hn] at h4
   exact h4
  have h5:=condW_of h4 (w_not (w_lt w_lit (w_len_list (w_arg rfl))))
  rw [List.length_map] at h5
  refine Nat.le_of_not_lt fun q=>?_
  have q':(n:Int) < ((ns.length:Nat):Int):=by omega
  first
   | (rw [decide_eq_true q'] at h5; exact absurd h5 (by decide))
   | (simp at h5; omega)
 cases hwl with
 | cons w1 w2=>
  cases w2
  cases w1 with
  | list ho hall=>exact ⟨_,_,ns,rfl,rfl,ho,ints_of_wellAll ns _ hall,hlen⟩
theorem post_true (l:OpenLaw) (args:List WData):l.row.toRowW.claim.post args (.bool true) args = true:=
 postW_of (r:=l.row.toRowW) (X:=(true == true))
  (show WShape.has [] (.bool true) .bool = true by first | rfl | decide | simp [WShape.has,WShape.arms,WShape.armsAll])
  (show (WTm.eq .res (.lit (.bool true))).value [] { args:=args,res:=some (.bool true),after:=args } = some (.bool (true == true)) from w_eq_bool (w_res rfl) w_lit) rfl
theorem attach_call {l:OpenLaw} {n:Nat} {q:Program} {loose:List Str} {XP:(Str -> Option Value) -> Heap -> Prop} {YP:World -> Heap -> Prop} {d:DefRec}
  (hn:l.most = some n) (hdf:d.params.defaults = [])
  (call:∀ (w:World) (s₀ s₁:Shared) (mg mb:Str -> Option Value) (fa:Addr) (o:Obj) (pm cd doc:Value) (a:Addr) (vs:List Value) (ns:List Int),
   Ground q loose [] XP w s₀ mg mb s₁.heap -> YP w s₁.heap ->
   s₁.heap.get? fa = some o -> o.data = .func (docDef d.name d.params d.body d.scope pm cd doc) -> s₁.heap.CodeRec cd d.name -> mg d.name = some (.ref fa) ->
   s₁.heap.get? a = some { cls:=.type "list",data:=.seq vs.toArray } -> IntsAre vs ns -> ns.length <= n -> s₁.gens = #[] ->
   codeAny (model l.prog w) callerA (.call (.ref fa) ⟨[.ref a],[]⟩) (fun r s'=>r = .ok (.ret (.bool true)) /\ OldK s₁.heap s'.heap /\ s'.os = s₁.os /\ AllBare s'.gens) s₁) :
  WalkO q loose XP YP l.row.toRowW d [] (fun f vs=>PySem.call f vs):=by
 intro w s₀ s₁ mg mb G Y fa o pm cd doc dV kV ho hd hcd hD hmg hg args vals as hpre hlay hrd hwl hlo
 obtain rfl:dV = .none:=Dflts.none hD hdf
 obtain rfl:kV = .none:=Dflts.noKw hD
 obtain ⟨a,vs,ns,rfl,rfl,hobj,hints,hlen⟩:=script_of hn hpre hwl
 refine enter_call (codeAny_mono (call w s₀ s₁ mg mb fa o pm cd doc a vs ns G Y ho (fd_plain hd) hcd hmg hobj hints hlen hg) fun r s' hq=>?_)
 obtain ⟨rfl,h2,h3,h4⟩:=hq
 exact ⟨.inl ⟨.bool true,.bool true,[],rfl,fun _=>rfl,.bool true,post_true l _,fun _=>⟨List.Pairwise.nil,fun _ hm=>(nomatch hm)⟩⟩,h2,h3,h4⟩
section
variable {prog:Program} {w:World} {A:Around} {E:Value -> Shared -> Prop} {s:Shared} {K:Frag}
end
end Att
namespace L2
open PySem PySem.Spec PyProof.Rows
theorem vals_ints:∀ {vs:List Value} {ns:List Int},IntsAre vs ns -> Vals (ns.map V.int) vs
 | _,_,.nil=>.nil
 | _,_,.cons n t h=>.cons ⟨t,rfl⟩ (vals_ints h)
noncomputable def Only (H:Hp):Prop:=∀ b,H b = none \/ ∃ o xs,H b = some (.frz o (.lst xs))
theorem law_call {P:Program} {w:World} {K:PySem.W.Frag} {mg mb:Str -> Option Value} {CX:CXT} {k:Nat} {fa a:Addr} {fd:FuncData} {x:Str} {sp:Sp} {s₁:Shared} {vs:List Value} {ns:List Int}
  (KX:K.In s₁.heap) (hns:s₁.heap.Ns mainGlobals mg) (hb:s₁.heap.Ns builtinsNs mb) (hbb:∀ x:Str,x ≠ "__name__" -> mb x = bootBuiltins x) (hlim:s₁.heap.NoLimit) (hg:s₁.gens = #[])
  (ha:s₁.heap.get? a = some { cls:=.type "list",data:=.seq vs.toArray }) (hi:IntsAre vs ns) (hl:ns.length <= sizeLine) (hr:Room k callerA)
  (F:∀ base:Heap,K.In base -> base.Ns mainGlobals mg -> FnOk P w K mg base CX k fa fd [x] sp) (hbind:∀ (s:Shared) (u:Value),BindsTo s fd ⟨[u],[]⟩ [(x,u)])
  (hsp:∀ H:Hp,Only H -> SqL K H a (ns.map V.int) -> sp [.ref a] H (fun v _=>v = .bl true) fun _ _ _=>False)
  (hCX:∀ H e s',CX [] H s₁ (fun _ _ _=>False) e s' -> False) :
  codeAny (model P w) callerA (.call (.ref fa) ⟨[.ref a],[]⟩) (fun r s'=>r = .ok (.ret (.bool true)) /\ OldK s₁.heap s'.heap /\ s'.os = s₁.os /\ AllBare s'.gens) s₁:=by
 have rv:=vals_ints hi
 have lenV:=hi.length
 have core:∀ H:Hp,Only H -> SqL K H a (ns.map V.int) -> HOk P w H s₁.heap -> (∀ b,H b ≠ none -> b = a) -> (H a ≠ none -> K.lookup a = none) ->
   codeAny (model P w) callerA (.call (.ref fa) ⟨[.ref a],[]⟩) (fun r s'=>r = .ok (.ret (.bool true)) /\ OldK s₁.heap s'.heap /\ s'.os = s₁.os /\ AllBare s'.gens) s₁:=by
  intro H hO hS hok hA hK
  have base_of:∀ {b:Addr} {o:Obj},s₁.heap.get? b = some o -> H b = none -> (hidT s₁.heap H).get? b = some o:=fun e n=>hidT_get e n
  have noA:∀ {b:Addr} {o:Obj} {es:Array DictEntry} {ep:Nat},s₁.heap.get? b = some o -> o.data = .dict es ep -> H b = none:=fun {b o es ep} e d=>by
   cases q:H b with
   | none=>rfl
   | some u=>
    have e':b = a:=hA b (by rw [q]; simp)
    subst e'
    rw [ha] at e; cases e
    have d':Data.seq vs.toArray _ = Data.dict es ep:=d
    cases d'
  have nsK:∀ {b:Addr} {m:Str -> Option Value},s₁.heap.Ns b m -> (hidT s₁.heap H).Ns b m:=fun {b m} ⟨o,es,ep,e,d,r⟩=>⟨o,es,ep,base_of e (noA e d),d,r⟩
  have hKb:K.In (hidT s₁.heap H):=fun b o e=>base_of (KX b o e) (by
   cases q:H b with
   | none=>rfl
   | some u=>
    have e':b = a:=hA b (by rw [q]; simp)
    subst e'
    rw [hK (by rw [q]; simp)] at e; cases e)
  have hM:Mod K mg (hidT s₁.heap H):=⟨hKb,nsK hns,⟨mb,nsK hb,hbb⟩,let ⟨mc,h1,h2⟩:=hlim; ⟨mc,nsK h1,h2⟩⟩
  have e0:Env0 P w K mg (hidT s₁.heap H) callerA [] s₁ H:=⟨rfl,hM,fun b o e=>of_hidT e,Nat.le_of_eq (hidT_size _ _),trivial,fun b hb=>absurd (show b ∈ ([]:List Addr) from hb) (by simp),hok,.of_eq hg⟩
  refine codeAny_mono ((F _ hKb (nsK hns)).run callerA [] s₁ H ⟨[.ref a],[]⟩ [.ref a] [.ref a] _ _ hr e0 (hbind s₁ (.ref a)) (.cons rfl .nil) (hsp H hO hS)) fun r s' h=>?_
  cases r with
  | error e=>exact (hCX H e s' h).elim
  | ok fl=>
   cases fl with
   | next=>exact False.elim h
   | brk=>exact False.elim h
   | cont=>exact False.elim h
   | ret u=>
    obtain ⟨v,H',os,bare,un,hok',r',q⟩:=h
    have q':v = .bl true:=q
    subst q'
    obtain rfl:u = Value.bool true:=r'
    refine ⟨rfl,OldK.of_keep fun b o e=>?_,os,bare⟩
    cases q:H b with
    | none=>exact un.keep b o e q (by intro z; exact absurd (show b ∈ ([]:List Addr) from z) (by simp)) (by simp)
    | some u=>
     rcases hO b with z | ⟨ob,xs,z⟩
     ·rw [q] at z; cases z
     ·have z2:=un.frzs b ob _ z
      obtain ⟨e1,_⟩:=hok b _ z
      obtain ⟨e2,_⟩:=hok' b _ z2
      rw [e] at e1; cases e1
      exact e2
 cases hk:K.lookup a with
 | some o=>
  have e:=KX a o hk
  rw [ha] at e
  cases e
  refine core (fun _=>none) (fun _=>.inl rfl) (.inr ⟨_,vs.toArray,_,hk,rfl,rfl,rfl,by rw [List.size_toArray,lenV]; exact hl,by simpa using rv⟩) (fun b u z=>by have z':(none:Option HO) = some u:=z; cases z') (fun b z=>absurd rfl z) fun z=>absurd rfl z
 | none=>
  refine core (fun b=>if b = a then some (.frz { cls:=.type "list",data:=.seq vs.toArray } (.lst (ns.map V.int))) else none) (fun b=>?_) (.inl (.inr ⟨{ cls:=.type "list",data:=.seq vs.toArray },if_pos rfl⟩)) (fun b u z=>?_) (fun b z=>?_) fun _=>hk
  ·by_cases hb:b = a
   ·exact .inr ⟨_,_,if_pos hb⟩
   ·exact .inl (if_neg hb)
  ·by_cases hb:b = a
   ·have z':=(if_pos hb).symm.trans z
    cases z'
    subst hb
    exact ⟨ha,by rw [List.length_map]; exact hl,vs,_,rv,ha⟩
   ·have z':=(if_neg hb).symm.trans z
    cases z'
  ·by_cases hb:b = a
   ·exact hb
   ·exact absurd (if_neg hb) z
end L2
namespace L2
open PySem PySem.Spec PyProof.Rows
noncomputable abbrev KOf {K:PySem.W.Frag} {h:Heap} (_:K.In h):PySem.W.Frag:=K
theorem walk_of {l:PySem.W.OpenLaw} {n k:Nat} {q:Program} {loose:List Str} {XP:(Str -> Option Value) -> Heap -> Prop} {YP:World -> Heap -> Prop} {d:DefRec} {K:Params -> PySem.W.Frag} {CX:World -> CXT} {sp:World -> Sp} {x:Str}
  (hn:l.most = some n) (hn2:n <= sizeLine) (hdf:d.params.defaults = []) (hr:Room k callerA)
  (hY:∀ (w:World) (h:Heap),YP w h -> (K w.params).In h)
  (F:∀ (w:World) (mg:Str -> Option Value) (fa:Addr) (h:Heap),(K w.params).In h -> h.Ns mainGlobals mg -> mg d.name = some (.ref fa) ->
   ∃ fd:FuncData,(∀ (s:Shared) (u:Value),BindsTo s fd ⟨[u],[]⟩ [(x,u)]) /\
    ∀ base:Heap,(K w.params).In base -> base.Ns mainGlobals mg -> FnOk l.prog w (K w.params) mg base (CX w) k fa fd [x] (sp w))
  (hsp:∀ (w:World) (H:Hp) (a:Addr) (ns:List Int),ns.length <= n -> Only H -> SqL (K w.params) H a (ns.map V.int) -> sp w [.ref a] H (fun v _=>v = .bl true) fun _ _ _=>False)
  (hCX:∀ (w:World) (H:Hp) (s:Shared) (e:Value) (s':Shared),CX w [] H s (fun _ _ _=>False) e s' -> False) :
  PySem.W.WalkO q loose XP YP l.row.toRowW d [] (fun f vs=>PySem.call f vs):=by
 refine Att.attach_call hn hdf fun w s₀ s₁ mg mb fa o pm cd doc a vs ns G Y ho hd hcd hmg hobj hints hlen hg=>?_
 have KX:=hY w _ Y
 obtain ⟨fd,hb,hF⟩:=F w mg fa _ KX G.T.g hmg
 exact law_call KX G.T.g G.T.b G.T.builtins G.T.nolimit hg hobj hints (Nat.le_trans hlen hn2) hr hF hb (fun H hO hS=>hsp w H a ns hlen hO hS) fun H e s'=>hCX w H s₁ e s'
end L2
namespace L2
open PySem PySem.Spec PyProof.Rows
noncomputable def defArgs (s:Stmt):Arguments:=match s with
 | .FunctionDef _ a _ _ _ _ _ _ _ _=>a
 | _=>{ posonlyargs:=[],args:=[],vararg:=none,kwonlyargs:=[],kw_defaults:=[],kwarg:=none,defaults:=[] }
noncomputable def defBody (s:Stmt):List Stmt:=match s with
 | .FunctionDef _ _ b _ _ _ _ _ _ _=>b
 | _=>[]
noncomputable def defScope (s:Stmt):Scope:=match s with
 | .FunctionDef _ _ _ _ _ _ sc _ _ _=>sc
 | _=>{ kind:=.function,names:=[],isGenerator:=false,isCoroutine:=false }
noncomputable abbrev CX0:CXT:=fun _ _ _ _ _ _=>False
noncomputable abbrev E0:XK:=fun _ _ _=>False
theorem pass0 {X:Cx}:Passes CX0 X E0:=fun _ _ _ _ _ _ _ h=>h.elim
structure Fun (K:PySem.W.Frag) (x qual:Str) (st:Stmt) (f:Addr) (fd:FuncData):Prop where
 ex:∃ (oc:Value) (od:Option Addr) (kV doc pm:Value) (an:Option Addr) (cdv ct:Value) (osl:Array (Option Value)),
  fd = PySem.W.fnOf x qual (defArgs st) (defBody st) (defScope st) .none kV doc pm an cdv ct /\ K.lookup f = some ⟨oc,od,.func fd,osl⟩ /\ PySem.W.codeIn K cdv qual = true
 kp:PySem.W.keepIn K (.ref f) = true
section
variable {P:Program} {w:World} {K:PySem.W.Frag} {mg:Str -> Option Value} {base:Heap}
theorem Fun.ok {x qual:Str} {st:Stmt} {f:Addr} {fd:FuncData} {N ps:List Str} {k:Nat} {sp:Sp} (F:Fun K x qual st f fd) (S:FnScope N ps (defScope st)) (len:∀ vs H Q E,sp vs H Q E -> vs.length = ps.length)
  (hbody:∀ (cdv:Value) (A:Around) (outer:List Env) (s:Shared) (H:Hp) (vs:List V) (Q:VK) (E:XK),Room k (A.deeper (envOfC qual (defScope st) s.heap.objs.size f cdv)) -> sp vs H Q E ->
   ∃ t,PSs (cxOf CX0 P w K mg base N qual (defScope st) f cdv A outer s H E).nox (defBody st) t /\ t { nx:=fun _ H'=>Q .non H',rt:=Q } (start N vs) H):FnOk P w K mg base CX0 (k + 1) f fd ps sp:=by
 obtain ⟨oc,od,kV,doc,pm,an,cdv,ct,osl,rfl,lk,hcd⟩:=F.ex
 refine fn_of lk hcd S len fun A outer s H vs Q E hr hsp=>?_
 obtain ⟨t,h,q⟩:=hbody cdv A outer s H vs Q E hr hsp
 exact ⟨t,h.nox,q⟩
theorem Fun.binds {x qual:Str} {st:Stmt} {f:Addr} {fd:FuncData} {ps:List Str} (F:Fun K x qual st f fd)
  (h:∀ (kV doc pm:Value) (an:Option Addr) (cdv ct:Value) (us:List Value),us.length = ps.length -> bindArgs (PySem.W.fnOf x qual (defArgs st) (defBody st) (defScope st) .none kV doc pm an cdv ct) ⟨us,[]⟩ = pure (ps.zip us)):Binds K fd ps []:=by
 obtain ⟨oc,od,kV,doc,pm,an,cdv,ct,osl,rfl,lk,hcd⟩:=F.ex
 exact .all (h kV doc pm an cdv ct)
theorem fun_mk {x qual:Str} {st:Stmt} {f:Addr} {oc:Value} {od an:Option Addr} {osl:Array (Option Value)} {kV doc pm cdv ct:Value} (l:K.lookup f = some ⟨oc,od,.func (PySem.W.fnOf x qual (defArgs st) (defBody st) (defScope st) .none kV doc pm an cdv ct),osl⟩)
  (c:PySem.W.codeIn K cdv qual = true) (k:PySem.W.keepIn K (.ref f) = true):Fun K x qual st f (PySem.W.fnOf x qual (defArgs st) (defBody st) (defScope st) .none kV doc pm an cdv ct):=⟨⟨oc,od,kV,doc,pm,an,cdv,ct,osl,rfl,l,c⟩,k⟩
end
theorem hu_of {A:Around} {k:Nat} (hr:Room k A):A.units + 1 < cLine:=Nat.lt_of_le_of_lt (Nat.add_le_add_left (by decide:1 <= 64) _) hr.units
theorem small1000 {n:Nat} (h:n <= 1000):n < sizeLine:=Nat.lt_of_le_of_lt h (by decide)
section
variable {X:Cx}
theorem pv (i:Nat) {x:Str} {pos:Pos} (hN:X.N[i]? = some x:=by rfl) (hv:Vis X.env.scope x:=by first | exact Or.inl rfl | exact Or.inr (Or.inl rfl) | exact Or.inr (Or.inr rfl)) (hd:(x == ("__debug__" : Str)) = false:=by decide)
  (hcd:(x == ("__classdict__" : Str)) = false:=by decide):PE X (.Name x pos) (tVar i):=pe_var hN hv hd hcd
end
noncomputable def Same (H H':Hp):Prop:=∀ b o,H b = some o -> H' b = some o
theorem Same.refl (H:Hp):Same H H:=fun _ _ h=>h
theorem Same.trans {H H1 H2:Hp} (a:Same H H1) (b:Same H1 H2):Same H H2:=fun c o h=>b c o (a c o h)
theorem Same.free {H H':Hp} (e:Same H H') {l:Addr} (h:H' l = Option.none):H l = Option.none:=by
 cases q:H l with
 | none=>rfl
 | some o=>
  rw [e l o q] at h
  cases h
theorem Same.seq {K:PySem.W.Frag} {H H':Hp} {a:Addr} {xs:List V} (e:Same H H') (h:SqL K H a xs):SqL K H' a xs:=by
 rcases h with (h | ⟨o,h⟩) | h
 ·exact .inl (.inl (e _ _ h))
 ·exact .inl (.inr ⟨o,e _ _ h⟩)
 ·exact .inr h
end L2
set_option maxHeartbeats 4000000
namespace L2
open PySem PySem.Spec PyProof.Rows
theorem compLoop_any {prog:Program} {w:World} {A:Around} {R:Result -> Shared -> Prop} {s:Shared} {elt target iter:Expr} {ifs:List Expr} {scope:Scope} {pos:Pos} {it acc:Value} {env:Env} (I:Nat -> Shared -> Prop)
  (turn:∀ n s,I n s -> wpAny (model prog w) A (pyNext it) (fun r s1=>match r with
   | none=>R (.ok .next) s1
   | some v=>wpAny (model prog w) A (letOwnedTupleGo target it v) (fun _ s2=>wpAny (model prog w) A (assign target env v) (fun _ s3=>
     wpAny (model prog w) A (forIn ifs true fun c r=>if r = true then do let ok <- isTrue c env (eval c env); pure (ForInStep.yield ok) else pure (ForInStep.yield r)) (fun ok s4=>
      if ok = true then wpAny (model prog w) A (eval elt env) (fun x s5=>
       wpAny (model prog w) A (call (.builtin "list.append") [acc,x]) (fun _ s6=>∃ m,m < n /\ I m s6) (fun _ _=>False) s5) (fun _ _=>False) s4
      else ∃ m,m < n /\ I m s4) (fun _ _=>False) s3) (fun _ _=>False) s2) (fun _ _=>False) s1) (fun _ _=>False) s)
  (n:Nat) (h:I n s) :
  codeAny (model prog w) A (.compLoop (.ListComp elt [⟨target,iter,ifs,0⟩] scope pos) 0 it acc env) R s:=by
 refine codeAny_loop rfl I (fun n s hI=>?_) n h
 show wpAny _ A ((compTurn (.ListComp elt [⟨target,iter,ifs,0⟩] scope pos) 0 it acc env).onRaise (fun x=>do noteFrame x env; theTreesLotGoes x)) _ _ s
 refine wpAny_noted ?_
 rw [compTurn_list]
 refine wpAny_bind (wpAny_standAt (wpAny_bind (wpAny_mono (turn n s hI) (fun r s1 h1=>?_) fun _ _ h'=>h'.elim)))
 cases r with
 | none=>exact wpAny_pure h1
 | some v=>
  refine wpAny_bind (wpAny_mono h1 (fun _ s2 h2=>?_) fun _ _ h'=>h'.elim)
  refine wpAny_bind (wpAny_mono h2 (fun _ s3 h3=>wpAny_bind (wpAny_mono h3 (fun ok s4 h4=>?_) fun _ _ h'=>h'.elim)) fun _ _ h'=>h'.elim)
  cases ok with
  | false=>exact wpAny_pure ⟨rfl,h4⟩
  | true=>
   exact wpAny_bind (wpAny_bind (wpAny_mono h4 (fun x s5 h5=>wpAny_bind (wpAny_mono h5 (fun _ s6 h6=>wpAny_pure (wpAny_pure ⟨rfl,h6⟩)) fun _ _ h'=>h'.elim)) fun _ _ h'=>h'.elim))
noncomputable def clGo (env:Env):List (Str × NameKind) -> List (Str × Addr) -> List (Str × Addr)
 | [],acc=>acc
 | (n,k) :: r,acc=>if (k == .free) = true then (match env.cells.lookup n with
   | some a=>clGo env r ((n,a) :: acc)
   | none=>clGo env r acc) else clGo env r acc
theorem closure_go {env:Env}:∀ (names:List (Str × NameKind)) (acc:List (Str × Addr)),(∀ x ∈ names,x.2 = .free -> ∃ a,env.cells.lookup x.1 = some a) ->
  (forIn names acc fun (x:Str × NameKind) (cs:List (Str × Addr))=>(if (x.2 == NameKind.free) = true then (do let c <- cellOf env x.1; pure (ForInStep.yield ((x.1,c) :: cs))) else pure (ForInStep.yield cs):Sem (ForInStep (List (Str × Addr))))) = (pure (clGo env names acc):Sem (List (Str × Addr)))
 | [],acc,_=>rfl
 | (n,k) :: r,acc,h=>by
  have ih:=fun acc'=>closure_go (env:=env) r acc' fun x hx=>h x (List.mem_cons_of_mem _ hx)
  rw [List.forIn_cons]
  unfold clGo
  by_cases hk:(k == NameKind.free) = true
  ·obtain ⟨a,ha⟩:=h (n,k) List.mem_cons_self (by simpa using hk)
   have ha':env.cells.lookup n = some a:=ha
   simp only [hk,if_true,cellOf,ha',pure_bind]
   exact ih _
  ·have hk':(k == NameKind.free) = false:=by simpa using hk
   simp only [hk',if_false,Bool.false_eq_true,pure_bind]
   exact ih _
theorem closure_is {env:Env} {scope:Scope} (h:∀ x ∈ scope.names,x.2 = .free -> ∃ a,env.cells.lookup x.1 = some a):closureFor scope env = pure (clGo env scope.names []):=by
 have e:=closure_go (env:=env) scope.names [] h
 simp only [closureFor]
 exact (congrArg (fun z=>z >>= fun cs=>pure cs) e).trans (by simp)
theorem clGo_sub {env:Env}:∀ {names:List (Str × NameKind)} {acc:List (Str × Addr)} {x:Str} {c:Addr},(clGo env names acc).lookup x = some c -> acc.lookup x = some c \/ env.cells.lookup x = some c
 | [],acc,x,c,h=>.inl h
 | (n,k) :: r,acc,x,c,h=>by
  unfold clGo at h
  by_cases hk:(k == NameKind.free) = true
  ·rw [if_pos hk] at h
   cases e:env.cells.lookup n with
   | none=>rw [e] at h; exact clGo_sub h
   | some a=>
    rw [e] at h
    rcases clGo_sub h with z | z
    ·by_cases hx:x = n
     ·subst hx
      rw [List.lookup_cons] at z
      simp at z
      subst z
      exact .inr e
     ·rw [List.lookup_cons] at z
      have:(x == n) = false:=by simpa using hx
      rw [this] at z
      exact .inl z
    ·exact .inr z
  ·rw [if_neg hk] at h
   exact clGo_sub h
theorem clGo_keep {env:Env}:∀ {names:List (Str × NameKind)} {acc:List (Str × Addr)} {x:Str} {c:Addr},acc.lookup x = some c -> ∃ c',(clGo env names acc).lookup x = some c'
 | [],acc,x,c,h=>⟨c,h⟩
 | (n,k) :: r,acc,x,c,h=>by
  unfold clGo
  by_cases hk:(k == NameKind.free) = true
  ·rw [if_pos hk]
   cases e:env.cells.lookup n with
   | none=>exact clGo_keep h
   | some a=>
    by_cases hx:x = n
    ·subst hx
     exact clGo_keep (c:=a) (by rw [List.lookup_cons]; simp)
    ·refine clGo_keep (c:=c) ?_
     rw [List.lookup_cons]
     have:(x == n) = false:=by simpa using hx
     rw [this]
     exact h
  ·rw [if_neg hk]
   exact clGo_keep h
theorem clGo_has {env:Env}:∀ {names:List (Str × NameKind)} {acc:List (Str × Addr)} {x:Str},(∀ y ∈ names,y.2 = .free -> ∃ a,env.cells.lookup y.1 = some a) -> (x,NameKind.free) ∈ names -> ∃ c,(clGo env names acc).lookup x = some c
 | [],acc,x,_,h=>by cases h
 | (n,k) :: r,acc,x,ha,h=>by
  unfold clGo
  rcases List.mem_cons.mp h with z | z
  ·injection z with e1 e2
   subst e1
   subst e2
   rw [if_pos (by simp)]
   obtain ⟨a,e⟩:=ha (x,.free) List.mem_cons_self rfl
   have e':env.cells.lookup x = some a:=e
   rw [e']
   exact clGo_keep (c:=a) (by rw [List.lookup_cons]; simp)
  ·have ih:=fun acc'=>clGo_has (acc:=acc') (fun y hy=>ha y (List.mem_cons_of_mem _ hy)) z
   by_cases hk:(k == NameKind.free) = true
   ·rw [if_pos hk]
    cases e:env.cells.lookup n with
    | none=>exact ih _
    | some a=>exact ih _
   ·rw [if_neg hk]
    exact ih _
theorem relabel_kind {env:Env}:∀ {names:List (Str × NameKind)} {x:Str} {k:NameKind},
  (names.map fun (n,k)=>if (k == NameKind.free && env.scope.kind == .function && env.kindOf n == some .cell) then (n,NameKind.cell) else (n,k)).lookup x = some k -> (k = .cell \/ k = .free) -> (∀ y ∈ names,y.2 ≠ .cell) -> (x,NameKind.free) ∈ names
 | [],_,_,h,_,_=>by cases h
 | (n,q) :: r,x,k,h,hk,hc=>by
  have ih:=@relabel_kind env r x k
  rw [List.map_cons] at h
  by_cases hq:(q == NameKind.free && env.scope.kind == .function && env.kindOf n == some .cell) = true
  ·have hqf:q = .free:=by
    have:=(Bool.and_eq_true_iff.mp (Bool.and_eq_true_iff.mp hq).1).1
    simpa using this
   simp only [hq,if_true] at h
   by_cases hx:x = n
   ·subst hx; rw [hqf]; exact List.mem_cons_self
   ·rw [List.lookup_cons] at h
    have:(x == n) = false:=by simpa using hx
    rw [this] at h
    exact List.mem_cons_of_mem _ (ih h hk fun y hy=>hc y (List.mem_cons_of_mem _ hy))
  ·have hq':(q == NameKind.free && env.scope.kind == .function && env.kindOf n == some .cell) = false:=by simpa using hq
   simp only [hq',Bool.false_eq_true,if_false] at h
   by_cases hx:x = n
   ·subst hx
    rw [List.lookup_cons] at h
    simp at h
    subst h
    rcases hk with z | z
    ·exact absurd z (hc (x,q) List.mem_cons_self)
    ·rw [z]; exact List.mem_cons_self
   ·rw [List.lookup_cons] at h
    have:(x == n) = false:=by simpa using hx
    rw [this] at h
    exact List.mem_cons_of_mem _ (ih h hk fun y hy=>hc y (List.mem_cons_of_mem _ hy))
noncomputable def cxC (X:Cx) (N:List Str) (scope:Scope) (cl:List (Str × Addr)) (fp:List Addr) (s:Shared) (H:Hp):Cx where
 prog:=X.prog
 w:=X.w
 K:=X.K
 mg:=X.mg
 base:=X.base
 A:=X.A
 N:=N
 s₀:=s
 H₀:=H
 env:=compEnvC scope cl s.heap.objs.size X.env
 outer:=X.stack
 stack:=X.stack
 ex:=fp
 fn:=fun _=>false
 calm:=X.calm
 pn:=[]
 xe:=fun _ _=>False
noncomputable def capS (cap:List (Option Nat)) (σ:St):St:=cap.map fun o=>match o with
 | some j=>(σ[j]?).join
 | none=>none
noncomputable def capOk (XN N:List Str) (XS scope:Scope) (cap:List (Option Nat)):Bool:=
 (cap.length == N.length) && (List.range N.length).all (fun i=>match N[i]?,cap[i]? with
  | some x,some (some j)=>(XN[j]? == some x) && ((XS.names.lookup x == some .cell) || (XS.names.lookup x == some .free)) && (scope.names.lookup x == some .free)
  | some _,some none=>true
  | _,_=>false)
 && scope.names.all (fun y=>y.2 != .cell) && scope.names.all (fun y=>y.2 != .free || (XS.names.lookup y.1 == some .cell) || (XS.names.lookup y.1 == some .free))
 && scope.names.all (fun y=>y.2 != .local || (scope.names.lookup y.1 == some .local))
theorem relabel_free {env:Env}:∀ {names:List (Str × NameKind)} {x:Str},names.lookup x = some .free ->
  (names.map fun (n,k)=>if (k == NameKind.free && env.scope.kind == .function && env.kindOf n == some .cell) then (n,NameKind.cell) else (n,k)).lookup x = some .cell \/
  (names.map fun (n,k)=>if (k == NameKind.free && env.scope.kind == .function && env.kindOf n == some .cell) then (n,NameKind.cell) else (n,k)).lookup x = some .free
 | [],_,h=>by cases h
 | (n,q) :: r,x,h=>by
  have ih:=@relabel_free env r x
  rw [List.map_cons]
  by_cases hx:x = n
  ·subst hx
   rw [List.lookup_cons] at h
   simp at h
   subst h
   by_cases hq:(NameKind.free == NameKind.free && env.scope.kind == .function && env.kindOf x == some .cell) = true
   ·left
    simp only [hq,if_true]
    rw [List.lookup_cons]; simp
   ·right
    have hq':(NameKind.free == NameKind.free && env.scope.kind == .function && env.kindOf x == some .cell) = false:=by simpa using hq
    simp only [hq',Bool.false_eq_true,if_false]
    rw [List.lookup_cons]; simp
  ·have hn:(x == n) = false:=by simpa using hx
   rw [List.lookup_cons,hn] at h
   have ih':=ih h
   by_cases hq:(q == NameKind.free && env.scope.kind == .function && env.kindOf n == some .cell) = true
   ·simp only [hq,if_true]
    rw [List.lookup_cons,hn]
    exact ih'
   ·have hq':(q == NameKind.free && env.scope.kind == .function && env.kindOf n == some .cell) = false:=by simpa using hq
    simp only [hq',Bool.false_eq_true,if_false]
    rw [List.lookup_cons,hn]
    exact ih'
structure CapFacts (X:Cx) (N:List Str) (scope:Scope) (cap:List (Option Nat)):Prop where
 len:cap.length = N.length
 slot:∀ (i:Nat) (x:Str) (j:Nat),N[i]? = some x -> cap[i]? = some (some j) -> X.N[j]? = some x /\ (X.env.kindOf x = some .cell \/ X.env.kindOf x = some .free) /\ scope.names.lookup x = some .free
 nocell:∀ y ∈ scope.names,y.2 ≠ .cell
 free:∀ y ∈ scope.names,y.2 = .free -> (X.env.kindOf y.1 = some .cell \/ X.env.kindOf y.1 = some .free)
 loc:∀ y ∈ scope.names,y.2 = .local -> scope.names.lookup y.1 = some .local
theorem capFacts_of {X:Cx} {XN N:List Str} {XS scope:Scope} {cap:List (Option Nat)} (hN:X.N = XN) (hS:X.env.scope = XS) (h:capOk XN N XS scope cap = true):CapFacts X N scope cap:=by
 subst hN
 subst hS
 unfold capOk at h
 rw [Bool.and_eq_true,Bool.and_eq_true,Bool.and_eq_true,Bool.and_eq_true] at h
 obtain ⟨⟨⟨⟨h1,h2⟩,h3⟩,h4⟩,h5⟩:=h
 rw [List.all_eq_true] at h2 h3 h4 h5
 have hlen:cap.length = N.length:=by simpa using h1
 refine ⟨hlen,fun i x j e1 e2=>?_,fun y hy z=>?_,fun y hy z=>?_,fun y hy z=>?_⟩
 ·have hi:i < N.length:=(List.getElem?_eq_some_iff.mp e1).1
  have q:=h2 i (List.mem_range.mpr hi)
  rw [e1,e2] at q
  dsimp only at q
  rw [Bool.and_eq_true,Bool.and_eq_true,Bool.or_eq_true] at q
  obtain ⟨⟨q1,q2⟩,q3⟩:=q
  refine ⟨by simpa using q1,?_,by simpa using q3⟩
  rcases q2 with q2 | q2
  ·exact .inl (beq_iff_eq.mp q2)
  ·exact .inr (beq_iff_eq.mp q2)
 ·have q:=h3 y hy
  rw [z] at q
  exact absurd q (by decide)
 ·have q:=h4 y hy
  rw [z,Bool.or_eq_true,Bool.or_eq_true] at q
  rcases q with (q | q) | q
  ·exact absurd q (by decide)
  ·exact .inl (beq_iff_eq.mp q)
  ·exact .inr (beq_iff_eq.mp q)
 ·have q:=h5 y hy
  rw [z,Bool.or_eq_true] at q
  rcases q with q | q
  ·exact absurd q (by decide)
  ·simpa using q
section
variable {X:Cx} {N:List Str} {scope:Scope} {cap:List (Option Nat)} {fp:List Addr} {pins:List (Addr × Obj)} {σ:St} {H:Hp} {s:Shared}
theorem Inv.cells_of (I:Inv X pins σ H s) (cf:CapFacts X N scope cap):∀ y ∈ scope.names,y.2 = .free -> ∃ a,X.env.cells.lookup y.1 = some a:=fun y hy z=>I.ok.has y.1 (cf.free y hy z)
theorem cl_sub {x:Str} {c:Addr} (h:(clGo X.env scope.names []).lookup x = some c):X.env.cells.lookup x = some c:=by
 rcases clGo_sub h with z | z
 ·cases z
 ·exact z
theorem comp_loc (I:Inv X pins σ H s) (cf:CapFacts X N scope cap) (hf:∀ b ∈ fp,∀ x c,X.env.cells.lookup x = some c -> c ≠ b) {C:Addr} {H':Hp} {h':Heap} (u:Un (frs X.stack) fp H H' s.heap h') :
  ∀ (i:Nat) (x:Str) (v:V),N[i]? = some x -> (capS cap σ)[i]? = some (some v) -> ∃ w,RelV v w /\ ∀ m,Look (compEnvC scope (clGo X.env scope.names []) C X.env) h' m x w:=by
 intro i x v e1 e2
 unfold capS at e2
 rw [List.getElem?_map] at e2
 cases ec:cap[i]? with
 | none=>rw [ec] at e2; cases e2
 | some o=>
  rw [ec] at e2
  cases o with
  | none=>cases e2
  | some j=>
   have e3:(σ[j]?).join = some v:=Option.some.inj e2
   have e4:σ[j]? = some (some v):=by
    cases q:σ[j]? with
    | none=>rw [q] at e3; cases e3
    | some o'=>rw [q] at e3; exact congrArg some e3
   obtain ⟨k1,k2,k3⟩:=cf.slot i x j e1 ec
   obtain ⟨m,hn,hl⟩:=I.loc
   have vis:Vis X.env.scope x:=by
    rcases k2 with k | k
    ·exact .inr (.inl k)
    ·exact .inr (.inr k)
   obtain ⟨w,r,l⟩:=hl j x v k1 e4 vis
   refine ⟨w,r,fun m'=>?_⟩
   rcases l with ⟨hk,_⟩ | ⟨_,c,hc,o,ho,hd⟩
   ·rcases k2 with k | k
    ·rw [k] at hk; cases hk
    ·rw [k] at hk; cases hk
   ·obtain ⟨c',hc'⟩:=clGo_has (acc:=[]) (I.cells_of cf) (PySem.mem_of_lookup k3)
    have hcc:=cl_sub hc'
    rw [hc] at hcc
    cases hcc
    obtain ⟨sl,e⟩:=u.any ho (I.freeC x c hc) (fun z=>hf c z x c hc rfl)
    exact .inr ⟨relabel_free k3,c,hc',⟨_,e,hd⟩⟩
theorem Cx.Ok.comp (I:Inv X pins σ H s) (cf:CapFacts X N scope cap) (hk:scope.kind = .function) (hf:∀ b ∈ fp,FpOk X pins H b) (hb:∀ b ∈ fp,b < s.heap.objs.size):(cxC X N scope (clGo X.env scope.names []) fp s H).Ok:=by
 refine ⟨I.ok.mod,hk,I.ok.glob,I.ok.blt,Nat.le_refl _,fun x y c h1 h2=>I.ok.inj x y c (cl_sub h1) (cl_sub h2),fun x hx=>?_,fun x c z=>absurd (show false = true from z) Bool.false_ne_true,I.ok.hd,I.ok.frames,.inl rfl,fun b z=>⟨Nat.ne_of_lt (hb b z),fun x c h=>(hf b z).2.2.2.2.1 x c (cl_sub h)⟩,I.bs,Nat.le_trans I.ok.bsz I.sz,fun b o e z=>?_,fun b z q=>?_,I.stack,I.stkFree⟩
 ·have hx':(x,NameKind.free) ∈ scope.names:=by
   rcases hx with hx | hx
   ·exact relabel_kind hx (.inl rfl) cf.nocell
   ·exact relabel_kind hx (.inr rfl) cf.nocell
  exact clGo_has (acc:=[]) (I.cells_of cf) hx'
 ·rcases (hf b z).2.2.2.1 with q | q
  ·exact I.ok.noex b o e q
  ·exact absurd (Nat.lt_of_lt_of_le (Heap.lt_size e) (Nat.le_trans I.ok.bsz q)) (Nat.lt_irrefl _)
 ·rcases List.mem_cons.mp (I.stkSub b q) with e | e
  ·exact (hf b z).2.1 e
  ·exact (hf b z).2.2.1 e
theorem inv_comp (I:Inv X pins σ H s) (cf:CapFacts X N scope cap) (hk:scope.kind = .function) (hf:∀ b ∈ fp,FpOk X pins H b) (hb:∀ b ∈ fp,b < s.heap.objs.size) {h1:Heap} {m:Str -> Option Value} {tk:Nat}
  (hn:h1.Ns s.heap.objs.size m) (keep:∀ b o,s.heap.get? b = some o -> h1.get? b = some o):Inv (cxC X N scope (clGo X.env scope.names []) fp s H) [] (capS cap σ) H { s with heap:=h1,toks:=tk }:=by
 refine ⟨Cx.Ok.comp I cf hk hf hb,rfl,I.bare,Un.kept keep,⟨m,hn,fun i x v e1 e2 _=>?_⟩,fun x c h=>?_,I.hok.fresh (Nat.le_refl _),fun x c h=>I.freeC x c (cl_sub h),fun p hp=>absurd (show p ∈ ([]:List (Addr × Obj)) from hp) (by simp),I.hok.kept keep,?_⟩
 ·obtain ⟨w,r,l⟩:=comp_loc (C:=s.heap.objs.size) I cf (fun b z=>(hf b z).2.2.2.2.1) (Un.kept keep) i x v e1 e2
  exact ⟨w,r,l m⟩
 ·obtain ⟨v,o,ho,hd⟩:=I.cell x c (cl_sub h)
  exact ⟨v,o,keep c o ho,hd⟩
 ·unfold capS
  rw [List.length_map]
  exact cf.len
theorem inv_recap (I:Inv X pins σ H s) (cf:CapFacts X N scope cap) (hf:∀ b ∈ fp,FpOk X pins H b) {pins':List (Addr × Obj)} {σ':St} {H':Hp} {s':Shared} (J:Inv (cxC X N scope (clGo X.env scope.names []) fp s H) pins' σ' H' s') :
  Inv (cxC X N scope (clGo X.env scope.names []) fp s H) pins' (capS cap σ) H' s':=by
 refine ⟨J.ok,J.os,J.bare,J.base,?_,J.cell,J.free,J.freeC,J.pin,J.hok,?_⟩
 ·obtain ⟨m,hn,_⟩:=J.loc
  refine ⟨m,hn,fun i x v e1 e2 _=>?_⟩
  obtain ⟨w,r,l⟩:=comp_loc (C:=s.heap.objs.size) I cf (fun b z=>(hf b z).2.2.2.2.1) J.base i x v e1 e2
  exact ⟨w,r,l m⟩
 ·unfold capS
  rw [List.length_map]
  exact cf.len
theorem Inv.dropC {C:Addr} {h':Heap} (I:Inv X pins σ H s) (hC:FpOk X pins H C) (sb:Heap.SameBut C s.heap h'):Inv X pins σ H { s with heap:=h' }:=
 I.turned (t':=s.toks) (fun b o hb e=>(sb.2 b hb).trans e) hC.1 hC.2.1 hC.2.2.2.1 hC.2.2.2.2.1 hC.2.2.2.2.2
end
noncomputable def PTs (X:Cx) (ifs:List Expr) (t:TT):Prop:=
 ∀ (pins:List (Addr × Obj)) (s:Shared) (σ:St) (H:Hp) (Q:Bool -> Hp -> Prop),Inv X pins σ H s -> t σ H Q ->
  wpAny (model X.prog X.w) X.A (forIn ifs true fun c r=>if r = true then do let ok <- isTrue c X.env (eval c X.env); pure (ForInStep.yield ok) else pure (ForInStep.yield r)) (TP X pins σ Q) X.xe s
noncomputable def tYes:TT:=fun _ H Q=>Q true H
theorem pts_nil {X:Cx}:PTs X [] tYes:=fun _ _ _ H _ I h=>wpAny_tests_nil ⟨H,I,h⟩
theorem pts_one {X:Cx} {c:Expr} {t:TT} (h:PT X c t):PTs X [c] t:=fun pins s σ H Q I q=>wpAny_tests_one (h pins s σ H Q I q)
noncomputable def lcW (J:It) (g:TG) (tc:TT) (te:TE) (σ0:St) (Q:VK) (H1:Hp):Prop:=∀ d,H1 d = none ->
 ∃ W:Nat -> Nat -> Hp -> Prop,(∃ m,W 0 m (upd H1 d (.lst []))) /\ ∀ i m H,W i m H ->
  (J.stop i H /\ Q (.ref d) H) \/
  (J.go i H /\ ∀ x H',J.yld i H x H' -> g x σ0 H' fun σ2 H2=>tc σ2 H2 fun b H3=>
   if b = true then te σ2 H3 fun v H4=>∃ acc,H4 d = some (.lst acc) /\ acc.length < sizeLine /\ ∃ m',m' < m /\ W (i + 1) m' (upd H4 d (.lst (acc ++ [v])))
   else ∃ m',m' < m /\ W (i + 1) m' H3)
end L2
namespace L2
open PySem PySem.Spec PyProof.Rows
noncomputable def Tups (H H':Hp):Prop:=∀ b xs,H b = some (.tup xs) -> H' b = some (.tup xs)
theorem Same.tups {H H':Hp} (h:Same H H'):Tups H H':=fun b xs e=>h b _ e
theorem Same.upd_new {H:Hp} {d:Addr} {o:HO} (h:H d = none):Same H (upd H d o):=fun b u e=>by
 rw [upd_ne (ne_of_none e h)]; exact e
noncomputable def eqVs:List V -> List V -> Bool
 | [],[]=>true
 | x :: xs,y :: ys=>eqV x y && eqVs xs ys
 | _,_=>false
noncomputable def eqJ (xs ys:List V) (j:Nat):Bool:=match xs[j]?,ys[j]? with
 | some x,some y=>eqV x y
 | _,_=>false
theorem eqVs_all:∀ {xs ys:List V},xs.length = ys.length -> (List.range xs.length).all (eqJ xs ys) = eqVs xs ys
 | [],[],_=>rfl
 | x :: xs,y :: ys,h=>by
  have ih:=eqVs_all (xs:=xs) (ys:=ys) (by simpa using h)
  rw [List.length_cons,List.range_succ_eq_map,List.all_cons,List.all_map]
  unfold eqVs
  rw [<- ih]
  rfl
 | [],_ :: _,h=>by simp at h
 | _ :: _,[],h=>by simp at h
theorem eqVs_len:∀ {xs ys:List V},xs.length ≠ ys.length -> eqVs xs ys = false
 | [],[],h=>absurd rfl h
 | x :: xs,y :: ys,h=>by
  unfold eqVs
  rw [eqVs_len (by simpa using h),Bool.and_false]
 | [],_ :: _,_=>rfl
 | _ :: _,[],_=>rfl
section
variable {X:Cx}
theorem eqJ_at {A:Around} {s:Shared} {xs ys:List V} {its its2:List Value} (r:Vals xs its) (r2:Vals ys its2) (f:xs.all flatV = true) (f2:ys.all flatV = true) (j:Nat) (h1:j < its.toArray.size) (h2:j < its2.toArray.size) :
  SeqAt.EqAt A s its.toArray[j] its2.toArray[j] (eqJ xs ys j):=by
 have l1:=r.length
 have l2:=r2.length
 have k1:j < xs.length:=by rw [l1]; simpa using h1
 have k2:j < ys.length:=by rw [l2]; simpa using h2
 have e1:xs[j]? = some xs[j]:=by simp [k1]
 have e2:ys[j]? = some ys[j]:=by simp [k2]
 obtain ⟨u,hu,ru⟩:=r.get e1
 obtain ⟨v,hv,rv⟩:=r2.get e2
 have eu:its.toArray[j] = u:=by
  have:=(List.getElem?_eq_some_iff.mp hu).2
  simpa using this
 have ev:its2.toArray[j] = v:=by
  have:=(List.getElem?_eq_some_iff.mp hv).2
  simpa using this
 rw [eu,ev]
 have ej:eqJ xs ys j = eqV xs[j] ys[j]:=by unfold eqJ; rw [e1,e2]
 rw [ej]
 exact eqAt_V ru rv (List.all_eq_true.mp f _ (List.getElem_mem k1)) (List.all_eq_true.mp f2 _ (List.getElem_mem k2))
noncomputable def rEqL (K:PySem.W.Frag) (neg:Bool):R2:=fun x y H Q=>∃ a b xs ys,x = .ref a /\ y = .ref b /\ SqL K H a xs /\ SqL K H b ys /\ (xs.length ≠ ys.length \/ (xs.all flatV = true /\ ys.all flatV = true)) /\ Q (.bl (Bool.xor neg (eqVs xs ys))) H
theorem op_eqL (hu:X.A.units < cLine):OpR X (compareOp .Eq) (rEqL X.K false):=by
 intro pins s σ H x y v u Q I rx ry h
 obtain ⟨a,b,xs,ys,rfl,rfl,ha,hb,hc,q⟩:=h
 cases rx
 cases ry
 obtain ⟨its,r1,p1,_⟩:=I.list ha
 obtain ⟨its2,r2,p2,_⟩:=I.list hb
 have l1:=r1.length
 have l2:=r2.length
 rw [Bool.false_xor] at q
 by_cases hl:xs.length = ys.length
 ·obtain ⟨f1,f2⟩:=hc.resolve_left (fun z=>z hl)
  refine SeqAt.eq_listAt (e:=eqJ xs ys) p1.isList p2.isList (by simp only [List.size_toArray]; omega) hu (eqJ_at r1 r2 f1 f2) (fin_bl I q ?_)
  rw [<- eqVs_all hl,List.size_toArray,l1]
 ·refine SeqAt.eq_list_lengthsAt p1.isList p2.isList ?_ hu (fin_bl I q (eqVs_len hl))
  have:its.length ≠ its2.length:=by omega
  simpa using this
theorem op_neL (hu:X.A.units < cLine):OpR X (compareOp .NotEq) (rEqL X.K true):=by
 intro pins s σ H x y v u Q I rx ry h
 obtain ⟨a,b,xs,ys,rfl,rfl,ha,hb,hc,q⟩:=h
 cases rx
 cases ry
 obtain ⟨its,r1,p1,_⟩:=I.list ha
 obtain ⟨its2,r2,p2,_⟩:=I.list hb
 have l1:=r1.length
 have l2:=r2.length
 rw [Bool.true_xor] at q
 by_cases hl:xs.length = ys.length
 ·obtain ⟨f1,f2⟩:=hc.resolve_left (fun z=>z hl)
  refine SeqAt.RcNeAt.lists (e:=eqJ xs ys) p1.isList p2.isList (by simp only [List.size_toArray]; omega) hu (eqJ_at r1 r2 f1 f2) X.prog X.w X.xe _ (fin_bl I q ?_)
  rw [<- eqVs_all hl,List.size_toArray,l1]
 ·refine SeqAt.RcNeAt.lists_lengths p1.isList p2.isList ?_ hu X.prog X.w X.xe _ (fin_bl I q (by rw [eqVs_len hl]; rfl))
  have:its.length ≠ its2.length:=by omega
  simpa using this
noncomputable def clsV:V -> Option Value
 | .ty n=>some (.type n)
 | .ref a=>some (.ref a)
 | _=>none
theorem call_isinst:CallR X (.builtin "isinstance") (fun xs H Q=>∃ x c t cv b,xs = [x,c] /\ clsV c = some cv /\ TyOf X.K H x t /\ PySem.W.kitOne X.K t cv = some b /\ Q (.bl b) H):=by
 intro pins s σ H xs us Q I r h
 obtain ⟨x,c,t,cv,b,rfl,hc,ht,hk,q⟩:=h
 obtain ⟨u,w',rfl,rx,rc⟩:=vals2 r
 have ec:w' = cv:=by
  cases c with
  | ty n=>cases hc; exact rc
  | ref a=>cases hc; exact rc
  | _=>cases hc
 subst ec
 exact isinst_ok I rx ht hk fun tk=>⟨.bl b,H,I.tok tk,rfl,q⟩
noncomputable def CDivL (i j:Int):Prop:=0 < j /\ j.natAbs.log2 < 9000
theorem op_fdivL:OpR X (binaryOp .FloorDiv) (rI CDivL fun i j=>.int (i / j)):=opI fun i j _ _ _ _ _ hc q=>by
 have h1:(0:Int) < j:=hc.1
 exact floordiv_int (by omega) (by rw [Int.fdiv_eq_ediv_of_nonneg i (by omega)]; exact q) (.inl (PyProof.noPylong_of_log2 hc.2))
end
end L2
namespace L2
open PySem PySem.Spec PyProof.Rows
section
variable {X:Cx} {pins:List (Addr × Obj)} {σ:St} {H:Hp} {s:Shared} {h':Heap}
end
end L2
namespace L2
open PySem PySem.Spec PyProof.Rows
section
variable {prog:Program} {w:World} {A:Around} {E:Value -> Shared -> Prop} {s:Shared}
end
noncomputable def ItB (b:Bool) (h:Heap) (it l:Addr) (i:Nat):Prop:=match b with
 | true=>h.IsTupleIter it l i
 | false=>h.IsListIter it l i
noncomputable def SeB (b:Bool) (h:Heap) (l:Addr) (items:Array Value):Prop:=match b with
 | true=>h.IsTuple l items
 | false=>h.IsList l items
theorem ItB.at {b:Bool} {h h':Heap} {it l:Addr} {i:Nat} (x:ItB b h it l i) (k:∀ o,h.get? it = some o -> h'.get? it = some o):ItB b h' it l i:=by
 cases b with
 | true=>obtain ⟨o,ho,r⟩:=x; exact ⟨o,k o ho,r⟩
 | false=>obtain ⟨o,ho,r⟩:=x; exact ⟨o,k o ho,r⟩
theorem SeB.at {b:Bool} {h h':Heap} {l:Addr} {items:Array Value} (x:SeB b h l items) (k:∀ o,h.get? l = some o -> h'.get? l = some o):SeB b h' l items:=by
 cases b with
 | true=>obtain ⟨o,ho,r⟩:=x; exact ⟨o,k o ho,r⟩
 | false=>obtain ⟨o,ho,r⟩:=x; exact ⟨o,k o ho,r⟩
section
variable {prog:Program} {w:World} {A:Around} {E:Value -> Shared -> Prop} {s:Shared} {z TI TO i1 i2 l1 l2:Addr} {b1 b2:Bool} {k:Nat} {xs ys:Array Value} {x y a b:Value}
noncomputable def itT (b:Bool):String:=if b then "tuple_iterator" else "list_iterator"
end
end L2
namespace L2
open PySem PySem.Spec PyProof.Rows
end L2
namespace HT
open PySem PySem.Spec PyProof.Rows
section
variable {prog:Program} {w:World} {A:Around} {E:Value -> Shared -> Prop} {s:Shared}
theorem cat_none {t b:Addr} {ws:List Value} {Q:Value -> Shared -> Prop} (ht:IsTup s.heap t ([]:List Value).toArray) (hb:IsTup s.heap b ws.toArray) (h:Q (.ref b) s) :
  wpAny (model prog w) A (binaryOp .Add (.ref t) (.ref b)) Q E s:=by
 obtain ⟨⟨c1,d1,x1,l1⟩,g1,e1,n1,f1⟩:=id ht
 obtain ⟨⟨c2,d2,x2,l2⟩,g2,e2,n2,f2⟩:=id hb
 simp only at e1 f1 e2 f2
 subst e1 f1 e2 f2
 exact concat_meets ⟨_,g1,rfl⟩ ⟨_,g2,rfl⟩ noFill_tuple_add seq_tuple_add PySem.F.slot_tuple_add PySem.F.entry_tuple_add (PySem.F.args_tuple_add_2 _ _) (tuple_addW0 t b _ ws.toArray n1 n2 d1 d2 l1 l2 rfl) ⟨g1,g2,h⟩
theorem item_whole {t sl:Addr} {items:Array Value} {vl vu:Value} {lo hi:Option Int} {Q:Value -> Shared -> Prop} (ht:IsTup s.heap t items) (hs:s.heap.IsSliceOf sl vl vu .none) (pl:IsPart vl lo) (pu:IsPart vu hi)
  (w0:sIx items.size 0 lo = 0) (w1:sIx items.size items.size hi = items.size) (h:Q (.ref t) s):wpAny (model prog w) A (getItem (.ref t) (.ref sl)) Q E s:=by
 obtain ⟨os,hos,hcs,hds⟩:=id hs
 have hTs:s.TypeIs (.ref sl) "slice" := ⟨os,hos,hcs⟩
 unfold getItem
 try with_reducible refine wpAny_holding ?_
 first | refine wpAny_bind (wpAny_pure ?_) | skip
 refine wpAny_bind (wpAny_sequenceKey ht.typeIs (by decide) ?_)
 refine wpAny_bind (wpAny_callSpecial?_slot (name:=Str.ofString "__getitem__") ht.typeIs PyProof.Rows.slot_tuple_getitem
  (wpAny_call_entry PyProof.Rows.slot_tuple_getitem ht.typeIs entry_tuple_getitem ?_ (args_tuple_getitem _ _)))
 show wpAny _ _ (Builtin.Tuple.tupleItemsOf (.ref t) >>= _) _ _ s
 refine wpAny_bind (tupleItemsOf_ ht ?_)
 refine wpAny_bind (wpAny_typeOf hTs ?_)
 rw [if_pos (by decide)]
 refine wpAny_bind (sliceApplied_gen hs pl pu ?_)
 have yes:(((sIx items.size 0 lo:Nat):Int) == 0 && (1:Int) == 1 && (sIx items.size items.size hi - sIx items.size 0 lo) == items.size) = true:=by
  rw [w0,w1]
  simp
 show wpAny _ _ (if (((sIx items.size 0 lo:Nat):Int) == 0 && (1:Int) == 1 && (sIx items.size items.size hi - sIx items.size 0 lo) == items.size) = true then _ else _) _ _ s
 rw [if_pos yes]
 obtain ⟨⟨c1,d1,x1,l1⟩,g1,e1,n1,f1⟩:=id ht
 simp only at e1 f1
 subst e1 f1
 wp_walk using wpAny_loadPart' g1
 exact ⟨_,rfl,wpAny_pure h⟩
end
end HT
namespace L2
open PySem PySem.Spec PyProof.Rows
section
variable {X:Cx} {pos:Pos}
noncomputable def rCatA:R2:=fun x y H Q=>∃ a b xs ys,x = .ref a /\ y = .ref b /\ H a = some (.tup xs) /\ H b = some (.tup ys) /\ xs.length + ys.length <= sizeLine /\ ∀ r H',Same H H' -> H' r = some (.tup (xs ++ ys)) -> Q (.ref r) H'
theorem op_catA:OpR X (binaryOp .Add) rCatA:=by
 intro pins s σ H x y v u Q I rx ry h
 obtain ⟨a,b,xs,ys,rfl,rfl,ha,hb,hz,q⟩:=h
 by_cases hx:xs = []
 ·subst hx
  cases rx
  cases ry
  obtain ⟨i1,r1,p1,_⟩:=I.tuple (SqT.of ha)
  obtain ⟨i2,r2,p2,_⟩:=I.tuple (SqT.of hb)
  obtain rfl:i1 = []:=r1.nil_iff.mpr rfl
  exact HT.cat_none p1 p2 ⟨.ref b,H,I,rfl,q b H (Same.refl _) hb⟩
 ·refine op_catT pins s σ H _ _ v u Q I rx ry ⟨a,b,xs,ys,rfl,rfl,SqT.of ha,SqT.of hb,hx,hz,fun z=>q a H (Same.refl _) (by rw [z,List.append_nil]; exact ha),fun z p hp=>q p _ (Same.upd_new hp) upd_same⟩
noncomputable def rSlA:V -> Option Int -> Option Int -> Hp -> VK -> Prop:=fun x lo hi H Q=>∃ a xs,x = .ref a /\ H a = some (.tup xs) /\ ∀ r H',Same H H' -> H' r = some (.tup (cutV xs lo hi)) -> Q (.ref r) H'
theorem sl_any:SlR X rSlA:=by
 intro pins s σ H x v vl vu lo hi sl Q I rx hs pl pu h
 obtain ⟨a,xs,rfl,ha,q⟩:=h
 by_cases hw:HT.sIx xs.length 0 lo = 0 /\ HT.sIx xs.length xs.length hi = xs.length
 ·cases rx
  obtain ⟨its,r,ht,hz⟩:=I.tuple (SqT.of ha)
  have hlen:its.toArray.size = xs.length:=by rw [List.size_toArray]; exact r.length.symm
  refine ⟨"tuple",_,PyProof.Rows.slot_tuple_getitem.lookup,ht.typeIs,?_⟩
  refine HT.item_whole ht hs pl pu (by rw [hlen]; exact hw.1) (by rw [hlen]; exact hw.2) ⟨.ref a,H,I,rfl,q a H (Same.refl _) ?_⟩
  rw [ha]
  unfold cutV
  rw [hw.1,hw.2]
  simp
 ·exact sl_tup pins s σ H _ v vl vu lo hi sl Q I rx hs pl pu ⟨a,xs,rfl,SqT.of ha,hw,fun p hp=>q p _ (Same.upd_new hp) upd_same⟩
end
end L2
namespace L2
open PySem PySem.Spec PyProof.Rows
end L2
namespace L2
open PySem PySem.Spec PyProof.Rows
section
variable {X:Cx}
noncomputable def isStar:Expr -> Bool
 | .Starred _ _=>true
 | _=>false
theorem star_cons {e:Expr} {es:List Expr} {env:Env} (h:isStar e = false):starEach (e :: es) env = (false,eval e env) :: starEach es env:=by
 cases e <;> first | rfl | cases h
theorem pa_k {e:Expr} {es:List Expr} {te:TE} {t:TA} (ha:PE X e te) (hr:PA X es t) (hs:isStar e = false):PA X (e :: es) (tCons te t):=pa_cons ha hr (star_cons hs)
end
end L2
namespace L3
open PySem PySem.Spec L2
inductive D where
 | non | bl (b:Bool) | int (i:Int) | str (x:Str)
 | tup (xs:List D) | lst (xs:List D) | dic (kvs:List (Key × D)) | obj (C:Addr) (fs:List (Str × D)) | ty (n:String) | adr (a:Addr) | fz (xs:List D) | st (ks:List Key)
mutual
noncomputable def imm:D -> Bool
 | .non=>true
 | .bl _=>true
 | .int _=>true
 | .str _=>true
 | .tup xs=>imms xs
 | .lst _=>false
 | .dic _=>false
 | .obj _ _=>false
 | .st _=>false
 | .ty _=>true
 | .adr _=>true
 | .fz xs=>imms xs
noncomputable def imms:List D -> Bool
 | []=>true
 | x :: xs=>imm x && imms xs
end
noncomputable def FzL (K:PySem.W.Frag) (H:Hp) (a:Addr) (xs:List V):Prop:=
 (∃ o,H a = some (.frz o (.lst xs))) \/
  ∃ (o:Obj) (its:Array Value) (n:Nat),K.lookup a = some o /\ o.cls = .type "list" /\ o.dict = none /\ o.data = .seq its n /\ its.size <= sizeLine /\ Vals xs its.toList
theorem FzL.sq {K:PySem.W.Frag} {H:Hp} {a:Addr} {xs:List V} (h:FzL K H a xs):SqL K H a xs:=by
 rcases h with ⟨o,h⟩ | h
 ·exact .inl (.inr ⟨o,h⟩)
 ·exact .inr h
mutual
inductive Rep (K:PySem.W.Frag) (H:Hp):V -> D -> List Addr -> Prop
 | non:Rep K H .non .non []
 | bl {b:Bool}:Rep K H (.bl b) (.bl b) []
 | int {i:Int}:Rep K H (.int i) (.int i) []
 | str {x:Str}:Rep K H (.str x) (.str x) []
 | tup {p:Addr} {vs:List V} {ds:List D} {A:List Addr}:H p = some (.tup vs) -> Reps K H vs ds A -> Rep K H (.ref p) (.tup ds) A
 | lst {p:Addr} {vs:List V} {ds:List D} {A:List Addr}:H p = some (.lst vs) -> Reps K H vs ds A -> Rep K H (.ref p) (.lst ds) (p :: A)
 | frz {p:Addr} {vs:List V} {ds:List D} {A:List Addr}:FzL K H p vs -> Reps K H vs ds A -> Rep K H (.ref p) (.fz ds) A
 | dic {p:Addr} {kvs:List (Key × V)} {kds:List (Key × D)} {A:List Addr} {ep:Nat}:H p = some (.dE kvs ep) -> RepK K H kvs kds A -> Rep K H (.ref p) (.dic kds) (p :: A)
 | obj {p C dx:Addr} {fs:List (Str × V)} {fds:List (Str × D)} {A:List Addr}:H p = some (.ins C dx fs) -> RepF K H fs fds A -> Rep K H (.ref p) (.obj C fds) (p :: A)
 | st {p:Addr} {S:Key -> Bool} {n:Nat} {ks:List Key}:H p = some (.set S n) -> (∀ k:Key,S k = ks.any fun z=>decide (z = k)) -> Rep K H (.ref p) (.st ks) [p]
 | ty {n:String}:Rep K H (.ty n) (.ty n) []
 | adr {p:Addr}:Rep K H (.ref p) (.adr p) []
inductive Reps (K:PySem.W.Frag) (H:Hp):List V -> List D -> List Addr -> Prop
 | nil:Reps K H [] [] []
 | cons {v:V} {d:D} {vs:List V} {ds:List D} {A B:List Addr}:Rep K H v d A -> Reps K H vs ds B -> Reps K H (v :: vs) (d :: ds) (A ++ B)
inductive RepK (K:PySem.W.Frag) (H:Hp):List (Key × V) -> List (Key × D) -> List Addr -> Prop
 | nil:RepK K H [] [] []
 | cons {k:Key} {v:V} {d:D} {vs:List (Key × V)} {ds:List (Key × D)} {A B:List Addr}:Rep K H v d A -> RepK K H vs ds B -> RepK K H ((k,v) :: vs) ((k,d) :: ds) (A ++ B)
inductive RepF (K:PySem.W.Frag) (H:Hp):List (Str × V) -> List (Str × D) -> List Addr -> Prop
 | nil:RepF K H [] [] []
 | cons {k:Str} {v:V} {d:D} {vs:List (Str × V)} {ds:List (Str × D)} {A B:List Addr}:Rep K H v d A -> RepF K H vs ds B -> RepF K H ((k,v) :: vs) ((k,d) :: ds) (A ++ B)
end
structure Stb (H H':Hp):Prop where
 tups:∀ b xs,H b = some (.tup xs) -> H' b = some (.tup xs)
 frzs:∀ b o u,H b = some (.frz o u) -> H' b = some (.frz o u)
 dom:∀ b,H' b = none -> H b = none
structure Tf (H H':Hp):Prop where
 tups:∀ b xs,H b = some (.tup xs) -> H' b = some (.tup xs)
 frzs:∀ b o u,H b = some (.frz o u) -> H' b = some (.frz o u)
theorem Stb.tf {H H':Hp} (s:Stb H H'):Tf H H':=⟨s.tups,s.frzs⟩
theorem Stb.refl (H:Hp):Stb H H:=⟨fun _ _ h=>h,fun _ _ _ h=>h,fun _ h=>h⟩
theorem Stb.trans {H H1 H2:Hp} (a:Stb H H1) (b:Stb H1 H2):Stb H H2:=⟨fun c x h=>b.tups c x (a.tups c x h),fun c o u h=>b.frzs c o u (a.frzs c o u h),fun c h=>a.dom c (b.dom c h)⟩
theorem Stb.of {H H':Hp} (s:Same H H'):Stb H H':=⟨fun b _ h=>s b _ h,fun b _ _ h=>s b _ h,fun b h=>s.free h⟩
theorem Tf.fzL {K:PySem.W.Frag} {H H':Hp} (s:Tf H H') {a:Addr} {xs:List V} (h:FzL K H a xs):FzL K H' a xs:=by
 rcases h with ⟨o,h⟩ | h
 ·exact .inl ⟨o,s.frzs _ _ _ h⟩
 ·exact .inr h
section
variable {K:PySem.W.Frag} {H H':Hp}
mutual
theorem Rep.mono0 (s:Tf H H'):∀ {v:V} {d:D} {A:List Addr},Rep K H v d A -> (∀ a ∈ A,H' a = H a) -> Rep K H' v d A
 | _,_,_,.non,_=>.non
 | _,_,_,.bl,_=>.bl
 | _,_,_,.int,_=>.int
 | _,_,_,.str,_=>.str
 | _,_,_,.ty,_=>.ty
 | _,_,_,.adr,_=>.adr
 | _,_,_,.tup h r,e=>.tup (s.tups _ _ h) (r.mono0 s e)
 | _,_,_,.lst h r,e=>.lst ((e _ List.mem_cons_self).trans h) (r.mono0 s fun a ha=>e a (List.mem_cons_of_mem _ ha))
 | _,_,_,.frz h r,e=>.frz (s.fzL h) (r.mono0 s e)
 | _,_,_,.dic h r,e=>.dic ((e _ List.mem_cons_self).trans h) (r.mono0 s fun a ha=>e a (List.mem_cons_of_mem _ ha))
 | _,_,_,.obj h r,e=>.obj ((e _ List.mem_cons_self).trans h) (r.mono0 s fun a ha=>e a (List.mem_cons_of_mem _ ha))
 | _,_,_,.st h r,e=>.st ((e _ List.mem_cons_self).trans h) r
theorem Reps.mono0 (s:Tf H H'):∀ {v:List V} {d:List D} {A:List Addr},Reps K H v d A -> (∀ a ∈ A,H' a = H a) -> Reps K H' v d A
 | _,_,_,.nil,_=>.nil
 | _,_,_,.cons h r,e=>.cons (h.mono0 s fun a ha=>e a (List.mem_append_left _ ha)) (r.mono0 s fun a ha=>e a (List.mem_append_right _ ha))
theorem RepK.mono0 (s:Tf H H'):∀ {v:List (Key × V)} {d:List (Key × D)} {A:List Addr},RepK K H v d A -> (∀ a ∈ A,H' a = H a) -> RepK K H' v d A
 | _,_,_,.nil,_=>.nil
 | _,_,_,.cons h r,e=>.cons (h.mono0 s fun a ha=>e a (List.mem_append_left _ ha)) (r.mono0 s fun a ha=>e a (List.mem_append_right _ ha))
theorem RepF.mono0 (s:Tf H H'):∀ {v:List (Str × V)} {d:List (Str × D)} {A:List Addr},RepF K H v d A -> (∀ a ∈ A,H' a = H a) -> RepF K H' v d A
 | _,_,_,.nil,_=>.nil
 | _,_,_,.cons h r,e=>.cons (h.mono0 s fun a ha=>e a (List.mem_append_left _ ha)) (r.mono0 s fun a ha=>e a (List.mem_append_right _ ha))
end
theorem Rep.mono (s:Stb H H') {v:V} {d:D} {A:List Addr} (r:Rep K H v d A) (h:∀ a ∈ A,H' a = H a):Rep K H' v d A:=r.mono0 s.tf h
theorem Reps.mono (s:Stb H H') {v:List V} {d:List D} {A:List Addr} (r:Reps K H v d A) (h:∀ a ∈ A,H' a = H a):Reps K H' v d A:=r.mono0 s.tf h
theorem RepK.mono (s:Stb H H') {v:List (Key × V)} {d:List (Key × D)} {A:List Addr} (r:RepK K H v d A) (h:∀ a ∈ A,H' a = H a):RepK K H' v d A:=r.mono0 s.tf h
theorem RepF.mono (s:Stb H H') {v:List (Str × V)} {d:List (Str × D)} {A:List Addr} (r:RepF K H v d A) (h:∀ a ∈ A,H' a = H a):RepF K H' v d A:=r.mono0 s.tf h
mutual
theorem Rep.trk:∀ {v:V} {d:D} {A:List Addr},Rep K H v d A -> ∀ a ∈ A,Mut (H a)
 | _,_,_,.tup _ r,a,ha=>r.trk a ha
 | _,_,_,.lst h r,a,ha=>by
  rcases List.mem_cons.mp ha with e | e
  ·rw [e,h]; trivial
  ·exact r.trk a e
 | _,_,_,.frz _ r,a,ha=>r.trk a ha
 | _,_,_,.dic h r,a,ha=>by
  rcases List.mem_cons.mp ha with e | e
  ·rw [e,h]; trivial
  ·exact r.trk a e
 | _,_,_,.obj h r,a,ha=>by
  rcases List.mem_cons.mp ha with e | e
  ·rw [e,h]; trivial
  ·exact r.trk a e
 | _,_,_,.st h r,a,ha=>by
  rw [List.mem_singleton.mp ha,h]; trivial
theorem Reps.trk:∀ {v:List V} {d:List D} {A:List Addr},Reps K H v d A -> ∀ a ∈ A,Mut (H a)
 | _,_,_,.cons h r,a,ha=>(List.mem_append.mp ha).elim (h.trk a) (r.trk a)
theorem RepK.trk:∀ {v:List (Key × V)} {d:List (Key × D)} {A:List Addr},RepK K H v d A -> ∀ a ∈ A,Mut (H a)
 | _,_,_,.cons h r,a,ha=>(List.mem_append.mp ha).elim (h.trk a) (r.trk a)
theorem RepF.trk:∀ {v:List (Str × V)} {d:List (Str × D)} {A:List Addr},RepF K H v d A -> ∀ a ∈ A,Mut (H a)
 | _,_,_,.cons h r,a,ha=>(List.mem_append.mp ha).elim (h.trk a) (r.trk a)
end
theorem Mut.some {o:Option HO} (h:Mut o):∃ x,o = Option.some x:=by
 cases o with
 | none=>cases h
 | some x=>exact ⟨x,rfl⟩
theorem Rep.same (s:Same H H') {v:V} {d:D} {A:List Addr} (r:Rep K H v d A):Rep K H' v d A:=
 r.mono (Stb.of s) fun a ha=>by
  obtain ⟨o,e⟩:=Mut.some (r.trk a ha)
  rw [e]; exact s a o e
theorem Reps.same (s:Same H H') {v:List V} {d:List D} {A:List Addr} (r:Reps K H v d A):Reps K H' v d A:=
 r.mono (Stb.of s) fun a ha=>by
  obtain ⟨o,e⟩:=Mut.some (r.trk a ha)
  rw [e]; exact s a o e
mutual
theorem Rep.immA:∀ {v:V} {d:D} {A:List Addr},Rep K H v d A -> imm d = true -> A = []
 | _,_,_,.non,_=>rfl
 | _,_,_,.bl,_=>rfl
 | _,_,_,.int,_=>rfl
 | _,_,_,.str,_=>rfl
 | _,_,_,.ty,_=>rfl
 | _,_,_,.adr,_=>rfl
 | _,_,_,.tup _ r,e=>r.immA (by simpa [imm] using e)
 | _,_,_,.lst _ _,e=>by simp [imm] at e
 | _,_,_,.frz _ r,e=>r.immA (by simpa [imm] using e)
 | _,_,_,.dic _ _,e=>by simp [imm] at e
 | _,_,_,.obj _ _,e=>by simp [imm] at e
 | _,_,_,.st _ _,e=>by simp [imm] at e
theorem Reps.immA:∀ {v:List V} {d:List D} {A:List Addr},Reps K H v d A -> imms d = true -> A = []
 | _,_,_,.nil,_=>rfl
 | _,_,_,.cons h r,e=>by
  simp [imms] at e
  rw [h.immA e.1,r.immA e.2]; rfl
end
theorem Reps.length:∀ {v:List V} {d:List D} {A:List Addr},Reps K H v d A -> v.length = d.length
 | _,_,_,.nil=>rfl
 | _,_,_,.cons _ r=>by simp [r.length]
theorem Reps.get:∀ {vs:List V} {ds:List D} {A:List Addr} {i:Nat} {d:D},Reps K H vs ds A -> ds[i]? = some d -> ∃ v B,vs[i]? = some v /\ Rep K H v d B /\ B.Sublist A
 | _,_,_,_,_,.nil,e=>by simp at e
 | _,_,_,0,_,.cons (A:=A) h r,e=>by simp at e; subst e; exact ⟨_,A,rfl,h,List.sublist_append_left _ _⟩
 | _,_,_,i + 1,d,.cons h r,e=>by
  obtain ⟨v,B,e1,e2,e3⟩:=Reps.get (i:=i) (d:=d) r (by simpa using e)
  exact ⟨v,B,by simpa using e1,e2,e3.trans (List.sublist_append_right _ _)⟩
theorem Reps.append:∀ {vs ws:List V} {ds es:List D} {A B:List Addr},Reps K H vs ds A -> Reps K H ws es B -> Reps K H (vs ++ ws) (ds ++ es) (A ++ B)
 | _,_,_,_,_,_,.nil,q=>q
 | _,_,_,_,_,_,.cons h r,q=>by rw [List.append_assoc]; exact .cons h (r.append q)
theorem Reps.split:∀ {vs:List V} {ds:List D} {A:List Addr} (n:Nat),Reps K H vs ds A -> ∃ B C,A = B ++ C /\ Reps K H (vs.take n) (ds.take n) B /\ Reps K H (vs.drop n) (ds.drop n) C
 | _,_,_,0,r=>⟨[],_,rfl,.nil,r⟩
 | _,_,_,n + 1,.nil=>⟨[],[],rfl,.nil,.nil⟩
 | _,_,_,n + 1,.cons h r=>by
  obtain ⟨B,C,e,h1,h2⟩:=r.split n
  exact ⟨_ ++ B,C,by rw [e,List.append_assoc],.cons h h1,h2⟩
theorem Reps.cut {vs:List V} {ds:List D} {A:List Addr} (i j:Nat) (r:Reps K H vs ds A):∃ B,B.Sublist A /\ Reps K H ((vs.drop i).take j) ((ds.drop i).take j) B:=by
 obtain ⟨B,C,e,_,h2⟩:=r.split i
 obtain ⟨B2,C2,e2,h3,_⟩:=h2.split j
 exact ⟨B2,by rw [e,e2]; exact (List.sublist_append_left _ _).trans (List.sublist_append_right _ _),h3⟩
theorem Reps.set:∀ {vs:List V} {ds:List D} {A:List Addr} {v:V} {d:D} {B:List Addr} (i:Nat),Reps K H vs ds A -> Rep K H v d B -> ∃ C,Reps K H (vs.set i v) (ds.set i d) C /\ (∀ a ∈ C,a ∈ A \/ a ∈ B) /\ (A.Nodup -> B.Nodup -> (∀ a ∈ B,a ∉ A) -> C.Nodup)
 | _,_,_,_,_,_,_,.nil,_=>⟨[],.nil,(fun _ h=>absurd h (by simp)),fun _ _ _=>List.nodup_nil⟩
 | _,_,_,_,_,B,0,.cons (A:=A1) (B:=B1) h r,q=>⟨B ++ B1,.cons q r,fun a ha=>(List.mem_append.mp ha).elim .inr fun z=>.inl (List.mem_append_right _ z),fun n1 n2 n3=>by
   refine List.nodup_append.mpr ⟨n2,(List.nodup_append.mp n1).2.1,fun a ha b hb e=>?_⟩
   subst e
   exact n3 a ha (List.mem_append_right _ hb)⟩
 | _,_,_,_,_,B,i + 1,.cons (A:=A1) (B:=B1) h r,q=>by
  obtain ⟨C,h1,h2,h3⟩:=Reps.set i r q
  refine ⟨A1 ++ C,.cons h h1,fun a ha=>?_,fun n1 n2 n3=>?_⟩
  ·rcases List.mem_append.mp ha with z | z
   ·exact .inl (List.mem_append_left _ z)
   ·exact (h2 a z).elim (fun y=>.inl (List.mem_append_right _ y)) .inr
  ·have:=List.nodup_append.mp n1
   refine List.nodup_append.mpr ⟨this.1,h3 this.2.1 n2 fun a ha z=>n3 a ha (List.mem_append_right _ z),fun a ha b hb e=>?_⟩
   subst e
   rcases h2 a hb with z | z
   ·exact this.2.2 a ha a z rfl
   ·exact n3 a z (List.mem_append_left _ ha)
end
end L3
namespace L3
open PySem PySem.Spec L2
inductive Cl where | own | bor | loc | mk (H:Hp)
noncomputable abbrev Ev:=List (Option D)
structure Ent where
 H₀:Hp
 L:Nat -> List Addr
 vs:List V
 cl:List Cl
 /-- what is frozen meanwhile (a loop's list),and how it stands -/
 Z:Addr -> Prop
 Hz:Hp
noncomputable def Ent.own (G:Ent) (i:Nat):Prop:=G.cl[i]? = some .own
structure Ent.Po (G:Ent):Prop where
 one:∀ i,i < G.vs.length -> G.own i -> i = 0
 lk:∀ (j:Nat) (H':Hp),G.cl[j]? = some (.mk H') -> ∀ a o,H' a = some o -> G.H₀ a = some o /\ ∀ i,i < G.vs.length -> G.own i -> a ∉ G.L i
structure E3 (K:PySem.W.Frag) (G:Ent) (ρ:Ev) (σ:St) (H:Hp) (fa:Nat -> List Addr):Prop where
 rep:∀ i d,ρ[i]? = some (some d) -> ∃ v,σ[i]? = some (some v) /\ Rep K H v d (fa i)
 emp:∀ i,(∀ d,ρ[i]? ≠ some (some d)) -> fa i = []
 len:ρ.length = σ.length
 nd:∀ i,(G.own i \/ G.cl[i]? = some .loc) -> (fa i).Nodup
 dj:∀ i j,i ≠ j -> G.own i -> ∀ a ∈ fa i,a ∉ fa j
 par:∀ i,i < G.vs.length -> G.own i -> σ[i]? = some G.vs[i]?
 old:∀ i,i < G.vs.length -> G.own i -> ∀ a ∈ fa i,a ∈ G.L i \/ G.H₀ a = none
 new:∀ i,(G.cl[i]? = some .loc \/ (G.own i /\ ¬ i < G.vs.length)) -> ∀ a ∈ fa i,G.H₀ a = none
 frm:∀ a o,G.H₀ a = some o -> (∀ i,i < G.vs.length -> G.own i -> a ∉ G.L i) -> H a = some o
 stb:Stb G.H₀ H
 zk:∀ a,G.Z a -> H a = G.Hz a
 zn:∀ a,G.Z a -> G.Hz a ≠ none
 zo:∀ i,G.own i -> ∀ a ∈ fa i,¬ G.Z a
 po:G.Po
theorem E3.kept {K:PySem.W.Frag} {G:Ent} {ρ:Ev} {σ:St} {H:Hp} {fa:Nat -> List Addr} (E:E3 K G ρ σ H fa) {j:Nat} {H':Hp} (h:G.cl[j]? = some (.mk H')):Same H' H:=fun a o e=>let ⟨h1,h2⟩:=E.po.lk j H' h a o e; E.frm a o h1 h2
section
variable {K:PySem.W.Frag} {G:Ent} {ρ:Ev} {σ:St} {H H':Hp} {fa:Nat -> List Addr}
theorem E3.trk (E:E3 K G ρ σ H fa) (i:Nat):∀ a ∈ fa i,Mut (H a):=fun a ha=>by
 cases e:ρ[i]? with
 | none=>rw [E.emp i (fun d z=>by rw [e] at z; cases z)] at ha; cases ha
 | some o=>
  cases o with
  | none=>rw [E.emp i (fun d z=>by rw [e] at z; cases z)] at ha; cases ha
  | some d=>
   obtain ⟨v,_,r⟩:=E.rep i d e
   exact r.trk a ha
theorem E3.there (E:E3 K G ρ σ H fa) (i:Nat) {a:Addr} (ha:a ∈ fa i):H a ≠ none:=fun z=>by
 have:=E.trk i a ha
 rw [z] at this
 exact this
theorem E3.same (E:E3 K G ρ σ H fa) (s:Same H H'):E3 K G ρ σ H' fa:=
 ⟨fun i d e=>let ⟨v,h1,h2⟩:=E.rep i d e; ⟨v,h1,h2.same s⟩,E.emp,E.len,E.nd,E.dj,E.par,E.old,E.new,fun a o h n=>s a o (E.frm a o h n),E.stb.trans (Stb.of s),fun a z=>(by
  obtain ⟨o,e⟩:=Option.ne_none_iff_exists'.mp (E.zn a z)
  have h:=E.zk a z
  rw [e] at h ⊢
  exact s a o h),E.zn,E.zo,E.po⟩
inductive Fl where | any | stab | locl | fresh
noncomputable def FlOk (G:Ent) (H:Hp) (fa:Nat -> List Addr) (B:List Addr):Fl -> Prop
 | .any=>True
 | .stab=>∀ i,G.own i -> ∀ a ∈ B,a ∉ fa i
 | .locl=>(∀ i,G.own i -> ∀ a ∈ B,a ∉ fa i) /\ (∀ a ∈ B,G.H₀ a = none) /\ B.Nodup
 | .fresh=>B.Nodup /\ ∀ a ∈ B,H a = none
noncomputable def flMin:Fl -> Fl -> Bool
 | _,.any=>true
 | .any,_=>false
 | _,.stab=>true
 | .stab,_=>false
 | _,.locl=>true
 | .locl,_=>false
 | .fresh,.fresh=>true
theorem FlOk.stab_of_fresh (E:E3 K G ρ σ H fa) {B:List Addr} (h:FlOk G H fa B .fresh):FlOk G H fa B .stab:=fun i _ a ha z=>E.there i z (h.2 a ha)
theorem FlOk.locl_of_fresh (E:E3 K G ρ σ H fa) {B:List Addr} (h:FlOk G H fa B .fresh):FlOk G H fa B .locl:=⟨FlOk.stab_of_fresh E h,fun a ha=>E.stb.dom a (h.2 a ha),h.1⟩
theorem FlOk.weak (E:E3 K G ρ σ H fa) {B:List Addr} {f g:Fl} (h:FlOk G H fa B f) (hm:flMin f g = true):FlOk G H fa B g:=by
 cases f <;> cases g <;> first | trivial | exact h | (cases hm; done) | exact h.1 | exact FlOk.stab_of_fresh E h | exact FlOk.locl_of_fresh E h
theorem FlOk.nil (f:Fl):FlOk G H fa [] f:=by
 cases f with
 | any=>trivial
 | stab=>intro i _ a ha; cases ha
 | locl=>exact ⟨fun i _ a ha=>(by cases ha),fun a ha=>(by cases ha),List.nodup_nil⟩
 | fresh=>exact ⟨List.nodup_nil,fun a ha=>(by cases ha)⟩
theorem FlOk.sub {B C:List Addr} {f:Fl} (h:FlOk G H fa B f) (s:C.Sublist B):FlOk G H fa C f:=by
 cases f with
 | any=>trivial
 | stab=>exact fun i o a ha=>h i o a (s.mem ha)
 | locl=>exact ⟨fun i o a ha=>h.1 i o a (s.mem ha),fun a ha=>h.2.1 a (s.mem ha),h.2.2.sublist s⟩
 | fresh=>exact ⟨h.1.sublist s,fun a ha=>h.2 a (s.mem ha)⟩
end
noncomputable abbrev TU:=Ev -> (D -> Prop) -> Prop
structure PU (X:Cx) (cl:List Cl) (e:Expr) (f:Fl) (u:TU):Prop where
 of ::
 run:∃ t,PE X e t /\ ∀ (G:Ent) (ρ:Ev) (σ:St) (H:Hp) (fa:Nat -> List Addr) (Q:D -> Prop) (R:VK),G.cl = cl -> E3 X.K G ρ σ H fa -> u ρ Q ->
  (∀ v H' d B,Same H H' -> Rep X.K H' v d B -> FlOk G H fa B f -> Q d -> R v H') -> t σ H R
noncomputable abbrev TM:=Ev -> (D -> Ev -> Prop) -> Prop
structure Chg (K:PySem.W.Frag) (G:Ent) (H:Hp) (fa:Nat -> List Addr) (H':Hp) (fa':Nat -> List Addr):Prop where
 frm:∀ a o,H a = some o -> (∀ i,G.own i -> a ∉ fa i) -> H' a = some o
 stb:Stb H H'
 new:∀ i,G.own i -> ∀ a ∈ fa' i,a ∈ fa i \/ H a = none
 bor:∀ i,¬ G.own i -> fa' i = fa i
section
variable {K:PySem.W.Frag} {G:Ent} {ρ ρ':Ev} {σ:St} {H H' H2:Hp} {fa fa' fa2:Nat -> List Addr}
theorem Chg.refl:Chg K G H fa H fa:=⟨fun _ _ h _=>h,Stb.refl H,fun _ _ _ h=>.inl h,fun _ _=>rfl⟩
theorem Chg.same (s:Same H H'):Chg K G H fa H' fa:=⟨fun _ _ h _=>s _ _ h,Stb.of s,fun _ _ _ h=>.inl h,fun _ _=>rfl⟩
theorem Chg.trans (a:Chg K G H fa H' fa') (b:Chg K G H' fa' H2 fa2):Chg K G H fa H2 fa2:=
  ⟨fun x o h n=>b.frm x o (a.frm x o h n) fun i hi z=>(a.new i hi x z).elim (n i hi) (fun e=>by rw [h] at e; cases e),a.stb.trans b.stb,
   fun i hi x hx=>(b.new i hi x hx).elim (a.new i hi x) (fun e=>.inr (a.stb.dom x e)),fun i hi=>(b.bor i hi).trans (a.bor i hi)⟩
theorem Chg.keep (c:Chg K G H fa H' fa') {v:V} {d:D} {B:List Addr} (r:Rep K H v d B) (n:∀ i,G.own i -> ∀ a ∈ B,a ∉ fa i):Rep K H' v d B:=
 r.mono c.stb fun a ha=>by
  obtain ⟨o,e⟩:=Mut.some (r.trk a ha)
  rw [e]; exact c.frm a o e fun i hi=>n i hi a ha
theorem Chg.apart (c:Chg K G H fa H' fa') {B:List Addr} (t:∀ a ∈ B,H a ≠ none) (n:∀ i,G.own i -> ∀ a ∈ B,a ∉ fa i):∀ i,G.own i -> ∀ a ∈ B,a ∉ fa' i:=fun i hi a ha z=>
 (c.new i hi a z).elim (n i hi a ha) (t a ha)
theorem E3.step (E:E3 K G ρ σ H fa) (c:Chg K G H fa H' fa') (hl:ρ'.length = ρ.length) (hb:∀ i,¬ G.own i -> ρ'[i]? = ρ[i]?)
  (ho:∀ i d,G.own i -> ρ'[i]? = some (some d) -> ∃ v,σ[i]? = some (some v) /\ Rep K H' v d (fa' i)) (he:∀ i,G.own i -> (∀ d,ρ'[i]? ≠ some (some d)) -> fa' i = [])
  (nd:∀ i,G.own i -> (fa' i).Nodup) (dj:∀ i j,i ≠ j -> G.own i -> G.own j -> ∀ a ∈ fa' i,a ∉ fa' j):E3 K G ρ' σ H' fa' where
 rep:=fun i d e=>by
  by_cases hi:G.own i
  ·exact ho i d hi e
  ·rw [hb i hi] at e
   obtain ⟨v,e1,r⟩:=E.rep i d e
   refine ⟨v,e1,?_⟩
   rw [c.bor i hi]
   exact c.keep r fun j hj a ha z=>E.dj j i (fun q=>hi (q ▸ hj)) hj a z ha
 emp:=fun i e=>by
  by_cases hi:G.own i
  ·exact he i hi e
  ·rw [c.bor i hi]
   exact E.emp i fun d z=>e d (by rw [hb i hi]; exact z)
 len:=hl.trans E.len
 nd:=fun i h=>by
  by_cases hi:G.own i
  ·exact nd i hi
  ·rw [c.bor i hi]; exact E.nd i h
 dj:=fun i j n hi a ha=>by
  by_cases hj:G.own j
  ·exact dj i j n hi hj a ha
  ·rw [c.bor j hj]
   intro z
   rcases c.new i hi a ha with q | q
   ·exact E.dj i j n hi a q z
   ·exact E.there j z q
 par:=E.par
 old:=fun i h hi a ha=>(c.new i hi a ha).elim (E.old i h hi a) fun q=>.inr (E.stb.dom a q)
 new:=fun i h a ha=>by
  by_cases hi:G.own i
  ·exact (c.new i hi a ha).elim (E.new i h a) fun q=>E.stb.dom a q
  ·rw [c.bor i hi] at ha
   exact E.new i h a ha
 frm:=fun a o h n=>c.frm a o (E.frm a o h n) fun i hi z=>by
  by_cases hp:i < G.vs.length
  ·rcases E.old i hp hi a z with q | q
   ·exact n i hp hi q
   ·rw [h] at q; cases q
  ·have q:=E.new i (.inr ⟨hi,hp⟩) a z
   rw [h] at q; cases q
 stb:=E.stb.trans c.stb
 zk:=fun a z=>by
  obtain ⟨o,e⟩:=Option.ne_none_iff_exists'.mp (E.zn a z)
  have h:=E.zk a z
  rw [e] at h ⊢
  exact c.frm a o h fun i hi q=>E.zo i hi a q z
 zn:=E.zn
 zo:=fun i hi a ha z=>by
  rcases c.new i hi a ha with q | q
  ·exact E.zo i hi a q z
  ·have h:=E.zk a z
   rw [q] at h
   exact E.zn a z h.symm
 po:=E.po
end
structure PM (X:Cx) (cl:List Cl) (e:Expr) (u:TM):Prop where
 of ::
 run:∃ t,PE X e t /\ ∀ (G:Ent) (ρ:Ev) (σ:St) (H:Hp) (fa:Nat -> List Addr) (Q:D -> Ev -> Prop) (R:VK),G.cl = cl -> E3 X.K G ρ σ H fa -> u ρ Q ->
  (∀ v H' d B ρ' fa',E3 X.K G ρ' σ H' fa' -> Chg X.K G H fa H' fa' -> Rep X.K H' v d B -> B.Nodup -> (∀ a ∈ B,H a = none /\ ∀ i,a ∉ fa' i) -> Q d ρ' -> R v H') -> t σ H R
structure Ends3 where
 nx:Ev -> Prop
 rt:D -> Ev -> Prop
 bk:Ev -> Prop:=fun _=>False
 ct:Ev -> Prop:=fun _=>False
noncomputable abbrev TS3:=Ends3 -> Ev -> Prop
noncomputable def lowN (K:PySem.W.Frag) (G:Ent) (N:Ev -> Prop):St -> Hp -> Prop:=fun σ H=>∃ ρ fa,E3 K G ρ σ H fa /\ N ρ
noncomputable def lowR (K:PySem.W.Frag) (G:Ent) (N:D -> Ev -> Prop):VK:=fun v H=>∃ d ρ σ fa B,E3 K G ρ σ H fa /\ Rep K H v d B /\ B.Nodup /\ (∀ a ∈ B,G.H₀ a = none) /\ (∀ i,i < G.vs.length -> G.own i -> ∀ a ∈ B,a ∉ fa i) /\ N d ρ
noncomputable def low (K:PySem.W.Frag) (G:Ent) (T:Ends3):Ends:={ nx:=lowN K G T.nx,rt:=lowR K G T.rt,bk:=lowN K G T.bk,ct:=lowN K G T.ct }
structure LeE (A B:Ends):Prop where
 nx:∀ σ H,A.nx σ H -> B.nx σ H
 rt:∀ v H,A.rt v H -> B.rt v H
 bk:∀ σ H,A.bk σ H -> B.bk σ H
 ct:∀ σ H,A.ct σ H -> B.ct σ H
theorem LeE.refl (A:Ends):LeE A A:=⟨fun _ _ h=>h,fun _ _ h=>h,fun _ _ h=>h,fun _ _ h=>h⟩
structure PT3 (X:Cx) (cl:List Cl) (e:Expr) (u:Ev -> (Bool -> Prop) -> Prop):Prop where
 of ::
 run:∃ t,PT X e t /\ ∀ (G:Ent) (ρ:Ev) (σ:St) (H:Hp) (fa:Nat -> List Addr) (Q:Bool -> Prop) (R:Bool -> Hp -> Prop),G.cl = cl -> E3 X.K G ρ σ H fa -> u ρ Q ->
  (∀ b H',Same H H' -> Q b -> R b H') -> t σ H R
structure PS3 (X:Cx) (cl:List Cl) (st:Stmt) (s:TS3):Prop where
 of ::
 run:∃ t,PS X st t /\ ∀ (G:Ent) (T:Ends3) (ρ:Ev) (σ:St) (H:Hp) (fa:Nat -> List Addr) (R:Ends),G.cl = cl -> E3 X.K G ρ σ H fa -> s T ρ -> LeE (low X.K G T) R -> t R σ H
structure PB3 (X:Cx) (cl:List Cl) (st:List Stmt) (s:TS3):Prop where
 of ::
 run:∃ t,PSs X st t /\ ∀ (G:Ent) (T:Ends3) (ρ:Ev) (σ:St) (H:Hp) (fa:Nat -> List Addr) (R:Ends),G.cl = cl -> E3 X.K G ρ σ H fa -> s T ρ -> LeE (low X.K G T) R -> t R σ H
end L3
namespace L3
open PySem PySem.Spec L2
section
variable {X:Cx} {cl:List Cl} {e a b c:Expr} {f:Fl} {pos:Pos}
noncomputable def uC (d:D):TU:=fun _ Q=>Q d
noncomputable def uVar (i:Nat):TU:=fun ρ Q=>match ρ[i]? with
 | some (some d)=>Q d
 | _=>False
noncomputable def clFl:Option Cl -> Fl
 | some .bor=>.stab
 | some .loc=>.locl
 | _=>.any
theorem E3.not_own {K:PySem.W.Frag} {G:Ent} {ρ:Ev} {σ:St} {H:Hp} {fa:Nat -> List Addr} (E:E3 K G ρ σ H fa) {i:Nat} (h:¬ G.own i):∀ j,G.own j -> ∀ a ∈ fa i,a ∉ fa j:=fun j hj a ha z=>
 E.dj j i (fun e=>h (e ▸ hj)) hj a z ha
theorem E3.var {K:PySem.W.Frag} {G:Ent} {ρ:Ev} {σ:St} {H:Hp} {fa:Nat -> List Addr} (E:E3 K G ρ σ H fa) (i:Nat):FlOk G H fa (fa i) (clFl G.cl[i]?):=by
 cases e:G.cl[i]? with
 | none=>trivial
 | some k=>
  cases k with
  | own=>trivial
  | mk _=>trivial
  | bor=>exact E.not_own (fun z=>by unfold Ent.own at z; rw [e] at z; cases z)
  | loc=>exact ⟨E.not_own (fun z=>by unfold Ent.own at z; rw [e] at z; cases z),E.new i (.inl e),E.nd i (.inr e)⟩
theorem pu_var (i:Nat) {x:Str} (h:PE X (.Name x pos) (tVar i)) (hc:clFl cl[i]? = f):PU X cl (.Name x pos) f (uVar i):=.of <| by
 refine ⟨_,h,fun G ρ σ H fa Q R hG E hu k=>?_⟩
 unfold uVar at hu
 cases e:ρ[i]? with
 | none=>rw [e] at hu; cases hu
 | some o=>
  cases o with
  | none=>rw [e] at hu; cases hu
  | some d=>
   rw [e] at hu
   obtain ⟨v,e1,r⟩:=E.rep i d e
   refine ⟨v,e1,k v H d (fa i) (Same.refl H) r ?_ hu⟩
   rw [<- hc,<- hG]
   exact E.var i
theorem pu_int {i:Int} {j}:PU X cl (.Constant (.int i) j pos) .fresh (uC (.int i)):=.of ⟨_,pe_int,fun G ρ σ H fa Q R _ E hu k=>k _ H _ _ (Same.refl H) .int (FlOk.nil _) hu⟩
theorem pu_bl {i:Bool} {j}:PU X cl (.Constant (.bool i) j pos) .fresh (uC (.bl i)):=.of ⟨_,pe_bl,fun G ρ σ H fa Q R _ E hu k=>k _ H _ _ (Same.refl H) .bl (FlOk.nil _) hu⟩
theorem pu_non {j}:PU X cl (.Constant .none j pos) .fresh (uC .non):=.of ⟨_,pe_non,fun G ρ σ H fa Q R _ E hu k=>k _ H _ _ (Same.refl H) .non (FlOk.nil _) hu⟩
theorem pu_str {x:Str} {j}:PU X cl (.Constant (.str x) j pos) .fresh (uC (.str x)):=.of ⟨_,pe_str,fun G ρ σ H fa Q R _ E hu k=>k _ H _ _ (Same.refl H) .str (FlOk.nil _) hu⟩
noncomputable def uImm (u:TU):TU:=fun ρ Q=>u ρ fun d=>imm d = true /\ Q d
theorem PU.imm {u:TU} (h:PU X cl e f u):PU X cl e .fresh (uImm u):=.of <| by
 obtain ⟨t,ht,h⟩:=h.run
 refine ⟨t,ht,fun G ρ σ H fa Q R hG E hu k=>h G ρ σ H fa _ R hG E hu fun v H' d B s r fo q=>k v H' d B s r ?_ q.2⟩
 rw [r.immA q.1]
 exact FlOk.nil _
section
variable {K:PySem.W.Frag} {G:Ent} {H H':Hp} {fa:Nat -> List Addr} {B:List Addr} {f:Fl}
theorem FlOk.back (s:Same H H') (h:FlOk G H' fa B f):FlOk G H fa B f:=by
 cases f with
 | any=>trivial
 | stab=>exact h
 | locl=>exact h
 | fresh=>exact ⟨h.1,fun a ha=>s.free (h.2 a ha)⟩
end
theorem u2 {ua ub:TU} {fa fb:Fl} (ha:PU X cl a fa ua) (hb:PU X cl b fb ub):∃ ta tb,PE X a ta /\ PE X b tb /\ ∀ (G:Ent) (ρ:Ev) (σ:St) (H:Hp) (fo:Nat -> List Addr) (Q:D -> D -> Prop) (R:V -> V -> Hp -> Prop),G.cl = cl -> E3 X.K G ρ σ H fo -> (ua ρ fun x=>ub ρ fun y=>Q x y) ->
  (∀ v w H' d e A B,Same H H' -> Rep X.K H' v d A -> Rep X.K H' w e B -> FlOk G H fo A fa -> FlOk G H fo B fb -> Q d e -> R v w H') -> ta σ H fun x H1=>tb σ H1 fun y H2=>R x y H2:=by
 obtain ⟨ta,pa,ha⟩:=ha.run
 obtain ⟨tb,pb,hb⟩:=hb.run
 refine ⟨ta,tb,pa,pb,fun G ρ σ H fo Q R hG E hu k=>?_⟩
 refine ha G ρ σ H fo _ _ hG E hu fun v H1 d A s1 r1 f1 q1=>?_
 refine hb G ρ σ H1 fo _ _ hG (E.same s1) q1 fun w H2 e B s2 r2 f2 q2=>?_
 exact k v w H2 d e A B (s1.trans s2) (r1.same s2) r2 f1 (f2.back s1) q2
noncomputable def Op3 (X:Cx) (r:R2) (g:D -> D -> (D -> Prop) -> Prop):Prop:=∀ (H:Hp) (v w:V) (d e:D) (A B:List Addr) (Q:D -> Prop) (R:VK),Rep X.K H v d A -> Rep X.K H w e B -> g d e Q ->
 (∀ x H' y C,Same H H' -> Rep X.K H' x y C -> C.Nodup -> (∀ a ∈ C,H a = none) -> Q y -> R x H') -> r v w H R
noncomputable def uOp (g:D -> D -> (D -> Prop) -> Prop) (ua ub:TU):TU:=fun ρ Q=>ua ρ fun x=>ub ρ fun y=>g x y Q
theorem u2op {ua ub:TU} {fa fb:Fl} {r:R2} {g:D -> D -> (D -> Prop) -> Prop} (o:Op3 X r g) {t:TE -> TE -> TE} (ht:t = tOp r) (ha:PU X cl a fa ua) (hb:PU X cl b fb ub) (mk:∀ {ta tb},PE X a ta -> PE X b tb -> PE X e (t ta tb)):PU X cl e .fresh (uOp g ua ub):=.of <| by
 obtain ⟨ta,tb,pa,pb,h⟩:=u2 ha hb
 subst ht
 refine ⟨_,mk pa pb,fun G ρ σ H fo Q R hG E hu k=>?_⟩
 refine h G ρ σ H fo _ _ hG E hu fun v w H' d e A B s r1 r2 _ _ q=>?_
 exact o H' v w d e A B Q R r1 r2 q fun x H2 y C s2 r3 n1 n2 q2=>k x H2 y C (s.trans s2) r3 ⟨n1,fun a ha=>s.free (n2 a ha)⟩ q2
theorem pu_op {ua ub:TU} {fa fb:Fl} {r:R2} {op:Operator} {g:D -> D -> (D -> Prop) -> Prop} (ho:OpR X (binaryOp op) r) (o:Op3 X r g) (ha:PU X cl a fa ua) (hb:PU X cl b fb ub):PU X cl (.BinOp a op b pos) .fresh (uOp g ua ub):=
 u2op o rfl ha hb fun pa pb=>pe_op ho pa pb
theorem pu_cmp {ua ub:TU} {fa fb:Fl} {r:R2} {op:CmpOp} {g:D -> D -> (D -> Prop) -> Prop} (ho:OpR X (compareOp op) r) (o:Op3 X r g) (ha:PU X cl a fa ua) (hb:PU X cl b fb ub) (hm:behindInMarks op b = false):PU X cl (.Compare a [op] [b] pos) .fresh (uOp g ua ub):=
 u2op o rfl ha hb fun pa pb=>pe_cmpR ho pa pb hm
noncomputable def gI (C:Int -> Int -> Prop) (g:Int -> Int -> D):D -> D -> (D -> Prop) -> Prop
 | .int i,.int j,Q=>C i j /\ Q (g i j)
 | _,_,_=>False
noncomputable def gI0 (g:Int -> Int -> D):D -> D -> (D -> Prop) -> Prop
 | .int i,.int j,Q=>Q (g i j)
 | _,_,_=>False
theorem rep_int {K:PySem.W.Frag} {H:Hp} {v:V} {i:Int} {A:List Addr} (h:Rep K H v (.int i) A):v = .int i:=by cases h; rfl
theorem rep_str {K:PySem.W.Frag} {H:Hp} {v:V} {i:Str} {A:List Addr} (h:Rep K H v (.str i) A):v = .str i:=by cases h; rfl
theorem rep_bl {K:PySem.W.Frag} {H:Hp} {v:V} {i:Bool} {A:List Addr} (h:Rep K H v (.bl i) A):v = .bl i:=by cases h; rfl
theorem rep_non {K:PySem.W.Frag} {H:Hp} {v:V} {A:List Addr} (h:Rep K H v .non A):v = .non:=by cases h; rfl
theorem o_int {C:Int -> Int -> Prop} {g:Int -> Int -> Int}:Op3 X (rI C fun i j=>.int (g i j)) (gI C fun i j=>.int (g i j)):=by
 intro H v w d e A B Q R r1 r2 q k
 cases d <;> cases e <;> first | exact q.elim | skip
 cases rep_int r1; cases rep_int r2
 exact ⟨_,_,rfl,rfl,q.1,k _ H _ _ (Same.refl H) .int List.nodup_nil (fun _ h=>(by cases h)) q.2⟩
theorem o_int0 {g:Int -> Int -> Int}:Op3 X (rI0 fun i j=>.int (g i j)) (gI0 fun i j=>.int (g i j)):=by
 intro H v w d e A B Q R r1 r2 q k
 cases d <;> cases e <;> first | exact q.elim | skip
 cases rep_int r1; cases rep_int r2
 exact ⟨_,_,rfl,rfl,k _ H _ _ (Same.refl H) .int List.nodup_nil (fun _ h=>(by cases h)) q⟩
theorem o_bl0 {g:Int -> Int -> Bool}:Op3 X (rI0 fun i j=>.bl (g i j)) (gI0 fun i j=>.bl (g i j)):=by
 intro H v w d e A B Q R r1 r2 q k
 cases d <;> cases e <;> first | exact q.elim | skip
 cases rep_int r1; cases rep_int r2
 exact ⟨_,_,rfl,rfl,k _ H _ _ (Same.refl H) .bl List.nodup_nil (fun _ h=>(by cases h)) q⟩
section
variable {ua ub:TU} {fa fb:Fl}
theorem pu_sub (ha:PU X cl a fa ua) (hb:PU X cl b fb ub):PU X cl (.BinOp a .Sub b pos) .fresh (uOp (gI0 fun i j=>.int (i - j)) ua ub):=pu_op op_sub o_int0 ha hb
theorem pu_fdiv (ha:PU X cl a fa ua) (hb:PU X cl b fb ub):PU X cl (.BinOp a .FloorDiv b pos) .fresh (uOp (gI CDivL fun i j=>.int (i / j)) ua ub):=pu_op op_fdivL o_int ha hb
theorem pu_mod (ha:PU X cl a fa ua) (hb:PU X cl b fb ub):PU X cl (.BinOp a .Mod b pos) .fresh (uOp (gI (fun _ j=>0 < j) fun i j=>.int (i % j)) ua ub):=pu_op op_mod o_int ha hb
theorem pu_pow (ha:PU X cl a fa ua) (hb:PU X cl b fb ub):PU X cl (.BinOp a .Pow b pos) .fresh (uOp (gI CPow fun i j=>.int (i ^ j.toNat)) ua ub):=pu_op op_pow o_int ha hb
noncomputable def gStr:D -> D -> (D -> Prop) -> Prop
 | .str i,.str j,Q=>i.length + j.length <= sizeLine /\ Q (.str (i ++ j))
 | _,_,_=>False
theorem o_str:Op3 X (fun x y H Q=>∃ i j,x = .str i /\ y = .str j /\ i.length + j.length <= sizeLine /\ Q (.str (i ++ j)) H) gStr:=by
 intro H v w d e A B Q R r1 r2 q k
 cases d <;> cases e <;> first | exact q.elim | skip
 cases rep_str r1; cases rep_str r2
 exact ⟨_,_,rfl,rfl,q.1,k _ H _ _ (Same.refl H) .str List.nodup_nil (fun _ h=>(by cases h)) q.2⟩
noncomputable def flatD:D -> Bool
 | .non=>true
 | .bl _=>true
 | .int _=>true
 | .str _=>true
 | _=>false
noncomputable def toV:D -> V
 | .non=>.non
 | .bl b=>.bl b
 | .int i=>.int i
 | .str x=>.str x
 | _=>.non
theorem rep_flat {K:PySem.W.Frag} {H:Hp} {v:V} {d:D} {A:List Addr} (h:Rep K H v d A) (f:flatD d = true):v = toV d /\ A = []:=by
 cases h <;> first | exact ⟨rfl,rfl⟩ | cases f
noncomputable def ng (neg b:Bool):Bool:=match neg with
 | true=>!b
 | false=>b
noncomputable def eqF:D -> D -> Option Bool
 | .int a,.int b=>some (decide (a = b))
 | .str a,.str b=>some (decide (a = b))
 | .bl a,.bl b=>some (decide (a = b))
 | .non,.non=>some true
 | .non,.int _=>some false
 | .int _,.non=>some false
 | .non,.bl _=>some false
 | .bl _,.non=>some false
 | .non,.str _=>some false
 | .str _,.non=>some false
 | .int _,.str _=>some false
 | .str _,.int _=>some false
 | .bl _,.str _=>some false
 | .str _,.bl _=>some false
 | _,_=>none
theorem eqF_of {d e:D} {b:Bool} (h:eqF d e = some b):flatD d = true /\ flatD e = true /\ scal (toV d) (toV e) = true /\ decide (toV d = toV e) = b:=by
 cases d <;> cases e <;> first | (cases h; done) | skip
 all_goals cases h
 all_goals refine ⟨rfl,rfl,rfl,?_⟩
 all_goals first | rfl | (simp [toV]; done)
noncomputable def gEq (neg:Bool):D -> D -> (D -> Prop) -> Prop:=fun d e Q=>match eqF d e with
 | some b=>Q (.bl (ng neg b))
 | none=>False
theorem gEq_of {neg:Bool} {d e:D} {Q:D -> Prop} (h:gEq neg d e Q):∃ b,eqF d e = some b /\ Q (.bl (ng neg b)):=by
 unfold gEq at h
 split at h
 ·exact ⟨_,by assumption,h⟩
 ·exact h.elim
theorem o_eq:Op3 X rEq (gEq false):=by
 intro H v w d e A B Q R r1 r2 q k
 obtain ⟨b,eb,q⟩:=gEq_of q
 obtain ⟨f1,f2,f3,f4⟩:=eqF_of eb
 obtain ⟨rfl,rfl⟩:=rep_flat r1 f1
 obtain ⟨rfl,rfl⟩:=rep_flat r2 f2
 refine ⟨f3,?_⟩
 rw [f4]
 exact k _ H _ _ (Same.refl H) .bl List.nodup_nil (fun _ h=>(by cases h)) q
noncomputable def isNon:D -> Bool
 | .non=>true
 | _=>false
noncomputable def gIs (neg:Bool):D -> D -> (D -> Prop) -> Prop
 | d,.non,Q=>Q (.bl (ng neg (isNon d)))
 | _,_,_=>False
theorem rep_isN {K:PySem.W.Frag} {H:Hp} {v:V} {d:D} {A:List Addr} (h:Rep K H v d A):decide (v = .non) = isNon d:=by
 cases h <;> first | rfl | simp [isNon]
theorem o_is:Op3 X (fun x y H Q=>y = .non /\ Q (.bl (decide (x = .non))) H) (gIs false):=by
 intro H v w d e A B Q R r1 r2 q k
 cases e <;> first | exact q.elim | skip
 cases rep_non r2
 refine ⟨rfl,?_⟩
 rw [rep_isN r1]
 refine k _ H _ _ (Same.refl H) .bl List.nodup_nil (fun _ h=>(by cases h)) ?_
 exact q
theorem o_isnt:Op3 X (fun x y H Q=>y = .non /\ Q (.bl (!decide (x = .non))) H) (gIs true):=by
 intro H v w d e A B Q R r1 r2 q k
 cases e <;> first | exact q.elim | skip
 cases rep_non r2
 refine ⟨rfl,?_⟩
 rw [rep_isN r1]
 refine k _ H _ _ (Same.refl H) .bl List.nodup_nil (fun _ h=>(by cases h)) ?_
 exact q
noncomputable def seqD:D -> Option (List D)
 | .lst xs=>some xs
 | .tup xs=>some xs
 | .fz xs=>some xs
 | _=>none
theorem rep_seq {K:PySem.W.Frag} {H:Hp} {v:V} {d:D} {A:List Addr} {xs:List D} (h:Rep K H v d A) (e:seqD d = some xs):∃ p vs B,v = .ref p /\ (SqL K H p vs \/ SqT K H p vs) /\ Reps K H vs xs B /\ B.Sublist A:=by
 cases h with
 | tup h r=>cases e; exact ⟨_,_,_,rfl,.inr (SqT.of h),r,List.Sublist.refl _⟩
 | lst h r=>cases e; exact ⟨_,_,_,rfl,.inl (SqL.of h),r,List.sublist_cons_self _ _⟩
 | frz h r=>cases e; exact ⟨_,_,_,rfl,.inl h.sq,r,List.Sublist.refl _⟩
 | _=>cases e
theorem flat_toV {d:D} (h:flatD d = true):flatV (toV d) = true:=by cases d <;> first | rfl | cases h
theorem Reps.flat:∀ {K:PySem.W.Frag} {H:Hp} {vs:List V} {ds:List D} {A:List Addr},Reps K H vs ds A -> ds.all flatD = true -> vs = ds.map toV /\ vs.all flatV = true
 | _,_,_,_,_,.nil,_=>⟨rfl,rfl⟩
 | _,_,_,_,_,.cons h r,f=>by
  rw [List.all_cons,Bool.and_eq_true] at f
  obtain ⟨e1,_⟩:=rep_flat h f.1
  obtain ⟨e2,e3⟩:=r.flat f.2
  subst e1
  refine ⟨by rw [List.map_cons,<- e2],?_⟩
  rw [List.all_cons,e3,Bool.and_true]
  exact flat_toV f.1
noncomputable def inD (x:D) (xs:List D):Bool:=xs.any fun y=>eqV (toV y) (toV x)
noncomputable def gIn (neg:Bool):D -> D -> (D -> Prop) -> Prop:=fun d e Q=>flatD d = true /\ ∃ xs,seqD e = some xs /\ xs.all flatD = true /\ Q (.bl (ng neg (inD d xs)))
theorem o_in {neg:Bool}:Op3 X (rIn X.K neg) (gIn neg):=by
 intro H v w d e A B Q R r1 r2 q k
 obtain ⟨f1,xs,e1,f2,q⟩:=q
 obtain ⟨rfl,rfl⟩:=rep_flat r1 f1
 obtain ⟨p,vs,C,rfl,hq,r,_⟩:=rep_seq r2 e1
 obtain ⟨rfl,f3⟩:=r.flat f2
 refine ⟨p,_,rfl,hq,flat_toV f1,f3,k _ H _ _ (Same.refl H) .bl List.nodup_nil (fun _ h=>(by cases h)) ?_⟩
 have e2:inV (toV d) (xs.map toV) = inD d xs:=by unfold inV inD; rw [List.any_map]; rfl
 rw [e2]
 cases neg
 ·exact q
 ·exact q
theorem Reps.atI {K:PySem.W.Frag} {H:Hp} {vs:List V} {ds:List D} {A:List Addr} {i:Int} {d:D} (r:Reps K H vs ds A) (h:L2.atI ds i = some d):∃ v B,L2.atI vs i = some v /\ Rep K H v d B /\ B.Sublist A:=by
 unfold L2.atI at h ⊢
 rw [r.length]
 cases e:ixN ds.length i with
 | none=>rw [e] at h; cases h
 | some j=>
  rw [e] at h
  exact r.get h
noncomputable def gIx:D -> D -> (D -> Prop) -> Prop
 | .str z,.int i,Q=>z.length <= sizeLine /\ ∃ c,L2.atI z.cps.toList i = some c /\ Q (.str ⟨#[c]⟩)
 | .lst xs,.int i,Q=>∃ d,L2.atI xs i = some d /\ Q d
 | .tup xs,.int i,Q=>∃ d,L2.atI xs i = some d /\ Q d
 | .fz xs,.int i,Q=>∃ d,L2.atI xs i = some d /\ Q d
 | _,_,_=>False
end
end
end L3
namespace L3
open PySem PySem.Spec L2
section
variable {X:Cx} {cl:List Cl} {e a b c:Expr} {es:List Expr} {f:Fl} {pos:Pos} {ua ub uc:TU} {fa fb fc:Fl}
noncomputable abbrev TUs:=Ev -> (List D -> Prop) -> Prop
structure PAF (X:Cx) (cl:List Cl) (es:List Expr) (u:TUs):Prop where
 of ::
 run:∃ t,PA X es t /\ ∀ (G:Ent) (ρ:Ev) (σ:St) (H:Hp) (fa:Nat -> List Addr) (Q:List D -> Prop) (R:List V -> Hp -> Prop),G.cl = cl -> E3 X.K G ρ σ H fa -> u ρ Q ->
  (∀ vs H' ds A,Same H H' -> Reps X.K H' vs ds A -> A.Nodup -> (∀ a ∈ A,H a = none) -> ds.length = es.length -> Q ds -> R vs H') -> t σ H R
structure PAV (X:Cx) (cl:List Cl) (es:List Expr) (u:TUs):Prop where
 of ::
 run:∃ t,PA X es t /\ ∀ (G:Ent) (ρ:Ev) (σ:St) (H:Hp) (fa:Nat -> List Addr) (Q:List D -> Prop) (R:List V -> Hp -> Prop),G.cl = cl -> E3 X.K G ρ σ H fa -> u ρ Q ->
  (∀ vs H' ds A,Same H H' -> Reps X.K H' vs ds A -> ds.length = es.length -> Q ds -> R vs H') -> t σ H R
noncomputable def uNil:TUs:=fun _ Q=>Q []
noncomputable def uCons (ua:TU) (us:TUs):TUs:=fun ρ Q=>ua ρ fun x=>us ρ fun xs=>Q (x :: xs)
theorem af_nil:PAF X cl [] uNil:=.of ⟨_,pa_nil,fun G ρ σ H fa Q R _ E hu k=>k [] H [] [] (Same.refl H) .nil List.nodup_nil (fun _ h=>(by cases h)) rfl hu⟩
theorem av_nil:PAV X cl [] uNil:=.of ⟨_,pa_nil,fun G ρ σ H fa Q R _ E hu k=>k [] H [] [] (Same.refl H) .nil rfl hu⟩
theorem Rep.there {K:PySem.W.Frag} {H:Hp} {v:V} {d:D} {A:List Addr} (r:Rep K H v d A) {x:Addr} (hx:x ∈ A):H x ≠ none:=fun z=>by
 have:=r.trk x hx
 rw [z] at this
 exact this
theorem af_cons {us:TUs} (ha:PU X cl e .fresh ua) (hr:PAF X cl es us) (hs:isStar e = false):PAF X cl (e :: es) (uCons ua us):=.of <| by
 obtain ⟨t1,p1,h1⟩:=ha.run
 obtain ⟨t2,p2,h2⟩:=hr.run
 refine ⟨_,pa_k p1 p2 hs,fun G ρ σ H fa Q R hG E hu k=>?_⟩
 refine h1 G ρ σ H fa _ _ hG E hu fun v H1 d A s1 r1 f1 q1=>?_
 refine h2 G ρ σ H1 fa _ _ hG (E.same s1) q1 fun vs H2 ds B s2 r2 n1 n2 n3 q2=>?_
 refine k (v :: vs) H2 (d :: ds) (A ++ B) (s1.trans s2) (.cons (r1.same s2) r2) ?_ (fun x hx=>?_) (by simp [n3]) q2
 ·refine List.nodup_append.mpr ⟨f1.1,n1,fun x hx y hy e=>?_⟩
  subst e
  exact r1.there hx (n2 x hy)
 ·rcases List.mem_append.mp hx with z | z
  ·exact f1.2 x z
  ·exact s1.free (n2 x z)
theorem av_cons {us:TUs} (ha:PU X cl e f ua) (hr:PAV X cl es us) (hs:isStar e = false):PAV X cl (e :: es) (uCons ua us):=.of <| by
 obtain ⟨t1,p1,h1⟩:=ha.run
 obtain ⟨t2,p2,h2⟩:=hr.run
 refine ⟨_,pa_k p1 p2 hs,fun G ρ σ H fa Q R hG E hu k=>?_⟩
 refine h1 G ρ σ H fa _ _ hG E hu fun v H1 d A s1 r1 f1 q1=>?_
 refine h2 G ρ σ H1 fa _ _ hG (E.same s1) q1 fun vs H2 ds B s2 r2 n3 q2=>?_
 exact k (v :: vs) H2 (d :: ds) (A ++ B) (s1.trans s2) (.cons (r1.same s2) r2) (by simp [n3]) q2
noncomputable def uLst (us:TUs):TU:=fun ρ Q=>us ρ fun xs=>Q (.lst xs)
noncomputable def uTup (us:TUs):TU:=fun ρ Q=>us ρ fun xs=>Q (.tup xs)
theorem line1000 {n:Nat} (h:n <= 1000):n <= sizeLine:=Nat.le_of_lt (small1000 h)
theorem pu_lst {us:TUs} (h:PAF X cl es us) (hn:Nat.ble es.length 1000 = true):PU X cl (.List es pos) .fresh (uLst us):=.of <| by
 obtain ⟨t,p,h⟩:=h.run
 refine ⟨_,pe_lst p,fun G ρ σ H fa Q R hG E hu k=>?_⟩
 refine h G ρ σ H fa _ _ hG E hu fun vs H1 ds A s r n1 n2 n3 q=>⟨by rw [r.length,n3]; exact line1000 (Nat.le_of_ble_eq_true hn),fun x hx=>?_⟩
 refine k _ _ (.lst ds) (x :: A) (s.trans (Same.upd_new hx)) (.lst upd_same (r.same (Same.upd_new hx))) ⟨List.nodup_cons.mpr ⟨fun z=>?_,n1⟩,fun y hy=>?_⟩ q
 ·have:=r.trk x z
  rw [hx] at this; exact this
 ·rcases List.mem_cons.mp hy with z | z
  ·rw [z]; exact s.free hx
  ·exact n2 y z
theorem pu_tup {us:TUs} {x1} (h:PAF X cl es us) (hn:Nat.ble es.length 1000 = true):PU X cl (.Tuple es x1 pos) .fresh (uTup us):=.of <| by
 obtain ⟨t,p,h⟩:=h.run
 refine ⟨_,pe_tup p,fun G ρ σ H fa Q R hG E hu k=>?_⟩
 refine h G ρ σ H fa _ _ hG E hu fun vs H1 ds A s r n1 n2 n3 q=>⟨by rw [r.length,n3]; exact line1000 (Nat.le_of_ble_eq_true hn),fun x hx=>?_⟩
 exact k _ _ (.tup ds) A (s.trans (Same.upd_new hx)) (.tup upd_same (r.same (Same.upd_new hx))) ⟨n1,n2⟩ q
noncomputable def Call3 (X:Cx) (r:List V -> Hp -> VK -> Prop) (g:List D -> (D -> Prop) -> Prop):Prop:=∀ (H:Hp) (vs:List V) (ds:List D) (A:List Addr) (Q:D -> Prop) (R:VK),Reps X.K H vs ds A -> g ds Q ->
 (∀ x H' y C,Same H H' -> Rep X.K H' x y C -> C.Nodup -> (∀ a ∈ C,H a = none) -> Q y -> R x H') -> r vs H R
noncomputable def uCB (g:List D -> (D -> Prop) -> Prop) (us:TUs):TU:=fun ρ Q=>us ρ fun ds=>g ds Q
theorem cb3 {us:TUs} {r:List V -> Hp -> VK -> Prop} {g:List D -> (D -> Prop) -> Prop} (o:Call3 X r g) (h:PAV X cl es us) (mk:∀ {t},PA X es t -> PE X e (tCB r t)):PU X cl e .fresh (uCB g us):=.of <| by
 obtain ⟨t,p,h⟩:=h.run
 refine ⟨_,mk p,fun G ρ σ H fa Q R hG E hu k=>?_⟩
 refine h G ρ σ H fa _ _ hG E hu fun vs H1 ds A s r n3 q=>?_
 exact o H1 vs ds A Q R r q fun x H2 y C s2 r2 n1 n2 q2=>k x H2 y C (s.trans s2) r2 ⟨n1,fun a ha=>s.free (n2 a ha)⟩ q2
section
variable {id T:String} {r:List V -> Hp -> VK -> Prop} {g:List D -> (D -> Prop) -> Prop} {x:Str} {p:Pos} {us:TUs}
theorem pu_callB (hc:CallR X (.builtin id) r) (o:Call3 X r g) (hg:Gl X x) (hm:X.mg x = none) (hv:bootBuiltins x = some (.builtin id)) (ha:PAV X cl (e :: es) us) (hn:x ≠ "__name__" := by decide) (hd:(x == ("__debug__" : Str)) = false:=by decide)
  (he:starEach (e :: es) X.env = (false,eval e X.env) :: starEach es X.env:=by rfl) (hpl:(backTo pos (starEach es X.env)).any (·.1) = false:=by rfl):PU X cl (.Call (.Name x p) (e :: es) [] pos) .fresh (uCB g us):=
 cb3 o ha fun pa=>pe_callB hc hg hm hv pa hn hd he hpl
theorem pu_callTy (hc:CallR X (.type T) r) (o:Call3 X r g) (hg:Gl X x) (hm:X.mg x = none) (hv:bootBuiltins x = some (.type T)) (ha:PAV X cl (e :: es) us) (hn:x ≠ "__name__" := by decide) (hd:(x == ("__debug__" : Str)) = false:=by decide)
  (he:starEach (e :: es) X.env = (false,eval e X.env) :: starEach es X.env:=by rfl) (hpl:(backTo pos (starEach es X.env)).any (·.1) = false:=by rfl):PU X cl (.Call (.Name x p) (e :: es) [] pos) .fresh (uCB g us):=
 cb3 o ha fun pa=>pe_callTy hc hg hm hv pa hn hd he hpl
end
theorem Reps.one {K:PySem.W.Frag} {H:Hp} {vs:List V} {d:D} {A:List Addr} (r:Reps K H vs [d] A):∃ v,vs = [v] /\ Rep K H v d A:=by
 cases r with
 | cons h t=>cases t; exact ⟨_,rfl,by rw [List.append_nil]; exact h⟩
theorem Reps.two {K:PySem.W.Frag} {H:Hp} {vs:List V} {d e:D} {A:List Addr} (r:Reps K H vs [d,e] A):∃ v w B C,vs = [v,w] /\ Rep K H v d B /\ Rep K H w e C /\ A = B ++ C:=by
 cases r with
 | cons h t=>
  cases t with
  | cons h2 t2=>cases t2; exact ⟨_,_,_,_,rfl,h,h2,by rw [List.append_nil]⟩
theorem rep_lst {K:PySem.W.Frag} {H:Hp} {v:V} {xs:List D} {A:List Addr} (h:Rep K H v (.lst xs) A):∃ p vs B,v = .ref p /\ H p = some (.lst vs) /\ Reps K H vs xs B /\ A = p :: B:=by
 cases h with
 | lst h r=>exact ⟨_,_,_,rfl,h,r,rfl⟩
theorem rep_fz {K:PySem.W.Frag} {H:Hp} {v:V} {xs:List D} {A:List Addr} (h:Rep K H v (.fz xs) A):∃ p vs,v = .ref p /\ FzL K H p vs /\ Reps K H vs xs A:=by
 cases h with
 | frz h r=>exact ⟨_,_,rfl,h,r⟩
theorem rep_tup {K:PySem.W.Frag} {H:Hp} {v:V} {xs:List D} {A:List Addr} (h:Rep K H v (.tup xs) A):∃ p vs,v = .ref p /\ H p = some (.tup vs) /\ Reps K H vs xs A:=by
 cases h with
 | tup h r=>exact ⟨_,_,rfl,h,r⟩
noncomputable def gLen:List D -> (D -> Prop) -> Prop
 | [.lst xs],Q=>Q (.int xs.length)
 | [.tup xs],Q=>Q (.int xs.length)
 | [.fz xs],Q=>Q (.int xs.length)
 | [.str z],Q=>z.length <= sizeLine /\ Q (.int z.length)
 | _,_=>False
theorem c_len:Call3 X (fun xs H Q=>∃ x n,xs = [x] /\ LenV X.K x H n /\ Q (.int n) H) gLen:=by
 intro H vs ds A Q R r q k
 have fin:∀ {n:Nat},Q (.int n) -> R (.int n) H:=fun q=>k _ H _ _ (Same.refl H) .int List.nodup_nil (fun _ h=>(by cases h)) q
 have sq:∀ {d:D} {xs:List D},ds = [d] -> seqD d = some xs -> Q (.int xs.length) -> ∃ x n,vs = [x] /\ LenV X.K x H n /\ R (.int n) H:=fun {d xs} e1 e2 qq=>by
  subst e1
  obtain ⟨v,rfl,rr⟩:=r.one
  obtain ⟨p,ws,B,rfl,hq,r2,_⟩:=rep_seq rr e2
  refine ⟨_,ws.length,rfl,?_,fin (by rw [r2.length]; exact qq)⟩
  rcases hq with hq | hq
  ·exact .inl ⟨_,hq,rfl⟩
  ·exact .inr ⟨_,hq,rfl⟩
 unfold gLen at q
 split at q
 ·exact sq rfl rfl q
 ·exact sq rfl rfl q
 ·exact sq rfl rfl q
 ·obtain ⟨v,rfl,rr⟩:=r.one
  cases rep_str rr
  exact ⟨_,_,rfl,⟨q.1,rfl⟩,fin q.2⟩
 ·exact q.elim
noncomputable def gList:List D -> (D -> Prop) -> Prop:=fun ds Q=>∃ d xs,ds = [d] /\ seqD d = some xs /\ imms xs = true /\ Q (.lst xs)
theorem c_list:Call3 X (fun xs H Q=>∃ p ys,xs = [.ref p] /\ (SqL X.K H p ys \/ SqT X.K H p ys) /\ ∀ l,H l = none -> Q (.ref l) (upd H l (.lst ys))) gList:=by
 intro H vs ds A Q R r q k
 obtain ⟨d,xs,rfl,e,im,q⟩:=q
 obtain ⟨v,rfl,rr⟩:=r.one
 obtain ⟨p,ws,B,rfl,hq,r2,_⟩:=rep_seq rr e
 have eB:=r2.immA im
 subst eB
 refine ⟨p,ws,rfl,hq,fun l hl=>k _ _ (.lst xs) [l] (Same.upd_new hl) (.lst upd_same (r2.same (Same.upd_new hl))) (by simp) (fun a ha=>?_) q⟩
 have:a = l:=by simpa using ha
 rw [this]; exact hl
noncomputable def gTuple:List D -> (D -> Prop) -> Prop:=fun ds Q=>∃ d xs,ds = [d] /\ seqD d = some xs /\ imms xs = true /\ Q (.tup xs)
theorem c_tuple:Call3 X (fun xs H Q=>∃ p ys,xs = [.ref p] /\ ((SqL X.K H p ys /\ ∀ l,H l = none -> Q (.ref l) (upd H l (.tup ys))) \/ (SqT X.K H p ys /\ Q (.ref p) H))) gTuple:=by
 intro H vs ds A Q R r q k
 obtain ⟨d,xs,rfl,e,im,q⟩:=q
 obtain ⟨v,rfl,rr⟩:=r.one
 cases d with
 | lst ys=>
  cases e
  obtain ⟨p,ws,B,rfl,hq,r2,_⟩:=rep_lst rr
  have eB:=r2.immA im
  subst eB
  exact ⟨p,ws,rfl,.inl ⟨SqL.of hq,fun l hl=>k _ _ (.tup xs) [] (Same.upd_new hl) (.tup upd_same (r2.same (Same.upd_new hl))) List.nodup_nil (fun a ha=>(by cases ha)) q⟩⟩
 | fz ys=>
  cases e
  obtain ⟨p,ws,rfl,hq,r2⟩:=rep_fz rr
  have eB:=r2.immA im
  subst eB
  exact ⟨p,ws,rfl,.inl ⟨hq.sq,fun l hl=>k _ _ (.tup xs) [] (Same.upd_new hl) (.tup upd_same (r2.same (Same.upd_new hl))) List.nodup_nil (fun a ha=>(by cases ha)) q⟩⟩
 | tup ys=>
  cases e
  obtain ⟨p,ws,rfl,hq,r2⟩:=rep_tup rr
  have eB:=r2.immA im
  subst eB
  exact ⟨_,_,rfl,.inr ⟨SqT.of hq,k _ H (.tup xs) [] (Same.refl H) rr List.nodup_nil (fun a ha=>(by cases ha)) q⟩⟩
 | _=>cases e
noncomputable def g2I (g:Int -> Int -> Int):List D -> (D -> Prop) -> Prop
 | [.int i,.int j],Q=>Q (.int (g i j))
 | _,_=>False
theorem c_2I {g:Int -> Int -> Int}:Call3 X (fun xs H Q=>∃ i j,xs = [.int i,.int j] /\ Q (.int (g i j)) H) (g2I g):=by
 intro H vs ds A Q R r q k
 unfold g2I at q
 split at q
 ·obtain ⟨v,w,B,C,rfl,r1,r2,_⟩:=r.two
  cases rep_int r1; cases rep_int r2
  exact ⟨_,_,rfl,k _ H _ _ (Same.refl H) .int List.nodup_nil (fun _ h=>(by cases h)) q⟩
 ·exact q.elim
end
end L3
namespace L3
open PySem PySem.Spec L2
structure Br (b:Bool) (P Q:Prop):Prop where
 t:b = true -> P
 f:b = false -> Q
theorem Br.yes {b:Bool} {P Q:Prop} (h:b = true) (p:P):Br b P Q:=⟨fun _=>p,fun e=>by rw [h] at e; cases e⟩
theorem Br.no {b:Bool} {P Q:Prop} (h:b = false) (p:Q):Br b P Q:=⟨fun e=>(by rw [h] at e; cases e),fun _=>p⟩
noncomputable abbrev TT3:=Ev -> (Bool -> Prop) -> Prop
section
variable {X:Cx} {cl:List Cl} {e a b c:Expr} {es:List Expr} {f:Fl} {pos:Pos} {ua ub uc:TU} {fa fb fc:Fl}
noncomputable def uT (u:TU):TT3:=fun ρ Q=>u ρ fun d=>match d with
 | .bl k=>Q k
 | _=>False
theorem tt_cmp {r:R2} {op:CmpOp} {g:D -> D -> (D -> Prop) -> Prop} (ho:OpR X (compareOp op) r) (o:Op3 X r g) (ha:PU X cl a fa ua) (hb:PU X cl b fb ub) (hm:behindInMarks op b = false):PT3 X cl (.Compare a [op] [b] pos) (uT (uOp g ua ub)):=.of <| by
 obtain ⟨ta,tb,pa,pb,h⟩:=u2 ha hb
 refine ⟨_,pt_cmpR ho pa pb hm,fun G ρ σ H fo Q R hG E hu k=>?_⟩
 refine h G ρ σ H fo (fun d e=>g d e fun d=>match d with | .bl k=>Q k | _=>False) _ hG E hu fun v w H' d e A B s r1 r2 _ _ q=>?_
 refine o H' v w d e A B _ _ r1 r2 q fun x H2 y C s2 r3 n1 n2 q2=>?_
 cases y <;> first | exact (show False from q2).elim | skip
 cases rep_bl r3
 exact ⟨_,rfl,k _ H2 (s.trans s2) q2⟩
theorem tt_lt (ha:PU X cl a fa ua) (hb:PU X cl b fb ub) (hm:behindInMarks .Lt b = false):PT3 X cl (.Compare a [.Lt] [b] pos) (uT (uOp (gI0 fun i j=>.bl (decide (i < j))) ua ub)):=tt_cmp op_lt o_bl0 ha hb hm
theorem tt_gt (ha:PU X cl a fa ua) (hb:PU X cl b fb ub) (hm:behindInMarks .Gt b = false):PT3 X cl (.Compare a [.Gt] [b] pos) (uT (uOp (gI0 fun i j=>.bl (decide (j < i))) ua ub)):=tt_cmp op_gt o_bl0 ha hb hm
theorem tt_ge (ha:PU X cl a fa ua) (hb:PU X cl b fb ub) (hm:behindInMarks .GtE b = false):PT3 X cl (.Compare a [.GtE] [b] pos) (uT (uOp (gI0 fun i j=>.bl (decide (j <= i))) ua ub)):=tt_cmp op_ge o_bl0 ha hb hm
noncomputable def uTru (u:TU):TT3:=fun ρ Q=>u ρ fun d=>match d with
 | .non=>Q false
 | .bl k=>Q k
 | .int i=>Q (i != 0)
 | .str y=>y.length <= sizeLine /\ Q ((y.length:Int) != 0)
 | .lst xs=>Q (!xs.isEmpty)
 | .tup xs=>Q (!xs.isEmpty)
 | .fz xs=>Q (!xs.isEmpty)
 | .dic kvs=>Q (!kvs.isEmpty)
 | _=>False
theorem RepK.empty {K:PySem.W.Frag} {H:Hp} {kvs:List (Key × V)} {kds:List (Key × D)} {A:List Addr} (r:RepK K H kvs kds A):kvs.isEmpty = kds.isEmpty:=by cases r <;> rfl
theorem Reps.empty {K:PySem.W.Frag} {H:Hp} {kvs:List V} {kds:List D} {A:List Addr} (r:Reps K H kvs kds A):kvs.isEmpty = kds.isEmpty:=by cases r <;> rfl
theorem tt_truth (h:PU X cl e f ua) (he:∀ whole,isTrue e X.env whole = (do let v <- whole; standAt e.pos; holding [v] (truthy v))):PT3 X cl e (uTru ua):=.of <| by
 obtain ⟨t,p,h⟩:=h.run
 refine ⟨_,pt_truth p he,fun G ρ σ H fo Q R hG E hu k=>h G ρ σ H fo _ _ hG E hu fun v H' d B s r _ q=>?_⟩
 cases d with
 | non=>cases rep_non r; exact ⟨_,rfl,k _ H' s q⟩
 | bl i=>cases rep_bl r; exact ⟨_,rfl,k _ H' s q⟩
 | int i=>cases rep_int r; exact ⟨_,rfl,k _ H' s q⟩
 | str i=>cases rep_str r; exact ⟨_,⟨q.1,rfl⟩,k _ H' s q.2⟩
 | lst xs=>
  obtain ⟨p,vs,B,rfl,hq,r2,_⟩:=rep_lst r
  exact ⟨_,.inl ⟨vs,SqL.of hq,rfl⟩,by rw [r2.empty]; exact k _ H' s q⟩
 | tup xs=>
  obtain ⟨p,vs,rfl,hq,r2⟩:=rep_tup r
  exact ⟨_,.inr (.inl ⟨vs,SqT.of hq,rfl⟩),by rw [r2.empty]; exact k _ H' s q⟩
 | fz xs=>
  obtain ⟨p,vs,rfl,hq,r2⟩:=rep_fz r
  exact ⟨_,.inl ⟨vs,hq.sq,rfl⟩,by rw [r2.empty]; exact k _ H' s q⟩
 | dic kvs=>
  cases r with
  | dic hq r2=>exact ⟨_,.inr (.inr ⟨_,.inr ⟨_,hq⟩,rfl⟩),by rw [r2.empty]; exact k _ H' s q⟩
 | _=>exact (show False from q).elim
structure PW3 (X:Cx) (cl:List Cl) (e:Expr) (u:TT3):Prop where
 of ::
 run:∃ t,PW X e t /\ ∀ (G:Ent) (ρ:Ev) (σ:St) (H:Hp) (fa:Nat -> List Addr) (Q:Bool -> Prop) (R:Bool -> Hp -> Prop),G.cl = cl -> E3 X.K G ρ σ H fa -> u ρ Q ->
  (∀ b H',Same H H' -> Q b -> R b H') -> t σ H R
theorem PW3.pt {u:TT3} (h:PW3 X cl e u):PT3 X cl e u:=.of <| let ⟨t,p,h⟩:=h.run; ⟨t,PW.pt p,h⟩
noncomputable def uNot (c:TT3):TT3:=fun ρ Q=>c ρ fun k=>Q (!k)
noncomputable def uAnd (c d:TT3):TT3:=fun ρ Q=>c ρ fun k=>Br k (d ρ Q) (Q false)
noncomputable def uOr (c d:TT3):TT3:=fun ρ Q=>c ρ fun k=>Br k (Q true) (d ρ Q)
variable {tc td:TT3} {rest:List Expr}
theorem tt_not (h:PT3 X cl a tc):PT3 X cl (.UnaryOp .Not a pos) (uNot tc):=.of <| by
 obtain ⟨t,p,h⟩:=h.run
 exact ⟨_,pt_not p,fun G ρ σ H fo Q R hG E hu k=>h G ρ σ H fo _ _ hG E hu fun b H' s q=>k _ H' s q⟩
theorem tw_and1 (h:PT3 X cl a tc):PW3 X cl (.BoolOp .And [a] pos) tc:=.of <| let ⟨t,p,h⟩:=h.run; ⟨t,pw_and1 p,h⟩
theorem tw_or1 (h:PT3 X cl a tc):PW3 X cl (.BoolOp .Or [a] pos) tc:=.of <| let ⟨t,p,h⟩:=h.run; ⟨t,pw_or1 p,h⟩
theorem tw_and (h:PT3 X cl a tc) (h2:PW3 X cl (.BoolOp .And (b :: rest) pos) td):PW3 X cl (.BoolOp .And (a :: b :: rest) pos) (uAnd tc td):=.of <| by
 obtain ⟨t,p,h⟩:=h.run
 obtain ⟨t2,p2,h2⟩:=h2.run
 refine ⟨_,pw_and p p2,fun G ρ σ H fo Q R hG E hu k=>h G ρ σ H fo _ _ hG E hu fun b H' s q=>?_⟩
 cases b with
 | true=>
  rw [if_pos rfl]
  exact h2 G ρ σ H' fo Q R hG (E.same s) (q.t rfl) fun b H2 s2 q2=>k b H2 (s.trans s2) q2
 | false=>rw [if_neg Bool.false_ne_true]; exact k _ H' s (q.f rfl)
theorem tw_or (h:PT3 X cl a tc) (h2:PW3 X cl (.BoolOp .Or (b :: rest) pos) td):PW3 X cl (.BoolOp .Or (a :: b :: rest) pos) (uOr tc td):=.of <| by
 obtain ⟨t,p,h⟩:=h.run
 obtain ⟨t2,p2,h2⟩:=h2.run
 refine ⟨_,pw_or p p2,fun G ρ σ H fo Q R hG E hu k=>h G ρ σ H fo _ _ hG E hu fun b H' s q=>?_⟩
 cases b with
 | true=>rw [if_pos rfl]; exact k _ H' s (q.t rfl)
 | false=>
  rw [if_neg Bool.false_ne_true]
  exact h2 G ρ σ H' fo Q R hG (E.same s) (q.f rfl) fun b H2 s2 q2=>k b H2 (s.trans s2) q2
noncomputable def vAnd (ua ub:TU):TU:=fun ρ Q=>ua ρ fun x=>match x with
 | .bl k=>Br k (ub ρ Q) (Q (.bl false))
 | _=>False
noncomputable def vOr (ua ub:TU):TU:=fun ρ Q=>ua ρ fun x=>match x with
 | .bl k=>Br k (Q (.bl true)) (ub ρ Q)
 | _=>False
theorem pu_one {op} (h:PU X cl a f ua):PU X cl (.BoolOp op [a] pos) f ua:=.of <| let ⟨t,p,h⟩:=h.run; ⟨t,pe_one p,h⟩
theorem pu_and (h:PU X cl a fa ua) (h2:PU X cl (.BoolOp .And (b :: rest) pos) fb ub):PU X cl (.BoolOp .And (a :: b :: rest) pos) fb (vAnd ua ub):=.of <| by
 obtain ⟨t,p,h⟩:=h.run
 obtain ⟨t2,p2,h2⟩:=h2.run
 refine ⟨_,pe_and p p2,fun G ρ σ H fo Q R hG E hu k=>h G ρ σ H fo _ _ hG E hu fun v H' d B s r _ q=>?_⟩
 cases d <;> first | exact (show False from q).elim | skip
 rename_i b
 cases rep_bl r
 refine ⟨_,rfl,?_⟩
 have q:Br b (ub ρ Q) (Q (.bl false)):=q
 cases b with
 | true=>
  rw [if_pos rfl]
  exact h2 G ρ σ H' fo Q R hG (E.same s) (q.t rfl) fun v H2 d B s2 r2 f2 q2=>k v H2 d B (s.trans s2) r2 (f2.back s) q2
 | false=>rw [if_neg Bool.false_ne_true]; exact k _ H' _ [] s .bl (FlOk.nil _) (q.f rfl)
theorem pu_or (h:PU X cl a fa ua) (h2:PU X cl (.BoolOp .Or (b :: rest) pos) fb ub):PU X cl (.BoolOp .Or (a :: b :: rest) pos) fb (vOr ua ub):=.of <| by
 obtain ⟨t,p,h⟩:=h.run
 obtain ⟨t2,p2,h2⟩:=h2.run
 refine ⟨_,pe_or p p2,fun G ρ σ H fo Q R hG E hu k=>h G ρ σ H fo _ _ hG E hu fun v H' d B s r _ q=>?_⟩
 cases d <;> first | exact (show False from q).elim | skip
 rename_i b
 cases rep_bl r
 refine ⟨_,rfl,?_⟩
 have q:Br b (Q (.bl true)) (ub ρ Q):=q
 cases b with
 | true=>rw [if_pos rfl]; exact k _ H' _ [] s .bl (FlOk.nil _) (q.t rfl)
 | false=>
  rw [if_neg Bool.false_ne_true]
  exact h2 G ρ σ H' fo Q R hG (E.same s) (q.f rfl) fun v H2 d B s2 r2 f2 q2=>k v H2 d B (s.trans s2) r2 (f2.back s) q2
end
end L3
namespace L3
open PySem PySem.Spec L2
structure PN (X:Cx) (cl:List Cl) (e:Expr) (u:TM):Prop where
 of ::
 run:∃ t,PE X e t /\ ∀ (G:Ent) (ρ:Ev) (σ:St) (H:Hp) (fa:Nat -> List Addr) (Q:D -> Ev -> Prop) (R:VK),G.cl = cl -> E3 X.K G ρ σ H fa -> u ρ Q ->
  (∀ v H' d B ρ' fa',E3 X.K G ρ' σ H' fa' -> Chg X.K G H fa H' fa' -> Rep X.K H' v d B -> (∀ i,G.own i -> ∀ a ∈ B,a ∉ fa' i) -> Q d ρ' -> R v H') -> t σ H R
section
variable {X:Cx} {cl:List Cl} {e a b c:Expr} {es:List Expr} {f:Fl} {pos:Pos} {ua ub uc:TU} {fa fb fc:Fl} {ma mb:TM}
noncomputable def mP (u:TU):TM:=fun ρ Q=>u ρ fun d=>Q d ρ
theorem PU.m (h:PU X cl e .fresh ua):PM X cl e (mP ua):=.of <| by
 obtain ⟨t,p,h⟩:=h.run
 exact ⟨t,p,fun G ρ σ H fo Q R hG E hu k=>h G ρ σ H fo _ _ hG E hu fun v H' d B s r f q=>k v H' d B ρ fo (E.same s) (Chg.same s) r f.1 (fun x hx=>⟨f.2 x hx,fun i z=>E.there i z (f.2 x hx)⟩) q⟩
theorem PU.n (h:PU X cl e f ua) (hf:flMin f .stab = true):PN X cl e (mP ua):=.of <| by
 obtain ⟨t,p,h⟩:=h.run
 exact ⟨t,p,fun G ρ σ H fo Q R hG E hu k=>h G ρ σ H fo _ _ hG E hu fun v H' d B s r f q=>k v H' d B ρ fo (E.same s) (Chg.same s) r (f.weak E hf) q⟩
theorem PM.n (h:PM X cl e ma):PN X cl e ma:=.of <| by
 obtain ⟨t,p,h⟩:=h.run
 exact ⟨t,p,fun G ρ σ H fo Q R hG E hu k=>h G ρ σ H fo _ _ hG E hu fun v H' d B ρ' fa' E' c r n1 n2 q=>k v H' d B ρ' fa' E' c r (fun i _ a ha=>(n2 a ha).2 i) q⟩
noncomputable def mImm (u:TM):TM:=fun ρ Q=>u ρ fun d ρ'=>imm d = true /\ Q d ρ'
theorem PN.imm (h:PN X cl e ma):PM X cl e (mImm ma):=.of <| by
 obtain ⟨t,p,h⟩:=h.run
 refine ⟨t,p,fun G ρ σ H fo Q R hG E hu k=>h G ρ σ H fo _ _ hG E hu fun v H' d B ρ' fa' E' c r n q=>?_⟩
 have e:=r.immA q.1
 subst e
 exact k v H' d [] ρ' fa' E' c r List.nodup_nil (fun a ha=>(by cases ha)) q.2
theorem m2 (ha:PN X cl a ma) (hb:PN X cl b mb):∃ ta tb,PE X a ta /\ PE X b tb /\ ∀ (G:Ent) (ρ:Ev) (σ:St) (H:Hp) (fo:Nat -> List Addr) (Q:D -> D -> Ev -> Prop) (R:V -> V -> Hp -> Prop),G.cl = cl -> E3 X.K G ρ σ H fo -> (ma ρ fun x ρ1=>mb ρ1 fun y ρ2=>Q x y ρ2) ->
  (∀ v w H' d e A B ρ' fa',E3 X.K G ρ' σ H' fa' -> Chg X.K G H fo H' fa' -> Rep X.K H' v d A -> Rep X.K H' w e B -> (∀ i,G.own i -> ∀ a ∈ A,a ∉ fa' i) -> (∀ i,G.own i -> ∀ a ∈ B,a ∉ fa' i) -> Q d e ρ' -> R v w H') -> ta σ H fun x H1=>tb σ H1 fun y H2=>R x y H2:=by
 obtain ⟨ta,pa,ha⟩:=ha.run
 obtain ⟨tb,pb,hb⟩:=hb.run
 refine ⟨ta,tb,pa,pb,fun G ρ σ H fo Q R hG E hu k=>?_⟩
 refine ha G ρ σ H fo _ _ hG E hu fun v H1 d A ρ1 fa1 E1 c1 r1 n1 q1=>?_
 refine hb G ρ1 σ H1 fa1 _ _ hG E1 q1 fun w H2 e B ρ2 fa2 E2 c2 r2 n2 q2=>?_
 exact k v w H2 d e A B ρ2 fa2 E2 (c1.trans c2) (c2.keep r1 n1) r2 (c2.apart (fun x hx=>r1.there hx) n1) n2 q2
noncomputable def mOp (g:D -> D -> (D -> Prop) -> Prop) (ma mb:TM):TM:=fun ρ Q=>ma ρ fun x ρ1=>mb ρ1 fun y ρ2=>g x y fun d=>Q d ρ2
theorem m2op {r:R2} {g:D -> D -> (D -> Prop) -> Prop} (o:Op3 X r g) (ha:PN X cl a ma) (hb:PN X cl b mb) (mk:∀ {ta tb},PE X a ta -> PE X b tb -> PE X e (tOp r ta tb)):PM X cl e (mOp g ma mb):=.of <| by
 obtain ⟨ta,tb,pa,pb,h⟩:=m2 ha hb
 refine ⟨_,mk pa pb,fun G ρ σ H fo Q R hG E hu k=>?_⟩
 refine h G ρ σ H fo _ _ hG E hu fun v w H' d e A B ρ' fa' E' c r1 r2 _ _ q=>?_
 exact o H' v w d e A B _ R r1 r2 q fun x H2 y C s2 r3 n1 n2 q2=>k x H2 y C ρ' fa' (E'.same s2) (c.trans (Chg.same s2)) r3 n1 (fun a ha=>⟨c.stb.dom a (n2 a ha),fun i z=>E'.there i z (n2 a ha)⟩) q2
theorem pm_op {r:R2} {op:Operator} {g:D -> D -> (D -> Prop) -> Prop} (ho:OpR X (binaryOp op) r) (o:Op3 X r g) (ha:PN X cl a ma) (hb:PN X cl b mb):PM X cl (.BinOp a op b pos) (mOp g ma mb):=m2op o ha hb fun pa pb=>pe_op ho pa pb
theorem pm_cmp {r:R2} {op:CmpOp} {g:D -> D -> (D -> Prop) -> Prop} (ho:OpR X (compareOp op) r) (o:Op3 X r g) (ha:PN X cl a ma) (hb:PN X cl b mb) (hm:behindInMarks op b = false):PM X cl (.Compare a [op] [b] pos) (mOp g ma mb):=m2op o ha hb fun pa pb=>pe_cmpR ho pa pb hm
theorem pm_gt (ha:PN X cl a ma) (hb:PN X cl b mb) (hm:behindInMarks .Gt b = false):PM X cl (.Compare a [.Gt] [b] pos) (mOp (gI0 fun i j=>.bl (decide (j < i))) ma mb):=pm_cmp op_gt o_bl0 ha hb hm
theorem rIx_of {v w:V} {H:Hp} {d e:D} {A B:List Addr} {Q:D -> Prop} {R:VK} (r1:Rep X.K H v d A) (r2:Rep X.K H w e B) (q:gIx d e Q) (k:∀ x z C,Rep X.K H x z C -> C.Sublist A -> Q z -> R x H):rIx X.K v w H R:=by
 have go:∀ {xs:List D} {i:Int} {z:D},seqD d = some xs -> e = .int i -> L2.atI xs i = some z -> Q z -> rIx X.K v w H R:=fun {xs i z} e1 e2 e3 qz=>by
  subst e2
  cases rep_int r2
  obtain ⟨p,vs,C,rfl,hq,r,sb⟩:=rep_seq r1 e1
  obtain ⟨x,B',h1,h2,h3⟩:=r.atI e3
  rcases hq with hq | hq
  ·exact .inl ⟨p,vs,i,x,rfl,rfl,hq,h1,k x z B' h2 (h3.trans sb) qz⟩
  ·exact .inr (.inl ⟨p,vs,i,x,rfl,rfl,hq,h1,k x z B' h2 (h3.trans sb) qz⟩)
 cases d <;> cases e <;> first | exact (show False from q).elim | skip
 ·obtain ⟨q0,c,q1,q2⟩:=q
  cases rep_str r1; cases rep_int r2
  exact .inr (.inr ⟨_,_,c,rfl,rfl,q0,q1,k _ _ [] .str (List.nil_sublist _) q2⟩)
 ·obtain ⟨z,q1,q2⟩:=q
  exact go rfl rfl q1 q2
 ·obtain ⟨z,q1,q2⟩:=q
  exact go rfl rfl q1 q2
 ·obtain ⟨z,q1,q2⟩:=q
  exact go rfl rfl q1 q2
theorem uVar_some {i:Nat} {ρ:Ev} {Q:D -> Prop} (h:uVar i ρ Q):∃ d,ρ[i]? = some (some d) /\ Q d:=by
 unfold uVar at h
 split at h
 ·exact ⟨_,by assumption,h⟩
 ·exact h.elim
noncomputable abbrev TTM:=Ev -> (Bool -> Ev -> Prop) -> Prop
structure PTM (X:Cx) (cl:List Cl) (e:Expr) (u:TTM):Prop where
 of ::
 run:∃ t,PT X e t /\ ∀ (G:Ent) (ρ:Ev) (σ:St) (H:Hp) (fa:Nat -> List Addr) (Q:Bool -> Ev -> Prop) (R:Bool -> Hp -> Prop),G.cl = cl -> E3 X.K G ρ σ H fa -> u ρ Q ->
  (∀ b H' ρ' fa',E3 X.K G ρ' σ H' fa' -> Chg X.K G H fa H' fa' -> Q b ρ' -> R b H') -> t σ H R
structure PWM (X:Cx) (cl:List Cl) (e:Expr) (u:TTM):Prop where
 of ::
 run:∃ t,PW X e t /\ ∀ (G:Ent) (ρ:Ev) (σ:St) (H:Hp) (fa:Nat -> List Addr) (Q:Bool -> Ev -> Prop) (R:Bool -> Hp -> Prop),G.cl = cl -> E3 X.K G ρ σ H fa -> u ρ Q ->
  (∀ b H' ρ' fa',E3 X.K G ρ' σ H' fa' -> Chg X.K G H fa H' fa' -> Q b ρ' -> R b H') -> t σ H R
theorem PWM.pt {u:TTM} (h:PWM X cl e u):PTM X cl e u:=.of <| let ⟨t,p,h⟩:=h.run; ⟨t,PW.pt p,h⟩
noncomputable def tP (u:TT3):TTM:=fun ρ Q=>u ρ fun b=>Q b ρ
variable {tc td:TT3} {mc md:TTM} {rest:List Expr}
theorem PT3.m (h:PT3 X cl e tc):PTM X cl e (tP tc):=.of <| by
 obtain ⟨t,p,h⟩:=h.run
 exact ⟨t,p,fun G ρ σ H fo Q R hG E hu k=>h G ρ σ H fo _ _ hG E hu fun b H' s q=>k b H' ρ fo (E.same s) (Chg.same s) q⟩
noncomputable def mT (u:TM):TTM:=fun ρ Q=>u ρ fun d ρ'=>match d with
 | .bl k=>Q k ρ'
 | _=>False
theorem tm_cmp {r:R2} {op:CmpOp} {g:D -> D -> (D -> Prop) -> Prop} (ho:OpR X (compareOp op) r) (o:Op3 X r g) (ha:PN X cl a ma) (hb:PN X cl b mb) (hm:behindInMarks op b = false):PTM X cl (.Compare a [op] [b] pos) (mT (mOp g ma mb)):=.of <| by
 obtain ⟨ta,tb,pa,pb,h⟩:=m2 ha hb
 refine ⟨_,pt_cmpR ho pa pb hm,fun G ρ σ H fo Q R hG E hu k=>?_⟩
 refine h G ρ σ H fo (fun d e ρ'=>g d e fun d=>match d with | .bl k=>Q k ρ' | _=>False) _ hG E hu fun v w H' d e A B ρ' fa' E' c r1 r2 _ _ q=>?_
 refine o H' v w d e A B _ _ r1 r2 q fun x H2 y C s2 r3 n1 n2 q2=>?_
 cases y <;> first | exact (show False from q2).elim | skip
 cases rep_bl r3
 exact ⟨_,rfl,k _ H2 ρ' fa' (E'.same s2) (c.trans (Chg.same s2)) q2⟩
theorem tm_gt (ha:PN X cl a ma) (hb:PN X cl b mb) (hm:behindInMarks .Gt b = false):PTM X cl (.Compare a [.Gt] [b] pos) (mT (mOp (gI0 fun i j=>.bl (decide (j < i))) ma mb)):=tm_cmp op_gt o_bl0 ha hb hm
noncomputable def mAnd (c d:TTM):TTM:=fun ρ Q=>c ρ fun k ρ'=>Br k (d ρ' Q) (Q false ρ')
theorem mw_and1 (h:PTM X cl a mc):PWM X cl (.BoolOp .And [a] pos) mc:=.of <| let ⟨t,p,h⟩:=h.run; ⟨t,pw_and1 p,h⟩
theorem mw_and (h:PTM X cl a mc) (h2:PWM X cl (.BoolOp .And (b :: rest) pos) md):PWM X cl (.BoolOp .And (a :: b :: rest) pos) (mAnd mc md):=.of <| by
 obtain ⟨t,p,h⟩:=h.run
 obtain ⟨t2,p2,h2⟩:=h2.run
 refine ⟨_,pw_and p p2,fun G ρ σ H fo Q R hG E hu k=>h G ρ σ H fo _ _ hG E hu fun b H' ρ' fa' E' c q=>?_⟩
 cases b with
 | true=>
  rw [if_pos rfl]
  exact h2 G ρ' σ H' fa' Q R hG E' (q.t rfl) fun b H2 ρ2 fa2 E2 c2 q2=>k b H2 ρ2 fa2 E2 (c.trans c2) q2
 | false=>rw [if_neg Bool.false_ne_true]; exact k _ H' ρ' fa' E' c (q.f rfl)
inductive Aps (K:PySem.W.Frag) (H:Hp) (N:Addr -> Prop):List V -> List D -> List (List Addr) -> Prop
 | nil:Aps K H N [] [] []
 | cons {v:V} {d:D} {B:List Addr} {vs:List V} {ds:List D} {Bs:List (List Addr)}:Rep K H v d B -> (∀ a ∈ B,¬ N a) -> Aps K H N vs ds Bs -> Aps K H N (v :: vs) (d :: ds) (B :: Bs)
noncomputable def Owned (G:Ent) (fa:Nat -> List Addr):Addr -> Prop:=fun a=>∃ i,G.own i /\ a ∈ fa i
noncomputable abbrev TMs:=Ev -> (List D -> Ev -> Prop) -> Prop
structure PAN (X:Cx) (cl:List Cl) (es:List Expr) (u:TMs):Prop where
 of ::
 run:∃ t,PA X es t /\ ∀ (G:Ent) (ρ:Ev) (σ:St) (H:Hp) (fa:Nat -> List Addr) (Q:List D -> Ev -> Prop) (R:List V -> Hp -> Prop),G.cl = cl -> E3 X.K G ρ σ H fa -> u ρ Q ->
  (∀ vs H' ds Bs ρ' fa',E3 X.K G ρ' σ H' fa' -> Chg X.K G H fa H' fa' -> Aps X.K H' (Owned G fa') vs ds Bs -> ds.length = es.length -> Q ds ρ' -> R vs H') -> t σ H R
noncomputable def mNil:TMs:=fun ρ Q=>Q [] ρ
noncomputable def mCons (ma:TM) (ms:TMs):TMs:=fun ρ Q=>ma ρ fun x ρ1=>ms ρ1 fun xs ρ2=>Q (x :: xs) ρ2
theorem an_nil:PAN X cl [] mNil:=.of ⟨_,pa_nil,fun G ρ σ H fa Q R _ E hu k=>k [] H [] [] ρ fa E Chg.refl .nil rfl hu⟩
theorem an_cons {ms:TMs} (ha:PN X cl e ma) (hr:PAN X cl es ms) (hs:isStar e = false):PAN X cl (e :: es) (mCons ma ms):=.of <| by
 obtain ⟨t1,p1,h1⟩:=ha.run
 obtain ⟨t2,p2,h2⟩:=hr.run
 refine ⟨_,pa_k p1 p2 hs,fun G ρ σ H fa Q R hG E hu k=>?_⟩
 refine h1 G ρ σ H fa _ _ hG E hu fun v H1 d A ρ1 fa1 E1 c1 r1 n1 q1=>?_
 refine h2 G ρ1 σ H1 fa1 _ _ hG E1 q1 fun vs H2 ds Bs ρ2 fa2 E2 c2 r2 n3 q2=>?_
 exact k (v :: vs) H2 (d :: ds) (A :: Bs) ρ2 fa2 E2 (c1.trans c2) (.cons (c2.keep r1 n1) (fun a ha ⟨i,hi,z⟩=>c2.apart (fun x hx=>r1.there hx) n1 i hi a ha z) r2) (by simp [n3]) q2
structure PAM (X:Cx) (cl:List Cl) (es:List Expr) (u:TMs):Prop where
 of ::
 run:∃ t,PA X es t /\ ∀ (G:Ent) (ρ:Ev) (σ:St) (H:Hp) (fa:Nat -> List Addr) (Q:List D -> Ev -> Prop) (R:List V -> Hp -> Prop),G.cl = cl -> E3 X.K G ρ σ H fa -> u ρ Q ->
  (∀ vs H' ds B ρ' fa',E3 X.K G ρ' σ H' fa' -> Chg X.K G H fa H' fa' -> Reps X.K H' vs ds B -> B.Nodup -> (∀ a ∈ B,H a = none /\ ∀ i,a ∉ fa' i) -> ds.length = es.length -> Q ds ρ' -> R vs H') -> t σ H R
theorem am_nil:PAM X cl [] mNil:=.of ⟨_,pa_nil,fun G ρ σ H fa Q R _ E hu k=>k [] H [] [] ρ fa E Chg.refl .nil List.nodup_nil (fun a ha=>(by cases ha)) rfl hu⟩
theorem am_cons {ms:TMs} (ha:PM X cl e ma) (hr:PAM X cl es ms) (hs:isStar e = false):PAM X cl (e :: es) (mCons ma ms):=.of <| by
 obtain ⟨t1,p1,h1⟩:=ha.run
 obtain ⟨t2,p2,h2⟩:=hr.run
 refine ⟨_,pa_k p1 p2 hs,fun G ρ σ H fa Q R hG E hu k=>?_⟩
 refine h1 G ρ σ H fa _ _ hG E hu fun v H1 d A ρ1 fa1 E1 c1 r1 n1 n2 q1=>?_
 refine h2 G ρ1 σ H1 fa1 _ _ hG E1 q1 fun vs H2 ds B ρ2 fa2 E2 c2 r2 m1 m2 n3 q2=>?_
 refine k (v :: vs) H2 (d :: ds) (A ++ B) ρ2 fa2 E2 (c1.trans c2) (.cons (c2.keep r1 fun i _ a ha=>(n2 a ha).2 i) r2) ?_ (fun x hx=>?_) (by simp [n3]) q2
 ·refine List.nodup_append.mpr ⟨n1,m1,fun x hx y hy e=>?_⟩
  subst e
  exact r1.there hx (m2 x hy).1
 ·rcases List.mem_append.mp hx with z | z
  ·refine ⟨(n2 x z).1,fun i y=>?_⟩
   by_cases hi:G.own i
   ·rcases c2.new i hi x y with w | w
    ·exact (n2 x z).2 i w
    ·exact r1.there z w
   ·rw [c2.bor i hi] at y
    exact (n2 x z).2 i y
  ·exact ⟨c1.stb.dom x (m2 x z).1,(m2 x z).2⟩
noncomputable def mLst (ms:TMs):TM:=fun ρ Q=>ms ρ fun xs ρ'=>Q (.lst xs) ρ'
noncomputable def mTup (ms:TMs):TM:=fun ρ Q=>ms ρ fun xs ρ'=>Q (.tup xs) ρ'
theorem pm_lst {ms:TMs} (h:PAM X cl es ms) (hn:Nat.ble es.length 1000 = true):PM X cl (.List es pos) (mLst ms):=.of <| by
 obtain ⟨t,p,h⟩:=h.run
 refine ⟨_,pe_lst p,fun G ρ σ H fa Q R hG E hu k=>?_⟩
 refine h G ρ σ H fa _ _ hG E hu fun vs H1 ds A ρ' fa' E' c r n1 n2 n3 q=>⟨by rw [r.length,n3]; exact line1000 (Nat.le_of_ble_eq_true hn),fun x hx=>?_⟩
 refine k _ _ (.lst ds) (x :: A) ρ' fa' (E'.same (Same.upd_new hx)) (c.trans (Chg.same (Same.upd_new hx))) (.lst upd_same (r.same (Same.upd_new hx))) (List.nodup_cons.mpr ⟨fun z=>?_,n1⟩) (fun y hy=>?_) q
 ·have:=r.trk x z
  rw [hx] at this; exact this
 ·rcases List.mem_cons.mp hy with z | z
  ·rw [z]; exact ⟨c.stb.dom x hx,fun i z=>E'.there i z hx⟩
  ·exact n2 y z
theorem pm_tup {ms:TMs} {x1} (h:PAM X cl es ms) (hn:Nat.ble es.length 1000 = true):PM X cl (.Tuple es x1 pos) (mTup ms):=.of <| by
 obtain ⟨t,p,h⟩:=h.run
 refine ⟨_,pe_tup p,fun G ρ σ H fa Q R hG E hu k=>?_⟩
 refine h G ρ σ H fa _ _ hG E hu fun vs H1 ds A ρ' fa' E' c r n1 n2 n3 q=>⟨by rw [r.length,n3]; exact line1000 (Nat.le_of_ble_eq_true hn),fun x hx=>?_⟩
 exact k _ _ (.tup ds) A ρ' fa' (E'.same (Same.upd_new hx)) (c.trans (Chg.same (Same.upd_new hx))) (.tup upd_same (r.same (Same.upd_new hx))) n1 n2 q
section
variable {id T:String} {r:List V -> Hp -> VK -> Prop} {g:List D -> (D -> Prop) -> Prop} {x:Str} {p:Pos} {ms:TMs}
end
end
end L3
namespace L3
open PySem PySem.Spec L2 PyProof.Rows
noncomputable abbrev Cp:=List D -> (D -> Prop) -> Prop
noncomputable abbrev Cm:=List D -> (D -> D -> Prop) -> Prop
noncomputable def spP (K:PySem.W.Frag) (c:Cp):Sp:=fun vs H Q _=>∃ ds A Qd,Reps K H vs ds A /\ c ds Qd /\ ∀ r v H' B,Qd r -> Same H H' -> Rep K H' v r B -> B.Nodup -> (∀ a ∈ B,H a = none) -> Q v H'
noncomputable def spM (K:PySem.W.Frag) (c:Cm):Sp:=fun vs H Q _=>∃ w vs' d ds A Bs Qd,vs = w :: vs' /\ Rep K H w d A /\ A.Nodup /\ Aps K H (fun a=>a ∈ A) vs' ds Bs /\ c (d :: ds) Qd /\ ∀ r l v H' A' B,Qd r l -> Rep K H' w l A' -> A'.Nodup -> (∀ a ∈ A',a ∈ A \/ H a = none) ->
 (∀ a o,H a = some o -> a ∉ A -> H' a = some o) -> Stb H H' -> Rep K H' v r B -> B.Nodup -> (∀ a ∈ B,H a = none /\ a ∉ A') -> Q v H'
structure Cle (P:Program) (w:World) (K:PySem.W.Frag) (mg:Str -> Option Value) (base:Heap) (x:Str) (k:Nat) (ps:List Str) (sp:Sp) (f:Addr) (fd:FuncData):Prop where
 ok:FnOk P w K mg base CX0 k f fd ps sp
 mgf:mg x = some (.ref f)
 kp:PySem.W.keepIn K (.ref f) = true
 bd:Binds K fd ps []
section
variable {X:Cx} {cl:List Cl} {e a b:Expr} {es:List Expr} {f:Fl} {pos:Pos} {ua:TU} {ma mb:TM} {us:TUs} {ms:TMs} {k:Nat} {fn:Addr} {fd:FuncData} {ps:List Str} {x:Str} {p:Pos}
noncomputable def uCall (c:Cp) (us:TUs):TU:=fun ρ Q=>us ρ fun ds=>c ds Q
theorem pu_call {c:Cp} (C:Cle X.prog X.w X.K X.mg X.base x k ps (spP X.K c) fn fd) (hr:Room k X.A) (hg:Gl X x) (ha:PAV X cl (e :: es) us) (hst:isStar e = false) (hdb:(x == ("__debug__" : Str)) = false:=by decide)
  (hpl:(backTo pos (starEach es X.env)).any (·.1) = false:=by rfl):PU X cl (.Call (.Name x p) (e :: es) [] pos) .fresh (uCall c us):=.of <| by
 obtain ⟨t,pt,h⟩:=ha.run
 refine ⟨_,pe_call C.ok hr hg C.mgf C.kp C.bd .nil pass0 pt hdb (star_cons hst) hpl,fun G ρ σ H fa Q R hG E hu kk=>?_⟩
 refine h G ρ σ H fa _ _ hG E hu fun vs H1 ds A s r n3 q=>?_
 rw [List.append_nil]
 exact ⟨ds,A,Q,r,q,fun r v H2 B qd s2 rp n1 n2=>kk v H2 r B (s.trans s2) rp ⟨n1,fun a ha=>s.free (n2 a ha)⟩ qd⟩
noncomputable def mLend (j:Nat) (c:Cm) (ms:TMs):TM:=fun ρ Q=>uVar j ρ fun _=>ms ρ fun ds ρ'=>uVar j ρ' fun d=>c (d :: ds) fun r l=>Q r (ρ'.set j (some l))
theorem Aps.imp {K:PySem.W.Frag} {H:Hp} {N N':Addr -> Prop} (h:∀ a,N' a -> N a):∀ {vs:List V} {ds:List D} {Bs:List (List Addr)},Aps K H N vs ds Bs -> Aps K H N' vs ds Bs
 | _,_,_,.nil=>.nil
 | _,_,_,.cons r n t=>.cons r (fun a ha z=>n a ha (h a z)) (t.imp h)
theorem pm_lend {c:Cm} (j:Nat) {y:Str} {vp:Pos} (hv:PE X (.Name y vp) (tVar j)) (hj:cl[j]? = some .own) (C:Cle X.prog X.w X.K X.mg X.base x k ps (spM X.K c) fn fd) (hr:Room k X.A) (hg:Gl X x) (ha:PAN X cl es ms) (hdb:(x == ("__debug__" : Str)) = false:=by decide)
  (hpl:(backTo pos (starEach es X.env)).any (·.1) = false:=by rfl):PM X cl (.Call (.Name x p) (.Name y vp :: es) [] pos) (mLend j c ms):=.of <| by
 obtain ⟨t,pt,h⟩:=ha.run
 refine ⟨_,pe_call C.ok hr hg C.mgf C.kp C.bd .nil pass0 (pa_k hv pt rfl) hdb (star_cons rfl) hpl,fun G ρ σ H fa Q R hG E hu kk=>?_⟩
 obtain ⟨d0,e0,hu⟩:=uVar_some hu
 obtain ⟨v,hvj,_⟩:=E.rep j d0 e0
 refine ⟨v,hvj,h G ρ σ H fa _ _ hG E hu fun vs H1 ds Bs ρ' fa' E' c' r n3 q=>?_⟩
 obtain ⟨d,e1,q⟩:=uVar_some q
 obtain ⟨v',hv',rp⟩:=E'.rep j d e1
 have ev:v' = v:=by rw [hvj] at hv'; cases hv'; rfl
 subst ev
 have own:G.own j:=by unfold Ent.own; rw [hG]; exact hj
 rw [List.append_nil]
 refine ⟨v',vs,d,ds,fa' j,Bs,_,rfl,rp,E'.nd j (.inl own),r.imp fun a ha=>⟨j,own,ha⟩,q,fun r l v H2 A' B qd r2 n1 n2 n3 n4 r3 n5 n6=>?_⟩
 have ch:Chg X.K G H1 fa' H2 (fun i=>if i = j then A' else fa' i):=by
  refine ⟨fun a o h n=>n3 a o h (n j own),n4,fun i hi a ha=>?_,fun i hi=>?_⟩
  ·by_cases e:i = j
   ·subst e; rw [if_pos rfl] at ha; exact n2 a ha
   ·rw [if_neg e] at ha; exact .inl ha
  ·exact if_neg fun e:i = j=>hi (by rw [e]; exact own)
 have lj:j < ρ'.length:=(List.getElem?_eq_some_iff.mp e1).1
 have oth:∀ i,i ≠ j -> (ρ'.set j (some l))[i]? = ρ'[i]?:=fun i n=>List.getElem?_set_ne (Ne.symm n)
 refine kk v H2 r B (ρ'.set j (some l)) _ (E'.step ch (by simp) (fun i hi=>oth i fun e=>hi (by rw [e]; exact own)) (fun i d' hi e=>?_) (fun i hi e=>?_) (fun i hi=>?_) fun i i' n hi hi' a ha z=>?_) (c'.trans ch) r3 n5 (fun a ha=>⟨c'.stb.dom a (n6 a ha).1,fun i z=>?_⟩) qd
 ·by_cases q:i = j
  ·subst q
   rw [List.getElem?_set_self lj] at e
   cases e
   exact ⟨v',hv',by rw [if_pos rfl]; exact r2⟩
  ·rw [oth i q] at e
   obtain ⟨w,e2,r4⟩:=E'.rep i d' e
   refine ⟨w,e2,?_⟩
   rw [if_neg q]
   refine r4.mono n4 fun a ha=>?_
   obtain ⟨o,eo⟩:=Mut.some (r4.trk a ha)
   rw [eo]
   exact n3 a o eo fun z=>E'.dj i j q hi a ha z
 ·by_cases q:i = j
  ·subst q
   exact absurd (List.getElem?_set_self lj) (e l)
  ·rw [if_neg q]
   exact E'.emp i fun d z=>e d (by rw [oth i q]; exact z)
 ·by_cases q:i = j
  ·rw [if_pos q]; exact n1
  ·rw [if_neg q]; exact E'.nd i (.inl hi)
 ·by_cases q:i = j
  ·rw [if_pos q] at ha
   have q':i' ≠ j:=fun e=>n (q.trans e.symm)
   rw [if_neg q'] at z
   rcases n2 a ha with y | y
   ·exact E'.dj j i' (Ne.symm q') own a y z
   ·exact E'.there i' z y
  ·rw [if_neg q] at ha
   by_cases q':i' = j
   ·rw [if_pos q'] at z
    rcases n2 a z with y | y
    ·exact E'.dj i j q hi a ha y
    ·exact E'.there i ha y
   ·rw [if_neg q'] at z
    exact E'.dj i i' n hi a ha z
 ·by_cases q:i = j
  ·rw [if_pos q] at z; exact (n6 a ha).2 z
  ·rw [if_neg q] at z; exact E'.there i z (n6 a ha).1
theorem E3.away {K:PySem.W.Frag} {G:Ent} {ρ:Ev} {σ:L2.St} {H H':Hp} {fa:Nat -> List Addr} {A:List Addr} (E:E3 K G ρ σ H fa) (s:Stb H H') (k:∀ a o,H a = some o -> a ∉ A -> H' a = some o) (n:∀ i,∀ a ∈ A,a ∉ fa i) (h0:∀ a ∈ A,G.H₀ a = none) (z:∀ a ∈ A,¬ G.Z a):E3 K G ρ σ H' fa where
 rep:=fun i d e=>by
  obtain ⟨v,e1,r⟩:=E.rep i d e
  refine ⟨v,e1,r.mono s fun a ha=>?_⟩
  obtain ⟨o,eo⟩:=Mut.some (r.trk a ha)
  rw [eo]; exact k a o eo fun q=>n i a q ha
 emp:=E.emp
 len:=E.len
 nd:=E.nd
 dj:=E.dj
 par:=E.par
 old:=E.old
 new:=E.new
 frm:=fun a o h q=>k a o (E.frm a o h q) fun y=>by rw [h0 a y] at h; cases h
 stb:=E.stb.trans s
 zk:=fun a y=>by
  obtain ⟨o,e⟩:=Option.ne_none_iff_exists'.mp (E.zn a y)
  have h:=E.zk a y
  rw [e] at h ⊢
  exact k a o h fun q=>z a q y
 zn:=E.zn
 zo:=E.zo
 po:=E.po
end
noncomputable def startD (n:Nat) (ds:List D):Ev:=ds.map some ++ List.replicate (n - ds.length) none
theorem Reps.each {K:PySem.W.Frag} {H:Hp}:∀ {vs:List V} {ds:List D} {A:List Addr},Reps K H vs ds A -> ∃ fa:Nat -> List Addr,(∀ i d,ds[i]? = some d -> ∃ v,vs[i]? = some v /\ Rep K H v d (fa i)) /\ ∀ i,ds.length <= i -> fa i = []
 | _,_,_,.nil=>⟨fun _=>[],fun i d e=>(by simp at e),fun _ _=>rfl⟩
 | _,_,_,.cons (A:=A) h r=>by
  obtain ⟨fa,h1,h2⟩:=r.each
  refine ⟨fun i=>match i with | 0=>A | i + 1=>fa i,fun i d e=>?_,fun i hi=>?_⟩
  ·cases i with
   | zero=>simp at e; subst e; exact ⟨_,rfl,h⟩
   | succ i=>
    obtain ⟨v,e1,e2⟩:=h1 i d (by simpa using e)
    exact ⟨v,by simpa using e1,e2⟩
  ·cases i with
   | zero=>simp at hi
   | succ i=>exact h2 i (by simpa using hi)
theorem Aps.each {K:PySem.W.Frag} {H:Hp} {N:Addr -> Prop}:∀ {vs:List V} {ds:List D} {Bs:List (List Addr)},Aps K H N vs ds Bs -> ∃ fa:Nat -> List Addr,(∀ i d,ds[i]? = some d -> ∃ v,vs[i]? = some v /\ Rep K H v d (fa i)) /\ (∀ i,ds.length <= i -> fa i = []) /\ (∀ i,∀ a ∈ fa i,¬ N a) /\ ds.length = vs.length
 | _,_,_,.nil=>⟨fun _=>[],fun i d e=>(by simp at e),fun _ _=>rfl,fun _ _ h=>(by cases h),rfl⟩
 | _,_,_,.cons (B:=B) h n r=>by
  obtain ⟨fa,h1,h2,h3,h4⟩:=r.each
  refine ⟨fun i=>match i with | 0=>B | i + 1=>fa i,fun i d e=>?_,fun i hi=>?_,fun i=>?_,by simp [h4]⟩
  ·cases i with
   | zero=>simp at e; subst e; exact ⟨_,rfl,h⟩
   | succ i=>
    obtain ⟨v,e1,e2⟩:=h1 i d (by simpa using e)
    exact ⟨v,by simpa using e1,e2⟩
  ·cases i with
   | zero=>simp at hi
   | succ i=>exact h2 i (by simpa using hi)
  ·cases i with
   | zero=>exact n
   | succ i=>exact h3 i
theorem startD_get {n:Nat} {ds:List D} {i:Nat} {d:D} (h:(startD n ds)[i]? = some (some d)):ds[i]? = some d:=by
 unfold startD at h
 by_cases hi:i < ds.length
 ·rw [List.getElem?_append_left (by simpa using hi),List.getElem?_map] at h
  cases e:ds[i]? with
  | none=>rw [e] at h; cases h
  | some x=>rw [e] at h; cases h; rfl
 ·rw [List.getElem?_append_right (by simpa using hi),List.getElem?_replicate] at h
  split at h <;> cases h
theorem start_get {N:List Str} {vs:List V} {i:Nat} {v:V} (h:vs[i]? = some v):(L2.start N vs)[i]? = some (some v):=by
 unfold L2.start
 have hi:=(List.getElem?_eq_some_iff.mp h).1
 rw [List.getElem?_append_left (by simpa using hi),List.getElem?_map,h]
 rfl
theorem startD_len {N:List Str} {ds:List D} {vs:List V} (h:ds.length = vs.length):(startD N.length ds).length = (L2.start N vs).length:=by
 unfold startD L2.start
 simp [h]
theorem startD_of {n:Nat} {ds:List D} {i:Nat} {d:D} (h:ds[i]? = some d):(startD n ds)[i]? = some (some d):=by
 unfold startD
 have hi:=(List.getElem?_eq_some_iff.mp h).1
 rw [List.getElem?_append_left (by simpa using hi),List.getElem?_map,h]
 rfl
section
variable {P:Program} {w:World} {K:PySem.W.Frag} {mg:Str -> Option Value} {base:Heap}
noncomputable def noMk:List Cl -> Bool
 | []=>true
 | .mk _ :: _=>false
 | _ :: r=>noMk r
theorem noMk_get:∀ {cl:List Cl} {j:Nat} {H':Hp},noMk cl = true -> cl[j]? = some (.mk H') -> False
 | [],j,_,_,e=>by cases j <;> cases e
 | c :: r,0,H',h,e=>by
  cases e
  cases h
 | c :: r,j + 1,H',h,e=>by
  rw [List.getElem?_cons_succ] at e
  cases c <;> first | cases h | exact noMk_get (cl:=r) h e
noncomputable def noOwn:List Cl -> Nat -> Bool
 | cl,0=>noMk cl
 | .bor :: r,n + 1=>noOwn r n
 | _,_=>false
theorem noOwn_get:∀ {cl:List Cl} {n i:Nat},noOwn cl n = true -> i < n -> cl[i]? = some .bor
 | _,0,i,_,h=>by omega
 | .bor :: r,n + 1,0,h,_=>rfl
 | .bor :: r,n + 1,i + 1,h,hi=>by
  rw [List.getElem?_cons_succ]
  exact noOwn_get (cl:=r) (n:=n) (i:=i) h (by omega)
 | [],n + 1,i,h,_=>by cases h
 | .own :: r,n + 1,i,h,_=>by cases h
 | .loc :: r,n + 1,i,h,_=>by cases h
 | .mk _ :: r,n + 1,i,h,_=>by cases h
theorem noOwn_mk:∀ {cl:List Cl} {n j:Nat} {H':Hp},noOwn cl n = true -> cl[j]? = some (.mk H') -> False
 | cl,0,j,_,h,e=>by
  rw [noOwn] at h
  exact noMk_get h e
 | .bor :: r,n + 1,0,_,h,e=>by cases e
 | .bor :: r,n + 1,j + 1,_,h,e=>noOwn_mk (cl:=r) (n:=n) (show noOwn r n = true from h) (by rw [List.getElem?_cons_succ] at e; exact e)
 | [],n + 1,j,_,h,_=>by cases h
 | .own :: r,n + 1,j,_,h,_=>by cases h
 | .loc :: r,n + 1,j,_,h,_=>by cases h
 | .mk _ :: r,n + 1,j,_,h,_=>by cases h
theorem fnP {x qual:Str} {st:Stmt} {f:Addr} {fd:FuncData} {N ps:List Str} {k:Nat} {c:Cp} {s:TS3} {cl:List Cl} (F:Fun K x qual st f fd) (S:FnScope N ps (defScope st)) (hcl:noOwn cl ps.length = true)
  (hl:∀ ds Q,c ds Q -> ds.length = ps.length)
  (hb:∀ (cdv:Value) (A:Around) (outer:List Env) (s0:Shared) (H:Hp) (E:XK),Room k (A.deeper (envOfC qual (defScope st) s0.heap.objs.size f cdv)) -> PB3 (cxOf CX0 P w K mg base N qual (defScope st) f cdv A outer s0 H E).nox cl (defBody st) s)
  (hc:∀ ds Q,c ds Q -> s { nx:=fun _=>Q .non,rt:=fun d _=>Q d } (startD N.length ds)):FnOk P w K mg base CX0 (k + 1) f fd ps (spP K c):=by
 refine F.ok S (fun vs H Q E h=>?_) (fun cdv A outer s0 H vs Q E hr h=>?_)
 ·obtain ⟨ds,A,Qd,r,q,_⟩:=h
  rw [r.length]; exact hl ds Qd q
 ·obtain ⟨ds,B,Qd,r,q,kk⟩:=h
  have hlen:=hl ds Qd q
  obtain ⟨t,pt,h⟩:=(hb cdv A outer s0 H E hr).run
  obtain ⟨fa,h1,h2⟩:=r.each
  let G:Ent:=⟨H,fun _=>[],vs,cl,fun _=>False,H⟩
  have vl:vs.length = ps.length:=r.length.trans hlen
  have bor:∀ i,i < vs.length -> cl[i]? = some .bor:=fun i hi=>noOwn_get hcl (by omega)
  have nown:∀ i,i < vs.length -> ¬ G.own i:=fun i hi z=>by
   have z':cl[i]? = some .own:=z
   rw [bor i hi] at z'; cases z'
  have far:∀ i,G.own i -> fa i = []:=fun i hi=>h2 i (by
   have q1:¬ i < vs.length:=fun q=>nown i q hi
   have q2:=r.length
   omega)
  have E0:E3 K G (startD N.length ds) (L2.start N vs) H fa:=by
   refine ⟨fun i d e=>?_,fun i e=>h2 i ?_,startD_len r.length.symm,fun i hi=>?_,fun i j _ hi a ha=>?_,fun i hi ho=>absurd ho (nown i hi),fun i hi ho=>absurd ho (nown i hi),fun i hi a ha=>?_,fun a o h _=>h,Stb.refl H,fun a z=>z.elim,fun a z=>z.elim,fun i _ a _ z=>z,⟨fun i hi ho=>absurd ho (nown i hi),fun j H' e=>(noOwn_mk hcl e).elim⟩⟩
   ·obtain ⟨v,e1,r1⟩:=h1 i d (startD_get e)
    exact ⟨v,start_get e1,r1⟩
   ·by_cases hi:i < ds.length
    ·exact absurd (startD_of (List.getElem?_eq_getElem hi)) (e _)
    ·omega
   ·rw [h2 i (by
     by_cases q:i < ds.length
     ·have q2:=r.length
      rcases hi with hi | hi
      ·exact absurd hi (nown i (by omega))
      ·have z':cl[i]? = some .loc:=hi
       rw [bor i (by omega)] at z'; cases z'
     ·omega)]; exact List.nodup_nil
   ·rw [far i hi] at ha; cases ha
   ·rcases hi with hi | hi
    ·have:¬ i < vs.length:=fun q=>by
      have z':cl[i]? = some .loc:=hi
      rw [bor i q] at z'; cases z'
     rw [h2 i (by have:=r.length; omega)] at ha; cases ha
    ·rw [far i hi.1] at ha; cases ha
  refine ⟨t,pt,h G { nx:=fun _=>Qd .non,rt:=fun d _=>Qd d } _ _ H fa _ rfl E0 (hc ds Qd q) ⟨fun σ' H' hq=>?_,fun v H' hq=>?_,fun σ' H' hq=>?_,fun σ' H' hq=>?_⟩⟩
  ·obtain ⟨ρ',fa',E',qd⟩:=hq
   exact kk .non .non H' [] qd (fun a o h=>E'.frm a o h fun i hi ho=>absurd ho (nown i hi)) .non List.nodup_nil fun a ha=>(by cases ha)
  ·obtain ⟨d,ρ',σ',fa',B',E',r',n1,n2,_,qd⟩:=hq
   exact kk d v H' B' qd (fun a o h=>E'.frm a o h fun i hi ho=>absurd ho (nown i hi)) r' n1 n2
  ·obtain ⟨ρ',fa',E',qd⟩:=hq
   exact qd
  ·obtain ⟨ρ',fa',E',qd⟩:=hq
   exact qd
theorem fnM {x qual:Str} {st:Stmt} {f:Addr} {fd:FuncData} {N ps:List Str} {k:Nat} {c:Cm} {s:TS3} {cl:List Cl} (F:Fun K x qual st f fd) (S:FnScope N ps (defScope st)) (hcl:noOwn cl (ps.length - 1) = true)
  (hl:∀ ds Q,c ds Q -> ds.length = ps.length)
  (hb:∀ (cdv:Value) (A:Around) (outer:List Env) (s0:Shared) (H:Hp) (E:XK),Room k (A.deeper (envOfC qual (defScope st) s0.heap.objs.size f cdv)) -> PB3 (cxOf CX0 P w K mg base N qual (defScope st) f cdv A outer s0 H E).nox (.own :: cl) (defBody st) s)
  (hc:∀ ds Q,c ds Q -> s { nx:=fun ρ=>uVar 0 ρ fun l=>Q .non l,rt:=fun d ρ=>uVar 0 ρ fun l=>Q d l } (startD N.length ds)):FnOk P w K mg base CX0 (k + 1) f fd ps (spM K c):=by
 refine F.ok S (fun vs H Q E h=>?_) (fun cdv A outer s0 H vs Q E hr h=>?_)
 ·obtain ⟨w,vs',d,ds,A,Bs,Qd,rfl,r,n,ap,q,_⟩:=h
  obtain ⟨fa,h1,h2,h3,h4⟩:=ap.each
  have:=hl _ Qd q
  simp at this ⊢
  omega
 ·obtain ⟨w,vs',d,ds,A0,Bs,Qd,rfl,r,n,ap,q,kk⟩:=h
  obtain ⟨fa,h1,h2,h3,h4⟩:=ap.each
  have hlen:=hl _ Qd q
  have hlen':ds.length = ps.length - 1:=by simp at hlen; omega
  obtain ⟨t,pt,h⟩:=(hb cdv A outer s0 H E hr).run
  let fb:Nat -> List Addr:=fun i=>match i with | 0=>A0 | i + 1=>fa i
  let G:Ent:=⟨H,fun i=>if i = 0 then A0 else [],w :: vs',.own :: cl,fun _=>False,H⟩
  have bor:∀ i,i < vs'.length -> cl[i]? = some .bor:=fun i hi=>noOwn_get hcl (by omega)
  have nown:∀ i,i < vs'.length -> ¬ G.own (i + 1):=fun i hi z=>by
   have z':cl[i]? = some .own:=z
   rw [bor i hi] at z'; cases z'
  have own0:G.own 0:=rfl
  have far:∀ i,G.own (i + 1) -> fa i = []:=fun i hi=>h2 i (by
   have q1:¬ i < vs'.length:=fun q=>nown i q hi
   omega)
  have E0:E3 K G (startD N.length (d :: ds)) (L2.start N (w :: vs')) H fb:=by
   refine ⟨fun i d' e=>?_,fun i e=>?_,startD_len (by simp [h4]),fun i hi=>?_,fun i j nij hi a ha=>?_,fun i hi ho=>?_,fun i hi ho a ha=>?_,fun i hi a ha=>?_,fun a o h _=>h,Stb.refl H,fun a z=>z.elim,fun a z=>z.elim,fun i _ a _ z=>z,⟨fun i hi ho=>?_,fun j H' e=>?_⟩⟩
   ·have e':=startD_get e
    cases i with
    | zero=>simp at e'; subst e'; exact ⟨w,start_get (vs:=w :: vs') (i:=0) rfl,r⟩
    | succ i=>
     obtain ⟨v,e1,r1⟩:=h1 i d' (by simpa using e')
     exact ⟨v,start_get (by simpa using e1),r1⟩
   ·cases i with
    | zero=>exact absurd (startD_of (ds:=d :: ds) (i:=0) rfl) (e _)
    | succ i=>
     refine h2 i ?_
     by_cases hi:i < ds.length
     ·exact absurd (startD_of (ds:=d :: ds) (i:=i + 1) (by rw [List.getElem?_cons_succ]; exact List.getElem?_eq_getElem hi)) (e _)
     ·omega
   ·cases i with
    | zero=>exact n
    | succ i=>
     show (fa i).Nodup
     rw [h2 i (by
      by_cases q:i < ds.length
      ·rcases hi with hi | hi
       ·exact absurd hi (nown i (by omega))
       ·have z':cl[i]? = some .loc:=hi
        rw [bor i (by omega)] at z'; cases z'
      ·omega)]; exact List.nodup_nil
   ·cases i with
    | zero=>
     cases j with
     | zero=>exact absurd rfl nij
     | succ j=>exact fun z=>h3 j a z ha
    | succ i=>
     have ha':a ∈ fa i:=ha
     rw [far i hi] at ha'; cases ha'
   ·cases i with
    | zero=>exact start_get (vs:=w :: vs') (i:=0) rfl
    | succ i=>exact absurd ho (nown i (by simpa [G] using hi))
   ·cases i with
    | zero=>exact .inl ha
    | succ i=>exact absurd ho (nown i (by simpa [G] using hi))
   ·cases i with
    | zero=>
     rcases hi with hi | hi
     ·have z:some Cl.own = some .loc:=hi
      cases z
     ·exact absurd (Nat.zero_lt_succ _) hi.2
    | succ i=>
     have ha':a ∈ fa i:=ha
     rcases hi with hi | hi
     ·have:¬ i < vs'.length:=fun q=>by
       have z':cl[i]? = some .loc:=hi
       rw [bor i q] at z'; cases z'
      rw [h2 i (by omega)] at ha'; cases ha'
     ·rw [far i hi.1] at ha'; cases ha'
   ·cases i with
    | zero=>rfl
    | succ i=>exact absurd ho (nown i (by simpa [G] using hi))
   ·cases j with
    | zero=>exact absurd (show some Cl.own = some (.mk H') from e) (by intro z; cases z)
    | succ j=>exact (noOwn_mk hcl (show cl[j]? = some (.mk H') from e)).elim
  have fin:∀ {ρ':Ev} {σ':L2.St} {H':Hp} {fa':Nat -> List Addr} {v:V} {r':D} {l:D} {B:List Addr},E3 K G ρ' σ' H' fa' -> ρ'[0]? = some (some l) -> Qd r' l -> Rep K H' v r' B -> B.Nodup -> (∀ a ∈ B,H a = none) -> (∀ a ∈ B,a ∉ fa' 0) -> Q v H':=fun {ρ' σ' H' fa' v r' l B} E' e qd rr n1 n2 n3=>by
   obtain ⟨v',e1,r1⟩:=E'.rep 0 l e
   have e2:=E'.par 0 (Nat.zero_lt_succ _) own0
   rw [e1] at e2
   have e3:v' = w:=by
    have e4:some (some v') = some (some w):=e2
    cases e4; rfl
   subst e3
   refine kk r' l v H' (fa' 0) B qd r1 (E'.nd 0 (.inl own0)) (fun a ha=>?_) (fun a o h hn=>E'.frm a o h fun i hi ho z=>?_) E'.stb rr n1 fun a ha=>⟨n2 a ha,n3 a ha⟩
   ·exact E'.old 0 (Nat.zero_lt_succ _) own0 a ha
   ·cases i with
    | zero=>exact hn z
    | succ i=>exact absurd ho (nown i (by simpa [G] using hi))
  refine ⟨t,pt,h G { nx:=fun ρ=>uVar 0 ρ fun l=>Qd .non l,rt:=fun d ρ=>uVar 0 ρ fun l=>Qd d l } _ _ H fb _ rfl E0 (hc _ Qd q) ⟨fun σ' H' hq=>?_,fun v H' hq=>?_,fun σ' H' hq=>?_,fun σ' H' hq=>?_⟩⟩
  ·obtain ⟨ρ',fa',E',qd⟩:=hq
   obtain ⟨l,e,qd⟩:=uVar_some qd
   exact fin E' e qd .non List.nodup_nil (fun a ha=>(by cases ha)) fun a ha=>(by cases ha)
  ·obtain ⟨d,ρ',σ',fa',B',E',r',n1,n2,n3,qd⟩:=hq
   obtain ⟨l,e,qd⟩:=uVar_some qd
   exact fin E' e qd r' n1 n2 (n3 0 (Nat.zero_lt_succ _) own0)
  ·obtain ⟨ρ',fa',E',qd⟩:=hq
   exact qd
  ·obtain ⟨ρ',fa',E',qd⟩:=hq
   exact qd
end
end L3
namespace L3
open PySem PySem.Spec L2
section
variable {K:PySem.W.Frag} {G:Ent} {ρ:Ev} {σ:St} {H:Hp} {fa:Nat -> List Addr}
noncomputable def ClOk (G:Ent) (fa:Nat -> List Addr) (B:List Addr) (i:Nat):Prop:=
 (∀ j,j ≠ i -> G.own j -> ∀ a ∈ B,a ∉ fa j) /\
 match G.cl[i]? with
 | some .own=>i ≠ 0 /\ B.Nodup /\ (∀ a ∈ B,G.H₀ a = none /\ ¬ G.Z a /\ ∀ j,j ≠ i -> a ∉ fa j)
 | some .loc=>B.Nodup /\ ∀ a ∈ B,G.H₀ a = none
 | _=>True
theorem E3.set {v:V} {d:D} {B:List Addr} {i:Nat} (E:E3 K G ρ σ H fa) (hi:i < ρ.length) (r:Rep K H v d B) (h:ClOk G fa B i):E3 K G (ρ.set i (some d)) (σ.set i (some v)) H (fun j=>if j = i then B else fa j):=by
 have hs:i < σ.length:=by rw [<- E.len]; exact hi
 have hown:G.own i -> i ≠ 0 /\ B.Nodup /\ (∀ a ∈ B,G.H₀ a = none /\ ¬ G.Z a /\ ∀ j,j ≠ i -> a ∉ fa j):=fun o=>by
  have q:=h.2
  unfold Ent.own at o
  rw [o] at q
  exact q
 have hloc:G.cl[i]? = some .loc -> B.Nodup /\ ∀ a ∈ B,G.H₀ a = none:=fun o=>by
  have q:=h.2
  rw [o] at q
  exact q
 refine ⟨fun j d' e=>?_,fun j e=>?_,by simp [E.len],fun j hj=>?_,fun j l n hj a ha=>?_,fun j hj ho=>?_,fun j hj ho a ha=>?_,fun j hj a ha=>?_,E.frm,E.stb,E.zk,E.zn,fun j hj a ha=>?_,E.po⟩
 ·by_cases q:j = i
  ·subst q
   rw [List.getElem?_set_self hi] at e
   cases e
   exact ⟨v,List.getElem?_set_self hs,by rw [if_pos rfl]; exact r⟩
  ·rw [List.getElem?_set_ne (Ne.symm q)] at e
   obtain ⟨w,e1,r1⟩:=E.rep j d' e
   exact ⟨w,by rw [List.getElem?_set_ne (Ne.symm q)]; exact e1,by rw [if_neg q]; exact r1⟩
 ·by_cases q:j = i
  ·subst q
   exact absurd (List.getElem?_set_self hi) (e d)
  ·rw [if_neg q]
   exact E.emp j fun d z=>e d (by rw [List.getElem?_set_ne (Ne.symm q)]; exact z)
 ·by_cases q:j = i
  ·subst q
   rw [if_pos rfl]
   rcases hj with hj | hj
   ·exact (hown hj).2.1
   ·exact (hloc hj).1
  ·rw [if_neg q]; exact E.nd j hj
 ·by_cases q:j = i
  ·subst q
   rw [if_pos rfl] at ha
   rw [if_neg (Ne.symm n)]
   exact ((hown hj).2.2 a ha).2.2 l (Ne.symm n)
  ·rw [if_neg q] at ha
   by_cases q2:l = i
   ·subst q2
    rw [if_pos rfl]
    exact fun z=>h.1 j q hj a z ha
   ·rw [if_neg q2]
    exact E.dj j l n hj a ha
 ·have q:j ≠ i:=fun e=>(hown (e ▸ ho)).1 (e ▸ E.po.one j hj ho)
  rw [List.getElem?_set_ne (Ne.symm q)]
  exact E.par j hj ho
 ·have q:j ≠ i:=fun e=>(hown (e ▸ ho)).1 (e ▸ E.po.one j hj ho)
  rw [if_neg q] at ha
  exact E.old j hj ho a ha
 ·by_cases q:j = i
  ·subst q
   rw [if_pos rfl] at ha
   rcases hj with hj | hj
   ·exact (hloc hj).2 a ha
   ·exact ((hown hj.1).2.2 a ha).1
  ·rw [if_neg q] at ha; exact E.new j hj a ha
 ·by_cases q:j = i
  ·subst q
   rw [if_pos rfl] at ha
   exact ((hown hj).2.2 a ha).2.1
  ·rw [if_neg q] at ha; exact E.zo j hj a ha
noncomputable def clOk (c:Option Cl) (f:Fl) (i:Nat):Bool:=match c,f with
 | some .own,.fresh=>decide (i ≠ 0)
 | some .own,_=>false
 | some .loc,.fresh=>true
 | some .loc,.locl=>true
 | some .loc,_=>false
 | _,.any=>false
 | _,_=>true
theorem E3.zfree (E:E3 K G ρ σ H fa) {a:Addr} (h:H a = none):¬ G.Z a:=fun z=>by
 have q:=E.zk a z
 rw [h] at q
 exact E.zn a z q.symm
theorem ClOk.of (E:E3 K G ρ σ H fa) {B:List Addr} {f:Fl} {i:Nat} (h:FlOk G H fa B f) (hc:clOk G.cl[i]? f i = true):ClOk G fa B i:=by
 have st:f ≠ .any -> FlOk G H fa B .stab:=fun n=>h.weak E (by cases f <;> first | rfl | exact absurd rfl n)
 have na:f ≠ .any:=fun e=>by
  subst e
  generalize G.cl[i]? = c at hc
  cases c with
  | none=>cases hc
  | some c=>cases c <;> cases hc
 refine ⟨fun j _ hj a ha=>st na j hj a ha,?_⟩
 cases e:G.cl[i]? with
 | none=>trivial
 | some c=>
  rw [e] at hc
  cases c with
  | own=>
   cases f with
   | fresh=>exact ⟨of_decide_eq_true hc,h.1,fun a ha=>⟨E.stb.dom a (h.2 a ha),E.zfree (h.2 a ha),fun j _ z=>E.there j z (h.2 a ha)⟩⟩
   | _=>cases hc
  | loc=>
   have q:=h.weak E (g:=.locl) (by cases f <;> first | rfl | cases hc)
   exact ⟨q.2.2,q.2.1⟩
  | bor=>trivial
  | mk _=>trivial
theorem ClOk.new (E:E3 K G ρ σ H fa) {H0:Hp} {fa0:Nat -> List Addr} {ρ0:Ev} {σ0:St} (E0:E3 K G ρ0 σ0 H0 fa0) {B:List Addr} {i:Nat} (n1:B.Nodup) (n2:∀ a ∈ B,H0 a = none /\ ∀ j,a ∉ fa j) (hc:G.cl[i]? ≠ some .own \/ i ≠ 0):ClOk G fa B i:=by
 refine ⟨fun j _ hj a ha=>(n2 a ha).2 j,?_⟩
 cases e:G.cl[i]? with
 | none=>trivial
 | some c=>
  cases c with
  | own=>exact ⟨hc.resolve_left (fun z=>z e),n1,fun a ha=>⟨E0.stb.dom a (n2 a ha).1,E0.zfree (n2 a ha).1,fun j _=>(n2 a ha).2 j⟩⟩
  | loc=>exact ⟨n1,fun a ha=>E0.stb.dom a (n2 a ha).1⟩
  | bor=>trivial
  | mk _=>trivial
end
section
variable {X:Cx} {cl:List Cl} {e a b:Expr} {es:List Expr} {f:Fl} {pos pos':Pos} {ua ub:TU} {ma mb:TM} {x:Str} {i:Nat} {st:Stmt} {sts:List Stmt} {s s2:TS3}
noncomputable def sNext:TS3:=fun T ρ=>T.nx ρ
noncomputable def sSeq (s u:TS3):TS3:=fun T ρ=>s { nx:=u T,rt:=T.rt,bk:=T.bk,ct:=T.ct } ρ
theorem b_nil:PB3 X cl [] sNext:=.of ⟨_,pss_nil,fun G T ρ σ H fa R hG E h le=>le.nx σ H ⟨ρ,fa,E,h⟩⟩
theorem b_cons (h1:PS3 X cl st s) (h2:PB3 X cl sts s2):PB3 X cl (st :: sts) (sSeq s s2):=.of <| by
 obtain ⟨t1,p1,h1⟩:=h1.run
 obtain ⟨t2,p2,h2⟩:=h2.run
 refine ⟨_,pss_cons p1 p2,fun G T ρ σ H fa R hG E h le=>?_⟩
 refine h1 G _ ρ σ H fa _ hG E h ⟨fun σ' H' q=>?_,le.rt,le.bk,le.ct⟩
 obtain ⟨ρ',fa',E',q⟩:=q
 exact h2 G T ρ' σ' H' fa' R hG E' q le
theorem b_one (h1:PS3 X cl st s):PB3 X cl [st] s:=.of <| let ⟨t1,p1,h1⟩:=h1.run; ⟨_,pss_one p1,h1⟩
noncomputable def sSet (i:Nat) (u:TU):TS3:=fun T ρ=>u ρ fun d=>Nat.blt i ρ.length = true /\ T.nx (ρ.set i (some d))
theorem s_set (hN:X.N.Nodup) (hi:X.N[i]? = some x) (hx:Loc X.env.scope x) (he:PU X cl e f ua) (hc:clOk cl[i]? f i = true) (hs:swapsWith e (some (.Name x pos')) pos.line X.env = pure false:=by rfl) (hf:X.fn x = true \/ X.env.scope.names.lookup x = some .local:=by first | exact .inl rfl | exact .inr rfl | assumption) :
  PS3 X cl (.Assign [.Name x pos'] e pos) (sSet i ua):=.of <| by
 obtain ⟨t,p,h⟩:=he.run
 refine ⟨_,ps_set hN hi hx p hs hf,fun G T ρ σ H fa R hG E hu le=>?_⟩
 refine h G ρ σ H fa _ _ hG E hu fun v H' d B s r fo q=>?_
 exact le.nx _ _ ⟨_,_,(E.same s).set (Nat.le_of_ble_eq_true q.1) r (ClOk.of E fo (by rw [hG]; exact hc)),q.2⟩
noncomputable def sSetM (i:Nat) (u:TM):TS3:=fun T ρ=>u ρ fun d ρ'=>Nat.blt i ρ'.length = true /\ T.nx (ρ'.set i (some d))
noncomputable def notOwn0 (c:Option Cl) (i:Nat):Bool:=match c with
 | some .own=>decide (i ≠ 0)
 | _=>true
theorem notOwn0_of {c:Option Cl} {i:Nat} (h:notOwn0 c i = true):c ≠ some .own \/ i ≠ 0:=by
 unfold notOwn0 at h
 split at h
 ·exact .inr (of_decide_eq_true h)
 ·rename_i q
  exact .inl fun e=>q e
theorem s_setM (hN:X.N.Nodup) (hi:X.N[i]? = some x) (hx:Loc X.env.scope x) (he:PM X cl e ma) (hc:notOwn0 cl[i]? i = true) (hs:swapsWith e (some (.Name x pos')) pos.line X.env = pure false:=by rfl) (hf:X.fn x = true \/ X.env.scope.names.lookup x = some .local:=by first | exact .inl rfl | exact .inr rfl | assumption) :
  PS3 X cl (.Assign [.Name x pos'] e pos) (sSetM i ma):=.of <| by
 obtain ⟨t,p,h⟩:=he.run
 refine ⟨_,ps_set hN hi hx p hs hf,fun G T ρ σ H fa R hG E hu le=>?_⟩
 refine h G ρ σ H fa _ _ hG E hu fun v H' d B ρ' fa' E' c r n1 n2 q=>?_
 exact le.nx _ _ ⟨_,_,E'.set (Nat.le_of_ble_eq_true q.1) r (ClOk.new E' E n1 n2 (by rw [hG]; exact notOwn0_of hc)),q.2⟩
noncomputable def sIf (c:TTM) (s u:TS3):TS3:=fun T ρ=>c ρ fun k ρ'=>Br k (s T ρ') (u T ρ')
theorem s_if {c:Expr} {A B:List Stmt} {mc:TTM} (hc:PTM X cl c mc) (ha:PB3 X cl A s) (hb:PB3 X cl B s2):PS3 X cl (.If c A B pos) (sIf mc s s2):=.of <| by
 obtain ⟨t,p,hc⟩:=hc.run
 obtain ⟨t1,p1,h1⟩:=ha.run
 obtain ⟨t2,p2,h2⟩:=hb.run
 refine ⟨_,ps_if p p1 p2,fun G T ρ σ H fa R hG E hu le=>hc G ρ σ H fa _ _ hG E hu fun b H' ρ' fa' E' c q=>?_⟩
 cases b with
 | true=>rw [if_pos rfl]; exact h1 G T ρ' σ H' fa' R hG E' (q.t rfl) le
 | false=>rw [if_neg Bool.false_ne_true]; exact h2 G T ρ' σ H' fa' R hG E' (q.f rfl) le
noncomputable def sRet (u:TU):TS3:=fun T ρ=>u ρ fun d=>T.rt d ρ
theorem s_ret (he:PU X cl e f ua) (hf:flMin f .locl = true):PS3 X cl (.Return (some e) pos) (sRet ua):=.of <| by
 obtain ⟨t,p,h⟩:=he.run
 refine ⟨_,ps_ret p,fun G T ρ σ H fa R hG E hu le=>h G ρ σ H fa _ _ hG E hu fun v H' d B s r fo q=>?_⟩
 have fl:=fo.weak E hf
 exact le.rt v H' ⟨d,ρ,σ,fa,B,E.same s,r,fl.2.2,fl.2.1,fun i _ hi a ha=>fl.1 i hi a ha,q⟩
noncomputable def sRetM (u:TM):TS3:=fun T ρ=>u ρ fun d ρ'=>T.rt d ρ'
theorem s_retM (he:PM X cl e ma):PS3 X cl (.Return (some e) pos) (sRetM ma):=.of <| by
 obtain ⟨t,p,h⟩:=he.run
 refine ⟨_,ps_ret p,fun G T ρ σ H fa R hG E hu le=>h G ρ σ H fa _ _ hG E hu fun v H' d B ρ' fa' E' c r n1 n2 q=>?_⟩
 exact le.rt v H' ⟨d,ρ',σ,fa',B,E',r,n1,fun a ha=>E.stb.dom a (n2 a ha).1,fun i _ hi a ha=>(n2 a ha).2 i,q⟩
theorem s_retV (i:Nat) {vp:Pos} (h:PE X (.Name x vp) (tVar i)) (hi:i ≠ 0) (hc:cl[i]? = some .own):PS3 X cl (.Return (some (.Name x vp)) pos) (sRet (uVar i)):=.of <| by
 refine ⟨_,ps_ret h,fun G T ρ σ H fa R hG E hu le=>?_⟩
 obtain ⟨d,e,q⟩:=uVar_some hu
 obtain ⟨v,e1,r⟩:=E.rep i d e
 have o:G.own i:=by unfold Ent.own; rw [hG]; exact hc
 refine ⟨v,e1,le.rt v H ⟨d,ρ,σ,fa,fa i,E,r,E.nd i (.inl o),E.new i (.inr ⟨o,fun z=>hi (E.po.one i z o)⟩),fun j hj ho a ha z=>?_,q⟩⟩
 exact E.dj i j (fun e=>hi (e ▸ E.po.one j hj ho)) o a ha z
noncomputable def sDrop (u:TM):TS3:=fun T ρ=>u ρ fun _ ρ'=>T.nx ρ'
theorem s_expr (he:PN X cl e ma) (hs:swapsWith e none pos.line X.env = pure false:=by rfl):PS3 X cl (.Expr e pos) (sDrop ma):=.of <| by
 obtain ⟨t,p,h⟩:=he.run
 refine ⟨_,ps_expr p hs,fun G T ρ σ H fa R hG E hu le=>h G ρ σ H fa _ _ hG E hu fun v H' d B ρ' fa' E' c r n q=>?_⟩
 exact le.nx _ _ ⟨ρ',fa',E',q⟩
end
end L3
namespace L3
open PySem PySem.Spec L2
section
variable {K:PySem.W.Frag} {G:Ent} {ρ:Ev} {σ:St} {H H1 H2:Hp} {fa fa1:Nat -> List Addr}
theorem E3.put {i:Nat} {v:V} {d:D} {p:Addr} {A:List Addr} (E:E3 K G ρ σ H1 fa1) (o:G.own i) (hi:i < ρ.length) (hv:σ[i]? = some (some v)) (hp:p ∈ fa1 i) (k:∀ a,a ≠ p -> H2 a = H1 a) (hp2:H2 p ≠ none)
  (r:Rep K H2 v d A) (n1:A.Nodup) (n2:∀ a ∈ A,a ∈ fa1 i \/ (G.H₀ a = none /\ ¬ G.Z a /\ ∀ j,a ∉ fa1 j)):E3 K G (ρ.set i (some d)) σ H2 (fun j=>if j = i then A else fa1 j):=by
 have mu:=E.trk i p hp
 have stb:Stb H1 H2:=⟨fun b xs h=>by
   by_cases e:b = p
   ·subst e; rw [h] at mu; exact mu.elim
   ·rw [k b e]; exact h,fun b u w h=>by
   by_cases e:b = p
   ·subst e; rw [h] at mu; exact mu.elim
   ·rw [k b e]; exact h,fun b h=>by
   by_cases e:b = p
   ·subst e; exact absurd h hp2
   ·rw [k b e] at h; exact h⟩
 have np:∀ j,j ≠ i -> p ∉ fa1 j:=fun j n z=>E.dj i j (Ne.symm n) o p hp z
 have hs:i < σ.length:=by rw [<- E.len]; exact hi
 refine ⟨fun j d' e=>?_,fun j e=>?_,by simp [E.len],fun j hj=>?_,fun j l n hj a ha=>?_,E.par,fun j hj ho a ha=>?_,fun j hj a ha=>?_,fun a u h n=>?_,E.stb.trans stb,fun a z=>?_,E.zn,fun j hj a ha=>?_,E.po⟩
 ·by_cases q:j = i
  ·subst q
   rw [List.getElem?_set_self hi] at e
   cases e
   exact ⟨v,hv,by rw [if_pos rfl]; exact r⟩
  ·rw [List.getElem?_set_ne (Ne.symm q)] at e
   obtain ⟨w,e1,r1⟩:=E.rep j d' e
   refine ⟨w,e1,?_⟩
   rw [if_neg q]
   exact r1.mono stb fun a ha=>k a fun e=>np j q (e ▸ ha)
 ·by_cases q:j = i
  ·subst q
   exact absurd (List.getElem?_set_self hi) (e d)
  ·rw [if_neg q]
   exact E.emp j fun d z=>e d (by rw [List.getElem?_set_ne (Ne.symm q)]; exact z)
 ·by_cases q:j = i
  ·rw [if_pos q]; exact n1
  ·rw [if_neg q]; exact E.nd j hj
 ·by_cases q:j = i
  ·subst q
   rw [if_pos rfl] at ha
   rw [if_neg (Ne.symm n)]
   rcases n2 a ha with y | y
   ·exact E.dj j l n o a y
   ·exact y.2.2 l
  ·rw [if_neg q] at ha
   by_cases q2:l = i
   ·subst q2
    rw [if_pos rfl]
    intro z
    rcases n2 a z with y | y
    ·exact E.dj j l q hj a ha y
    ·exact y.2.2 j ha
   ·rw [if_neg q2]
    exact E.dj j l n hj a ha
 ·by_cases q:j = i
  ·subst q
   rw [if_pos rfl] at ha
   rcases n2 a ha with y | y
   ·exact E.old j hj ho a y
   ·exact .inr y.1
  ·rw [if_neg q] at ha; exact E.old j hj ho a ha
 ·by_cases q:j = i
  ·subst q
   rw [if_pos rfl] at ha
   rcases n2 a ha with y | y
   ·exact E.new j hj a y
   ·exact y.1
  ·rw [if_neg q] at ha; exact E.new j hj a ha
 ·have hne:a ≠ p:=fun e=>by
   subst e
   by_cases hq:i < G.vs.length
   ·rcases E.old i hq o a hp with y | y
    ·exact n i hq o y
    ·rw [h] at y; cases y
   ·have y:=E.new i (.inr ⟨o,hq⟩) a hp
    rw [h] at y; cases y
  rw [k a hne]
  exact E.frm a u h n
 ·rw [k a (fun e=>E.zo i o p hp (e ▸ z))]
  exact E.zk a z
 ·by_cases q:j = i
  ·subst q
   rw [if_pos rfl] at ha
   rcases n2 a ha with y | y
   ·exact E.zo j hj a y
   ·exact y.2.1
  ·rw [if_neg q] at ha; exact E.zo j hj a ha
theorem Chg.put {i:Nat} {p:Addr} {A:List Addr} (c:Chg K G H fa H1 fa1) (E:E3 K G ρ σ H1 fa1) (o:G.own i) (hp:p ∈ fa1 i) (k:∀ a,a ≠ p -> H2 a = H1 a) (hp2:H2 p ≠ none) (n2:∀ a ∈ A,a ∈ fa1 i \/ H a = none):Chg K G H fa H2 (fun j=>if j = i then A else fa1 j):=by
 have mu:=E.trk i p hp
 refine ⟨fun a u h n=>?_,c.stb.trans ⟨fun b xs h=>?_,fun b u w h=>?_,fun b h=>?_⟩,fun j hj a ha=>?_,fun j hj=>?_⟩
 ·have hne:a ≠ p:=fun e=>by
   subst e
   rcases c.new i o a hp with y | y
   ·exact n i o y
   ·rw [h] at y; cases y
  rw [k a hne]
  exact c.frm a u h n
 ·by_cases e:b = p
  ·subst e; rw [h] at mu; exact mu.elim
  ·rw [k b e]; exact h
 ·by_cases e:b = p
  ·subst e; rw [h] at mu; exact mu.elim
  ·rw [k b e]; exact h
 ·by_cases e:b = p
  ·subst e; exact absurd h hp2
  ·rw [k b e] at h; exact h
 ·by_cases q:j = i
  ·subst q
   rw [if_pos rfl] at ha
   rcases n2 a ha with y | y
   ·exact c.new j hj a y
   ·exact .inr y
  ·rw [if_neg q] at ha; exact c.new j hj a ha
 ·exact (if_neg fun e:j = i=>hj (by rw [e]; exact o)).trans (c.bor j hj)
theorem upd_out {H:Hp} {p:Addr} {o:HO}:∀ a,a ≠ p -> upd H p o a = H a:=fun a n=>upd_ne n
end
section
variable {X:Cx} {cl:List Cl} {e a b:Expr} {es:List Expr} {f:Fl} {pos pos':Pos} {ua ub:TU} {ma mb:TM} {x:Str} {i:Nat} {st:Stmt} {sts:List Stmt} {s s2:TS3}
noncomputable def isLst:D -> Bool
 | .lst _=>true
 | _=>false
noncomputable def putApp (i:Nat) (d:D) (ρ:Ev) (Q:Ev -> Prop):D -> Prop
 | .lst xs=>xs.length < sizeLine /\ Q (ρ.set i (some (.lst (xs ++ [d]))))
 | _=>False
noncomputable def mApp (i:Nat) (ma:TM):TM:=fun ρ Q=>uVar i ρ fun l=>isLst l = true /\ ma ρ fun d ρ'=>uVar i ρ' (putApp i d ρ' (Q .non))
theorem pm_append {r:V -> List V -> Hp -> VK -> Prop} {apos vp:Pos} (i:Nat) (hv:PE X (.Name x vp) (tVar i)) (hi:cl[i]? = some .own) (he:PM X cl e ma) (hst:isStar e = false)
  (mk:∀ {t},PA X [e] t -> PE X (.Call (.Attribute (.Name x vp) "append" apos) [e] [] pos) (tBM X.K "list" rAppend (tVar i) t)):PM X cl (.Call (.Attribute (.Name x vp) "append" apos) [e] [] pos) (mApp i ma):=.of <| by
 obtain ⟨t,p,h⟩:=he.run
 refine ⟨_,mk (pa_k p pa_nil hst),fun G ρ σ H fa Q R hG E hu k=>?_⟩
 obtain ⟨l0,e0,il,hu⟩:=uVar_some hu
 have own:G.own i:=by unfold Ent.own; rw [hG]; exact hi
 obtain ⟨v,hvi,r0⟩:=E.rep i l0 e0
 cases l0 <;> first | cases il | skip
 obtain ⟨p,vs,B,rfl,hp,_,_⟩:=rep_lst r0
 refine ⟨_,hvi,.inl ⟨rfl,vs,SqL.of hp⟩,h G ρ σ H fa _ _ hG E hu fun w H1 d B1 ρ1 fa1 E1 c1 r1 n1 n2 q=>?_⟩
 obtain ⟨l1,e1,q⟩:=uVar_some q
 obtain ⟨v',hv',r2⟩:=E1.rep i l1 e1
 have ev:v' = .ref p:=by rw [hvi] at hv'; cases hv'; rfl
 subst ev
 cases l1 <;> first | exact (show False from q).elim | skip
 rename_i xs
 obtain ⟨p',vs',B',ep,hp',rs,eA⟩:=rep_lst r2
 cases ep
 have q:xs.length < sizeLine /\ Q .non (ρ1.set i (some (.lst (xs ++ [d])))):=q
 have nd:=E1.nd i (.inl own)
 have pin:p ∈ fa1 i:=by rw [eA]; exact List.mem_cons_self
 rw [eA] at nd
 obtain ⟨np,ndB⟩:=List.nodup_cons.mp nd
 have hpB1:p ∉ B1:=fun z=>(n2 p z).2 i pin
 have st:Stb H1 (upd H1 p (.lst (vs' ++ [w]))):=⟨fun b ys h=>by
   by_cases e:b = p
   ·subst e; rw [hp'] at h; cases h
   ·rw [upd_ne e]; exact h,fun b u w' h=>by
   by_cases e:b = p
   ·subst e; rw [hp'] at h; cases h
   ·rw [upd_ne e]; exact h,fun b h=>by
   by_cases e:b = p
   ·subst e; rw [upd_same] at h; cases h
   ·rw [upd_ne e] at h; exact h⟩
 have rn:Rep X.K (upd H1 p (.lst (vs' ++ [w]))) (.ref p) (.lst (xs ++ [d])) (p :: (B' ++ (B1 ++ []))):=
  .lst upd_same ((rs.mono st fun a ha=>upd_ne fun e=>np (e ▸ ha)).append (.cons (r1.mono st fun a ha=>upd_ne fun e=>hpB1 (e ▸ ha)) .nil))
 rw [List.append_nil] at rn
 have n3:∀ a ∈ p :: (B' ++ B1),a ∈ fa1 i \/ a ∈ B1:=fun a ha=>by
  rcases List.mem_cons.mp ha with z | z
  ·exact .inl (z ▸ pin)
  ·rcases List.mem_append.mp z with y | y
   ·exact .inl (by rw [eA]; exact List.mem_cons_of_mem _ y)
   ·exact .inr y
 have nod:(p :: (B' ++ B1)).Nodup:=List.nodup_cons.mpr ⟨fun z=>(List.mem_append.mp z).elim np hpB1,List.nodup_append.mpr ⟨ndB,n1,fun a ha b hb e=>(n2 b hb).2 i (by rw [eA,<- e]; exact List.mem_cons_of_mem _ ha)⟩⟩
 have li:i < ρ1.length:=(List.getElem?_eq_some_iff.mp e1).1
 refine ⟨p,vs',w,rfl,rfl,hp',by rw [rs.length]; exact q.1,?_⟩
 refine k .non _ .non [] _ _ (E1.put own li hv' pin upd_out (by rw [upd_same]; exact fun z=>nomatch z) rn nod fun a ha=>(n3 a ha).imp id fun y=>⟨E.stb.dom a (n2 a y).1,E.zfree (n2 a y).1,(n2 a y).2⟩) (c1.put E1 own pin upd_out (by rw [upd_same]; exact fun z=>nomatch z) fun a ha=>(n3 a ha).imp id fun y=>(n2 a y).1) .non List.nodup_nil (fun a ha=>(by cases ha)) q.2
noncomputable def putIx (i:Nat) (k:Int) (d:D) (ρ:Ev) (Q:Ev -> Prop):D -> Prop
 | .lst xs=>∃ j,ixN xs.length k = some j /\ Q (ρ.set i (some (.lst (xs.set j d))))
 | _=>False
noncomputable def sPut (i:Nat) (me mk:TM):TS3:=fun T ρ=>me ρ fun d ρ1=>uVar i ρ1 fun _=>mk ρ1 fun k ρ2=>match k with
 | .int k=>uVar i ρ2 (putIx i k d ρ2 T.nx)
 | _=>False
theorem s_put {vp tp:Pos} {ik:Expr} {mk:TM} (i:Nat) (hv:PE X (.Name x vp) (tVar i)) (hi:cl[i]? = some .own) (he:PM X cl e ma) (hk:PN X cl ik mk)
  (mkS:∀ {te ti},PE X e te -> PE X ik ti -> PS X (.Assign [.Subscript (.Name x vp) ik tp] e pos) (tAsg te (gSub (tVar i) ti rSetL))):PS3 X cl (.Assign [.Subscript (.Name x vp) ik tp] e pos) (sPut i ma mk):=.of <| by
 obtain ⟨t,p,h⟩:=he.run
 obtain ⟨t2,p2,h2⟩:=hk.run
 refine ⟨_,mkS p p2,fun G T ρ σ H fa R hG E hu le=>?_⟩
 have own:G.own i:=by unfold Ent.own; rw [hG]; exact hi
 refine h G ρ σ H fa _ _ hG E hu fun w H1 d B1 ρ1 fa1 E1 c1 r1 n1 n2 q=>?_
 obtain ⟨l0,e0,q⟩:=uVar_some q
 obtain ⟨v,hvi,r0⟩:=E1.rep i l0 e0
 refine ⟨_,hvi,h2 G ρ1 σ H1 fa1 _ _ hG E1 q fun wk H2 dk Bk ρ2 fa2 E2 c2 rk nk q=>?_⟩
 cases dk <;> first | exact (show False from q).elim | skip
 rename_i kk
 cases rep_int rk
 obtain ⟨l1,e1,q⟩:=uVar_some q
 obtain ⟨v',hv',r2⟩:=E2.rep i l1 e1
 have ev:v' = v:=by rw [hvi] at hv'; cases hv'; rfl
 subst ev
 cases l1 <;> first | exact (show False from q).elim | skip
 rename_i xs
 obtain ⟨p,vs,B,rfl,hp,rs,eA⟩:=rep_lst r2
 obtain ⟨j,hj,q⟩:∃ j,ixN xs.length kk = some j /\ T.nx (ρ2.set i (some (.lst (xs.set j d)))):=q
 have r1':=c2.keep r1 fun i _ a ha=>(n2 a ha).2 i
 have apB:∀ a ∈ B1,∀ l,a ∉ fa2 l:=fun a ha l z=>by
  by_cases ho:G.own l
  ·rcases c2.new l ho a z with y | y
   ·exact (n2 a ha).2 l y
   ·exact r1.there ha y
  ·rw [c2.bor l ho] at z; exact (n2 a ha).2 l z
 have nd:=E2.nd i (.inl own)
 have pin:p ∈ fa2 i:=by rw [eA]; exact List.mem_cons_self
 rw [eA] at nd
 obtain ⟨np,ndB⟩:=List.nodup_cons.mp nd
 have hpB1:p ∉ B1:=fun z=>apB p z i pin
 have st:∀ ws,Stb H2 (upd H2 p (.lst ws)):=fun ws=>⟨fun b ys h=>by
   by_cases e:b = p
   ·subst e; rw [hp] at h; cases h
   ·rw [upd_ne e]; exact h,fun b u w' h=>by
   by_cases e:b = p
   ·subst e; rw [hp] at h; cases h
   ·rw [upd_ne e]; exact h,fun b h=>by
   by_cases e:b = p
   ·subst e; rw [upd_same] at h; cases h
   ·rw [upd_ne e] at h; exact h⟩
 obtain ⟨C,rC,mC,nC⟩:=Reps.set j rs r1'
 have hpC:p ∉ C:=fun z=>(mC p z).elim np hpB1
 have rn:Rep X.K (upd H2 p (.lst (vs.set j w))) (.ref p) (.lst (xs.set j d)) (p :: C):=.lst upd_same (rC.mono (st _) fun a ha=>upd_ne fun e=>hpC (e ▸ ha))
 have n3:∀ a ∈ p :: C,a ∈ fa2 i \/ a ∈ B1:=fun a ha=>by
  rcases List.mem_cons.mp ha with z | z
  ·exact .inl (z ▸ pin)
  ·exact (mC a z).imp (fun y=>by rw [eA]; exact List.mem_cons_of_mem _ y) id
 have nod:(p :: C).Nodup:=List.nodup_cons.mpr ⟨hpC,nC ndB n1 fun a ha z=>apB a ha i (by rw [eA]; exact List.mem_cons_of_mem _ z)⟩
 have li:i < ρ2.length:=(List.getElem?_eq_some_iff.mp e1).1
 refine ⟨p,vs,kk,j,rfl,rfl,hp,by rw [rs.length]; exact hj,?_⟩
 exact le.nx _ _ ⟨_,_,E2.put own li hv' pin upd_out (by rw [upd_same]; exact fun z=>nomatch z) rn nod fun a ha=>(n3 a ha).imp id fun y=>⟨E.stb.dom a (n2 a y).1,E.zfree (n2 a y).1,apB a y⟩,q⟩
end
end L3
namespace L3
open PySem PySem.Spec L2
noncomputable def ItOk (K:PySem.W.Frag) (J:It) (xs:List D) (C:List Addr) (H:Hp):Prop:=∀ H',Tf H H' -> (∀ a ∈ C,H' a = H a) -> ∀ i,(xs.length = i -> J.stop i H') /\
 ∀ d,xs[i]? = some d -> J.go i H' /\ ∀ x H2,J.yld i H' x H2 -> Same H' H2 /\ ∃ B,Rep K H2 x d B /\ B.Sublist C
noncomputable abbrev TIU:=Ev -> (List D -> Prop) -> Prop
noncomputable abbrev TIM:=Ev -> (List D -> Ev -> Prop) -> Prop
structure PIU (X:Cx) (cl:List Cl) (tg iter:Expr) (f:Fl) (u:TIU):Prop where
 of ::
 run:∃ wi,PI X tg iter wi /\ ∀ (G:Ent) (ρ:Ev) (σ:St) (H:Hp) (fa:Nat -> List Addr) (Q:List D -> Prop) (R:It -> Hp -> Prop),G.cl = cl -> E3 X.K G ρ σ H fa -> u ρ Q ->
  (∀ J H1 xs C,Same H H1 -> ItOk X.K J xs C H1 -> (∀ a ∈ C,H1 a ≠ none) -> FlOk G H fa C f -> Q xs -> R J H1) -> wi σ H R
structure PIM (X:Cx) (cl:List Cl) (tg iter:Expr) (u:TIM):Prop where
 of ::
 run:∃ wi,PI X tg iter wi /\ ∀ (G:Ent) (ρ:Ev) (σ:St) (H:Hp) (fa:Nat -> List Addr) (Q:List D -> Ev -> Prop) (R:It -> Hp -> Prop),G.cl = cl -> E3 X.K G ρ σ H fa -> u ρ Q ->
  (∀ J H1 xs C ρ1 fa1,E3 X.K G ρ1 σ H1 fa1 -> Chg X.K G H fa H1 fa1 -> ItOk X.K J xs C H1 -> (∀ a ∈ C,H1 a ≠ none) -> (∀ i,G.own i -> ∀ a ∈ C,a ∉ fa1 i) -> Q xs ρ1 -> R J H1) -> wi σ H R
section
variable {X:Cx} {cl:List Cl} {tg e a b:Expr} {es:List Expr} {f:Fl} {pos pos':Pos} {ua ub:TU} {ma mb:TM} {x:Str} {i:Nat}
noncomputable def iP (u:TIU):TIM:=fun ρ Q=>u ρ fun xs=>Q xs ρ
theorem PIU.m {u:TIU} (h:PIU X cl tg e f u) (hf:flMin f .stab = true):PIM X cl tg e (iP u):=.of <| by
 obtain ⟨t,p,h⟩:=h.run
 exact ⟨t,p,fun G ρ σ H fa Q R hG E hu k=>h G ρ σ H fa _ _ hG E hu fun J H1 xs C s it tr fo q=>k J H1 xs C ρ fa (E.same s) (Chg.same s) it tr (fo.weak E hf) q⟩
theorem seq_get {K:PySem.W.Frag} {H H':Hp} {vs:List V} {xs:List D} {C:List Addr} (r:Reps K H vs xs C) (tf:Tf H H') (k:∀ a ∈ C,H' a = H a) {i:Nat} {d:D} (e:xs[i]? = some d):∃ v B,vs[i]? = some v /\ Rep K H' v d B /\ B.Sublist C:=(r.mono0 tf k).get e
theorem itL {K:PySem.W.Frag} {H:Hp} {p:Addr} {vs:List V} {xs:List D} {C:List Addr} (h:H p = some (.lst vs)) (r:Reps K H vs xs C):ItOk K (Itl K p) xs (p :: C) H:=fun H' tf k i=>by
 have hp:H' p = some (.lst vs):=(k p List.mem_cons_self).trans h
 have kC:∀ a ∈ C,H' a = H a:=fun a ha=>k a (List.mem_cons_of_mem _ ha)
 refine ⟨fun hl=>⟨vs,SqL.of hp,by rw [r.length]; exact Nat.le_of_eq hl⟩,fun d e=>?_⟩
 obtain ⟨v,B,e1,r1,s1⟩:=seq_get r tf kC e
 refine ⟨⟨vs,v,SqL.of hp,e1⟩,fun y H2 hy=>?_⟩
 obtain ⟨e2,hy⟩:=hy
 subst e2
 have e3:=hy vs (SqL.of hp)
 rw [e1] at e3
 cases e3
 exact ⟨Same.refl _,B,r1,s1.trans (List.sublist_cons_self _ _)⟩
theorem itF {K:PySem.W.Frag} {H:Hp} {p:Addr} {vs:List V} {xs:List D} {C:List Addr} (h:FzL K H p vs) (r:Reps K H vs xs C):ItOk K (Itl K p) xs C H:=fun H' tf k i=>by
 have hp:SqL K H' p vs:=(tf.fzL h).sq
 refine ⟨fun hl=>⟨vs,hp,by rw [r.length]; exact Nat.le_of_eq hl⟩,fun d e=>?_⟩
 obtain ⟨v,B,e1,r1,s1⟩:=seq_get r tf k e
 refine ⟨⟨vs,v,hp,e1⟩,fun y H2 hy=>?_⟩
 obtain ⟨e2,hy⟩:=hy
 subst e2
 have e3:=hy vs hp
 rw [e1] at e3
 cases e3
 exact ⟨Same.refl _,B,r1,s1⟩
theorem itT {K:PySem.W.Frag} {H:Hp} {p:Addr} {vs:List V} {xs:List D} {C:List Addr} (h:H p = some (.tup vs)) (r:Reps K H vs xs C):ItOk K (Itt K p) xs C H:=fun H' tf k i=>by
 have hp:SqT K H' p vs:=SqT.of (tf.tups _ _ h)
 refine ⟨fun hl=>⟨vs,hp,by rw [r.length]; exact Nat.le_of_eq hl⟩,fun d e=>?_⟩
 obtain ⟨v,B,e1,r1,s1⟩:=seq_get r tf k e
 refine ⟨⟨vs,v,hp,e1⟩,fun y H2 hy=>?_⟩
 obtain ⟨e2,hy⟩:=hy
 subst e2
 have e3:=hy vs hp
 rw [e1] at e3
 cases e3
 exact ⟨Same.refl _,B,r1,s1⟩
theorem Reps.there {K:PySem.W.Frag} {H:Hp} {v:List V} {d:List D} {A:List Addr} (r:Reps K H v d A):∀ x ∈ A,H x ≠ none:=fun x hx z=>by
 have:=r.trk x hx
 rw [z] at this
 exact this
noncomputable def rngD (lo:Int) (n:Nat):List D:=(List.range n).map fun (k:Nat)=>D.int (lo + (k:Int))
theorem itR {K:PySem.W.Frag} {H:Hp} (lo:Int) (n:Nat):ItOk K (Itr lo n) (rngD lo n) [] H:=fun H' tf k i=>by
 refine ⟨fun hl=>by unfold rngD at hl; rw [List.length_map,List.length_range] at hl; exact Nat.le_of_eq hl,fun d e=>?_⟩
 unfold rngD at e
 rw [List.getElem?_map] at e
 by_cases hi:i < n
 ·rw [List.getElem?_range hi] at e
  cases e
  refine ⟨hi,fun y H2 hy=>?_⟩
  obtain ⟨e2,rfl⟩:=hy
  subst e2
  exact ⟨Same.refl _,[],.int,List.nil_sublist _⟩
 ·rw [List.getElem?_eq_none (by rw [List.length_range]; omega)] at e
  cases e
noncomputable def rng1 (u:TM):TIM:=fun ρ Q=>u ρ fun d ρ'=>match d with
 | .int j=>(-(2 ^ 62) <= j /\ j < 2 ^ 62) /\ Q (rngD 0 j.toNat) ρ'
 | _=>False
theorem im_range1 {p:Pos} (hg:Gl X "range") (hm:X.mg "range" = none) (h:PN X cl e ma) (hst:isStar e = false)
  (mk:∀ {t},PA X [e] t -> PI X tg (.Call (.Name "range" p) [e] [] pos) (iRng1 t)):PIM X cl tg (.Call (.Name "range" p) [e] [] pos) (rng1 ma):=.of <| by
 obtain ⟨t,pt,h⟩:=h.run
 refine ⟨_,mk (pa_k pt pa_nil hst),fun G ρ σ H fa Q R hG E hu k=>h G ρ σ H fa _ _ hG E hu fun v H' d B ρ' fa' E' c r n q=>?_⟩
 cases d <;> first | exact (show False from q).elim | skip
 rename_i j
 cases rep_int r
 have q:(-(2 ^ 62) <= j /\ j < 2 ^ 62) /\ Q (rngD 0 j.toNat) ρ':=q
 exact ⟨j,rfl,q.1.1,q.1.2,k _ H' _ [] ρ' fa' E' c (itR 0 _) (fun a ha=>(by cases ha)) (fun _ _ a ha=>(by cases ha)) q.2⟩
noncomputable def rng1U (u:TU):TIU:=fun ρ Q=>u ρ fun d=>match d with
 | .int j=>(-(2 ^ 62) <= j /\ j < 2 ^ 62) /\ Q (rngD 0 j.toNat)
 | _=>False
theorem i_range1 {p:Pos} (hg:Gl X "range") (hm:X.mg "range" = none) (h:PU X cl e f ua) (hst:isStar e = false)
  (mk:∀ {t},PA X [e] t -> PI X tg (.Call (.Name "range" p) [e] [] pos) (iRng1 t)):PIU X cl tg (.Call (.Name "range" p) [e] [] pos) .fresh (rng1U ua):=.of <| by
 obtain ⟨t,pt,h⟩:=h.run
 refine ⟨_,mk (pa_k pt pa_nil hst),fun G ρ σ H fa Q R hG E hu k=>h G ρ σ H fa _ _ hG E hu fun v H' d B s r fo q=>?_⟩
 cases d <;> first | exact (show False from q).elim | skip
 rename_i j
 cases rep_int r
 have q:(-(2 ^ 62) <= j /\ j < 2 ^ 62) /\ Q (rngD 0 j.toNat):=q
 exact ⟨j,rfl,q.1.1,q.1.2,k _ H' _ [] s (itR 0 _) (fun a ha=>(by cases ha)) (FlOk.nil _) q.2⟩
noncomputable def kindB (b:Bool) (d:D):Option (List D):=match b,d with
 | false,.lst ys=>some ys
 | false,.fz ys=>some ys
 | true,.tup ys=>some ys
 | _,_=>none
end
end L3
namespace L2
open PySem PySem.Spec PyProof.Rows
theorem lc_blockF {X:Cx} {N:List Str} {scope:Scope} {cap:List (Option Nat)} {fp:List Addr} {pins:List (Addr × Obj)} {σ:St} {H:Hp} {s:Shared} {elt target iter:Expr} {ifs:List Expr} {pos:Pos} {g:List (Str × Addr) -> List Addr -> Shared -> Hp -> TG} {tc:List (Str × Addr) -> List Addr -> Shared -> Hp -> TT} {te:List (Str × Addr) -> List Addr -> Shared -> Hp -> TE} {J:It} {it:Addr} {tn:Nat -> Heap -> Prop}
  {E:Value -> Shared -> Prop} {RR:Value -> Addr -> Result -> Shared -> Prop} {Q:VK} (hcalm:X.calm = true) (cf:CapFacts X N scope cap) (hk:scope.kind = .function)
  (hg:∀ cl fp s H,PG (cxC X N scope cl fp s H) target (g cl fp s H)) (hc:∀ cl fp s H,PTs (cxC X N scope cl fp s H) ifs (tc cl fp s H)) (he:∀ cl fp s H,PE (cxC X N scope cl fp s H) elt (te cl fp s H))
  (I:Inv X pins σ H s) (T:Turn X.prog X.w X.K target J fp it tn) (st:tn 0 s.heap) (hf:∀ b ∈ fp,FpOk X pins H b) (q:∀ cl fp s H',lcW J (g cl fp s H') (tc cl fp s H') (te cl fp s H') (capS cap σ) Q H)
  (hRR:∀ d C H' s' m,Inv X pins σ H' s' -> s'.heap.Ns C m -> FpOk X pins H' C -> Q (.ref d) H' -> RR (.ref d) C (.ok .next) s') :
  wpAny (model X.prog X.w) X.A (newList []) (fun acc s3=>wpAny (model X.prog X.w) X.A (newFunctionEnv scope X.env.globals (clGo X.env scope.names []) [] X.env.qual none .none (some X.env)) (fun cenv s4=>
   codeAny (model X.prog X.w) X.A (.compStart (.ListComp elt [⟨target,iter,ifs,0⟩] scope pos) 0 (.ref it) acc { cenv with scope:=relabel scope X.env }) (RR acc cenv.locals) s4) E s3) E s:=by
 refine wpAny_newObj_type (wpAny_newFunctionEnv cf.nocell (by intro y hy; simp at hy) (fun h1 hns hsb=>?_) hk)
 have I3:Inv X pins σ (upd H s.heap.objs.size (.lst [])) { s with heap:=s.heap.push { cls:=.type "list",data:=.seq ([]:List Value).toArray } }:=I.lnew (its:=[]) (t':=s.toks) .nil (Nat.zero_le _)
 have hfr:H s.heap.objs.size = none:=I.fresh
 obtain ⟨W,⟨m0,w0⟩,turn⟩:=q (clGo X.env scope.names []) fp { s with heap:=s.heap.push { cls:=.type "list",data:=.seq ([]:List Value).toArray } } (upd H s.heap.objs.size (.lst [])) s.heap.objs.size hfr
 have hlt:∀ b ∈ fp,b < s.heap.objs.size:=fun b hb=>by
  obtain ⟨o,e,_⟩:=T.obj 0 _ st b hb
  exact Heap.lt_size e
 have hf3:∀ b ∈ fp,FpOk X pins (upd H s.heap.objs.size (.lst [])) b:=fun b hb=>⟨by rw [upd_ne (Nat.ne_of_lt (hlt b hb))]; exact (hf b hb).1,(hf b hb).2⟩
 have hlt3:∀ b ∈ fp,b < (s.heap.push { cls:=.type "list",data:=.seq ([]:List Value).toArray }).objs.size:=fun b hb=>by
  rw [Heap.size_push]
  exact Nat.lt_succ_of_lt (hlt b hb)
 dsimp only at hns hsb ⊢
 generalize hS3:({ s with heap:=s.heap.push { cls:=.type "list",data:=.seq ([]:List Value).toArray } }:Shared) = s3 at I3 turn
 have hheap:s3.heap = s.heap.push { cls:=.type "list",data:=.seq ([]:List Value).toArray }:=by rw [<- hS3]
 have htok:s3.toks = s.toks:=by rw [<- hS3]
 rw [<- hheap] at hns hsb hlt3
 have keep3:∀ b o,s3.heap.get? b = some o -> h1.get? b = some o:=fun b o e=>hsb.extBut b o (Nat.ne_of_lt (Heap.lt_size e)) (Heap.get?_push_of_some _ e)
 have keep:∀ b o,s.heap.get? b = some o -> h1.get? b = some o:=fun b o e=>keep3 b o (by rw [hheap]; exact Heap.get?_push_of_some _ e)
 have Ic:=inv_comp (tk:=s.toks) I3 cf hk hf3 hlt3 hns keep3
 have st1:tn 0 h1:=T.keep 0 _ _ st fun b _ o e=>keep b o e
 have fr0:∀ b ∈ fp,(upd H s.heap.objs.size (.lst [])) b = none:=fun b hb=>(hf3 b hb).1
 have stat:∀ {H':Hp},(∀ b ∈ fp,H' b = none) -> ∀ b ∈ fp,FpOk (cxC X N scope (clGo X.env scope.names []) fp s3 (upd H s.heap.objs.size (.lst []))) [] H' b:=fun hn b hb=>
  ⟨hn b hb,Nat.ne_of_lt (hlt3 b hb),Ic.ok.exfs b hb,.inl hb,fun x c h=>(hf b hb).2.2.2.2.1 x c (cl_sub h),fun p hp=>absurd (show p ∈ ([]:List (Addr × Obj)) from hp) (by simp)⟩
 have hos:s3.os = s.os:=by rw [<- hS3]
 have hge:s3.gens = s.gens:=by rw [<- hS3]
 have loop:codeAny (model X.prog X.w) X.A (.compLoop (.ListComp elt [⟨target,iter,ifs,0⟩] scope pos) 0 (.ref it) (.ref s.heap.objs.size) (compEnvC scope (clGo X.env scope.names []) s3.heap.objs.size X.env))
   (RR (.ref s.heap.objs.size) s3.heap.objs.size) { s3 with heap:=h1,toks:=s.toks }:=by
  refine compLoop_any (fun n s'=>∃ i H',Inv (cxC X N scope (clGo X.env scope.names []) fp s3 (upd H s.heap.objs.size (.lst []))) [] (capS cap σ) H' s' /\ tn i s'.heap /\ (∀ b ∈ fp,H' b = none) /\ W i n H') ?_ m0 ⟨0,_,Ic,st1,fr0,w0⟩
  rintro n s4 ⟨i,H4,I4,st4,fr4,w4⟩
  rcases turn i n H4 w4 with ⟨stop,qn⟩ | ⟨go,step⟩
  ·refine thn (T.done (cxC X N scope (clGo X.env scope.names []) fp s3 (upd H s.heap.objs.size (.lst []))) rfl rfl rfl hcalm i [] s4 _ H4 (fun _ _=>False) I4 (stat fr4) st4 stop) fun r s5 ⟨hr,I5⟩=>?_
   subst hr
   obtain ⟨m,hn5,_⟩:=I5.loc
   refine hRR _ _ H4 s5 m ?_ hn5 (I3.fpOk (Nat.le_refl _) I5.free) qn
   exact I3.call' I5.os I5.base I5.hok I5.bare fun b hb=>⟨(hf b hb).2.2.2.1,(hf b hb).2.1,(hf b hb).2.2.2.2.1,(hf b hb).2.2.2.2.2⟩
  ·refine thn (T.item (cxC X N scope (clGo X.env scope.names []) fp s3 (upd H s.heap.objs.size (.lst []))) rfl rfl rfl hcalm i [] s4 _ H4 (fun _ _=>False) I4 (stat fr4) st4 go) fun r s5 ⟨u,hr,h5⟩=>?_
   subst hr
   refine thn h5 fun _ s6 ⟨x,H6,I6,r6,y6,st6,fr6⟩=>?_
   have I6':=I6.pinned (stat fr6) (T.obj _ _ st6)
   refine thn (hg _ _ _ _ _ s6 _ H6 x u _ I6' r6 (step x H6 y6)) fun _ s7 ⟨σ7,H7,I7,q7⟩=>?_
   refine thn (hc _ _ _ _ _ s7 σ7 H7 _ I7 q7) fun ok s8 ⟨H8,I8,q8⟩=>?_
   have again:∀ {σ9:St} {H9:Hp} {s9:Shared},Inv (cxC X N scope (clGo X.env scope.names []) fp s3 (upd H s.heap.objs.size (.lst []))) ([] ++ pinsAt fp s6.heap) σ9 H9 s9 -> (∃ m',m' < n /\ W (i + 1) m' H9) ->
     ∃ m,m < n /\ ∃ i H',Inv (cxC X N scope (clGo X.env scope.names []) fp s3 (upd H s.heap.objs.size (.lst []))) [] (capS cap σ) H' s9 /\ tn i s9.heap /\ (∀ b ∈ fp,H' b = none) /\ W i m H':=fun {σ9 H9 s9} I9 ⟨m',hm,w9⟩=>by
    refine ⟨m',hm,i + 1,H9,inv_recap I3 cf hf3 I9.unpinned,T.keep _ _ _ st6 fun b hb o e=>(I9.pin (b,o) (List.mem_append_right _ (List.mem_append_right _ (mem_pinsAt hb e)))).1,fun b hb=>?_,w9⟩
    obtain ⟨o,e,d⟩:=T.obj _ _ st6 b hb
    exact (I9.pin (b,o) (List.mem_append_right _ (List.mem_append_right _ (mem_pinsAt hb e)))).2.1
   cases ok with
   | false=>exact again I8 q8
   | true=>
    show wpAny _ _ (eval elt _) _ _ s8
    refine thn (he _ _ _ _ _ s8 σ7 H8 _ I8 q8) fun y s9 ⟨v,H9,I9,r9,acc,hacc,hlen,m',hm,w9⟩=>?_
    refine thn (mt_append _ s9 σ7 H9 (.ref s.heap.objs.size) [v] (.ref s.heap.objs.size) [y] (fun _ H'=>H' = upd H9 s.heap.objs.size (.lst (acc ++ [v]))) I9 rfl (.cons r9 .nil) ⟨_,acc,v,rfl,rfl,hacc,hlen,rfl⟩) fun _ s10 ⟨_,H10,I10,_,e10⟩=>?_
    subst e10
    exact again I10 ⟨m',hm,w9⟩
 have e4:({ s with heap:=h1,toks:=s.toks + ([]:List (Str × Value)).length }:Shared) = { s3 with heap:=h1,toks:=s.toks }:=by rw [<- hS3]; rfl
 rw [<- hheap,e4]
 exact codeAny_compStart_list loop (T.self _ 0 _ _ _ st1 loop)
noncomputable def tLCF (cap:List (Option Nat)) (wi:TI) (g:List (Str × Addr) -> List Addr -> Shared -> Hp -> TG) (tc:List (Str × Addr) -> List Addr -> Shared -> Hp -> TT) (te:List (Str × Addr) -> List Addr -> Shared -> Hp -> TE):TE:=fun σ H Q=>wi σ H fun J H1=>∀ cl fp s H',lcW J (g cl fp s H') (tc cl fp s H') (te cl fp s H') (capS cap σ) Q H1
theorem pe_lcF {X:Cx} {XN N:List Str} {XS scope:Scope} {cap:List (Option Nat)} {elt target iter:Expr} {ifs:List Expr} {pos:Pos} {wi:TI} {g:List (Str × Addr) -> List Addr -> Shared -> Hp -> TG} {tc:List (Str × Addr) -> List Addr -> Shared -> Hp -> TT} {te:List (Str × Addr) -> List Addr -> Shared -> Hp -> TE}
  (hcap:capOk XN N XS scope cap = true) (hN:X.N = XN) (hS:X.env.scope = XS) (hk:scope.kind = .function) (hcalm:X.calm = true) (hi:PI X target iter wi)
  (hg:∀ cl fp s H,PG (cxC X N scope cl fp s H) target (g cl fp s H)) (hc:∀ cl fp s H,PTs (cxC X N scope cl fp s H) ifs (tc cl fp s H)) (he:∀ cl fp s H,PE (cxC X N scope cl fp s H) elt (te cl fp s H))
  (hs:∀ x,foldedSetIterable iter X.env x = pure x:=by intro _; rfl):PE X (.ListComp elt [⟨target,iter,ifs,0⟩] scope pos) (tLCF cap wi g tc te):=by
 refine .of ?_
 intro pins s σ H Q I h
 have cf:=capFacts_of hN hS hcap
 rw [eval_ListComp]
 refine wpAny_comprehension_free (use:=none) rfl hs (closure_is (I.cells_of cf)) hk cf.loc (thn (hi pins s σ H _ I h) fun v s1 h1=>thn h1 fun itv s2 h2=>?_)
 obtain ⟨it,fp,tn,J,H2,rfl,I2,T,st2,f2,q⟩:=h2
 exact lc_blockF (RR:=fun acc C=>compPost (model X.prog X.w) X.A X.xe none (EP X pins σ Q) acc C) hcalm cf hk hg hc he I2 T st2 f2 q fun d C H' s' m I' hn hC q'=>⟨m,hn,fun h' sb=>⟨.ref d,H',I'.dropC hC sb,rfl,q'⟩⟩
theorem ps_setLCF {X:Cx} {i:Nat} {y:Str} {XN N:List Str} {XS scope:Scope} {cap:List (Option Nat)} {elt target iter:Expr} {ifs:List Expr} {pos spos py:Pos} {wi:TI} {g:List (Str × Addr) -> List Addr -> Shared -> Hp -> TG} {tc:List (Str × Addr) -> List Addr -> Shared -> Hp -> TT} {te:List (Str × Addr) -> List Addr -> Shared -> Hp -> TE}
  (hXN:X.N.Nodup) (hiN:X.N[i]? = some y) (hy:X.env.scope.names.lookup y = some .local)
  (hcap:capOk XN N XS scope cap = true) (hN:X.N = XN) (hS:X.env.scope = XS) (hk:scope.kind = .function) (hcalm:X.calm = true) (hi:PI X target iter wi)
  (hg:∀ cl fp s H,PG (cxC X N scope cl fp s H) target (g cl fp s H)) (hc:∀ cl fp s H,PTs (cxC X N scope cl fp s H) ifs (tc cl fp s H)) (he:∀ cl fp s H,PE (cxC X N scope cl fp s H) elt (te cl fp s H))
  (hsw:swapsWith (.ListComp elt [⟨target,iter,ifs,0⟩] scope pos) (some (.Name y py)) spos.line X.env = pure true:=by rfl)
  (hs:∀ x,foldedSetIterable iter X.env x = pure x:=by intro _; rfl):PS X (.Assign [.Name y py] (.ListComp elt [⟨target,iter,ifs,0⟩] scope pos) spos) (tAsg (tLCF cap wi g tc te) (gName i)):=by
 refine .of ?_
 intro pins s σ H D I h
 have cf:=capFacts_of hN hS hcap
 rw [exec_Assign_Name_used _ _ _ _ hsw]
 refine wpAny_bind (wpAny_standAt (wpAny_bind ?_))
 show wpAny _ X.A (do let _ <- comprehension (.ListComp elt [⟨target,iter,ifs,0⟩] scope pos) scope X.env _ (newList []) false (eval iter X.env) (some (assign (.Name y py) X.env))) _ _ s
 refine wpAny_bind (wpAny_mono (wpAny_comprehension_free (use:=some (assign (.Name y py) X.env)) (Q:=fun _ s'=>SP X pins D .next s') rfl hs (closure_is (I.cells_of cf)) hk cf.loc (thn (hi pins s σ H _ I h) fun v s1 h1=>thn h1 fun itv s2 h2=>?_))
  (fun _ s' hq=>wpAny_pure (wpAny_pure hq)) fun _ _ e=>e)
 obtain ⟨it,fp,tn,J,H2,rfl,I2,T,st2,f2,q⟩:=h2
 refine lc_blockF (RR:=fun acc C=>compPost (model X.prog X.w) X.A X.xe (some (assign (.Name y py) X.env)) (fun _ s'=>SP X pins D .next s') acc C) hcalm cf hk hg hc he I2 T st2 f2 q fun d C H' s' m I' hn hC q'=>?_
 show wpAny _ _ (assign (.Name y py) X.env (.ref d)) _ _ s'
 refine wpAny_assign_Name (store_ok2 (v:=.ref d) I' hXN hiN (.inl hy) rfl (fun s2 I2 ⟨a,sb,ha⟩=>⟨m,hn.sameBut sb ?_,fun h' sb'=>⟨_,H',I2.dropC hC sb',q'⟩⟩) (.inr hy))
 rcases ha with z | z
 ·rw [z]; exact hC.2.1
 ·exact fun e=>hC.2.2.2.2.1 y a z e.symm
end L2
namespace L3
open PySem PySem.Spec L2
noncomputable abbrev TG3:=D -> Ev -> (Ev -> Prop) -> Prop
noncomputable abbrev TGs3:=List D -> Ev -> (Ev -> Prop) -> Prop
structure PG3 (X:Cx) (cl:List Cl) (tg:Expr) (g:TG3):Prop where
 of ::
 run:∃ t,PG X tg t /\ ∀ (G:Ent) (ρ:Ev) (σ:St) (H:Hp) (fa:Nat -> List Addr) (v:V) (d:D) (B:List Addr) (Q:Ev -> Prop) (R:St -> Hp -> Prop),G.cl = cl -> E3 X.K G ρ σ H fa -> Rep X.K H v d B -> (∀ i,G.own i -> ∀ a ∈ B,a ∉ fa i) -> g d ρ Q ->
  (∀ σ' ρ' fa',E3 X.K G ρ' σ' H fa' -> (∀ i,G.own i -> fa' i = fa i /\ σ'[i]? = σ[i]?) -> (∀ i,G.own i -> ρ'[i]? = ρ[i]?) -> Q ρ' -> R σ' H) -> t v σ H R
structure PGs3 (X:Cx) (cl:List Cl) (tgs:List Expr) (g:TGs3):Prop where
 of ::
 run:∃ t,PGs X tgs t /\ ∀ (G:Ent) (ρ:Ev) (σ:St) (H:Hp) (fa:Nat -> List Addr) (vs:List V) (ds:List D) (B:List Addr) (Q:Ev -> Prop) (R:St -> Hp -> Prop),G.cl = cl -> E3 X.K G ρ σ H fa -> Reps X.K H vs ds B -> (∀ i,G.own i -> ∀ a ∈ B,a ∉ fa i) -> g ds ρ Q ->
  (∀ σ' ρ' fa',E3 X.K G ρ' σ' H fa' -> (∀ i,G.own i -> fa' i = fa i /\ σ'[i]? = σ[i]?) -> (∀ i,G.own i -> ρ'[i]? = ρ[i]?) -> Q ρ' -> R σ' H) -> t vs σ H R
section
variable {X:Cx} {cl:List Cl} {tg e a b:Expr} {es:List Expr} {f:Fl} {pos pos':Pos} {ua ub:TU} {ma mb:TM} {x:Str} {i:Nat}
noncomputable def g1 (i:Nat):TG3:=fun d ρ Q=>Nat.blt i ρ.length = true /\ Q (ρ.set i (some d))
theorem g_name (h:PG X (.Name x pos) (gName i)) (hc:cl[i]? = some .bor):PG3 X cl (.Name x pos) (g1 i):=.of <| by
 refine ⟨_,h,fun G ρ σ H fa v d B Q R hG E r n q k=>?_⟩
 have hb:G.cl[i]? = some .bor:=by rw [hG]; exact hc
 have no:¬ G.own i:=fun z=>by unfold Ent.own at z; rw [hb] at z; cases z
 refine k _ _ _ (E.set (Nat.le_of_ble_eq_true q.1) r ⟨fun j _ hj a ha=>n j hj a ha,by rw [hb]; trivial⟩) (fun j hj=>?_) (fun j hj=>?_) q.2
 ·exact ⟨if_neg fun e:j = i=>no (by rw [<- e]; exact hj),List.getElem?_set_ne fun e=>no (by rw [e]; exact hj)⟩
 ·exact List.getElem?_set_ne fun e=>no (by rw [e]; exact hj)
noncomputable def gNil3:TGs3:=fun ds ρ Q=>match ds with
 | []=>Q ρ
 | _=>False
noncomputable def gCons3 (g:TG3) (gs:TGs3):TGs3:=fun ds ρ Q=>match ds with
 | d :: ds=>g d ρ fun ρ'=>gs ds ρ' Q
 | _=>False
theorem gs_nil:PGs3 X cl [] gNil3:=.of <| by
 refine ⟨_,pgs_nil,fun G ρ σ H fa vs ds B Q R hG E r n q k=>?_⟩
 cases ds with
 | cons _ _=>exact (show False from q).elim
 | nil=>
  cases r
  exact ⟨rfl,k σ ρ fa E (fun _ _=>⟨rfl,rfl⟩) (fun _ _=>rfl) q⟩
theorem gs_cons {g:TG3} {gs:TGs3} (h1:PG3 X cl e g) (h2:PGs3 X cl es gs) (hs:(assignEach (e :: es) X.env).map (·.2) = assign e X.env :: (assignEach es X.env).map (·.2):=by rfl):PGs3 X cl (e :: es) (gCons3 g gs):=.of <| by
 obtain ⟨t1,p1,h1⟩:=h1.run
 obtain ⟨t2,p2,h2⟩:=h2.run
 refine ⟨_,pgs_cons p1 p2 hs,fun G ρ σ H fa vs ds B Q R hG E r n q k=>?_⟩
 cases ds with
 | nil=>exact (show False from q).elim
 | cons d ds=>
  cases r with
  | cons r1 r2=>
   refine ⟨_,_,rfl,h1 G ρ σ H fa _ d _ _ _ hG E r1 (fun i hi a ha=>n i hi a (List.mem_append_left _ ha)) q fun σ' ρ' fa' E' k1 k1' q'=>?_⟩
   exact h2 G ρ' σ' H fa' _ ds _ Q R hG E' r2 (fun i hi a ha=>by rw [(k1 i hi).1]; exact n i hi a (List.mem_append_right _ ha)) q' fun σ2 ρ2 fa2 E2 k2 k2' q2=>k σ2 ρ2 fa2 E2 (fun i hi=>⟨(k2 i hi).1.trans (k1 i hi).1,(k2 i hi).2.trans (k1 i hi).2⟩) (fun i hi=>(k2' i hi).trans (k1' i hi)) q2
noncomputable def gT (gs:TGs3):TG3:=fun d ρ Q=>match d with
 | .tup ds=>gs ds ρ Q
 | _=>False
theorem PGs.len {X:Cx} {tgs:List Expr} {t:TGs} (h:PGs X tgs t):True:=trivial
theorem g_tup {gs:TGs3} {k n:Nat} (h:PGs3 X cl es gs) (hn:∀ ds ρ Q,gs ds ρ Q -> ds.length = n) (mk:∀ {t},PGs X es t -> PG X (.Tuple es k pos) (gTup X.K n t)):PG3 X cl (.Tuple es k pos) (gT gs):=.of <| by
 obtain ⟨t,p,h⟩:=h.run
 refine ⟨_,mk p,fun G ρ σ H fa v d B Q R hG E r nn q kk=>?_⟩
 cases d <;> first | exact (show False from q).elim | skip
 rename_i ds
 have q:gs ds ρ Q:=q
 obtain ⟨a,vs,rfl,ha,rs⟩:=rep_tup r
 exact ⟨a,vs,rfl,SqT.of ha,by rw [rs.length]; exact hn ds ρ Q q,h G ρ σ H fa vs ds B Q R hG E rs nn q kk⟩
structure ForW (g:TG3) (body:TS3) (xs:List D) (T:Ends3) (ρ:Ev):Prop where
 of ::
 ex:∃ W:Nat -> Ev -> Prop,W 0 ρ /\ (∀ i d ρ,xs[i]? = some d -> W i ρ -> g d ρ fun ρ1=>body { nx:=W (i + 1),rt:=T.rt,bk:=T.nx,ct:=W (i + 1) } ρ1) /\ ∀ ρ,W xs.length ρ -> T.nx ρ
noncomputable def sFor (ui:TIM) (g:TG3) (body:TS3):TS3:=fun T ρ=>ui ρ fun xs ρ1=>ForW g body xs T ρ1
noncomputable def frozen (G:Ent) (H:Hp) (C:List Addr):Ent:={ G with Z:=fun a=>G.Z a \/ a ∈ C \/ (H a ≠ none /\ ¬ Mut (H a)),Hz:=H }
theorem E3.freeze {K:PySem.W.Frag} {G:Ent} {ρ:Ev} {σ:St} {H:Hp} {fa:Nat -> List Addr} {C:List Addr} (E:E3 K G ρ σ H fa) (h1:∀ a ∈ C,H a ≠ none) (h2:∀ i,G.own i -> ∀ a ∈ C,a ∉ fa i):E3 K (frozen G H C) ρ σ H fa:=
 ⟨E.rep,E.emp,E.len,E.nd,E.dj,E.par,E.old,E.new,E.frm,E.stb,fun a _=>rfl,fun a z=>by
  rcases z with z | z | z
  ·show H a ≠ none
   rw [E.zk a z]; exact E.zn a z
  ·exact h1 a z
  ·exact z.1,fun i hi a ha z=>by
  rcases z with z | z | z
  ·exact E.zo i hi a ha z
  ·exact h2 i hi a z ha
  ·exact z.2 (E.trk i a ha),⟨E.po.one,E.po.lk⟩⟩
theorem E3.thaw {K:PySem.W.Frag} {G:Ent} {ρ0 ρ:Ev} {σ0 σ:St} {H0 H:Hp} {fa0 fa:Nat -> List Addr} {C:List Addr} (E0:E3 K G ρ0 σ0 H0 fa0) (E:E3 K (frozen G H0 C) ρ σ H fa):E3 K G ρ σ H fa:=
 ⟨E.rep,E.emp,E.len,E.nd,E.dj,E.par,E.old,E.new,E.frm,E.stb,fun a z=>(E.zk a (.inl z)).trans (E0.zk a z),E0.zn,fun i hi a ha z=>E.zo i hi a ha (.inl z),⟨E.po.one,E.po.lk⟩⟩
theorem s_for {iter:Expr} {body:List Stmt} {ui:TIM} {g:TG3} {sb:TS3} (hi:PIM X cl tg iter ui) (hg:PG3 X cl tg g) (hb:PB3 X cl body sb)
  (mk:∀ {wi g tb},PI X tg iter wi -> PG X tg g -> PSs X body tb -> PS X (.For tg iter body [] pos) (tFor wi g tb)):PS3 X cl (.For tg iter body [] pos) (sFor ui g sb):=.of <| by
 obtain ⟨wi,pi,hi⟩:=hi.run
 obtain ⟨tg',pg,hg⟩:=hg.run
 obtain ⟨tb,pb,hb⟩:=hb.run
 refine ⟨_,mk pi pg pb,fun G T ρ σ H fa R hG E hu le=>hi G ρ σ H fa _ _ hG E hu fun J H1 xs C ρ1 fa1 E1 c1 it tr ap q=>?_⟩
 have F1:=E1.freeze tr ap
 obtain ⟨W,w0,step,done⟩:=q.ex
 refine ⟨fun i m σ' H'=>m = xs.length - i /\ i <= xs.length /\ ∃ ρ' fa',E3 X.K (frozen G H1 C) ρ' σ' H' fa' /\ W i ρ',⟨xs.length,by simp,Nat.zero_le _,ρ1,fa1,F1,w0⟩,?_⟩
 rintro i m σ' H' ⟨rfl,hle,ρ',fa',E',q'⟩
 have tf:Tf H1 H':=⟨fun b ys h=>by
   rw [E'.zk b (.inr (.inr ⟨(by rw [h]; intro z; cases z),(by rw [h]; exact fun z=>z)⟩))]; exact h,fun b o u h=>by
   rw [E'.zk b (.inr (.inr ⟨(by rw [h]; intro z; cases z),(by rw [h]; exact fun z=>z)⟩))]; exact h⟩
 have kC:∀ a ∈ C,H' a = H1 a:=fun a ha=>E'.zk a (.inr (.inl ha))
 by_cases hlt:i < xs.length
 ·right
  have ex:xs[i]? = some xs[i]:=List.getElem?_eq_getElem hlt
  obtain ⟨go,yl⟩:=(it H' tf kC i).2 _ ex
  refine ⟨go,lowN X.K (frozen G H1 C) (W (i + 1)),fun σ2 H2 hn=>?_,fun y H2 hy=>?_⟩
  ·obtain ⟨ρ2,fa2,E2,q2⟩:=hn
   exact ⟨xs.length - (i + 1),by omega,rfl,hlt,ρ2,fa2,E2,q2⟩
  ·obtain ⟨s2,B,rB,sB⟩:=yl y H2 hy
   refine hg (frozen G H1 C) ρ' σ' H2 fa' y _ B _ _ hG (E'.same s2) rB (fun j hj a ha z=>E'.zo j hj a z (.inr (.inl (sB.mem ha)))) (step i _ ρ' ex q') fun σ3 ρ3 fa3 E3' _ _ q3=>?_
   refine hb (frozen G H1 C) _ ρ3 σ3 H2 fa3 _ hG E3' q3 ⟨fun _ _ h=>h,fun v H3 h=>?_,fun σ4 H4 h=>?_,fun _ _ h=>h⟩
   ·obtain ⟨d,ρ5,σ5,fa5,B5,E5,r5,n5,m5,l5,q5⟩:=h
    exact le.rt v H3 ⟨d,ρ5,σ5,fa5,B5,E1.thaw E5,r5,n5,m5,l5,q5⟩
   ·obtain ⟨ρ5,fa5,E5,q5⟩:=h
    exact le.nx σ4 H4 ⟨ρ5,fa5,E1.thaw E5,q5⟩
 ·have ei:i = xs.length:=by omega
  subst ei
  left
  exact ⟨(it H' tf kC _).1 rfl,le.nx _ _ ⟨ρ',fa',E1.thaw E',done ρ' q'⟩⟩
noncomputable def sWhile (mc:TTM) (body:TS3):TS3:=fun T ρ=>∃ W:Nat -> Ev -> Prop,(∃ m,W m ρ) /\ ∀ m ρ,W m ρ -> mc ρ fun b ρ'=>Br b (body { nx:=fun ρ2=>∃ m',m' < m /\ W m' ρ2,rt:=T.rt,bk:=T.nx,ct:=fun ρ2=>∃ m',m' < m /\ W m' ρ2 } ρ') (T.nx ρ')
theorem s_while {c:Expr} {body:List Stmt} {mc:TTM} {sb:TS3} (hp:PassesOwn (model X.prog X.w) X.A X.env X.xe) (hc:PTM X cl c mc) (hb:PB3 X cl body sb):PS3 X cl (.While c body [] pos) (sWhile mc sb):=.of <| by
 obtain ⟨tc,pc,hc⟩:=hc.run
 obtain ⟨tb,pb,hb⟩:=hb.run
 refine ⟨_,ps_while hp pc pb,fun G T ρ σ H fa R hG E hu le=>?_⟩
 obtain ⟨W,⟨m0,w0⟩,step⟩:=hu
 refine ⟨fun m σ' H'=>∃ ρ' fa',E3 X.K G ρ' σ' H' fa' /\ W m ρ',⟨m0,ρ,fa,E,w0⟩,?_⟩
 rintro m σ1 H1 ⟨ρ1,fa1,E1,w1⟩
 refine hc G ρ1 σ1 H1 fa1 _ _ hG E1 (step m ρ1 w1) fun b H2 ρ2 fa2 E2 c2 q=>?_
 cases b with
 | true=>
  rw [if_pos rfl]
  refine ⟨lowN X.K G (fun ρ2=>∃ m',m' < m /\ W m' ρ2),fun σ3 H3 h=>?_,hb G _ ρ2 σ1 H2 fa2 _ hG E2 (q.t rfl) ⟨fun _ _ h=>h,le.rt,le.nx,fun _ _ h=>h⟩⟩
  obtain ⟨ρ3,fa3,E3',m',hm,w3⟩:=h
  exact ⟨m',hm,ρ3,fa3,E3',w3⟩
 | false=>rw [if_neg Bool.false_ne_true]; exact le.nx _ _ ⟨ρ2,fa2,E2,q.f rfl⟩
noncomputable def capE (cap:List (Option Nat)) (ρ:Ev):Ev:=cap.map fun o=>match o with
 | some j=>(ρ[j]?).join
 | none=>none
noncomputable def capB (cap:List (Option Nat)):List Cl:=cap.map fun _=>.bor
theorem capS_get {cap:List (Option Nat)} {σ:St} {p j:Nat} {v:V} (h:cap[p]? = some (some j)) (e:σ[j]? = some (some v)):(capS cap σ)[p]? = some (some v):=by
 unfold capS
 rw [List.getElem?_map,h]
 show some ((σ[j]?).join) = _
 rw [e]; rfl
theorem capE_get {cap:List (Option Nat)} {ρ:Ev} {p:Nat} {d:D} (h:(capE cap ρ)[p]? = some (some d)):∃ j,cap[p]? = some (some j) /\ ρ[j]? = some (some d):=by
 unfold capE at h
 rw [List.getElem?_map] at h
 cases e:cap[p]? with
 | none=>rw [e] at h; cases h
 | some o=>
  rw [e] at h
  cases o with
  | none=>cases h
  | some j=>
   have h:some ((ρ[j]?).join) = some (some d):=h
   cases e2:ρ[j]? with
   | none=>rw [e2] at h; cases h
   | some o=>rw [e2] at h; cases h; exact ⟨j,rfl,e2⟩
noncomputable def capF (cap:List (Option Nat)) (ρ:Ev) (fa:Nat -> List Addr) (p:Nat):List Addr:=match (capE cap ρ)[p]? with
 | some (some _)=>match cap[p]? with
  | some (some j)=>fa j
  | _=>[]
 | _=>[]
noncomputable def entC (cap:List (Option Nat)):Ent:=⟨fun _=>none,fun _=>[],[],capB cap,fun _=>False,fun _=>none⟩
theorem entC_own {cap:List (Option Nat)} {i:Nat} (h:(entC cap).own i):False:=by
 have h:(capB cap)[i]? = some .own:=h
 unfold capB at h
 rw [List.getElem?_map] at h
 cases e:cap[i]? with
 | none=>rw [e] at h; cases h
 | some o=>rw [e] at h; cases h
theorem entC_loc {cap:List (Option Nat)} {i:Nat} (h:(entC cap).cl[i]? = some .loc):False:=by
 have h:(capB cap)[i]? = some .loc:=h
 unfold capB at h
 rw [List.getElem?_map] at h
 cases e:cap[i]? with
 | none=>rw [e] at h; cases h
 | some o=>rw [e] at h; cases h
theorem entC_mk {cap:List (Option Nat)} {i:Nat} {H':Hp} (h:(entC cap).cl[i]? = some (.mk H')):False:=by
 have h:(capB cap)[i]? = some (.mk H'):=h
 unfold capB at h
 rw [List.getElem?_map] at h
 cases e:cap[i]? with
 | none=>rw [e] at h; cases h
 | some o=>rw [e] at h; cases h
theorem E3.comp {K:PySem.W.Frag} {G:Ent} {ρ:Ev} {σ:St} {H:Hp} {fa:Nat -> List Addr} (cap:List (Option Nat)) (E:E3 K G ρ σ H fa):E3 K (entC cap) (capE cap ρ) (capS cap σ) H (capF cap ρ fa):=by
 refine ⟨fun i d e=>?_,fun i e=>?_,by unfold capE capS; simp,fun i h=>h.elim (fun z=>(entC_own z).elim) fun z=>(entC_loc z).elim,fun i j _ h=>(entC_own h).elim,fun i _ h=>(entC_own h).elim,fun i _ h=>(entC_own h).elim,fun i h=>h.elim (fun z=>(entC_loc z).elim) fun z=>(entC_own z.1).elim,
  fun a o h=>(nomatch h),⟨fun b xs h=>(nomatch h),fun b o u h=>(nomatch h),fun _ _=>rfl⟩,fun a z=>z.elim,fun a z=>z.elim,fun i h=>(entC_own h).elim,⟨fun i _ h=>(entC_own h).elim,fun j H' h=>(entC_mk h).elim⟩⟩
 ·obtain ⟨j,e1,e2⟩:=capE_get e
  obtain ⟨v,e3,r⟩:=E.rep j d e2
  refine ⟨v,capS_get e1 e3,?_⟩
  unfold capF
  rw [e,e1]
  exact r
 ·unfold capF
  split
  ·rename_i d h
   exact absurd h (e d)
  ·rfl
noncomputable def lcGo (g:TG3) (tc:TT3) (te:TU) (ρ0:Ev):List D -> List D -> (List D -> Prop) -> Prop
 | [],acc,Q=>Q acc
 | x :: xs,acc,Q=>g x ρ0 fun ρ1=>tc ρ1 fun b=>Br b (te ρ1 fun d=>lcGo g tc te ρ0 xs (acc ++ [d]) Q) (lcGo g tc te ρ0 xs acc Q)
noncomputable def uLC (cap:List (Option Nat)) (ui:TIU) (g:TG3) (tc:TT3) (te:TU):TU:=fun ρ Q=>ui ρ fun xs=>xs.length < sizeLine /\ lcGo g tc te (capE cap ρ) xs [] fun ds=>Q (.lst ds)
structure PTs3 (X:Cx) (cl:List Cl) (es:List Expr) (u:TT3):Prop where
 of ::
 run:∃ t,PTs X es t /\ ∀ (G:Ent) (ρ:Ev) (σ:St) (H:Hp) (fa:Nat -> List Addr) (Q:Bool -> Prop) (R:Bool -> Hp -> Prop),G.cl = cl -> E3 X.K G ρ σ H fa -> u ρ Q ->
  (∀ b H',Same H H' -> Q b -> R b H') -> t σ H R
noncomputable def uYes:TT3:=fun _ Q=>Q true
theorem ts_nil:PTs3 X cl [] uYes:=.of ⟨_,pts_nil,fun G ρ σ H fa Q R _ E hu k=>k true H (Same.refl H) hu⟩
theorem ts_one {tc:TT3} (h:PT3 X cl e tc):PTs3 X cl [e] tc:=.of <| let ⟨t,p,h⟩:=h.run; ⟨t,pts_one p,h⟩
theorem lc3 {K:PySem.W.Frag} {cap:List (Option Nat)} {g3:TG3} {tc3:TT3} {te3:TU} {J:It} {g:TG} {tc:TT} {te:TE} {xs:List D} {C:List Addr} {ρ:Ev} {σ:St} {G:Ent} {H1:Hp} {fa:Nat -> List Addr} {Q:List D -> Prop} {R:VK}
  (hg:∀ (G:Ent) (ρ:Ev) (σ:St) (H:Hp) (fa:Nat -> List Addr) (v:V) (d:D) (B:List Addr) (Q:Ev -> Prop) (R:St -> Hp -> Prop),G.cl = capB cap -> E3 K G ρ σ H fa -> Rep K H v d B -> (∀ i,G.own i -> ∀ a ∈ B,a ∉ fa i) -> g3 d ρ Q ->
   (∀ σ' ρ' fa',E3 K G ρ' σ' H fa' -> (∀ i,G.own i -> fa' i = fa i /\ σ'[i]? = σ[i]?) -> (∀ i,G.own i -> ρ'[i]? = ρ[i]?) -> Q ρ' -> R σ' H) -> g v σ H R)
  (hc:∀ (G:Ent) (ρ:Ev) (σ:St) (H:Hp) (fa:Nat -> List Addr) (Q:Bool -> Prop) (R:Bool -> Hp -> Prop),G.cl = capB cap -> E3 K G ρ σ H fa -> tc3 ρ Q -> (∀ b H',Same H H' -> Q b -> R b H') -> tc σ H R)
  (he:∀ (G:Ent) (ρ:Ev) (σ:St) (H:Hp) (fa:Nat -> List Addr) (Q:D -> Prop) (R:VK),G.cl = capB cap -> E3 K G ρ σ H fa -> te3 ρ Q -> (∀ v H' d B,Same H H' -> Rep K H' v d B -> FlOk G H fa B .fresh -> Q d -> R v H') -> te σ H R)
  (E:E3 K G ρ σ H1 fa) (it:ItOk K J xs C H1) (tr:∀ a ∈ C,H1 a ≠ none) (hn:xs.length < sizeLine) (q:lcGo g3 tc3 te3 (capE cap ρ) xs [] Q)
  (k:∀ d H' ds B,Same H1 H' -> Rep K H' (.ref d) (.lst ds) B -> B.Nodup -> (∀ a ∈ B,H1 a = none) -> Q ds -> R (.ref d) H'):lcW J g tc te (capS cap σ) R H1:=by
 intro d hd
 refine ⟨fun i m H=>m = xs.length - i /\ i <= xs.length /\ Same H1 H /\ ∃ acc ds B,H d = some (.lst acc) /\ acc.length <= i /\ Reps K H acc ds B /\ B.Nodup /\ d ∉ B /\ (∀ a ∈ B,H1 a = none) /\ lcGo g3 tc3 te3 (capE cap ρ) (xs.drop i) ds Q,
  ⟨xs.length,by simp,Nat.zero_le _,Same.upd_new hd,[],[],[],upd_same,Nat.le_refl _,.nil,List.nodup_nil,(by simp),(fun a ha=>by cases ha),q⟩,?_⟩
 rintro i m H ⟨rfl,hle,s1,acc,ds,B,hacc,hal,rs,nB,dB,hB,q⟩
 have tf:Tf H1 H:=⟨fun b ys h=>s1 _ _ h,fun b o u h=>s1 _ _ h⟩
 have kC:∀ a ∈ C,H a = H1 a:=fun a ha=>by
  obtain ⟨o,eo⟩:=Option.ne_none_iff_exists'.mp (tr a ha)
  rw [eo]; exact s1 a o eo
 by_cases hlt:i < xs.length
 ·right
  obtain ⟨go,yl⟩:=(it H tf kC i).2 _ (List.getElem?_eq_getElem hlt)
  rw [List.drop_eq_getElem_cons hlt] at q
  refine ⟨go,fun y H2 hy=>?_⟩
  obtain ⟨s2,By,rB,sB⟩:=yl y H2 hy
  have E2:=(E.same (s1.trans s2)).comp cap
  refine hg (entC cap) _ _ H2 _ y _ By _ _ rfl E2 rB (fun j hj=>(entC_own hj).elim) q fun σ3 ρ3 fa3 E3' _ _ q3=>?_
  refine hc (entC cap) ρ3 σ3 H2 fa3 _ _ rfl E3' q3 fun b H3 s3 q4=>?_
  have hacc3:H3 d = some (.lst acc):=s3 _ _ (s2 _ _ hacc)
  cases b with
  | false=>
   rw [if_neg Bool.false_ne_true]
   exact ⟨xs.length - (i + 1),by omega,rfl,hlt,(s1.trans s2).trans s3,acc,ds,B,hacc3,by omega,(rs.same s2).same s3,nB,dB,hB,q4.f rfl⟩
  | true=>
   rw [if_pos rfl]
   refine he (entC cap) ρ3 σ3 H3 fa3 _ _ rfl (E3'.same s3) (q4.t rfl) fun v H4 dv Bv s4 rv fo q5=>?_
   have hacc4:H4 d = some (.lst acc):=s4 _ _ hacc3
   have s14:Same H1 H4:=((s1.trans s2).trans s3).trans s4
   have hdBv:d ∉ Bv:=fun z=>by rw [fo.2 d z] at hacc3; cases hacc3
   have st:Stb H4 (upd H4 d (.lst (acc ++ [v]))):=⟨fun b ys h=>by
     by_cases e:b = d
     ·subst e; rw [hacc4] at h; cases h
     ·rw [upd_ne e]; exact h,fun b u w' h=>by
     by_cases e:b = d
     ·subst e; rw [hacc4] at h; cases h
     ·rw [upd_ne e]; exact h,fun b h=>by
     by_cases e:b = d
     ·subst e; rw [upd_same] at h; cases h
     ·rw [upd_ne e] at h; exact h⟩
   have rs4:=((rs.same s2).same s3).same s4
   refine ⟨acc,hacc4,by omega,xs.length - (i + 1),by omega,rfl,hlt,fun b o e=>?_,acc ++ [v],ds ++ [dv],B ++ (Bv ++ []),upd_same,by rw [List.length_append,List.length_singleton]; omega,?_,?_,?_,fun a ha=>?_,q5⟩
   ·rw [upd_ne (ne_of_none e hd)]
    exact s14 _ _ e
   ·exact (rs4.mono st fun a ha=>upd_ne fun e=>dB (e ▸ ha)).append (.cons (rv.mono st fun a ha=>upd_ne fun e=>hdBv (e ▸ ha)) .nil)
   ·rw [List.append_nil]
    refine List.nodup_append.mpr ⟨nB,fo.1,fun a ha b hb e=>?_⟩
    subst e
    exact ((rs.same s2).same s3).there a ha (fo.2 a hb)
   ·rw [List.append_nil]
    exact fun z=>(List.mem_append.mp z).elim dB hdBv
   ·rw [List.append_nil] at ha
    rcases List.mem_append.mp ha with z | z
    ·exact hB a z
    ·exact ((s1.trans s2).trans s3).free (fo.2 a z)
 ·have ei:i = xs.length:=by omega
  subst ei
  left
  rw [List.drop_length] at q
  refine ⟨(it H tf kC _).1 rfl,k d H ds (d :: B) s1 (.lst hacc rs) (List.nodup_cons.mpr ⟨dB,nB⟩) (fun a ha=>?_) q⟩
  rcases List.mem_cons.mp ha with z | z
  ·rw [z]; exact hd
  ·exact hB a z
section
variable {XN N:List Str} {XS scope:Scope} {cap:List (Option Nat)} {elt target iter:Expr} {ifs:List Expr} {ui:TIU} {g3:TG3} {tc3:TT3} {te3:TU}
theorem pu_lc (hcap:capOk XN N XS scope cap = true) (hN:X.N = XN) (hS:X.env.scope = XS) (hk:scope.kind = .function) (hcalm:X.calm = true) (hi:PIU X cl target iter f ui)
  (hg:∀ c fp s H,PG3 (cxC X N scope c fp s H) (capB cap) target g3) (hc:∀ c fp s H,PTs3 (cxC X N scope c fp s H) (capB cap) ifs tc3) (he:∀ c fp s H,PU (cxC X N scope c fp s H) (capB cap) elt .fresh te3)
  (hs:∀ x,foldedSetIterable iter X.env x = pure x:=by intro _; rfl):PU X cl (.ListComp elt [⟨target,iter,ifs,0⟩] scope pos) .fresh (uLC cap ui g3 tc3 te3):=.of <| by
 obtain ⟨wi,pi,hi⟩:=hi.run
 refine ⟨_,pe_lcF (g:=fun c fp s H=>Classical.choose (hg c fp s H).run) (tc:=fun c fp s H=>Classical.choose (hc c fp s H).run) (te:=fun c fp s H=>Classical.choose (he c fp s H).run) hcap hN hS hk hcalm pi
  (fun c fp s H=>(Classical.choose_spec (hg c fp s H).run).1) (fun c fp s H=>(Classical.choose_spec (hc c fp s H).run).1) (fun c fp s H=>(Classical.choose_spec (he c fp s H).run).1) hs,fun G ρ σ H fa Q R hG E hu k=>?_⟩
 refine hi G ρ σ H fa _ _ hG E hu fun J H1 xs C s it tr fo q=>fun c fp s' H'=>?_
 refine lc3 (K:=X.K) (Classical.choose_spec (hg c fp s' H').run).2 (Classical.choose_spec (hc c fp s' H').run).2 (Classical.choose_spec (he c fp s' H').run).2 (E.same s) it tr q.1 q.2 fun d H2 ds B s2 r n1 n2 q2=>?_
 exact k _ H2 _ B (s.trans s2) r ⟨n1,fun a ha=>s.free (n2 a ha)⟩ q2
theorem s_setLC {i:Nat} {y:Str} {spos py:Pos} (hXN:X.N.Nodup) (hiN:X.N[i]? = some y) (hy:X.env.scope.names.lookup y = some .local) (hci:clOk cl[i]? .fresh i = true)
  (hcap:capOk XN N XS scope cap = true) (hN:X.N = XN) (hS:X.env.scope = XS) (hk:scope.kind = .function) (hcalm:X.calm = true) (hi:PIU X cl target iter f ui)
  (hg:∀ c fp s H,PG3 (cxC X N scope c fp s H) (capB cap) target g3) (hc:∀ c fp s H,PTs3 (cxC X N scope c fp s H) (capB cap) ifs tc3) (he:∀ c fp s H,PU (cxC X N scope c fp s H) (capB cap) elt .fresh te3)
  (hsw:swapsWith (.ListComp elt [⟨target,iter,ifs,0⟩] scope pos) (some (.Name y py)) spos.line X.env = pure true:=by rfl)
  (hs:∀ x,foldedSetIterable iter X.env x = pure x:=by intro _; rfl):PS3 X cl (.Assign [.Name y py] (.ListComp elt [⟨target,iter,ifs,0⟩] scope pos) spos) (sSet i (uLC cap ui g3 tc3 te3)):=.of <| by
 obtain ⟨wi,pi,hi⟩:=hi.run
 refine ⟨_,ps_setLCF (g:=fun c fp s H=>Classical.choose (hg c fp s H).run) (tc:=fun c fp s H=>Classical.choose (hc c fp s H).run) (te:=fun c fp s H=>Classical.choose (he c fp s H).run) hXN hiN hy hcap hN hS hk hcalm pi
  (fun c fp s H=>(Classical.choose_spec (hg c fp s H).run).1) (fun c fp s H=>(Classical.choose_spec (hc c fp s H).run).1) (fun c fp s H=>(Classical.choose_spec (he c fp s H).run).1) hsw hs,fun G T ρ σ H fa R hG E hu le=>?_⟩
 refine hi G ρ σ H fa _ _ hG E hu fun J H1 xs C s it tr fo q=>fun c fp s' H'=>?_
 refine lc3 (K:=X.K) (Classical.choose_spec (hg c fp s' H').run).2 (Classical.choose_spec (hc c fp s' H').run).2 (Classical.choose_spec (he c fp s' H').run).2 (E.same s) it tr q.1 q.2 fun d H2 ds B s2 r n1 n2 q2=>?_
 exact le.nx _ _ ⟨_,_,(E.same (s.trans s2)).set (Nat.le_of_ble_eq_true q2.1) r (ClOk.of (f:=.fresh) E ⟨n1,fun a ha=>s.free (n2 a ha)⟩ (by rw [hG]; exact hci)),q2.2⟩
end
end
end L3
namespace L2
open PySem PySem.Spec PyProof.Rows
section
variable {X:Cx}
theorem strsAre_of:∀ {bs:List Str} {us:List Value},Vals (bs.map V.str) us -> StrsAre us bs
 | [],_,r=>by cases r; exact .nil
 | b :: bs,_,r=>by
  cases r with
  | cons h t=>obtain ⟨u,rfl⟩:=h; exact .cons b u (strsAre_of t)
noncomputable def rJoin (K:PySem.W.Frag):V -> List V -> Hp -> VK -> Prop:=fun x vs H Q=>∃ z p ys,x = .str z /\ vs = [.ref p] /\ SqL K H p (ys.map V.str) /\ (ys.map (·.length)).sum + ys.length * z.length <= 16777216 /\ Q (.str (Txt.join z ys)) H
theorem mt_join:MtR X "str.join" (rJoin X.K):=by
 intro pins s σ H x xs v us Q I rx rs h
 obtain ⟨z,p,ys,rfl,rfl,hq,hn,q⟩:=h
 obtain ⟨t,rfl⟩:=rx
 obtain ⟨u,rfl,rp⟩:=vals1 rs
 cases rp
 obtain ⟨its,rv,pl,hz⟩:=I.list hq
 exact join_list pl.isList (by simpa using strsAre_of rv) hn fun t' k=>⟨.str _,H,I.tok _,⟨_,rfl⟩,q⟩
theorem op_mulS:OpR X (binaryOp .Mult) (fun x y H Q=>∃ z n,x = .str z /\ y = .int n /\ MulOk z n /\ Q (.str (Txt.mul z n)) H):=by
 intro pins s σ H x y v u Q I rx ry h
 obtain ⟨z,n,rfl,rfl,hm,q⟩:=h
 obtain ⟨t,rfl⟩:=rx
 obtain ⟨t',rfl⟩:=ry
 exact SB.mul hm fun t' k=>⟨.str _,H,I.tok _,⟨_,rfl⟩,q⟩
end
end L2
namespace L3
open PySem PySem.Spec L2
section
variable {X:Cx} {cl:List Cl} {e a b:Expr} {es:List Expr} {f:Fl} {pos:Pos} {ua ub:TU} {ma mb:TM} {fa fb:Fl}
theorem Reps.strs {K:PySem.W.Frag} {H:Hp}:∀ {bs:List Str} {vs:List V} {A:List Addr},Reps K H vs (bs.map D.str) A -> vs = bs.map V.str
 | [],_,_,r=>by cases r; rfl
 | b :: bs,_,_,r=>by
  cases r with
  | cons h t=>rw [rep_str h,t.strs]; rfl
theorem rep_sqL {K:PySem.W.Frag} {H:Hp} {v:V} {d:D} {A:List Addr} {xs:List D} (r:Rep K H v d A) (e:kindB false d = some xs):∃ p vs B,v = .ref p /\ SqL K H p vs /\ Reps K H vs xs B /\ B.Sublist A:=by
 cases d <;> first | cases e | skip
 ·obtain ⟨p,vs,C,rfl,hp,rs,rfl⟩:=rep_lst r
  exact ⟨p,vs,C,rfl,SqL.of hp,rs,List.sublist_cons_self _ _⟩
 ·obtain ⟨p,vs,rfl,hp,rs⟩:=rep_fz r
  exact ⟨p,vs,A,rfl,hp.sq,rs,List.Sublist.refl _⟩
noncomputable def tyName:D -> Option String
 | .non=>some "NoneType"
 | .bl _=>some "bool"
 | .int _=>some "int"
 | .str _=>some "str"
 | .lst _=>some "list"
 | .tup _=>some "tuple"
 | .dic _=>some "dict"
 | _=>none
noncomputable def isTy (a T:String):Bool:=a == T || (a == "bool" && T == "int")
noncomputable def kinds6:List String:=["int", "bool", "str", "list", "tuple", "dict"]
noncomputable def gIsi:List D -> (D -> Prop) -> Prop:=fun ds Q=>∃ d a T,ds = [d,.ty T] /\ tyName d = some a /\ kinds6.contains T = true /\ Q (.bl (isTy a T))
theorem kit_all (K:PySem.W.Frag) {a T:String} (ha:["NoneType", "bool", "int", "str", "list", "tuple", "dict"].contains a = true) (hT:kinds6.contains T = true):PySem.W.kitOne K (.type a) (.type T) = some (isTy a T):=by
 have h1:a = "NoneType" \/ a = "bool" \/ a = "int" \/ a = "str" \/ a = "list" \/ a = "tuple" \/ a = "dict" := by simpa using ha
 have h2:T = "int" \/ T = "bool" \/ T = "str" \/ T = "list" \/ T = "tuple" \/ T = "dict" := by simpa [kinds6] using hT
 rcases h1 with rfl | rfl | rfl | rfl | rfl | rfl | rfl <;> rcases h2 with rfl | rfl | rfl | rfl | rfl | rfl <;> first | rfl | decide +kernel
theorem ty_of {K:PySem.W.Frag} {H:Hp} {v:V} {d:D} {A:List Addr} {n:String} (r:Rep K H v d A) (e:tyName d = some n):TyOf K H v (.type n) /\ ["NoneType", "bool", "int", "str", "list", "tuple", "dict"].contains n = true:=by
 cases r <;> first | (cases e; done) | skip
 ·cases e; exact ⟨.non,rfl⟩
 ·cases e; exact ⟨.bl _,rfl⟩
 ·cases e; exact ⟨.int _,rfl⟩
 ·cases e; exact ⟨.str _,rfl⟩
 ·cases e; rename_i h _; exact ⟨.tup h,rfl⟩
 ·cases e; rename_i h _; exact ⟨.lst h,rfl⟩
 ·cases e; rename_i h _; exact ⟨.dK (.inr ⟨_,h⟩),rfl⟩
theorem c_isi:Call3 X (fun xs H Q=>∃ x c t cv b,xs = [x,c] /\ clsV c = some cv /\ TyOf X.K H x t /\ PySem.W.kitOne X.K t cv = some b /\ Q (.bl b) H) gIsi:=by
 intro H vs ds A Q R r q k
 obtain ⟨d,n,T,rfl,e,hT,q⟩:=q
 obtain ⟨v,w,B,C,rfl,r1,r2,_⟩:=r.two
 cases r2
 obtain ⟨t1,t2⟩:=ty_of r1 e
 exact ⟨_,_,_,_,_,rfl,rfl,t1,kit_all X.K t2 hT,k _ H _ _ (Same.refl H) .bl List.nodup_nil (fun _ h=>(by cases h)) q⟩
theorem pu_ty {x:Str} {T:String} (h:PE X (.Name x pos) (tC (.ty T))):PU X cl (.Name x pos) .fresh (uC (.ty T)):=.of ⟨_,h,fun G ρ σ H fa Q R _ E hu k=>k _ H _ _ (Same.refl H) .ty (FlOk.nil _) hu⟩
noncomputable def gJoin:D -> D -> (D -> Prop) -> Prop:=fun d e Q=>∃ (z:Str) (xs:List D) (ys:List Str),d = .str z /\ kindB false e = some xs /\ xs = ys.map D.str /\ (ys.map (·.length)).sum + ys.length * z.length <= 16777216 /\ Q (.str (Txt.join z ys))
theorem join_of {H:Hp} {v w:V} {d e:D} {A B:List Addr} {Q:D -> Prop} {R:VK} (r1:Rep X.K H v d A) (r2:Rep X.K H w e B) (q:gJoin d e Q) (k:∀ y,Q (.str y) -> R (.str y) H):rJoin X.K v [w] H R:=by
 obtain ⟨z,xs,ys,rfl,e1,rfl,hn,q⟩:=q
 cases rep_str r1
 obtain ⟨p,ws,B,rfl,hq,rr,_⟩:=rep_sqL r2 e1
 cases rr.strs
 exact ⟨z,p,ys,rfl,rfl,hq,hn,k _ q⟩
noncomputable def uJoin (ua ub:TU):TU:=fun ρ Q=>ua ρ fun x=>isStrD x = true /\ ub ρ fun y=>gJoin x y Q
where isStrD:D -> Bool
 | .str _=>true
 | _=>false
theorem isStrD_of {d:D} (h:uJoin.isStrD d = true):∃ z,d = .str z:=by
 cases d <;> first | exact ⟨_,rfl⟩ | cases h
noncomputable def mJoin (ma mb:TM):TM:=fun ρ Q=>ma ρ fun x ρ1=>uJoin.isStrD x = true /\ mb ρ1 fun y ρ2=>gJoin x y fun d=>Q d ρ2
theorem pm_join {apos:Pos} (ha:PN X cl a ma) (hb:PN X cl b mb) (hst:isStar b = false) (mk:∀ {to t},PE X a to -> PA X [b] t -> PE X (.Call (.Attribute a "join" apos) [b] [] pos) (tBM X.K "str" (rJoin X.K) to t)):PM X cl (.Call (.Attribute a "join" apos) [b] [] pos) (mJoin ma mb):=.of <| by
 obtain ⟨ta,pa,ha⟩:=ha.run
 obtain ⟨tb,pb,hb⟩:=hb.run
 refine ⟨_,mk pa (pa_k pb pa_nil hst),fun G ρ σ H fo Q R hG E hu k=>ha G ρ σ H fo _ _ hG E hu fun v H1 d A ρ1 fa1 E1 c1 r1 n1 q1=>?_⟩
 obtain ⟨hz,q1⟩:=q1
 obtain ⟨z,rfl⟩:=isStrD_of hz
 cases rep_str r1
 refine ⟨rfl,hb G ρ1 σ H1 fa1 _ _ hG E1 q1 fun w H2 e B ρ2 fa2 E2 c2 r2 f2 q2=>?_⟩
 exact join_of (.str) r2 q2 fun y qy=>k _ H2 _ [] ρ2 fa2 E2 (c1.trans c2) .str List.nodup_nil (fun a ha=>(by cases ha)) qy
noncomputable def gMulS:D -> D -> (D -> Prop) -> Prop
 | .str z,.int n,Q=>MulOk z n /\ Q (.str (Txt.mul z n))
 | _,_,_=>False
theorem o_mulS:Op3 X (fun x y H Q=>∃ z n,x = .str z /\ y = .int n /\ MulOk z n /\ Q (.str (Txt.mul z n)) H) gMulS:=by
 intro H v w d e A B Q R r1 r2 q k
 cases d <;> cases e <;> first | exact q.elim | skip
 cases rep_str r1; cases rep_int r2
 exact ⟨_,_,rfl,rfl,q.1,k _ H _ _ (Same.refl H) .str List.nodup_nil (fun _ h=>(by cases h)) q.2⟩
noncomputable def gCat:D -> D -> (D -> Prop) -> Prop
 | .lst xs,.lst ys,Q=>imms xs = true /\ imms ys = true /\ xs.length + ys.length <= sizeLine /\ Q (.lst (xs ++ ys))
 | _,_,_=>False
theorem o_cat:Op3 X rCat gCat:=by
 intro H v w d e A B Q R r1 r2 q k
 cases d <;> cases e <;> first | exact q.elim | skip
 obtain ⟨p1,vs,B1,rfl,h1,rs1,_⟩:=rep_lst r1
 obtain ⟨p2,ws,B2,rfl,h2,rs2,_⟩:=rep_lst r2
 obtain ⟨i1,i2,hn,q⟩:=q
 have e1:=rs1.immA i1
 have e2:=rs2.immA i2
 subst e1
 subst e2
 refine ⟨p1,p2,vs,ws,rfl,rfl,h1,h2,by rw [rs1.length,rs2.length]; exact hn,fun l hl=>k _ _ _ [l] (Same.upd_new hl) (.lst upd_same ((rs1.same (Same.upd_new hl)).append (rs2.same (Same.upd_new hl)))) (by simp) (fun a ha=>?_) q⟩
 have:a = l:=by simpa using ha
 rw [this]; exact hl
noncomputable def cutD (xs:List D) (lo hi:Option Int):List D:=(xs.drop (HT.sIx xs.length 0 lo)).take (HT.sIx xs.length xs.length hi - HT.sIx xs.length 0 lo)
noncomputable abbrev TO3:=Ev -> (Option Int -> Prop) -> Prop
structure PO3 (X:Cx) (cl:List Cl) (e:Option Expr) (u:TO3):Prop where
 of ::
 run:∃ t,PO X e t /\ ∀ (G:Ent) (ρ:Ev) (σ:St) (H:Hp) (fa:Nat -> List Addr) (Q:Option Int -> Prop) (R:Option Int -> Hp -> Prop),G.cl = cl -> E3 X.K G ρ σ H fa -> u ρ Q -> (∀ o H',Same H H' -> Q o -> R o H') -> t σ H R
noncomputable def oNone:TO3:=fun _ Q=>Q none
noncomputable def oSome (u:TU):TO3:=fun ρ Q=>u ρ fun d=>match d with
 | .int i=>Q (some i)
 | _=>False
theorem o3_none:PO3 X cl none oNone:=.of ⟨_,po_none,fun G ρ σ H fa Q R _ E hu k=>k none H (Same.refl H) hu⟩
theorem o3_some (h:PU X cl e f ua):PO3 X cl (some e) (oSome ua):=.of <| by
 obtain ⟨t,p,h⟩:=h.run
 refine ⟨_,po_some p,fun G ρ σ H fa Q R hG E hu k=>h G ρ σ H fa _ _ hG E hu fun v H' d B s r _ q=>?_⟩
 cases d <;> first | exact (show False from q).elim | skip
 cases rep_int r
 exact ⟨_,rfl,k _ H' s q⟩
end
end L3
namespace L3
open PySem PySem.Spec L2
noncomputable def capM:List (Option Nat) -> Nat -> List Cl
 | [],_=>[]
 | _ :: r,0=>.own :: capB r
 | _ :: r,p + 1=>.bor :: capM r p
theorem capB_no {r:List (Option Nat)} {q:Nat} {c:Cl} (h:(capB r)[q]? = some c):c = .bor:=by
 unfold capB at h
 rw [List.getElem?_map] at h
 cases e:r[q]? with
 | none=>rw [e] at h; cases h
 | some o=>rw [e] at h; cases h; rfl
theorem capM_own:∀ {cap:List (Option Nat)} {p q:Nat},(capM cap p)[q]? = some .own -> q = p
 | [],_,_,h=>by simp [capM] at h
 | _ :: r,0,0,_=>rfl
 | _ :: r,0,q + 1,h=>by
  rw [capM,List.getElem?_cons_succ] at h
  exact nomatch capB_no h
 | _ :: r,p + 1,0,h=>by rw [capM] at h; cases h
 | _ :: r,p + 1,q + 1,h=>by
  rw [capM,List.getElem?_cons_succ] at h
  rw [capM_own h]
theorem capM_loc:∀ {cap:List (Option Nat)} {p q:Nat},(capM cap p)[q]? = some .loc -> False
 | [],_,_,h=>by simp [capM] at h
 | _ :: r,0,0,h=>by rw [capM] at h; cases h
 | _ :: r,0,q + 1,h=>by
  rw [capM,List.getElem?_cons_succ] at h
  exact nomatch capB_no h
 | _ :: r,p + 1,0,h=>by rw [capM] at h; cases h
 | _ :: r,p + 1,q + 1,h=>by
  rw [capM,List.getElem?_cons_succ] at h
  exact capM_loc h
theorem capM_mk:∀ {cap:List (Option Nat)} {p q:Nat} {H':Hp},(capM cap p)[q]? = some (.mk H') -> False
 | [],_,_,_,h=>by simp [capM] at h
 | _ :: r,0,0,_,h=>by rw [capM] at h; cases h
 | _ :: r,0,q + 1,_,h=>by
  rw [capM,List.getElem?_cons_succ] at h
  exact nomatch capB_no h
 | _ :: r,p + 1,0,_,h=>by rw [capM] at h; cases h
 | _ :: r,p + 1,q + 1,_,h=>by
  rw [capM,List.getElem?_cons_succ] at h
  exact capM_mk h
noncomputable def entM (cap:List (Option Nat)) (p:Nat):Ent:=⟨fun _=>none,fun _=>[],[],capM cap p,fun _=>False,fun _=>none⟩
theorem E3.compM {K:PySem.W.Frag} {G:Ent} {ρ:Ev} {σ:St} {H:Hp} {fa:Nat -> List Addr} {cap:List (Option Nat)} {p j:Nat} (E:E3 K G ρ σ H fa) (own:G.own j) (hp:cap[p]? = some (some j)) (hq:∀ q,cap[q]? = some (some j) -> q = p):E3 K (entM cap p) (capE cap ρ) (capS cap σ) H (capF cap ρ fa):=by
 have fj:∀ a ∈ capF cap ρ fa p,a ∈ fa j:=fun a ha=>by
  unfold capF at ha
  split at ha
  ·rw [hp] at ha; exact ha
  ·cases ha
 refine ⟨fun i d e=>?_,fun i e=>?_,by unfold capE capS; simp,fun i h=>?_,fun i l n h a ha=>?_,fun i h=>absurd h (Nat.not_lt_zero _),fun i h=>absurd h (Nat.not_lt_zero _),fun i h a _=>rfl,
  fun a o h=>(nomatch h),⟨fun b xs h=>(nomatch h),fun b o u h=>(nomatch h),fun _ _=>rfl⟩,fun a z=>z.elim,fun a z=>z.elim,fun i h a _ z=>z,⟨fun i h=>absurd h (Nat.not_lt_zero _),fun j H' h=>(capM_mk h).elim⟩⟩
 ·obtain ⟨j',e1,e2⟩:=capE_get e
  obtain ⟨v,e3,r⟩:=E.rep j' d e2
  refine ⟨v,capS_get e1 e3,?_⟩
  unfold capF
  rw [e,e1]
  exact r
 ·unfold capF
  split
  ·rename_i d h
   exact absurd h (e d)
  ·rfl
 ·rcases h with h | h
  ·have e:=capM_own h
   subst e
   unfold capF
   split
   ·rw [hp]; exact E.nd j (.inl own)
   ·exact List.nodup_nil
  ·exact (capM_loc h).elim
 ·have e:=capM_own h
  subst e
  have ha':=fj a ha
  intro z
  unfold capF at z
  split at z
  ·split at z
   ·rename_i j' hj'
    by_cases ej:j' = j
    ·subst ej
     exact n (hq l hj').symm
    ·exact E.dj j j' (Ne.symm ej) own a ha' z
   ·cases z
  ·cases z
structure MlcW (p j:Nat) (cap:List (Option Nat)) (g:TG3) (tc:TTM) (te:TM) (xs:List D) (ρ:Ev) (Q:List D -> Ev -> Prop):Prop where
 of ::
 ex:∃ W:Nat -> List D -> Ev -> Prop,W 0 [] ρ /\ (∀ i x acc ρ,xs[i]? = some x -> W i acc ρ -> g x (capE cap ρ) fun ρ1=>tc ρ1 fun b ρ2=>Br b (te ρ2 fun d ρ3=>uVar p ρ3 fun l=>W (i + 1) (acc ++ [d]) (ρ.set j (some l))) (uVar p ρ2 fun l=>W (i + 1) acc (ρ.set j (some l)))) /\ ∀ acc ρ,W xs.length acc ρ -> Q acc ρ
noncomputable def mLC (p j:Nat) (cap:List (Option Nat)) (ui:TIM) (g:TG3) (tc:TTM) (te:TM):TM:=fun ρ Q=>ui ρ fun xs ρ1=>xs.length < sizeLine /\ uVar j ρ1 fun _=>MlcW p j cap g tc te xs ρ1 fun ds ρ2=>Q (.lst ds) ρ2
theorem comp_out {K:PySem.W.Frag} {G:Ent} {ρ ρi:Ev} {σ σi:St} {H H2 H4:Hp} {fa fi:Nat -> List Addr} {cap:List (Option Nat)} {p j:Nat} {l:D} (E:E3 K G ρ σ H fa) (own:G.own j) (hp:cap[p]? = some (some j)) (hj:∃ d,ρ[j]? = some (some d)) (s:Same H H2)
  (Ei:E3 K (entM cap p) ρi σi H4 fi) (cf:∀ a o,H2 a = some o -> a ∉ fa j -> H4 a = some o) (cs:Stb H2 H4) (cn:∀ a ∈ fi p,a ∈ fa j \/ H2 a = none) (hop:(entM cap p).own p) (hσ:σi[p]? = (capS cap σ)[p]?) (el:ρi[p]? = some (some l)) :
  E3 K G (ρ.set j (some l)) σ H4 (fun q=>if q = j then fi p else fa q) /\ Chg K G H fa H4 (fun q=>if q = j then fi p else fa q):=by
 obtain ⟨d0,e0⟩:=hj
 obtain ⟨v,hv,_⟩:=E.rep j d0 e0
 have lj:j < ρ.length:=(List.getElem?_eq_some_iff.mp e0).1
 have new:∀ a ∈ fi p,a ∈ fa j \/ H a = none:=fun a ha=>(cn a ha).imp id fun y=>s.free y
 have keep:∀ a o,H a = some o -> a ∉ fa j -> H4 a = some o:=fun a o h n=>cf a o (s a o h) n
 have stb:Stb H H4:=(Stb.of s).trans cs
 have ch:Chg K G H fa H4 (fun q=>if q = j then fi p else fa q):=by
  refine ⟨fun a o h n=>keep a o h (n j own),stb,fun i hi a ha=>?_,fun i hi=>if_neg fun e:i = j=>hi (by rw [e]; exact own)⟩
  by_cases q:i = j
  ·subst q; rw [if_pos rfl] at ha; exact new a ha
  ·rw [if_neg q] at ha; exact .inl ha
 refine ⟨E.step ch (by simp) (fun i hi=>List.getElem?_set_ne fun e=>hi (by rw [<- e]; exact own)) (fun i d' hi e=>?_) (fun i hi e=>?_) (fun i hi=>?_) fun i i' n hi hi' a ha z=>?_,ch⟩
 ·by_cases q:i = j
  ·subst q
   rw [List.getElem?_set_self lj] at e
   cases e
   obtain ⟨v',e1,r1⟩:=Ei.rep p l el
   rw [hσ,capS_get hp hv] at e1
   cases e1
   exact ⟨v,hv,by rw [if_pos rfl]; exact r1⟩
  ·rw [List.getElem?_set_ne (Ne.symm q)] at e
   obtain ⟨w,e2,r4⟩:=E.rep i d' e
   refine ⟨w,e2,?_⟩
   rw [if_neg q]
   refine r4.mono stb fun a ha=>?_
   obtain ⟨o,eo⟩:=Mut.some (r4.trk a ha)
   rw [eo]
   exact keep a o eo fun z=>E.dj i j q hi a ha z
 ·by_cases q:i = j
  ·subst q
   exact absurd (List.getElem?_set_self lj) (e l)
  ·rw [if_neg q]
   exact E.emp i fun d z=>e d (by rw [List.getElem?_set_ne (Ne.symm q)]; exact z)
 ·by_cases q:i = j
  ·rw [if_pos q]; exact Ei.nd p (.inl hop)
  ·rw [if_neg q]; exact E.nd i (.inl hi)
 ·by_cases q:i = j
  ·rw [if_pos q] at ha
   have q':i' ≠ j:=fun e=>n (q.trans e.symm)
   rw [if_neg q'] at z
   rcases new a ha with y | y
   ·exact E.dj j i' (Ne.symm q') own a y z
   ·exact E.there i' z y
  ·rw [if_neg q] at ha
   by_cases q':i' = j
   ·rw [if_pos q'] at z
    rcases new a z with y | y
    ·exact E.dj i j q hi a ha y
    ·exact E.there i ha y
   ·rw [if_neg q'] at z
    exact E.dj i i' n hi a ha z
theorem lcM {K:PySem.W.Frag} {cap:List (Option Nat)} {p j:Nat} {g3:TG3} {tc3:TTM} {te3:TM} {J:It} {g:TG} {tc:TT} {te:TE} {xs:List D} {C:List Addr} {ρ:Ev} {σ:St} {G:Ent} {H1:Hp} {fa:Nat -> List Addr} {Q:List D -> Ev -> Prop} {R:VK}
  (own:G.own j) (hp:cap[p]? = some (some j)) (hq:∀ q,cap[q]? = some (some j) -> q = p) (hop:(entM cap p).own p) (hj0:∃ d,ρ[j]? = some (some d))
  (hg:∀ (G:Ent) (ρ:Ev) (σ:St) (H:Hp) (fa:Nat -> List Addr) (v:V) (d:D) (B:List Addr) (Q:Ev -> Prop) (R:St -> Hp -> Prop),G.cl = capM cap p -> E3 K G ρ σ H fa -> Rep K H v d B -> (∀ i,G.own i -> ∀ a ∈ B,a ∉ fa i) -> g3 d ρ Q ->
   (∀ σ' ρ' fa',E3 K G ρ' σ' H fa' -> (∀ i,G.own i -> fa' i = fa i /\ σ'[i]? = σ[i]?) -> (∀ i,G.own i -> ρ'[i]? = ρ[i]?) -> Q ρ' -> R σ' H) -> g v σ H R)
  (hc:∀ (G:Ent) (ρ:Ev) (σ:St) (H:Hp) (fa:Nat -> List Addr) (Q:Bool -> Ev -> Prop) (R:Bool -> Hp -> Prop),G.cl = capM cap p -> E3 K G ρ σ H fa -> tc3 ρ Q -> (∀ b H' ρ' fa',E3 K G ρ' σ H' fa' -> Chg K G H fa H' fa' -> Q b ρ' -> R b H') -> tc σ H R)
  (he:∀ (G:Ent) (ρ:Ev) (σ:St) (H:Hp) (fa:Nat -> List Addr) (Q:D -> Ev -> Prop) (R:VK),G.cl = capM cap p -> E3 K G ρ σ H fa -> te3 ρ Q -> (∀ v H' d B ρ' fa',E3 K G ρ' σ H' fa' -> Chg K G H fa H' fa' -> Rep K H' v d B -> B.Nodup -> (∀ a ∈ B,H a = none /\ ∀ i,a ∉ fa' i) -> Q d ρ' -> R v H') -> te σ H R)
  (E:E3 K G ρ σ H1 fa) (it:ItOk K J xs C H1) (tr:∀ a ∈ C,H1 a ≠ none) (ap:∀ i,G.own i -> ∀ a ∈ C,a ∉ fa i) (hn:xs.length < sizeLine) (q:MlcW p j cap g3 tc3 te3 xs ρ Q)
  (k:∀ d H' ds B ρ' fa',E3 K G ρ' σ H' fa' -> Chg K G H1 fa H' fa' -> Rep K H' (.ref d) (.lst ds) B -> B.Nodup -> (∀ a ∈ B,H1 a = none /\ ∀ i,a ∉ fa' i) -> Q ds ρ' -> R (.ref d) H'):lcW J g tc te (capS cap σ) R H1:=by
 intro d hd
 obtain ⟨W,w0,step,done⟩:=q.ex
 have E1:E3 K G ρ σ (upd H1 d (.lst [])) fa:=E.same (Same.upd_new hd)
 refine ⟨fun i m H=>m = xs.length - i /\ i <= xs.length /\ ∃ ρ' fa' acc ds B,E3 K G ρ' σ H fa' /\ Chg K G H1 fa H fa' /\ (∃ d,ρ'[j]? = some (some d)) /\ H d = some (.lst acc) /\ (∀ q,d ∉ fa' q) /\ acc.length <= i /\ Reps K H acc ds B /\ B.Nodup /\ d ∉ B /\ (∀ a ∈ B,H1 a = none /\ ∀ q,a ∉ fa' q) /\ W i ds ρ',
  ⟨xs.length,by simp,Nat.zero_le _,ρ,fa,[],[],[],E1,Chg.same (Same.upd_new hd),hj0,upd_same,fun q z=>E.there q z hd,Nat.le_refl _,.nil,List.nodup_nil,(by simp),(fun a ha=>by cases ha),w0⟩,?_⟩
 rintro i m H ⟨rfl,hle,ρ',fa',acc,ds,B,E',c',hj',hacc,hdf,hal,rs,nB,dB,hB,q⟩
 have tf:Tf H1 H:=c'.stb.tf
 have kC:∀ a ∈ C,H a = H1 a:=fun a ha=>by
  obtain ⟨o,eo⟩:=Option.ne_none_iff_exists'.mp (tr a ha)
  rw [eo]; exact c'.frm a o eo fun i hi=>ap i hi a ha
 by_cases hlt:i < xs.length
 ·right
  obtain ⟨go,yl⟩:=(it H tf kC i).2 _ (List.getElem?_eq_getElem hlt)
  refine ⟨go,fun y H2 hy=>?_⟩
  obtain ⟨s2,By,rB,sB⟩:=yl y H2 hy
  have E2:=(E'.same s2).compM (cap:=cap) (p:=p) own hp hq
  have capsub:∀ a ∈ capF cap ρ' fa' p,a ∈ fa' j:=fun a ha=>by
   unfold capF at ha
   split at ha
   ·rw [hp] at ha; exact ha
   ·cases ha
  refine hg (entM cap p) _ _ H2 _ y _ By _ _ rfl E2 rB (fun l hl a ha z=>?_) (step i _ ds ρ' (List.getElem?_eq_getElem hlt) q) fun σ3 ρ3 fa3 E3' k3 k3' q3=>?_
  ·have e:=capM_own hl
   subst e
   exact c'.apart tr ap j own a (sB.mem ha) (capsub a z)
  refine hc (entM cap p) ρ3 σ3 H2 fa3 _ _ rfl E3' q3 fun b H3 ρ4 fa4 E4 c4 q4=>?_
  have oni:∀ i,(entM cap p).own i -> i = p:=fun i h=>capM_own h
  obtain ⟨d0,e0⟩:=hj'
  have capj:capF cap ρ' fa' p = fa' j:=by
   have:(capE cap ρ')[p]? = some (some d0):=by
    unfold capE
    rw [List.getElem?_map,hp]
    show some ((ρ'[j]?).join) = _
    rw [e0]; rfl
   unfold capF
   rw [this,hp]
  have f3:fa3 p = fa' j:=(k3 p hop).1.trans capj
  have σ3p:σ3[p]? = (capS cap σ)[p]?:=(k3 p hop).2
  have turn:∀ {H4:Hp} {fi:Nat -> List Addr} {ρi:Ev} {l:D},E3 K (entM cap p) ρi σ3 H4 fi -> Chg K (entM cap p) H2 fa3 H4 fi -> ρi[p]? = some (some l) ->
    E3 K G (ρ'.set j (some l)) σ H4 (fun q=>if q = j then fi p else fa' q) /\ Chg K G H fa' H4 (fun q=>if q = j then fi p else fa' q):=fun {H4 fi ρi l} Ei ci el=>
   comp_out E' own hp ⟨d0,e0⟩ s2 Ei (fun a o h n=>ci.frm a o h fun i hi=>by rw [oni i hi,f3]; exact n) ci.stb (fun a ha=>by rw [<- f3]; exact ci.new p hop a ha) hop σ3p el
  have lj:j < ρ'.length:=(List.getElem?_eq_some_iff.mp e0).1
  have djf:∀ {fi:Nat -> List Addr} {H4:Hp} {X':Addr},Chg K G H fa' H4 (fun q=>if q = j then fi p else fa' q) -> H X' ≠ none -> (∀ q,X' ∉ fa' q) -> ∀ q,X' ∉ (if q = j then fi p else fa' q):=fun {fi H4 X'} cc ht hnf q z=>by
   by_cases hqj:q = j
   ·rcases cc.new j own X' (by rw [if_pos rfl]; rw [if_pos hqj] at z; exact z) with y | y
    ·exact hnf j y
    ·exact ht y
   ·rw [if_neg hqj] at z; exact hnf q z
  cases b with
  | false=>
   rw [if_neg Bool.false_ne_true]
   obtain ⟨l,el,q5⟩:=uVar_some (q4.f rfl)
   obtain ⟨Eo,co⟩:=turn E4 c4 el
   have hacc4:H3 d = some (.lst acc):=co.frm d _ hacc fun i _=>hdf i
   refine ⟨xs.length - (i + 1),by omega,rfl,hlt,_,_,acc,ds,B,Eo,c'.trans co,⟨l,List.getElem?_set_self lj⟩,hacc4,djf co (by rw [hacc]; intro z; cases z) hdf,by omega,?_,nB,dB,fun a ha=>⟨(hB a ha).1,djf co (rs.there a ha) (hB a ha).2⟩,q5⟩
   exact rs.mono co.stb fun a ha=>by
    obtain ⟨o,eo⟩:=Mut.some (rs.trk a ha)
    rw [eo]; exact co.frm a o eo fun i _=>(hB a ha).2 i
  | true=>
   rw [if_pos rfl]
   refine he (entM cap p) ρ4 σ3 H3 fa4 _ _ rfl E4 (q4.t rfl) fun v H4 dv Bv ρ5 fa5 E5 c5 rv nv mv q5=>?_
   obtain ⟨l,el,q5⟩:=uVar_some q5
   have c45:=c4.trans c5
   obtain ⟨Eo,co⟩:=turn E5 c45 el
   have hacc4:H4 d = some (.lst acc):=co.frm d _ hacc fun i _=>hdf i
   have hd4:=djf co (by rw [hacc]; intro z; cases z) hdf
   have rs4:Reps K H4 acc ds B:=rs.mono co.stb fun a ha=>by
    obtain ⟨o,eo⟩:=Mut.some (rs.trk a ha)
    rw [eo]; exact co.frm a o eo fun i _=>(hB a ha).2 i
   have hB4:∀ a ∈ B,H1 a = none /\ ∀ q,a ∉ (if q = j then fa5 p else fa' q):=fun a ha=>⟨(hB a ha).1,djf co (rs.there a ha) (hB a ha).2⟩
   have H3H:∀ a,H3 a = none -> H a = none:=fun a h=>s2.free (c4.stb.dom a h)
   have hBv:∀ a ∈ Bv,H a = none:=fun a ha=>H3H a (mv a ha).1
   have fBv:∀ a ∈ Bv,∀ q,a ∉ (if q = j then fa5 p else fa' q):=fun a ha q z=>by
    by_cases hqj:q = j
    ·rw [if_pos hqj] at z; exact (mv a ha).2 p z
    ·rw [if_neg hqj] at z; exact E'.there q z (hBv a ha)
   have hdBv:d ∉ Bv:=fun z=>by rw [hBv d z] at hacc; cases hacc
   have st:Stb H4 (upd H4 d (.lst (acc ++ [v]))):=⟨fun b ys h=>by
     by_cases e:b = d
     ·subst e; rw [hacc4] at h; cases h
     ·rw [upd_ne e]; exact h,fun b u w' h=>by
     by_cases e:b = d
     ·subst e; rw [hacc4] at h; cases h
     ·rw [upd_ne e]; exact h,fun b h=>by
     by_cases e:b = d
     ·subst e; rw [upd_same] at h; cases h
     ·rw [upd_ne e] at h; exact h⟩
   have Ef:E3 K G (ρ'.set j (some l)) σ (upd H4 d (.lst (acc ++ [v]))) (fun q=>if q = j then fa5 p else fa' q):=Eo.away (A:=[d]) st (fun a o h n=>by rw [upd_ne (by simpa using n)]; exact h)
    (fun q a ha=>by
     have:a = d:=by simpa using ha
     rw [this]; exact hd4 q)
    (fun a ha=>by
     have:a = d:=by simpa using ha
     rw [this]; exact E.stb.dom d hd)
    fun a ha=>by
     have:a = d:=by simpa using ha
     rw [this]; exact E.zfree hd
   have cfin:Chg K G H1 fa (upd H4 d (.lst (acc ++ [v]))) (fun q=>if q = j then fa5 p else fa' q):=by
    have ct:=c'.trans co
    exact ⟨fun a o h n=>by rw [upd_ne (ne_of_none h hd)]; exact ct.frm a o h n,ct.stb.trans st,ct.new,ct.bor⟩
   refine ⟨acc,hacc4,by omega,xs.length - (i + 1),by omega,rfl,hlt,_,_,acc ++ [v],ds ++ [dv],B ++ (Bv ++ []),Ef,cfin,⟨l,List.getElem?_set_self lj⟩,upd_same,hd4,by rw [List.length_append,List.length_singleton]; omega,?_,?_,?_,fun a ha=>?_,q5⟩
   ·exact (rs4.mono st fun a ha=>upd_ne fun e=>dB (e ▸ ha)).append (.cons (rv.mono st fun a ha=>upd_ne fun e=>hdBv (e ▸ ha)) .nil)
   ·rw [List.append_nil]
    refine List.nodup_append.mpr ⟨nB,nv,fun a ha b hb e=>?_⟩
    subst e
    exact rs.there a ha (hBv a hb)
   ·rw [List.append_nil]
    exact fun z=>(List.mem_append.mp z).elim dB hdBv
   ·rw [List.append_nil] at ha
    rcases List.mem_append.mp ha with z | z
    ·exact hB4 a z
    ·exact ⟨c'.stb.dom a (hBv a z),fBv a z⟩
 ·have ei:i = xs.length:=by omega
  subst ei
  left
  refine ⟨(it H tf kC _).1 rfl,k d H ds (d :: B) ρ' fa' E' c' (.lst hacc rs) (List.nodup_cons.mpr ⟨dB,nB⟩) (fun a ha=>?_) (done ds ρ' q)⟩
  rcases List.mem_cons.mp ha with z | z
  ·rw [z]; exact ⟨hd,hdf⟩
  ·exact hB a z
structure PTsM (X:Cx) (cl:List Cl) (es:List Expr) (u:TTM):Prop where
 of ::
 run:∃ t,PTs X es t /\ ∀ (G:Ent) (ρ:Ev) (σ:St) (H:Hp) (fa:Nat -> List Addr) (Q:Bool -> Ev -> Prop) (R:Bool -> Hp -> Prop),G.cl = cl -> E3 X.K G ρ σ H fa -> u ρ Q ->
  (∀ b H' ρ' fa',E3 X.K G ρ' σ H' fa' -> Chg X.K G H fa H' fa' -> Q b ρ' -> R b H') -> t σ H R
section
variable {X:Cx} {cl:List Cl} {e:Expr} {pos:Pos} {XN N:List Str} {XS scope:Scope} {cap:List (Option Nat)} {elt target iter:Expr} {ifs:List Expr} {ui:TIM} {g3:TG3} {tc3:TTM} {te3:TM}
noncomputable def mYes:TTM:=fun ρ Q=>Q true ρ
theorem tsm_nil:PTsM X cl [] mYes:=.of ⟨_,pts_nil,fun G ρ σ H fa Q R _ E hu k=>k true H ρ fa E Chg.refl hu⟩
theorem tsm_one {tc:TTM} (h:PTM X cl e tc):PTsM X cl [e] tc:=.of <| let ⟨t,p,h⟩:=h.run; ⟨t,pts_one p,h⟩
noncomputable def capOne (cap:List (Option Nat)) (p j:Nat):Bool:=(cap[p]? == some (some j)) && (List.range cap.length).all fun q=>cap[q]? != some (some j) || q == p
theorem capOne_of {cap:List (Option Nat)} {p j:Nat} (h:capOne cap p j = true):cap[p]? = some (some j) /\ ∀ q,cap[q]? = some (some j) -> q = p:=by
 unfold capOne at h
 rw [Bool.and_eq_true] at h
 refine ⟨by simpa using h.1,fun q e=>?_⟩
 have hq:q < cap.length:=(List.getElem?_eq_some_iff.mp e).1
 have:=(List.all_eq_true.mp h.2) q (List.mem_range.mpr hq)
 rw [e] at this
 simpa using this
theorem pm_lc (p j:Nat) (hj:cl[j]? = some .own) (h1:capOne cap p j = true) (h2:(capM cap p)[p]? = some .own) (hcap:capOk XN N XS scope cap = true) (hN:X.N = XN) (hS:X.env.scope = XS) (hk:scope.kind = .function) (hcalm:X.calm = true) (hi:PIM X cl target iter ui)
  (hg:∀ c fp s H,PG3 (cxC X N scope c fp s H) (capM cap p) target g3) (hc:∀ c fp s H,PTsM (cxC X N scope c fp s H) (capM cap p) ifs tc3) (he:∀ c fp s H,PM (cxC X N scope c fp s H) (capM cap p) elt te3)
  (hs:∀ x,foldedSetIterable iter X.env x = pure x:=by intro _; rfl):PM X cl (.ListComp elt [⟨target,iter,ifs,0⟩] scope pos) (mLC p j cap ui g3 tc3 te3):=.of <| by
 obtain ⟨wi,pi,hi⟩:=hi.run
 obtain ⟨hp,hq⟩:=capOne_of h1
 refine ⟨_,pe_lcF (g:=fun c fp s H=>Classical.choose (hg c fp s H).run) (tc:=fun c fp s H=>Classical.choose (hc c fp s H).run) (te:=fun c fp s H=>Classical.choose (he c fp s H).run) hcap hN hS hk hcalm pi
  (fun c fp s H=>(Classical.choose_spec (hg c fp s H).run).1) (fun c fp s H=>(Classical.choose_spec (hc c fp s H).run).1) (fun c fp s H=>(Classical.choose_spec (he c fp s H).run).1) hs,fun G ρ σ H fa Q R hG E hu k=>?_⟩
 have own:G.own j:=by unfold Ent.own; rw [hG]; exact hj
 refine hi G ρ σ H fa _ _ hG E hu fun J H1 xs C ρ1 fa1 E1 c1 it tr ap q=>fun c fp s' H'=>?_
 obtain ⟨d0,e0,q2⟩:=uVar_some q.2
 exact lcM (K:=X.K) own hp hq h2 ⟨d0,e0⟩ (Classical.choose_spec (hg c fp s' H').run).2 (Classical.choose_spec (hc c fp s' H').run).2 (Classical.choose_spec (he c fp s' H').run).2 E1 it tr ap q.1 q2
  fun d H2 ds B ρ2 fa2 E2 c2 r n1 n2 q3=>k _ H2 _ B ρ2 fa2 E2 (c1.trans c2) r n1 (fun a ha=>⟨c1.stb.dom a (n2 a ha).1,(n2 a ha).2⟩) q3
theorem s_setMLC {i:Nat} {y:Str} {spos py:Pos} (p j:Nat) (hXN:X.N.Nodup) (hiN:X.N[i]? = some y) (hy:X.env.scope.names.lookup y = some .local) (hci:notOwn0 cl[i]? i = true) (hj:cl[j]? = some .own) (h1:capOne cap p j = true) (h2:(capM cap p)[p]? = some .own)
  (hcap:capOk XN N XS scope cap = true) (hN:X.N = XN) (hS:X.env.scope = XS) (hk:scope.kind = .function) (hcalm:X.calm = true) (hi:PIM X cl target iter ui)
  (hg:∀ c fp s H,PG3 (cxC X N scope c fp s H) (capM cap p) target g3) (hc:∀ c fp s H,PTsM (cxC X N scope c fp s H) (capM cap p) ifs tc3) (he:∀ c fp s H,PM (cxC X N scope c fp s H) (capM cap p) elt te3)
  (hsw:swapsWith (.ListComp elt [⟨target,iter,ifs,0⟩] scope pos) (some (.Name y py)) spos.line X.env = pure true:=by rfl)
  (hs:∀ x,foldedSetIterable iter X.env x = pure x:=by intro _; rfl):PS3 X cl (.Assign [.Name y py] (.ListComp elt [⟨target,iter,ifs,0⟩] scope pos) spos) (sSetM i (mLC p j cap ui g3 tc3 te3)):=.of <| by
 obtain ⟨wi,pi,hi⟩:=hi.run
 obtain ⟨hp,hq⟩:=capOne_of h1
 refine ⟨_,ps_setLCF (g:=fun c fp s H=>Classical.choose (hg c fp s H).run) (tc:=fun c fp s H=>Classical.choose (hc c fp s H).run) (te:=fun c fp s H=>Classical.choose (he c fp s H).run) hXN hiN hy hcap hN hS hk hcalm pi
  (fun c fp s H=>(Classical.choose_spec (hg c fp s H).run).1) (fun c fp s H=>(Classical.choose_spec (hc c fp s H).run).1) (fun c fp s H=>(Classical.choose_spec (he c fp s H).run).1) hsw hs,fun G T ρ σ H fa R hG E hu le=>?_⟩
 have own:G.own j:=by unfold Ent.own; rw [hG]; exact hj
 refine hi G ρ σ H fa _ _ hG E hu fun J H1 xs C ρ1 fa1 E1 c1 it tr ap q=>fun c fp s' H'=>?_
 obtain ⟨d0,e0,q2⟩:=uVar_some q.2
 refine lcM (K:=X.K) own hp hq h2 ⟨d0,e0⟩ (Classical.choose_spec (hg c fp s' H').run).2 (Classical.choose_spec (hc c fp s' H').run).2 (Classical.choose_spec (he c fp s' H').run).2 E1 it tr ap q.1 q2
  fun d H2 ds B ρ2 fa2 E2 c2 r n1 n2 q3=>?_
 exact le.nx _ _ ⟨_,_,E2.set (Nat.le_of_ble_eq_true q3.1) r (ClOk.new E2 E n1 (fun a ha=>⟨c1.stb.dom a (n2 a ha).1,(n2 a ha).2⟩) (by rw [hG]; exact notOwn0_of hci)),q3.2⟩
end
end L3
namespace L2
open PySem PySem.Spec PyProof.Rows
section
variable {κ:Type} [DecidableEq κ]
noncomputable def valV (kvs:List (κ × V)) (k:κ):Option V:=(kvs.find? fun kv=>decide (kv.1 = k)).map (·.2)
noncomputable def putK (kvs:List (κ × V)) (k:κ) (v:V):List (κ × V):=
 if (kvs.any fun kv=>decide (kv.1 = k)) = true then kvs.map (fun kv=>if kv.1 = k then (kv.1,v) else kv) else kvs ++ [(k,v)]
theorem valV_pos {p:κ × V} {r:List (κ × V)} {k:κ} (e:p.1 = k):valV (p :: r) k = some p.2:=by simp [valV,List.find?_cons,e]
theorem valV_neg {p:κ × V} {r:List (κ × V)} {k:κ} (e:¬ p.1 = k):valV (p :: r) k = valV r k:=by simp [valV,List.find?_cons,e]
theorem valV_any (k:κ):∀ kvs:List (κ × V),(kvs.any fun kv=>decide (kv.1 = k)) = (valV kvs k).isSome
 | []=>rfl
 | p :: r=>by
  rw [List.any_cons]
  by_cases e:p.1 = k
  ·simp only [valV_pos e,decide_eq_true e,Bool.true_or,Option.isSome_some]
  ·rw [valV_neg e,decide_eq_false e,Bool.false_or]; exact valV_any k r
theorem length_putK (kvs:List (κ × V)) (k:κ) (v:V):(putK kvs k v).length <= kvs.length + 1:=by
 unfold putK
 split
 ·rw [List.length_map]; omega
 ·rw [List.length_append,List.length_cons,List.length_nil]; omega
theorem RelO.isSome_eq {o:Option V} {u:Option Value} (r:RelO o u):o.isSome = u.isSome:=by
 cases o with
 | none=>cases u with
  | none=>rfl
  | some _=>exact (show False from r).elim
 | some _=>cases u with
  | none=>exact (show False from r).elim
  | some _=>rfl
theorem RelO.getD {o:Option V} {u:Option Value} {d:V} {d':Value} (r:RelO o u) (rd:RelV d d'):RelV (o.getD d) (u.getD d'):=by
 cases o with
 | none=>cases u with
  | none=>exact rd
  | some _=>exact (show False from r).elim
 | some _=>cases u with
  | none=>exact (show False from r).elim
  | some _=>exact r
theorem KV.val {kvs:List (κ × V)} {vs:List (κ × Value)} (r:KV kvs vs) (k:κ):RelO (valV kvs k) (valueAt vs k):=by
 unfold KV at r
 induction r with
 | nil=>exact True.intro
 | @cons p q ps qs h t ih=>
  obtain ⟨h1,h2⟩:=h
  by_cases e:p.1 = k
  ·have e':q.1 = k:=h1.symm.trans e
   have b:valueAt (q :: qs) k = some q.2:=by simp [valueAt,List.find?_cons,e']
   rw [valV_pos e,b]; exact h2
  ·have e':¬ q.1 = k:=fun z=>e (h1.trans z)
   have b:valueAt (q :: qs) k = valueAt qs k:=by simp [valueAt,List.find?_cons,e']
   rw [valV_neg e,b]; exact ih
theorem KV.any {kvs:List (κ × V)} {vs:List (κ × Value)} (r:KV kvs vs) (k:κ):(kvs.any fun kv=>decide (kv.1 = k)) = vs.any fun kv=>decide (kv.1 = k):=by
 unfold KV at r
 induction r with
 | nil=>rfl
 | cons h t ih=>rw [List.any_cons,List.any_cons,ih,h.1]
theorem KV.repl {kvs:List (κ × V)} {vs:List (κ × Value)} (r:KV kvs vs) (k:κ) {y:V} {u:Value} (ry:RelV y u) :
  KV (kvs.map fun kv=>if kv.1 = k then (kv.1,y) else kv) (vs.map fun kv=>if kv.1 = k then (kv.1,u) else kv):=by
 unfold KV at r ⊢
 induction r with
 | nil=>exact .nil
 | @cons p q ps qs h t ih=>
  rw [List.map_cons,List.map_cons]
  refine .cons ?_ ih
  obtain ⟨h1,h2⟩:=h
  by_cases e:p.1 = k
  ·rw [if_pos e,if_pos (h1.symm.trans e)]; exact ⟨h1,ry⟩
  ·rw [if_neg e,if_neg (fun z=>e (h1.trans z))]; exact ⟨h1,h2⟩
theorem KV.put {kvs:List (κ × V)} {vs:List (κ × Value)} (r:KV kvs vs) (k:κ) {y:V} {u:Value} (ry:RelV y u):KV (putK kvs k y) (stored vs k u):=by
 unfold putK stored
 rw [r.any k]
 by_cases e:(vs.any fun kv=>decide (kv.1 = k)) = true
 ·rw [if_pos e,if_pos e]; exact r.repl k ry
 ·rw [if_neg e,if_neg e]; exact Paired.snoc r ⟨rfl,ry⟩
theorem KV.keys {kvs:List (κ × V)} {vs:List (κ × Value)} (r:KV kvs vs):kvs.map (·.1) = vs.map (·.1):=by
 unfold KV at r
 induction r with
 | nil=>rfl
 | cons h t ih=>rw [List.map_cons,List.map_cons,ih,h.1]
theorem KV.length {kvs:List (κ × V)} {vs:List (κ × Value)} (r:KV kvs vs):kvs.length = vs.length:=Paired.length r
end
theorem kV_is {P:Program} {w:World} {k:Key} {u:Value} (r:RelV (kV k) u):(mixKind P w).is k u = true:=by
 cases k with
 | inl i=>obtain ⟨t,e⟩:=(show ∃ t,u = Value.int i t from r); subst e; exact mixKind_int P w i t
 | inr x=>obtain ⟨t,e⟩:=(show ∃ t,u = Value.str x t from r); subst e; exact mixKind_str P w x t
theorem items_are {P:Program} {w:World}:∀ {ks:List Key} {us:List Value},Vals (ks.map kV) us -> ItemsAre (mixKind P w) ks us
 | [],_,r=>by rw [List.map_nil] at r; cases r; exact .nil
 | k :: ks,_,r=>by
  rw [List.map_cons] at r
  cases r with
  | cons h t=>exact .cons (kV_is h) (items_are t)
noncomputable abbrev KT (H:Hp):List (List Key × V) -> List (List Key × Addr × Value) -> Prop:=Paired fun p q=>p.1 = q.1 /\ H q.2.1 = some (.tup (p.1.map kV)) /\ RelV p.2 q.2.2
theorem KT.val {H:Hp} {kvs:List (List Key × V)} {xs:List (List Key × Addr × Value)} (r:KT H kvs xs) (k:List Key):RelO (valV kvs k) ((atKey xs k).map (·.2)):=by
 induction r with
 | nil=>exact True.intro
 | @cons p q ps qs h t ih=>
  obtain ⟨h1,_,h2⟩:=h
  by_cases e:p.1 = k
  ·have e':q.1 = k:=h1.symm.trans e
   have b:atKey (q :: qs) k = some q.2:=by simp [atKey,List.find?_cons,e']
   rw [valV_pos e,b]; exact h2
  ·have e':¬ q.1 = k:=fun z=>e (h1.trans z)
   have b:atKey (q :: qs) k = atKey qs k:=by simp [atKey,List.find?_cons,e']
   rw [valV_neg e,b]; exact ih
theorem KT.repl {H:Hp} {kvs:List (List Key × V)} {xs:List (List Key × Addr × Value)} (r:KT H kvs xs) (k:List Key) {y:V} {u:Value} (ry:RelV y u) :
  KT H (kvs.map fun kv=>if kv.1 = k then (kv.1,y) else kv) (xs.map (putAt k u)):=by
 induction r with
 | nil=>exact .nil
 | @cons p q ps qs h t ih=>
  rw [List.map_cons,List.map_cons]
  refine .cons ?_ ih
  obtain ⟨h1,h2,h3⟩:=h
  unfold putAt
  by_cases e:p.1 = k
  ·rw [if_pos e,if_pos (h1.symm.trans e)]; exact ⟨h1,h2,ry⟩
  ·rw [if_neg e,if_neg (fun z=>e (h1.trans z))]; exact ⟨h1,h2,h3⟩
theorem KT.put {H:Hp} {kvs:List (List Key × V)} {xs:List (List Key × Addr × Value)} (r:KT H kvs xs) (k:List Key) {b:Addr} {y:V} {u:Value} (hb:H b = some (.tup (k.map kV))) (ry:RelV y u) :
  KT H (putK kvs k y) (storedH xs k b u):=by
 have e:(kvs.any fun kv=>decide (kv.1 = k)) = (atKey xs k).isSome:=by
  rw [valV_any,(r.val k).isSome_eq,Option.isSome_map]
 unfold putK storedH
 rw [e]
 by_cases q:(atKey xs k).isSome = true
 ·rw [if_pos q,if_pos q]; exact r.repl k ry
 ·rw [if_neg q,if_neg q]; exact Paired.snoc r ⟨rfl,hb,ry⟩
theorem KT.keeps {H H':Hp} {kvs:List (List Key × V)} {xs:List (List Key × Addr × Value)} (r:KT H kvs xs) (ht:∀ b ys,H b = some (.tup ys) -> H' b = some (.tup ys)):KT H' kvs xs:=
 Paired.mapP r fun _ _ z=>⟨z.1,ht _ _ z.2.1,z.2.2⟩
section
variable {P:Program} {w:World} {H:Hp} {h:Heap} {a:Addr}
theorem rd_of {u:HO} (ok:HOk P w H h) (e:Rd H a u):ObjOk P w H h a u:=e.ok ok
noncomputable def RdD (H:Hp) (a:Addr) (kvs:List (Key × V)):Prop:=Rd H a (.dK kvs) \/ ∃ ep,H a = some (.dE kvs ep)
theorem RdD.of {H:Hp} {a:Addr} {kvs:List (Key × V)} (r:Dd H a kvs):RdD H a kvs:=r.elim (fun h=>.inl (.inl h)) .inr
theorem RdD.ok {P:Program} {w:World} {H:Hp} {h:Heap} {a:Addr} {kvs:List (Key × V)} (r:RdD H a kvs) (x:HOk P w H h):ObjOk P w H h a (.dK kvs):=r.elim (fun h=>h.ok x) fun h=>(show Dd H a kvs from .inr h).ok x
theorem dk_rd {kvs:List (Key × V)} (ok:HOk P w H h) (e:RdD H a kvs):kvs.length <= sizeLine /\ (a == sysModules) = false /\ ∃ vs,KV kvs vs /\ h.DictOf (mixKind P w) a vs:=
 show ObjOk P w H h a (.dK kvs) from e.ok ok
theorem dk_of {kvs:List (Key × V)} (ok:HOk P w H h) (e:H a = some (.dK kvs)):kvs.length <= sizeLine /\ (a == sysModules) = false /\ ∃ vs,KV kvs vs /\ h.DictOf (mixKind P w) a vs:=dk_rd ok (.inl (.inl e))
theorem key_of {ks:List Key} (ok:HOk P w H h) (e:H a = some (.tup (ks.map kV))):(tupleKind (mixKind P w)).is h ks a:=by
 obtain ⟨_,its,r,o,h1,h2,n,h3⟩:=(show ObjOk P w H h a (.tup (ks.map kV)) from ok a _ e)
 exact ⟨o,its.toArray,n,h1,h2,h3,by simpa using items_are r⟩
theorem dt_rd {kvs:List (List Key × V)} (ok:HOk P w H h) (e:Rd H a (.dT kvs)):kvs.length <= sizeLine /\ (a == sysModules) = false /\
  ∃ xs,KT H kvs xs /\ h.DictOfH (tupleKind (mixKind P w)) a xs:=by
 obtain ⟨z,y,xs,r,o,es,ep,h1,h2,h3,h4,h5⟩:=(show ObjOk P w H h a (.dT kvs) from rd_of ok e)
 refine ⟨z,y,xs,r,o,es,ep,h1,h2,h3,h4,fun x hx=>?_,h5⟩
 have all:∀ {l:List (List Key × V)} {m:List (List Key × Addr × Value)},KT H l m -> ∀ x ∈ m,(tupleKind (mixKind P w)).is h x.1 x.2.1:=by
  intro l m q
  induction q with
  | nil=>intro x hx; exact nomatch hx
  | @cons p q ps qs hq t ih=>
   intro x hx
   rcases List.mem_cons.mp hx with e | hx
   ·subst e
    exact key_of ok (by rw [<- hq.1]; exact hq.2.1)
   ·exact ih x hx
 exact all r x hx
theorem dt_of {kvs:List (List Key × V)} (ok:HOk P w H h) (e:H a = some (.dT kvs)):kvs.length <= sizeLine /\ (a == sysModules) = false /\
  ∃ xs,KT H kvs xs /\ h.DictOfH (tupleKind (mixKind P w)) a xs:=dt_rd ok (.inl e)
end
noncomputable def DGet (H:Hp) (a:Addr) (y:V) (r:Option V):Prop:=
 (∃ kvs k,RdD H a kvs /\ y = kV k /\ r = valV kvs k) \/ ∃ kvs k b,Rd H a (.dT kvs) /\ y = .ref b /\ H b = some (.tup (k.map kV)) /\ r = valV kvs k
noncomputable def DPut (H:Hp) (a:Addr) (y v:V) (H':Hp):Prop:=
 (∃ kvs k,Dd H a kvs /\ y = kV k /\ kvs.length < sizeLine /\ H' = upd H a (.dK (putK kvs k v))) \/
 ∃ kvs k b,H a = some (.dT kvs) /\ y = .ref b /\ H b = some (.tup (k.map kV)) /\ kvs.length < sizeLine /\ H' = upd H a (.dT (putK kvs k v))
theorem DGet.k {H:Hp} {a:Addr} {kvs:List (Key × V)} {k:Key} (e:Dd H a kvs):DGet H a (kV k) (valV kvs k):=.inl ⟨kvs,k,.of e,rfl,rfl⟩
theorem DGet.t {H:Hp} {a b:Addr} {kvs:List (List Key × V)} {k:List Key} (e:H a = some (.dT kvs)) (eb:H b = some (.tup (k.map kV))):DGet H a (.ref b) (valV kvs k):=.inr ⟨kvs,k,b,.inl e,rfl,eb,rfl⟩
theorem DPut.k {H:Hp} {a:Addr} {kvs:List (Key × V)} {k:Key} {v:V} (e:Dd H a kvs) (hl:kvs.length < sizeLine):DPut H a (kV k) v (upd H a (.dK (putK kvs k v))):=.inl ⟨kvs,k,e,rfl,hl,rfl⟩
theorem DPut.t {H:Hp} {a b:Addr} {kvs:List (List Key × V)} {k:List Key} {v:V} (e:H a = some (.dT kvs)) (eb:H b = some (.tup (k.map kV))) (hl:kvs.length < sizeLine) :
  DPut H a (.ref b) v (upd H a (.dT (putK kvs k v))):=.inr ⟨kvs,k,b,e,rfl,eb,hl,rfl⟩
section
variable {X:Cx} {pins:List (Addr × Obj)} {σ:St} {H:Hp} {s:Shared} {a:Addr} {y v:V} {u r:Value} {o:Option V} {A:Around} {E:Value -> Shared -> Prop}
theorem Inv.big (I:Inv X pins σ H s):sysModules < s.heap.objs.size:=by
 have h:mainGlobals < s.heap.objs.size:=(I.mod.glob.keeps I.bk).lt
 exact Nat.lt_trans (by decide) h
theorem d_getItem {Q:Value -> Shared -> Prop} (hu:A.units + 1 < cLine) (I:Inv X pins σ H s) (g:DGet H a y (some v)) (ry:RelV y u) (h:∀ w' s',Inv X pins σ H s' -> RelV v w' -> Q w' s') :
  wpAny (model X.prog X.w) A (getItem (.ref a) u) Q E s:=by
 rcases g with ⟨kvs,k,e,ey,l⟩ | ⟨kvs,k,b,e,ey,eb,l⟩
 ·subst ey
  obtain ⟨z,hd,vs,rel,dd⟩:=dk_rd I.hok e
  obtain ⟨w',hw,rw'⟩:=RelO.some_of (v:=v) (o:=valueAt vs k) (by rw [l]; exact rel.val k)
  exact wpAny_getItem_of (kV_is ry) dd.mapOf hw (h w' _ (I.tok _) rw')
 ·subst ey
  cases (show u = Value.ref b from ry)
  obtain ⟨z,hd,xs,rel,dd⟩:=dt_rd I.hok e
  obtain ⟨w',hw,rw'⟩:=RelO.some_of (v:=v) (o:=(atKey xs k).map (·.2)) (by rw [l]; exact rel.val k)
  obtain ⟨p,hp,hp2⟩:=Option.map_eq_some_iff.mp hw
  refine wpAny_getItem_heap (tupleKind_room_in1 hu) (key_of I.hok eb) dd hp ?_
  rw [hp2]
  exact h w' _ (I.tok _) rw'
theorem d_in {Q:Value -> Shared -> Prop} (hu:A.units + 1 < cLine) (I:Inv X pins σ H s) (g:DGet H a y o) (ry:RelV y u) (h:∀ s',Inv X pins σ H s' -> Q (.bool o.isSome) s') :
  wpAny (model X.prog X.w) A (compareOp .In u (.ref a)) Q E s:=by
 rcases g with ⟨kvs,k,e,ey,l⟩ | ⟨kvs,k,b,e,ey,eb,l⟩
 ·subst ey
  obtain ⟨z,hd,vs,rel,dd⟩:=dk_rd I.hok e
  refine wpAny_in_of (kV_is ry) hd dd.mapOf ?_
  rw [<- (rel.val k).isSome_eq,<- l]
  exact h _ (I.tok _)
 ·subst ey
  cases (show u = Value.ref b from ry)
  obtain ⟨z,hd,xs,rel,dd⟩:=dt_rd I.hok e
  refine wpAny_in_heap (tupleKind_room_in1 hu) (key_of I.hok eb) hd dd ?_
  have q:=(rel.val k).isSome_eq
  rw [Option.isSome_map] at q
  rw [<- q,<- l]
  exact h _ (I.tok _)
theorem d_write {h':Heap} {t':Nat} {ob:HO} (I:Inv X pins σ H s) (mu:Mut (H a)) (hs:Heap.SameBut a s.heap h') (he:∃ q,h'.get? a = some q) (new:ObjOk X.prog X.w (upd H a ob) h' a ob) :
  Inv X pins σ (upd H a ob) { s with heap:=h',toks:=t' }:=
 I.write (x:=a) (e:=a) mu (.inl rfl) (fun b q hb z=>(hs.2 b hb).trans z) he new
theorem dk_new {P:Program} {w:World} {H':Hp} {h':Heap} {kvs:List (Key × V)} {vs:List (Key × Value)} (z:kvs.length <= sizeLine) (hd:(a == sysModules) = false) (rel:KV kvs vs) (dd:h'.DictOf (mixKind P w) a vs) :
  ObjOk P w H' h' a (.dK kvs):=⟨z,hd,vs,rel,dd⟩
theorem Inv.learn {kvs:List (Key × V)} (I:Inv X pins σ H s) (e:H a = some (.dK kvs)):∃ ep,Inv X pins σ (upd H a (.dE kvs ep)) s:=by
 obtain ⟨z,hd,vs,rel,dd⟩:=dk_of I.hok e
 obtain ⟨ep,da⟩:=dd.dictAt
 exact ⟨ep,I.write (x:=a) (e:=a) (h':=s.heap) (t':=s.toks) (o:=.dE kvs ep) (by rw [e]; exact True.intro) (.inl rfl) (fun b q hb z=>z) (let ⟨q,_,_,hq,_⟩:=dd; ⟨q,hq⟩) ⟨z,hd,vs,rel,da⟩⟩
theorem d_setItem {H':Hp} {Q:Unit -> Shared -> Prop} (hu:A.units + 1 < cLine) (I:Inv X pins σ H s) (g:DPut H a y v H') (ry:RelV y u) (rv:RelV v r) (h:∀ s',Inv X pins σ H' s' -> Q () s') :
  wpAny (model X.prog X.w) A (setItem (.ref a) u r) Q E s:=by
 rcases g with ⟨kvs,k,e,ey,l,eH⟩ | ⟨kvs,k,b,e,ey,eb,l,eH⟩
 ·subst ey eH
  obtain ⟨z,hd,vs,rel,dd⟩:=dk_rd I.hok (.of e)
  have hz:vs.length <= sizeLine:=by rw [<- rel.length]; exact z
  have hl:(putK kvs k v).length <= sizeLine:=by have:=length_putK kvs k v; omega
  refine wpAny_setItem_pairs (hsz:=hz) (kV_is ry) dd fun h' dd' hs=>h _ ?_
  have he:∃ q,h'.get? a = some q:=let ⟨q,_,_,hq,_⟩:=dd'; ⟨q,hq⟩
  exact d_write I e.mut hs he (dk_new hl hd (rel.put k rv) dd')
 ·subst ey eH
  cases (show u = Value.ref b from ry)
  obtain ⟨z,hd,xs,rel,dd⟩:=dt_of I.hok e
  have hz:xs.length <= sizeLine:=by rw [<- Paired.length rel]; exact z
  have hl:(putK kvs k v).length <= sizeLine:=by have:=length_putK kvs k v; omega
  refine wpAny_setItem_heap (hsz:=hz) (tupleKind_room_in1 hu) (key_of I.hok eb) dd fun h' dd' hs=>h _ ?_
  obtain ⟨q,es,ep,hq,h2,h3,h4,_,h5⟩:=dd'
  refine d_write I (by rw [e]; exact True.intro) hs ⟨q,hq⟩ ⟨hl,hd,_,(rel.put k eb rv).keeps fun c ys ec=>?_,q,es,ep,hq,h2,h3,h4,h5⟩
  rw [upd_ne (ne_of ec e (fun z=>nomatch z))]
  exact ec
end
section
variable {X:Cx} {pins:List (Addr × Obj)} {σ:St} {H:Hp} {s:Shared} {a:Addr} {kvs:List (Key × V)} {k:Key} {u:Value} {A:Around} {E:Value -> Shared -> Prop}
end
theorem dict_typeIs {X:Cx} {pins:List (Addr × Obj)} {σ:St} {H:Hp} {s:Shared} {a:Addr} {y:V} {o:Option V} (I:Inv X pins σ H s) (g:DGet H a y o):s.TypeIs (.ref a) "dict" := by
 rcases g with ⟨kvs,k,e,_,_⟩ | ⟨kvs,k,b,e,_,_,_⟩
 ·obtain ⟨_,_,vs,_,dd⟩:=dk_rd I.hok e
  exact dd.typeIs
 ·obtain ⟨_,_,xs,_,dd⟩:=dt_rd I.hok e
  exact dd.typeIs
noncomputable def sDPut (td ty tv:TE):TS:=fun D σ H=>tv σ H fun v H1=>td σ H1 fun x H2=>ty σ H2 fun y H3=>∃ a H4,x = .ref a /\ DPut H3 a y v H4 /\ D.nx σ H4
noncomputable def sDAug (td ty tv:TE) (rd:V -> V -> Hp -> VK -> Prop):TS:=fun D σ H=>td σ H fun x H1=>ty σ H1 fun y H2=>∃ a v,x = .ref a /\ DGet H2 a y (some v) /\
 tv σ H2 fun y2 H3=>rd v y2 H3 fun z H4=>∃ H5,DPut H4 a y z H5 /\ D.nx σ H5
section
variable {X:Cx} {o i e value:Expr} {pos pos' tpos:Pos} {td ty tv:TE}
theorem ps_dput (hu:X.A.units + 1 < cLine) (ho:PE X o td) (hi:PE X i ty) (hv:PE X value tv) (hs:swapsWith value (some (.Subscript o i pos')) pos.line X.env = pure false) :
  PS X (.Assign [.Subscript o i pos'] value pos) (sDPut td ty tv):=by
 refine .of ?_
 intro pins s σ H D I h
 refine wpAny_Assign_Subscript (thn (hv pins s σ H _ I h) fun r s1 ⟨v,H1,I1,rv,q1⟩=>thn (ho pins s1 σ H1 _ I1 q1) fun u s2 ⟨x,H2,I2,rx,q2⟩=>thn (hi pins s2 σ H2 _ I2 q2) fun iv s3 ⟨y,H3,I3,ry,a,H4,ex,g,q3⟩=>?_) hs
 subst ex
 obtain rfl:u = Value.ref a:=rx
 exact d_setItem hu I3 g ry rv fun s4 I4=>⟨σ,H4,I4,q3⟩
theorem ps_daug {op:Operator} {rd:V -> V -> Hp -> VK -> Prop} (hu:X.A.units + 1 < cLine) (ho:PE X o td) (hi:PE X i ty) (hv:PE X value tv) (hop:InOp X op rd)
  (ha:∀ ov iv new,augStore i ov iv new = (do holding [new,ov,iv] (setItem ov iv new); release [new,ov,iv] []; pure .next)):PS X (.AugAssign (.Subscript o i tpos) op value pos) (sDAug td ty tv rd):=by
 refine .of ?_
 intro pins s σ H D I h
 refine wpAny_AugAssign_SubscriptAny (thn (ho pins s σ H _ I h) fun u s1 ⟨x,H1,I1,rx,q1⟩=>thn (hi pins s1 σ H1 _ I1 q1) fun iv s2 ⟨y,H2,I2,ry,a,v,ex,g,q2⟩=>?_) ha
 subst ex
 obtain rfl:u = Value.ref a:=rx
 refine d_getItem hu I2 g ry fun w' s3 I3 rw'=>thn (hv pins s3 σ H2 _ I3 q2) fun w2 s4 ⟨y2,H3,I4,ry2,q3⟩=>thn (hop pins s4 σ H3 v y2 w' w2 _ I4 rw' ry2 q3) fun w3 s5 ⟨z,H4,I5,rz,H5,g5,q4⟩=>?_
 exact d_setItem hu I5 g5 ry rz fun s6 I6=>⟨σ,H5,I6,q4⟩
end
theorem dk_empty {P:Program} {w:World} {H:Hp} (h:Heap) (hb:sysModules < h.objs.size):ObjOk P w H (h.push { cls:=.type "dict",data:=.dict #[] }) h.objs.size (.dK []):=
 ⟨Nat.zero_le _,beq_eq_false_iff_ne.mpr (Ne.symm (Nat.ne_of_lt hb)),[],.nil,Heap.DictOf.new h⟩
noncomputable def tDNewK:TE:=fun _ H Q=>∀ p,H p = none -> Q (.ref p) (upd H p (.dK []))
section
variable {X:Cx} {pos:Pos}
theorem pe_dnewK:PE X (.Dict [] [] pos) tDNewK:=.of <|  fun pins s σ H Q I h=>
 wpAny_Dict_empty ⟨.ref s.heap.objs.size,_,I.laid (a:=s.heap.objs.size) (o:=.dK []) (t':=s.toks) (fun _ _ q=>Heap.get?_push_of_some _ q) (Nat.le_refl _) (dk_empty s.heap I.big),rfl,h _ (I.hok.fresh (Nat.le_refl _))⟩
end
noncomputable def mergeK (kvs more:List (Key × V)):List (Key × V):=more.foldl (fun acc kv=>putK acc kv.1 kv.2) kvs
theorem length_mergeK:∀ (more kvs:List (Key × V)),(mergeK kvs more).length <= kvs.length + more.length
 | [],kvs=>by show kvs.length <= kvs.length + 0; omega
 | p :: r,kvs=>by
  have h1:=length_mergeK r (putK kvs p.1 p.2)
  have h2:=length_putK kvs p.1 p.2
  show (mergeK (putK kvs p.1 p.2) r).length <= _
  rw [List.length_cons]; omega
structure M2 (X:Cx) (o:Expr) (m:Str) (apos:Pos) (e f:Expr) (cpos:Pos):Prop where
 base:attributeBase o m X.env (eval o X.env) = eval o X.env
 few:((backTo cpos (starEach [e,f] X.env)).all (fun x=>!x.1) && (backToKw cpos (keywordEach [] X.env)).all (fun x=>x.1.isSome)
  && decide (([e,f]:List Expr).length + ([]:List Keyword).length + (if ([]:List Keyword).isEmpty then 0 else 1) < 30)) = true
 line:(apos.endLine == cpos.line) = true
 trees:backTo cpos (starEach [e,f] X.env) = [(false,eval e X.env),(false,eval f X.env)]
noncomputable def IsD (H:Hp) (a:Addr):Prop:=(∃ kvs,RdD H a kvs) \/ ∃ kvs,Rd H a (.dT kvs)
theorem isD_at {X:Cx} {pins:List (Addr × Obj)} {σ:St} {H:Hp} {s:Shared} {a:Addr} (I:Inv X pins σ H s) (d:IsD H a) :
  s.TypeIs (.ref a) "dict" /\ (∀ b,Value.ref a = .ref b -> ∃ ob,s.heap.get? b = some ob /\ ob.dict = none) /\ (a == sysModules) = false:=by
 rcases d with ⟨kvs,e⟩ | ⟨kvs,e⟩
 ·obtain ⟨_,hd,vs,_,dd⟩:=dk_rd I.hok e
  refine ⟨dd.typeIs,fun b q=>?_,hd⟩
  cases q
  obtain ⟨ob,_,_,h1,h2,_⟩:=dd
  exact ⟨ob,h1,h2.2.1⟩
 ·obtain ⟨_,hd,xs,_,dd⟩:=dt_rd I.hok e
  refine ⟨dd.typeIs,fun b q=>?_,hd⟩
  cases q
  obtain ⟨ob,_,_,h1,h2,_⟩:=dd
  exact ⟨ob,h1,h2.2.1⟩
section
variable {X:Cx} {pins:List (Addr × Obj)} {σ:St} {H:Hp} {s:Shared} {a:Addr} {y d:V} {u r:Value} {o:Option V} {A:Around} {E:Value -> Shared -> Prop}
theorem d_get2 {Q:Value -> Shared -> Prop} (hu:A.units + 1 < cLine) (I:Inv X pins σ H s) (g:DGet H a y o) (ry:RelV y u) (rd:RelV d r) (h:∀ w' s',Inv X pins σ H s' -> RelV (o.getD d) w' -> Q w' s') :
  wpAny (model X.prog X.w) A (call (.builtin "dict.get") [.ref a,u,r]) Q E s:=by
 rcases g with ⟨kvs,k,e,ey,l⟩ | ⟨kvs,k,b,e,ey,eb,l⟩
 ·subst ey
  obtain ⟨z,hd,vs,rel,dd⟩:=dk_rd I.hok e
  refine call_meetsIn PySem.F.slot_dict_get dd.typeIs PySem.F.entry_dict_get (PySem.F.args_dict_get_3 _ _ _) (meets_dict_get_default (mixKind X.prog X.w) a (kV_is ry) hd r) ⟨_,dd.mapOf,h _ _ (I.tok _) ?_⟩
  rw [l]
  exact (rel.val k).getD rd
 ·subst ey
  cases (show u = Value.ref b from ry)
  obtain ⟨z,hd,xs,rel,dd⟩:=dt_rd I.hok e
  refine call_meetsIn PySem.F.slot_dict_get dd.typeIs PySem.F.entry_dict_get (PySem.F.args_dict_get_3 _ _ _) (meetsH_dict_get_default (tupleKind (mixKind X.prog X.w)) a b hd r) ⟨tupleKind_room_in1 hu,k,xs,key_of I.hok eb,dd,h _ _ (I.tok _) ?_⟩
  rw [l]
  exact (rel.val k).getD rd
end
section
variable {X:Cx} {o e f:Expr} {apos cpos:Pos} {td ty tx:TE}
end
section
variable {X:Cx} {pins:List (Addr × Obj)} {σ:St} {H:Hp} {s:Shared} {a:Addr} {kvs:List (Key × V)} {A:Around} {E:Value -> Shared -> Prop}
end
section
variable {X:Cx} {pins:List (Addr × Obj)} {σ:St} {H:Hp} {s:Shared} {a:Addr} {y:V} {u:Value} {A:Around} {E:Value -> Shared -> Prop}
end
end L2
namespace L2
open PySem PySem.Spec PyProof.Rows
section
variable {X:Cx}
end
section
variable {κ:Type} [DecidableEq κ]
end
end L2
namespace L2
open PySem PySem.Spec PyProof.Rows
theorem pyHash_none {prog:Program} {w:World} {A:Around} {E:Value -> Shared -> Prop} {s:Shared} {Q:Int -> Shared -> Prop} (h:Q 0xFCA86420 { s with toks:=s.toks + 1 }):wpAny (model prog w) A (pyHash .none) Q E s:=by
 have hT:s.TypeIs .none "NoneType" := rfl
 unfold pyHash
 have hv:[Value.none].any Value.onHeap = false:=rfl
 refine wpAny_bind ?_
 rw [cRoomFor,if_neg (by rw [hv]; exact Bool.false_ne_true)]; refine wpAny_pure ?_
 refine wpAny_bind (wpAny_specialOf hT F.slot_NoneType_hash.lookup ?_)
 show wpAny _ _ (if (some (Value.builtin "NoneType.__hash__") == some Value.none) = true then _ else _) Q E s
 rw [if_neg (by rw [beq_builtin_none]; exact Bool.false_ne_true)]
 refine wpAny_bind (wpAny_specialOf hT F.slot_NoneType_hash.lookup ?_)
 show wpAny _ _ (callSpecialIfBoundUnlessNone? .none "__hash__" _ >>= _) Q E s
 refine wpAny_bind (wpAny_callSpecialIfBoundUnlessNone?_slot hT F.slot_NoneType_hash
  (wpAny_call_entry F.slot_NoneType_hash hT F.entry_NoneType_hash
   (show wpAny _ _ (do ret (<- mkInt 0xFCA86420)) _ _ s from wpAny_ret_mkInt ?_) (F.args_NoneType_hash_1 _)))
 show wpAny _ _ (if (decide (-(2:Int) ^ 63 <= 0xFCA86420) && decide ((0xFCA86420:Int) < 2 ^ 63)) = true then _ else _) Q E _
 rw [if_pos (by decide)]
 exact wpAny_pure h
noncomputable abbrev KeyN:=Option Key
noncomputable def keyIsN:KeyN -> Value -> Bool
 | some k,v=>keyIs k v
 | none,v=>v == .none
noncomputable def keyHN (w:World):KeyN -> Int
 | some k=>keyH w k
 | none=>0xFCA86420
theorem keyIsN_none {v:Value} (h:keyIsN none v = true):v = .none:=eq_of_beq h
noncomputable def mixKindN (prog:Program) (w:World):PySem.KeyKind prog w KeyN where
 is:=keyIsN
 hash:=keyHN w
 inj:=fun v a b ha hb=>by
  cases a with
  | none=>
   cases b with
   | none=>rfl
   | some k=>
    have e:=keyIsN_none ha
    subst e
    rcases keyIs_shape hb with ⟨i,t,rfl,e⟩ | ⟨x,t,rfl,e⟩ <;> cases e
  | some k=>
   cases b with
   | none=>
    have e:=keyIsN_none hb
    subst e
    rcases keyIs_shape ha with ⟨i,t,rfl,e⟩ | ⟨x,t,rfl,e⟩ <;> cases e
   | some k'=>rw [(mixKind prog w).inj v k k' ha hb]
 byValue:=fun k v h=>by
  cases k with
  | none=>rw [keyIsN_none h]; rfl
  | some k=>exact (mixKind prog w).byValue k v h
 pyHash:=fun {A E s k v Q} hv h=>by
  cases k with
  | none=>rw [keyIsN_none hv]; exact pyHash_none h
  | some k=>exact (mixKind prog w).pyHash hv h
 eqBool:=fun {A E s a b u v Q} hu hv h=>by
  cases a with
  | none=>
   have e:=keyIsN_none hu
   subst e
   cases b with
   | none=>
    have e:=keyIsN_none hv
    subst e
    exact SeqAt.EqAt.same _ _ _ _ _ (by simpa using h)
   | some k=>
    have h':Q false s:=by simpa using h
    rcases keyIs_shape hv with ⟨i,t,rfl,rfl⟩ | ⟨x,t,rfl,rfl⟩
    ·exact SeqAt.EqAt.none_int i t _ _ _ _ h'
    ·exact SeqAt.EqAt.none_str x t _ _ _ _ h'
  | some k=>
   cases b with
   | none=>
    have e:=keyIsN_none hv
    subst e
    have h':Q false s:=by simpa using h
    rcases keyIs_shape hu with ⟨i,t,rfl,rfl⟩ | ⟨x,t,rfl,rfl⟩
    ·exact SeqAt.EqAt.int_none i t _ _ _ _ h'
    ·exact SeqAt.EqAt.str_none x t _ _ _ _ h'
   | some k'=>
    refine (mixKind prog w).eqBool hu hv ?_
    have e:decide ((some k:KeyN) = some k') = decide (k = k'):=by
     by_cases e:k = k'
     ·subst e; simp
     ·rw [decide_eq_false e,decide_eq_false fun q=>e (Option.some.inj q)]
    rwa [e] at h
 «strs»:=fun k x t v h=>by
  cases k with
  | none=>cases keyIsN_none h
  | some k=>exact (mixKind prog w).strs k x t v h
theorem mapOfN {P:Program} {w:World} {h:Heap} {a:Addr} {f:Key -> Option Value} (m:h.MapOf (mixKind P w) a f):h.MapOf (mixKindN P w) a (fun k=>k.bind f):=by
 obtain ⟨o,es,ep,h1,h2,h3,h4,h5⟩:=m
 refine ⟨o,es,ep,h1,h2,h3,fun e he=>?_,fun k=>?_⟩
 ·obtain ⟨k,e1,e2⟩:=h4 e he
  exact ⟨some k,e1,e2⟩
 ·cases k with
  | some k=>exact h5 k
  | none=>
   show findBy keyIsN es none = none
   have no:∀ e ∈ es,keyIsN none e.key = false:=fun e he=>by
    cases q:keyIsN none e.key with
    | false=>rfl
    | true=>
     obtain ⟨k,e1,_⟩:=h4 e he
     rw [keyIsN_none q] at e1
     rcases keyIs_shape (show keyIs k Value.none = true from e1) with ⟨i,t,_,e⟩ | ⟨x,t,_,e⟩ <;> cases e
   unfold findBy
   simp
   exact no
noncomputable def DGetN (H:Hp) (a:Addr) (y:V) (r:Option V):Prop:=DGet H a y r \/ (y = .non /\ (∃ kvs,Dd H a kvs) /\ r = none)
noncomputable def tDGet2N (td ty tx:TE):TE:=fun σ H Q=>td σ H fun x H1=>∃ a,x = .ref a /\ IsD H1 a /\ ty σ H1 fun y H2=>tx σ H2 fun z H3=>∃ o,DGetN H3 a y o /\ Q (o.getD z) H3
theorem pe_dget2N {X:Cx} {o e f:Expr} {apos cpos:Pos} {td ty tx:TE} (hu:X.A.units + 1 < cLine) (ho:PE X o td) (he:PE X e ty) (hf:PE X f tx) (m:M2 X o "get" apos e f cpos):PE X (.Call (.Attribute o "get" apos) [e,f] [] cpos) (tDGet2N td ty tx):=by
 refine .of ?_
 intro pins s σ H Q I h
 refine wpAny_Call_method m.base m.few m.line PySem.F.plainAttrs_dict PySem.F.slot_dict_get PySem.F.type_dict_get (thn (ho pins s σ H _ I h) fun u s1 ⟨x,H1,I1,rx,a,ex,d,q1⟩=>?_)
 subst ex
 obtain rfl:u = Value.ref a:=rx
 obtain ⟨t1,t2,_⟩:=isD_at I1 d
 refine ⟨t1,t2,?_⟩
 rw [m.trees]
 refine Calls.callWith_builtin rfl (Calls.evalArgs_plain (Calls.spliced_cons (thn (he pins s1 σ H1 _ I1 q1) fun iv s2 ⟨y,H2,I2,ry,q2⟩=>
  Calls.spliced_cons (thn (hf pins s2 σ H2 _ I2 q2) fun fv s3 ⟨z,H3,I3,rz,ov,g,q3⟩=>Calls.spliced_nil ?_))))
 rcases g with g | ⟨rfl,⟨kvs,hk⟩,rfl⟩
 ·exact d_get2 hu I3 g ry rz fun w' s4 I4 rw'=>⟨_,H3,I4,rw',q3⟩
 ·cases ry
  obtain ⟨zz,hd,vs,rel,dd⟩:=dk_rd I3.hok (.of hk)
  refine call_meetsIn PySem.F.slot_dict_get dd.typeIs PySem.F.entry_dict_get (PySem.F.args_dict_get_3 _ _ _) (meets_dict_get_default (mixKindN X.prog X.w) (k:=none) a (by rfl) hd fv) ⟨_,mapOfN dd.mapOf,⟨_,H3,I3.tok _,rz,q3⟩⟩
end L2
namespace L2
open PySem PySem.Spec PyProof.Rows
noncomputable def lrn (Q:VK):VK:=fun v H'=>∃ p kvs,v = .ref p /\ H' p = some (.dK kvs) /\ ∀ ep,Q v (upd H' p (.dE kvs ep))
noncomputable def Ends.lrn (D:Ends):Ends:={ D with nx:=fun σ' H'=>∃ p kvs,H' p = some (.dK kvs) /\ ∀ ep,D.nx σ' (upd H' p (.dE kvs ep)) }
section
variable {X:Cx}
theorem pe_lrn {e:Expr} {t:TE} (h:PE X e t):PE X e (fun σ H Q=>t σ H (lrn Q)):=by
 refine .of ?_
 intro pins s σ H Q I q
 exact thn (h pins s σ H _ I q) fun v s1 ⟨x,H1,I1,r1,p,kvs,e1,e2,q1⟩=>let ⟨ep,I2⟩:=I1.learn e2; ⟨x,_,I2,r1,q1 ep⟩
theorem call_lrn {f:Value} {r:List V -> Hp -> VK -> Prop} (h:CallR X f r):CallR X f (fun xs H Q=>r xs H (lrn Q)):=by
 intro pins s σ H xs us Q I rv q
 exact thn (h pins s σ H xs us _ I rv q) fun v s1 ⟨x,H1,I1,r1,p,kvs,e1,e2,q1⟩=>let ⟨ep,I2⟩:=I1.learn e2; ⟨x,_,I2,r1,q1 ep⟩
theorem ps_lrn {st:Stmt} {t:TS} (h:PS X st t):PS X st (fun D σ H=>t D.lrn σ H):=by
 refine .of ?_
 intro pins s σ H D I q
 refine thn (h pins s σ H _ I q) fun f s1 h1=>?_
 cases f with
 | next=>
  obtain ⟨σ',H',I',p,kvs,e,q'⟩:=h1
  obtain ⟨ep,I2⟩:=I'.learn e
  exact ⟨_,_,I2,q' ep⟩
 | brk=>exact h1
 | cont=>exact h1
 | ret v=>exact h1
end
noncomputable def Itk (a:Addr) (n ep:Nat):It:=
 ⟨fun i H=>∃ kvs kv,H a = some (.dE kvs ep) /\ kvs.length = n /\ kvs[i]? = some kv,fun i H x H'=>H' = H /\ ∀ kvs,H a = some (.dE kvs ep) -> (kvs[i]?).map (fun kv=>kV kv.1) = some x,fun i H=>∃ kvs,H a = some (.dE kvs ep) /\ kvs.length = n /\ n <= i⟩
theorem kV_of {P:Program} {w:World} {k:Key} {u:Value} (h:(mixKind P w).is k u = true):RelV (kV k) u:=by
 rcases keyIs_shape (show keyIs k u = true from h) with ⟨i,t,rfl,rfl⟩ | ⟨x,t,rfl,rfl⟩
 ·exact ⟨t,rfl⟩
 ·exact ⟨t,rfl⟩
theorem turn_keys {P:Program} {w:World} {K:PySem.W.Frag} {tg:Expr} (a it:Addr) (n ep:Nat) (ne:a ≠ it):Turn P w K tg (Itk a n ep) [it] it (fun i h=>h.IsKeyIter it a i n ep) where
 mem:=List.mem_singleton.mpr rfl
 obj:=fun i h st b hb=>by
  cases List.mem_singleton.mp hb
  obtain ⟨o,e,c,d⟩:=st
  exact ⟨o,e,fun v z=>by rw [d] at z; cases z⟩
 keep:=fun i h h' st k=>st.at fun o e=>k it (List.mem_singleton.mpr rfl) o e
 item:=by
  intro X hP hw hK hc i pins s σ H E I hf st hg
  subst hP hw hK
  obtain ⟨kvs,kv,hq,hn,hx⟩:=hg
  obtain ⟨z,hd,vs,rel,dd⟩:=(show ObjOk X.prog X.w H s.heap a (.dE kvs ep) from I.hok a _ hq)
  obtain ⟨f0,f1,f2,f3,f4,f5⟩:=hf it (List.mem_singleton.mpr rfl)
  have hl:vs.length = n:=by rw [<- rel.length]; exact hn
  subst hl
  have hi:i < vs.length:=by rw [<- rel.length]; exact (List.getElem?_eq_some_iff.mp hx).1
  have hv:vs[i]? = some vs[i]:=List.getElem?_eq_getElem hi
  have hkey:(vs[i]).1 = kv.1:=by
   have e:=congrArg (fun l=>l[i]?) rel.keys
   simp only [List.getElem?_map,hx,hv,Option.map_some] at e
   exact (Option.some.inj e).symm
  refine wpAny_pyNext_dict_item st dd (k:=(vs[i]).1) (v:=(vs[i]).2) hv fun key h' hk st' sb=>?_
  have I1:Inv X pins σ H { s with heap:=h' }:=I.turned (t':=s.toks) (fun b o hb e=>(sb.2 b hb).trans e) f0 f1 f3 f4 f5
  rw [hkey] at hk
  exact ⟨key,rfl,letGo_keyiter st' ⟨kV kv.1,H,I1,kV_of hk,⟨rfl,fun kvs' e'=>by rw [hq] at e'; cases e'; rw [hx]; rfl⟩,st',fun b hb=>(hf b hb).1⟩⟩
 done:=by
  intro X hP hw hK hc i pins s σ H E I hf st hg
  subst hP hw hK
  obtain ⟨kvs,hq,hn,hx⟩:=hg
  obtain ⟨z,hd,vs,rel,dd⟩:=(show ObjOk X.prog X.w H s.heap a (.dE kvs ep) from I.hok a _ hq)
  obtain ⟨f0,f1,f2,f3,f4,f5⟩:=hf it (List.mem_singleton.mpr rfl)
  have hl:vs.length = n:=by rw [<- rel.length]; exact hn
  subst hl
  refine wpAny_pyNext_dict_end (I.ok.hd hc) st dd (List.getElem?_eq_none hx) fun h' ex=>⟨rfl,I.turned (t':=s.toks) (fun b o hb e=>ex b o hb e) f0 f1 f3 f4 f5⟩
 self:=fun A i s Q E st h=>wpAny_pyIter_keyiter st h
noncomputable def iKeys (te:TE):TI:=fun σ H R=>te σ H fun x H1=>∃ a kvs ep,x = .ref a /\ H1 a = some (.dE kvs ep) /\ R (Itk a kvs.length ep) H1
theorem pi_keys {X:Cx} {tg e:Expr} {te:TE} (he:PE X e te):PI X tg e (iKeys te):=by
 refine .of ?_
 intro pins s σ H R I h
 refine thn (he pins s σ H _ I h) fun v s1 ⟨x,H1,I1,r1,q1⟩=>?_
 obtain ⟨a,kvs,ep,e,hq,q⟩:=q1
 subst e
 cases r1
 obtain ⟨z,hd,vs,rel,dd⟩:=(show ObjOk X.prog X.w H1 s1.heap a (.dE kvs ep) from I1.hok a _ hq)
 refine wpAny_pyIter_dict hd dd ?_
 rw [<- rel.length]
 refine ⟨s1.heap.objs.size,[s1.heap.objs.size],_,_,H1,rfl,I1.kept (t':=s1.toks) fun b o e=>Heap.get?_push_of_some _ e,turn_keys a _ kvs.length ep (Nat.ne_of_lt dd.lt_size),⟨_,Heap.get?_push_size _ rfl,rfl,rfl⟩,fun b hb=>?_,q⟩
 cases List.mem_singleton.mp hb
 exact I1.fpOk (Nat.le_refl _) (I1.hok.fresh (Nat.le_refl _))
end L2
namespace L3
open PySem PySem.Spec L2
noncomputable def keyD:D -> Option Key
 | .int i=>some (.inl i)
 | .str x=>some (.inr x)
 | _=>none
noncomputable def valD (kvs:List (Key × D)) (k:Key):Option D:=(kvs.find? fun kv=>decide (kv.1 = k)).map (·.2)
noncomputable def putD (kvs:List (Key × D)) (k:Key) (v:D):List (Key × D):=
 if (kvs.any fun kv=>decide (kv.1 = k)) = true then kvs.map (fun kv=>if kv.1 = k then (kv.1,v) else kv) else kvs ++ [(k,v)]
section
variable {K:PySem.W.Frag} {H:Hp}
theorem RepK.val:∀ {kvs:List (Key × V)} {kds:List (Key × D)} {A:List Addr} (k:Key),RepK K H kvs kds A -> (∀ d,valD kds k = some d -> ∃ v B,valV kvs k = some v /\ Rep K H v d B /\ B.Sublist A) /\ (valD kds k = none -> valV kvs k = none)
 | _,_,_,k,.nil=>⟨fun d e=>by simp [valD] at e,fun _=>rfl⟩
 | _,_,_,k,.cons (k:=k0) (A:=A) (B:=B) h r=>by
  obtain ⟨ih1,ih2⟩:=r.val k
  by_cases e:k0 = k
  ·subst e
   refine ⟨fun d e=>?_,fun e=>?_⟩
   ·simp [valD,List.find?_cons] at e
    subst e
    exact ⟨_,_,valV_pos rfl,h,List.sublist_append_left _ _⟩
   ·simp [valD,List.find?_cons] at e
  ·have e1:∀ (x:D) (ds:List (Key × D)),valD ((k0,x) :: ds) k = valD ds k:=fun x ds=>by simp [valD,List.find?_cons,e]
   refine ⟨fun d e2=>?_,fun e2=>?_⟩
   ·rw [e1] at e2
    obtain ⟨v,B,a1,a2,a3⟩:=ih1 d e2
    exact ⟨v,B,by rw [valV_neg (p:=(k0,_)) e]; exact a1,a2,a3.trans (List.sublist_append_right _ _)⟩
   ·rw [e1] at e2
    rw [valV_neg (p:=(k0,_)) e]; exact ih2 e2
theorem RepK.any:∀ {kvs:List (Key × V)} {kds:List (Key × D)} {A:List Addr} (k:Key),RepK K H kvs kds A -> (kvs.any fun kv=>decide (kv.1 = k)) = kds.any fun kv=>decide (kv.1 = k)
 | _,_,_,k,.nil=>rfl
 | _,_,_,k,.cons h r=>by rw [List.any_cons,List.any_cons,r.any k]
theorem RepK.length:∀ {kvs:List (Key × V)} {kds:List (Key × D)} {A:List Addr},RepK K H kvs kds A -> kvs.length = kds.length
 | _,_,_,.nil=>rfl
 | _,_,_,.cons h r=>by simp [r.length]
theorem RepK.immA:∀ {kvs:List (Key × V)} {kds:List (Key × D)} {A:List Addr},RepK K H kvs kds A -> (kds.all fun kv=>imm kv.2) = true -> A = []
 | _,_,_,.nil,_=>rfl
 | _,_,_,.cons h r,e=>by
  rw [List.all_cons,Bool.and_eq_true] at e
  rw [h.immA e.1,r.immA e.2]; rfl
theorem RepK.repl {v:V} {d:D} (k:Key) (rv:Rep K H v d []):∀ {kvs:List (Key × V)} {kds:List (Key × D)} {A:List Addr},RepK K H kvs kds A -> ∃ C,RepK K H (kvs.map fun kv=>if kv.1 = k then (kv.1,v) else kv) (kds.map fun kv=>if kv.1 = k then (kv.1,d) else kv) C /\ C.Sublist A
 | _,_,_,.nil=>⟨[],.nil,List.Sublist.refl _⟩
 | _,_,_,.cons (k:=k0) (A:=A) (B:=B) h r=>by
  obtain ⟨C,r2,s2⟩:=RepK.repl k rv r
  rw [List.map_cons,List.map_cons]
  by_cases e:k0 = k
  ·rw [if_pos e,if_pos e]
   exact ⟨[] ++ C,.cons rv r2,s2.trans (List.sublist_append_right _ _)⟩
  ·rw [if_neg e,if_neg e]
   exact ⟨A ++ C,.cons h r2,s2.append_left A⟩
theorem RepK.snoc:∀ {kvs:List (Key × V)} {kds:List (Key × D)} {A B:List Addr} {k:Key} {v:V} {d:D},RepK K H kvs kds A -> Rep K H v d B -> RepK K H (kvs ++ [(k,v)]) (kds ++ [(k,d)]) (A ++ B)
 | _,_,_,B,k,_,_,.nil,rv=>by
  have q:=RepK.cons (k:=k) rv RepK.nil
  rw [List.append_nil] at q
  exact q
 | _,_,_,_,_,_,_,.cons h r,rv=>by rw [List.append_assoc]; exact .cons h (r.snoc rv)
theorem RepK.put {kvs:List (Key × V)} {kds:List (Key × D)} {A:List Addr} {v:V} {d:D} (k:Key) (r:RepK K H kvs kds A) (rv:Rep K H v d []):∃ C,RepK K H (putK kvs k v) (putD kds k d) C /\ C.Sublist A:=by
 unfold putK putD
 rw [r.any k]
 by_cases e:(kds.any fun kv=>decide (kv.1 = k)) = true
 ·rw [if_pos e,if_pos e]
  exact r.repl k rv
 ·rw [if_neg e,if_neg e]
  have q:=r.snoc (k:=k) rv
  rw [List.append_nil] at q
  exact ⟨A,q,List.Sublist.refl _⟩
theorem rep_dic {v:V} {kds:List (Key × D)} {A:List Addr} (h:Rep K H v (.dic kds) A):∃ p kvs B,v = .ref p /\ Dd H p kvs /\ RepK K H kvs kds B /\ A = p :: B:=by
 cases h with
 | dic h r=>exact ⟨_,_,_,rfl,.inr ⟨_,h⟩,r,rfl⟩
theorem rep_dicE {v:V} {kds:List (Key × D)} {A:List Addr} (h:Rep K H v (.dic kds) A):∃ p kvs ep B,v = .ref p /\ H p = some (.dE kvs ep) /\ RepK K H kvs kds B /\ A = p :: B:=by
 cases h with
 | dic h r=>exact ⟨_,_,_,_,rfl,h,r,rfl⟩
theorem Stb.updM {p:Addr} {o:HO} (m:Mut (H p)):Stb H (upd H p o):=⟨fun b ys h=>by
  by_cases e:b = p
  ·subst e; rw [h] at m; exact m.elim
  ·rw [upd_ne e]; exact h,fun b u w' h=>by
  by_cases e:b = p
  ·subst e; rw [h] at m; exact m.elim
  ·rw [upd_ne e]; exact h,fun b h=>by
  by_cases e:b = p
  ·subst e; rw [upd_same] at h; cases h
  ·rw [upd_ne e] at h; exact h⟩
theorem lrn_new {H1:Hp} {d ep:Nat} {acc:List (Key × V)} {ds:List (Key × D)} (s1:Same H1 H) (hd:H1 d = none) (ha:H d = some (.dK acc)) (r:RepK K H acc ds []):Same H1 (upd H d (.dE acc ep)) /\ Rep K (upd H d (.dE acc ep)) (.ref d) (.dic ds) [d]:=by
 refine ⟨fun b o e=>?_,.dic upd_same (r.mono (Stb.updM (by rw [ha]; exact True.intro)) fun a h=>by cases h)⟩
 rw [upd_ne (ne_of_none e hd)]
 exact s1 _ _ e
theorem rep_key {v:V} {d:D} {A:List Addr} {k:Key} (h:Rep K H v d A) (e:keyD d = some k):v = kV k:=by
 cases h <;> first | cases e | skip
 ·rfl
 ·rfl
end
section
variable {X:Cx} {cl:List Cl} {e a b c:Expr} {f:Fl} {pos:Pos} {ua ub uc:TU} {ma mb mc:TM} {fa fb fc:Fl} {x:Str} {i:Nat}
theorem pu_dnew:PU X cl (.Dict [] [] pos) .fresh (uC (.dic [])):=.of <| by
 refine ⟨_,pe_lrn pe_dnewK,fun G ρ σ H fo Q R _ E hu k=>fun p hp=>⟨p,[],rfl,upd_same,fun ep=>?_⟩⟩
 rw [upd_upd]
 refine k _ _ _ [p] (Same.upd_new hp) (.dic upd_same .nil) ⟨by simp,fun a ha=>?_⟩ hu
 have:a = p:=by simpa using ha
 rw [this]; exact hp
noncomputable def gDGet:D -> D -> (D -> Prop) -> Prop:=fun d y Q=>match d with
 | .dic kvs=>∃ k v,keyD y = some k /\ valD kvs k = some v /\ Q v
 | _=>False
theorem dget_of {H:Hp} {v w:V} {d e:D} {A B:List Addr} {Q:D -> Prop} (r1:Rep X.K H v d A) (r2:Rep X.K H w e B) (q:gDGet d e Q):∃ a u z C,v = .ref a /\ DGet H a w (some u) /\ Rep X.K H u z C /\ C.Sublist A /\ Q z:=by
 cases d <;> first | exact (show False from q).elim | skip
 rename_i kds
 obtain ⟨k,z,hk,hz,q⟩:∃ k v,keyD e = some k /\ valD kds k = some v /\ Q v:=q
 obtain ⟨p,kvs,B',rfl,hp,rs,rfl⟩:=rep_dic r1
 cases rep_key r2 hk
 obtain ⟨u,C,e1,r3,s3⟩:=(rs.val k).1 z hz
 refine ⟨p,u,z,C,rfl,?_,r3,s3.trans (List.sublist_cons_self _ _),q⟩
 rw [<- e1]
 exact DGet.k hp
noncomputable def gDGet2:D -> D -> D -> (D -> Prop) -> Prop:=fun d y z Q=>match d with
 | .dic kvs=>match y with
  | .non=>imm z = true /\ Q z
  | y=>∃ k,keyD y = some k /\ imm ((valD kvs k).getD z) = true /\ Q ((valD kvs k).getD z)
 | _=>False
noncomputable def isDic:D -> Bool
 | .dic _=>true
 | _=>false
noncomputable def uDGet2 (ua ub uc:TU):TU:=fun ρ Q=>ua ρ fun x=>isDic x = true /\ ub ρ fun y=>uc ρ fun z=>gDGet2 x y z Q
theorem dget2_of {H:Hp} {v w u:V} {d e z:D} {A B C:List Addr} {Q:D -> Prop} (r1:Rep X.K H v d A) (r2:Rep X.K H w e B) (r3:Rep X.K H u z C) (q:gDGet2 d e z Q):∃ a o y,v = .ref a /\ DGetN H a w o /\ Rep X.K H (o.getD u) y [] /\ Q y:=by
 cases d <;> first | exact (show False from q).elim | skip
 rename_i kds
 obtain ⟨p,kvs,B',rfl,hp,rs,rfl⟩:=rep_dic r1
 have go:∀ k,keyD e = some k -> imm ((valD kds k).getD z) = true -> Q ((valD kds k).getD z) -> ∃ a o y,V.ref p = .ref a /\ DGetN H a w o /\ Rep X.K H (o.getD u) y [] /\ Q y:=fun k hk im q=>by
  cases rep_key r2 hk
  refine ⟨p,valV kvs k,_,rfl,.inl (DGet.k hp),?_,q⟩
  cases ev:valD kds k with
  | none=>
   rw [(rs.val k).2 ev]
   rw [ev] at im
   have e0:=r3.immA im
   subst e0
   exact r3
  | some y=>
   obtain ⟨v',C',e1,r4,_⟩:=(rs.val k).1 y ev
   rw [e1]
   rw [ev] at im
   have e0:=r4.immA im
   subst e0
   exact r4
 cases e with
 | non=>
  have q:imm z = true /\ Q z:=q
  cases rep_non r2
  have e0:=r3.immA q.1
  subst e0
  exact ⟨p,none,z,rfl,.inr ⟨rfl,⟨kvs,hp⟩,rfl⟩,r3,q.2⟩
 | int i=>obtain ⟨k,hk,im,q⟩:=q; exact go k hk im q
 | str i=>obtain ⟨k,hk,im,q⟩:=q; exact go k hk im q
 | _=>obtain ⟨k,hk,im,q⟩:=q; cases hk
theorem pu_dget2 {apos:Pos} (hu:X.A.units + 1 < cLine) (ha:PU X cl a fa ua) (hb:PU X cl b fb ub) (hc:PU X cl c fc uc) (m:M2 X a "get" apos b c pos):PU X cl (.Call (.Attribute a "get" apos) [b,c] [] pos) .fresh (uDGet2 ua ub uc):=.of <| by
 obtain ⟨ta,pa,ha⟩:=ha.run
 obtain ⟨tb,pb,hb⟩:=hb.run
 obtain ⟨tc,pc,hc⟩:=hc.run
 refine ⟨_,pe_dget2N hu pa pb pc m,fun G ρ σ H fo Q R hG E hu' k=>ha G ρ σ H fo _ _ hG E hu' fun v H1 d A s1 r1 f1 q1=>?_⟩
 obtain ⟨hd,q1⟩:=q1
 cases d <;> first | cases hd | skip
 have r1':=r1
 obtain ⟨p,kvs,B',rfl,hp,rs,rfl⟩:=rep_dic r1
 refine ⟨p,rfl,.inl ⟨kvs,.of hp⟩,hb G ρ σ H1 fo _ _ hG (E.same s1) q1 fun w H2 e B s2 r2 f2 q2=>hc G ρ σ H2 fo _ _ hG (E.same (s1.trans s2)) q2 fun u H3 z C s3 r3 f3 q3=>?_⟩
 obtain ⟨p',o,y,ep,g,r4,q4⟩:=dget2_of ((r1'.same s2).same s3) (r2.same s3) r3 q3
 cases ep
 exact ⟨o,g,k _ H3 y [] ((s1.trans s2).trans s3) r4 (FlOk.nil _) q4⟩
noncomputable def putDic (i:Nat) (y d:D) (ρ:Ev) (Q:Ev -> Prop):D -> Prop
 | .dic kvs=>∃ k,keyD y = some k /\ kvs.length < sizeLine /\ Q (ρ.set i (some (.dic (putD kvs k d))))
 | _=>False
noncomputable def sDPut3 (i:Nat) (mv mk:TM):TS3:=fun T ρ=>mv ρ fun d ρ1=>imm d = true /\ uVar i ρ1 fun _=>mk ρ1 fun y ρ2=>uVar i ρ2 (putDic i y d ρ2 T.nx)
theorem s_dput {vp tp:Pos} {ik:Expr} {mk:TM} (hu:X.A.units + 1 < cLine) (i:Nat) (hv:PE X (.Name x vp) (tVar i)) (hi:cl[i]? = some .own) (he:PN X cl e ma) (hk:PN X cl ik mk) (hs:swapsWith e (some (.Subscript (.Name x vp) ik tp)) pos.line X.env = pure false:=by rfl) :
  PS3 X cl (.Assign [.Subscript (.Name x vp) ik tp] e pos) (sDPut3 i ma mk):=.of <| by
 obtain ⟨t,p,h⟩:=he.run
 obtain ⟨t2,p2,h2⟩:=hk.run
 refine ⟨_,ps_lrn (ps_dput hu hv p2 p hs),fun G T ρ σ H fa R hG E hu' le=>?_⟩
 have own:G.own i:=by unfold Ent.own; rw [hG]; exact hi
 refine h G ρ σ H fa _ _ hG E hu' fun w H1 d B1 ρ1 fa1 E1 c1 r1 n1 q=>?_
 obtain ⟨im,q⟩:=q
 have eB:=r1.immA im
 subst eB
 obtain ⟨l0,e0,q⟩:=uVar_some q
 obtain ⟨v,hvi,r0⟩:=E1.rep i l0 e0
 refine ⟨_,hvi,h2 G ρ1 σ H1 fa1 _ _ hG E1 q fun wk H2 dk Bk ρ2 fa2 E2 c2 rk nk q=>?_⟩
 obtain ⟨l1,e1,q⟩:=uVar_some q
 obtain ⟨v',hv',r2⟩:=E2.rep i l1 e1
 have ev:v' = v:=by rw [hvi] at hv'; cases hv'; rfl
 subst ev
 cases l1 <;> first | exact (show False from q).elim | skip
 rename_i kds
 obtain ⟨k,hk,hn,q⟩:∃ k,keyD dk = some k /\ kds.length < sizeLine /\ T.nx (ρ2.set i (some (.dic (putD kds k d)))):=q
 obtain ⟨p,kvs,B,rfl,hp,rs,eA⟩:=rep_dic r2
 cases rep_key rk hk
 have r1':Rep X.K H2 w d []:=c2.keep r1 fun i _ a ha=>(by cases ha)
 have nd:=E2.nd i (.inl own)
 have pin:p ∈ fa2 i:=by rw [eA]; exact List.mem_cons_self
 rw [eA] at nd
 obtain ⟨np,ndB⟩:=List.nodup_cons.mp nd
 obtain ⟨C,rC,sC⟩:=rs.put k r1'
 have hpC:p ∉ C:=fun z=>np (sC.mem z)
 have rn:∀ ep,Rep X.K (upd H2 p (.dE (putK kvs k w) ep)) (.ref p) (.dic (putD kds k d)) (p :: C):=fun ep=>.dic upd_same (rC.mono (Stb.updM hp.mut) fun a ha=>upd_ne fun e=>hpC (e ▸ ha))
 have n3:∀ a ∈ p :: C,a ∈ fa2 i:=fun a ha=>by
  rcases List.mem_cons.mp ha with z | z
  ·exact z ▸ pin
  ·rw [eA]; exact List.mem_cons_of_mem _ (sC.mem z)
 have li:i < ρ2.length:=(List.getElem?_eq_some_iff.mp e1).1
 refine ⟨p,_,rfl,DPut.k hp (by rw [rs.length]; exact hn),p,_,upd_same,fun ep=>?_⟩
 rw [upd_upd]
 exact le.nx _ _ ⟨_,_,E2.put own li hv' pin upd_out (by rw [upd_same]; exact fun z=>nomatch z) (rn ep) (List.nodup_cons.mpr ⟨hpC,ndB.sublist sC⟩) fun a ha=>.inl (n3 a ha),q⟩
theorem Reps.rev {K:PySem.W.Frag} {H:Hp}:∀ {vs:List V} {ds:List D} {A:List Addr},Reps K H vs ds A -> ∃ B,Reps K H vs.reverse ds.reverse B /\ (∀ a,a ∈ B ↔ a ∈ A) /\ (A.Nodup -> B.Nodup)
 | _,_,_,.nil=>⟨[],.nil,fun _=>Iff.rfl,fun h=>h⟩
 | _,_,_,.cons (A:=A) (B:=B) h r=>by
  obtain ⟨C,r1,m1,n1⟩:=r.rev
  refine ⟨C ++ (A ++ []),by rw [List.reverse_cons,List.reverse_cons]; exact r1.append (.cons h .nil),fun a=>?_,fun n=>?_⟩
  ·rw [List.append_nil,List.mem_append,List.mem_append,m1 a]
   exact Or.comm
  ·rw [List.append_nil]
   obtain ⟨nA,nB,dj⟩:=List.nodup_append.mp n
   exact List.nodup_append.mpr ⟨n1 nB,nA,fun a ha b hb e=>dj b hb a ((m1 a).mp ha) e.symm⟩
end
end L3
namespace L3
open PySem PySem.Spec L2
section
variable {X:Cx} {cl:List Cl}
theorem bb1 {b:List Stmt} {s1:Stmt} {t1:TS3} (e:b = [s1]) (h1:PS3 X cl s1 t1):PB3 X cl b t1:=by
 rw [e]
 exact (b_one h1)
theorem bb2 {b:List Stmt} {s1 s2:Stmt} {t1 t2:TS3} (e:b = [s1,s2]) (h1:PS3 X cl s1 t1) (h2:PS3 X cl s2 t2):PB3 X cl b (sSeq t1 t2):=by
 rw [e]
 exact (b_cons h1 (b_one h2))
theorem bb3 {b:List Stmt} {s1 s2 s3:Stmt} {t1 t2 t3:TS3} (e:b = [s1,s2,s3]) (h1:PS3 X cl s1 t1) (h2:PS3 X cl s2 t2) (h3:PS3 X cl s3 t3):PB3 X cl b (sSeq t1 (sSeq t2 t3)):=by
 rw [e]
 exact (b_cons h1 (b_cons h2 (b_one h3)))
theorem bb4 {b:List Stmt} {s1 s2 s3 s4:Stmt} {t1 t2 t3 t4:TS3} (e:b = [s1,s2,s3,s4]) (h1:PS3 X cl s1 t1) (h2:PS3 X cl s2 t2) (h3:PS3 X cl s3 t3) (h4:PS3 X cl s4 t4):PB3 X cl b (sSeq t1 (sSeq t2 (sSeq t3 t4))):=by
 rw [e]
 exact (b_cons h1 (b_cons h2 (b_cons h3 (b_one h4))))
theorem bb5 {b:List Stmt} {s1 s2 s3 s4 s5:Stmt} {t1 t2 t3 t4 t5:TS3} (e:b = [s1,s2,s3,s4,s5]) (h1:PS3 X cl s1 t1) (h2:PS3 X cl s2 t2) (h3:PS3 X cl s3 t3) (h4:PS3 X cl s4 t4) (h5:PS3 X cl s5 t5):PB3 X cl b (sSeq t1 (sSeq t2 (sSeq t3 (sSeq t4 t5)))):=by
 rw [e]
 exact (b_cons h1 (b_cons h2 (b_cons h3 (b_cons h4 (b_one h5)))))
theorem bb7 {b:List Stmt} {s1 s2 s3 s4 s5 s6 s7:Stmt} {t1 t2 t3 t4 t5 t6 t7:TS3} (e:b = [s1,s2,s3,s4,s5,s6,s7]) (h1:PS3 X cl s1 t1) (h2:PS3 X cl s2 t2) (h3:PS3 X cl s3 t3) (h4:PS3 X cl s4 t4) (h5:PS3 X cl s5 t5) (h6:PS3 X cl s6 t6) (h7:PS3 X cl s7 t7):PB3 X cl b (sSeq t1 (sSeq t2 (sSeq t3 (sSeq t4 (sSeq t5 (sSeq t6 t7)))))):=by
 rw [e]
 exact (b_cons h1 (b_cons h2 (b_cons h3 (b_cons h4 (b_cons h5 (b_cons h6 (b_one h7)))))))
theorem bb8 {b:List Stmt} {s1 s2 s3 s4 s5 s6 s7 s8:Stmt} {t1 t2 t3 t4 t5 t6 t7 t8:TS3} (e:b = [s1,s2,s3,s4,s5,s6,s7,s8]) (h1:PS3 X cl s1 t1) (h2:PS3 X cl s2 t2) (h3:PS3 X cl s3 t3) (h4:PS3 X cl s4 t4) (h5:PS3 X cl s5 t5) (h6:PS3 X cl s6 t6) (h7:PS3 X cl s7 t7) (h8:PS3 X cl s8 t8):PB3 X cl b (sSeq t1 (sSeq t2 (sSeq t3 (sSeq t4 (sSeq t5 (sSeq t6 (sSeq t7 t8))))))):=by
 rw [e]
 exact (b_cons h1 (b_cons h2 (b_cons h3 (b_cons h4 (b_cons h5 (b_cons h6 (b_cons h7 (b_one h8))))))))
theorem bb10 {b:List Stmt} {s1 s2 s3 s4 s5 s6 s7 s8 s9 s10:Stmt} {t1 t2 t3 t4 t5 t6 t7 t8 t9 t10:TS3} (e:b = [s1,s2,s3,s4,s5,s6,s7,s8,s9,s10]) (h1:PS3 X cl s1 t1) (h2:PS3 X cl s2 t2) (h3:PS3 X cl s3 t3) (h4:PS3 X cl s4 t4) (h5:PS3 X cl s5 t5) (h6:PS3 X cl s6 t6) (h7:PS3 X cl s7 t7) (h8:PS3 X cl s8 t8) (h9:PS3 X cl s9 t9) (h10:PS3 X cl s10 t10):PB3 X cl b (sSeq t1 (sSeq t2 (sSeq t3 (sSeq t4 (sSeq t5 (sSeq t6 (sSeq t7 (sSeq t8 (sSeq t9 t10))))))))):=by
 rw [e]
 exact (b_cons h1 (b_cons h2 (b_cons h3 (b_cons h4 (b_cons h5 (b_cons h6 (b_cons h7 (b_cons h8 (b_cons h9 (b_one h10))))))))))
end
section
variable {X:Cx} {cl:List Cl} {a:Expr} {f:Fl} {pos:Pos} {ua:TU}
noncomputable def gNeg:D -> (D -> Prop) -> Prop
 | .int i,Q=>Q (.int (-i))
 | _,_=>False
noncomputable def uUn (g:D -> (D -> Prop) -> Prop) (ua:TU):TU:=fun ρ Q=>ua ρ fun d=>g d Q
theorem pu_neg (ha:PU X cl a f ua):PU X cl (.UnaryOp .USub a pos) .fresh (uUn gNeg ua):=.of <| by
 obtain ⟨t,p,h⟩:=ha.run
 refine ⟨_,pe_un un_neg p,fun G ρ σ H fo Q R hG E hu k=>h G ρ σ H fo _ _ hG E hu fun v H' d B s r _ q=>?_⟩
 cases d <;> first | exact (show False from q).elim | skip
 cases rep_int r
 exact ⟨_,rfl,k _ H' _ [] s .int (FlOk.nil _) q⟩
end
noncomputable abbrev gSub:=gI0 fun i j=>D.int (i - j)
noncomputable abbrev gFdv:=gI CDivL fun i j=>D.int (i / j)
noncomputable abbrev gMod:=gI (fun _ j=>0 < j) fun i j=>D.int (i % j)
noncomputable abbrev gPow:=gI CPow fun i j=>D.int (i ^ j.toNat)
noncomputable abbrev gLt:=gI0 fun i j=>D.bl (decide (i < j))
noncomputable abbrev gGt:=gI0 fun i j=>D.bl (decide (j < i))
noncomputable abbrev gGe:=gI0 fun i j=>D.bl (decide (j <= i))
theorem glen2 {i j:Nat} {ds:List D} {ρ:Ev} {Q:Ev -> Prop} (h:gCons3 (g1 i) (gCons3 (g1 j) gNil3) ds ρ Q):ds.length = 2:=by
 match ds,h with
 | [_,_],_=>rfl
 | [_],h=>exact h.2.elim
 | _ :: _ :: _ :: _,h=>exact h.2.2.elim
end L3
namespace L3
open PySem PySem.Spec L2
section
variable {X:Cx} {cl:List Cl} {e a b tg:Expr} {es:List Expr} {f:Fl} {pos pos':Pos} {ua ub:TU} {ma mb:TM} {fa fb:Fl} {x:Str} {i:Nat}
noncomputable def sUnpM (g:TG3) (u:TM):TS3:=fun T ρ=>u ρ fun d ρ'=>g d ρ' T.nx
theorem s_unpM {g:TG3} (he:PN X cl e ma) (hg:PG3 X cl tg g) (mk:∀ {te g},PE X e te -> PG X tg g -> PS X (.Assign [tg] e pos) (tAsg te g)):PS3 X cl (.Assign [tg] e pos) (sUnpM g ma):=.of <| by
 obtain ⟨t,p,h⟩:=he.run
 obtain ⟨t2,p2,h2⟩:=hg.run
 refine ⟨_,mk p p2,fun G T ρ σ H fa R hG E hu le=>h G ρ σ H fa _ _ hG E hu fun v H' d B ρ' fa' E' c r n q=>?_⟩
 exact h2 G ρ' σ H' fa' v d B _ _ hG E' r n q fun σ2 ρ2 fa2 E2 _ _ q'=>le.nx _ _ ⟨ρ2,fa2,E2,q'⟩
noncomputable def gCatT:D -> D -> (D -> Prop) -> Prop
 | .tup xs,.tup ys,Q=>imms xs = true /\ imms ys = true /\ xs.length + ys.length <= sizeLine /\ Q (.tup (xs ++ ys))
 | _,_,_=>False
theorem o_catT:Op3 X rCatA gCatT:=by
 intro H v w d e A B Q R r1 r2 q k
 cases d <;> cases e <;> first | exact q.elim | skip
 obtain ⟨p1,vs,rfl,h1,rs1⟩:=rep_tup r1
 obtain ⟨p2,ws,rfl,h2,rs2⟩:=rep_tup r2
 obtain ⟨i1,i2,hn,q⟩:=q
 have e1:=rs1.immA i1
 have e2:=rs2.immA i2
 subst e1
 subst e2
 exact ⟨p1,p2,vs,ws,rfl,rfl,h1,h2,by rw [rs1.length,rs2.length]; exact hn,fun r H' s hr=>k _ _ _ [] s (.tup hr ((rs1.same s).append (rs2.same s))) List.nodup_nil (fun a ha=>(by cases ha)) q⟩
noncomputable def eqDs:List D -> List D -> Bool
 | [],[]=>true
 | x :: xs,y :: ys=>eqV (toV x) (toV y) && eqDs xs ys
 | _,_=>false
theorem eqDs_vs:∀ (xs ys:List D),eqVs (xs.map toV) (ys.map toV) = eqDs xs ys
 | [],[]=>rfl
 | [],y :: ys=>rfl
 | x :: xs,[]=>rfl
 | x :: xs,y :: ys=>by
  show (eqV (toV x) (toV y) && eqVs (xs.map toV) (ys.map toV)) = _
  rw [eqDs_vs xs ys]; rfl
noncomputable def gEqL (neg:Bool):D -> D -> (D -> Prop) -> Prop:=fun d e Q=>∃ xs ys,kindB false d = some xs /\ kindB false e = some ys /\ xs.all flatD = true /\ ys.all flatD = true /\ Q (.bl (ng neg (eqDs xs ys)))
theorem o_eqL {neg:Bool}:Op3 X (rEqL X.K neg) (gEqL neg):=by
 intro H v w d e A B Q R r1 r2 q k
 obtain ⟨xs,ys,e1,e2,f1,f2,q⟩:=q
 obtain ⟨p1,vs,B1,rfl,h1,rs1,_⟩:=rep_sqL r1 e1
 obtain ⟨p2,ws,B2,rfl,h2,rs2,_⟩:=rep_sqL r2 e2
 obtain ⟨rfl,g1⟩:=rs1.flat f1
 obtain ⟨rfl,g2⟩:=rs2.flat f2
 refine ⟨p1,p2,_,_,rfl,rfl,h1,h2,.inr ⟨g1,g2⟩,?_⟩
 rw [eqDs_vs]
 cases neg
 ·rw [Bool.false_xor]
  exact k _ H _ _ (Same.refl H) .bl List.nodup_nil (fun _ h=>(by cases h)) q
 ·rw [Bool.true_xor]
  exact k _ H _ _ (Same.refl H) .bl List.nodup_nil (fun _ h=>(by cases h)) q
theorem tt_eqL (hu:X.A.units < cLine) (ha:PU X cl a fa ua) (hb:PU X cl b fb ub) (hm:behindInMarks .Eq b = false):PT3 X cl (.Compare a [.Eq] [b] pos) (uT (uOp (gEqL false) ua ub)):=tt_cmp (op_eqL hu) o_eqL ha hb hm
theorem tt_neL (hu:X.A.units < cLine) (ha:PU X cl a fa ua) (hb:PU X cl b fb ub) (hm:behindInMarks .NotEq b = false):PT3 X cl (.Compare a [.NotEq] [b] pos) (uT (uOp (gEqL true) ua ub)):=tt_cmp (op_neL hu) o_eqL ha hb hm
end
end L3
namespace L2
open PySem PySem.Spec PyProof.Rows
theorem compLoopD_any {prog:Program} {w:World} {A:Around} {R:Result -> Shared -> Prop} {s:Shared} {kx vx target iter:Expr} {ifs:List Expr} {scope:Scope} {pos:Pos} {it:Value} {D:Addr} {env:Env} (I:Nat -> Shared -> Prop)
  (turn:∀ n s,I n s -> wpAny (model prog w) A (pyNext it) (fun r s1=>match r with
   | none=>R (.ok .next) s1
   | some v=>wpAny (model prog w) A (letOwnedTupleGo target it v) (fun _ s2=>wpAny (model prog w) A (assign target env v) (fun _ s3=>
     wpAny (model prog w) A (forIn ifs true fun c r=>if r = true then do let ok <- isTrue c env (eval c env); pure (ForInStep.yield ok) else pure (ForInStep.yield r)) (fun ok s4=>
      if ok = true then wpAny (model prog w) A (eval kx env) (fun kv s5=>wpAny (model prog w) A (eval vx env) (fun vv s5'=>
       wpAny (model prog w) A (dictSet D kv vv) (fun _ s6=>∃ m,m < n /\ I m s6) (fun _ _=>False) s5') (fun _ _=>False) s5) (fun _ _=>False) s4
      else ∃ m,m < n /\ I m s4) (fun _ _=>False) s3) (fun _ _=>False) s2) (fun _ _=>False) s1) (fun _ _=>False) s)
  (n:Nat) (h:I n s) :
  codeAny (model prog w) A (.compLoop (.DictComp kx vx [⟨target,iter,ifs,0⟩] scope pos) 0 it (.ref D) env) R s:=by
 refine codeAny_loop rfl I (fun n s hI=>?_) n h
 show wpAny _ A ((compTurn (.DictComp kx vx [⟨target,iter,ifs,0⟩] scope pos) 0 it (.ref D) env).onRaise (fun x=>do noteFrame x env; theTreesLotGoes x)) _ _ s
 refine wpAny_noted ?_
 rw [compTurn_dict]
 refine wpAny_bind (wpAny_standAt (wpAny_bind (wpAny_mono (turn n s hI) (fun r s1 h1=>?_) fun _ _ h'=>h'.elim)))
 cases r with
 | none=>exact wpAny_pure h1
 | some v=>
  refine wpAny_bind (wpAny_mono h1 (fun _ s2 h2=>?_) fun _ _ h'=>h'.elim)
  refine wpAny_bind (wpAny_mono h2 (fun _ s3 h3=>wpAny_bind (wpAny_mono h3 (fun ok s4 h4=>?_) fun _ _ h'=>h'.elim)) fun _ _ h'=>h'.elim)
  cases ok with
  | false=>exact wpAny_pure ⟨rfl,h4⟩
  | true=>
   exact wpAny_bind (wpAny_bind (wpAny_mono h4 (fun kv s5 h5=>wpAny_bind (wpAny_holding (wpAny_mono h5 (fun vv s6 h6=>wpAny_bind (wpAny_standAt (wpAny_holding (wpAny_mono h6 (fun _ s7 h7=>wpAny_pure ⟨rfl,h7⟩) fun _ _ h'=>h'.elim)))) fun _ _ h'=>h'.elim))) fun _ _ h'=>h'.elim))
theorem d_dictSet {X:Cx} {pins:List (Addr × Obj)} {σ:St} {H:Hp} {s:Shared} {a:Addr} {v:V} {u r:Value} {A:Around} {E:Value -> Shared -> Prop} {kvs:List (Key × V)} {k:Key} {Q:Unit -> Shared -> Prop} (I:Inv X pins σ H s) (e:H a = some (.dK kvs)) (l:kvs.length < sizeLine) (ry:RelV (kV k) u) (rv:RelV v r)
  (h:∀ s',Inv X pins σ (upd H a (.dK (putK kvs k v))) s' -> Q () s'):wpAny (model X.prog X.w) A (dictSet a u r) Q E s:=by
 obtain ⟨z,hd,vs,rel,dd⟩:=dk_of I.hok e
 have hz:vs.length <= sizeLine:=by rw [<- rel.length]; exact z
 have hl:(putK kvs k v).length <= sizeLine:=by have:=length_putK kvs k v; omega
 refine wpAny_dictSet_pairs (hsz:=hz) (kV_is ry) dd fun h' dd' hs=>h _ ?_
 have he:∃ q,h'.get? a = some q:=let ⟨q,_,_,hq,_⟩:=dd'; ⟨q,hq⟩
 exact d_write I (by rw [e]; exact True.intro) hs he (dk_new hl hd (rel.put k rv) dd')
noncomputable def dcW (J:It) (g:TG) (tc:TT) (tk te:TE) (σ0:St) (Q:VK) (H1:Hp):Prop:=∀ d,H1 d = none ->
 ∃ W:Nat -> Nat -> Hp -> Prop,(∃ m,W 0 m (upd H1 d (.dK []))) /\ ∀ i m H,W i m H ->
  (J.stop i H /\ Q (.ref d) H) \/
  (J.go i H /\ ∀ x H',J.yld i H x H' -> g x σ0 H' fun σ2 H2=>tc σ2 H2 fun b H3=>
   if b = true then tk σ2 H3 fun kv H4=>te σ2 H4 fun v H5=>∃ acc k,kv = kV k /\ H5 d = some (.dK acc) /\ acc.length < sizeLine /\ ∃ m',m' < m /\ W (i + 1) m' (upd H5 d (.dK (putK acc k v)))
   else ∃ m',m' < m /\ W (i + 1) m' H3)
theorem dc_blockF {X:Cx} {N:List Str} {scope:Scope} {cap:List (Option Nat)} {fp:List Addr} {pins:List (Addr × Obj)} {σ:St} {H:Hp} {s:Shared} {kx vx target iter:Expr} {ifs:List Expr} {pos:Pos} {g:List (Str × Addr) -> List Addr -> Shared -> Hp -> TG} {tc:List (Str × Addr) -> List Addr -> Shared -> Hp -> TT} {tk te:List (Str × Addr) -> List Addr -> Shared -> Hp -> TE} {J:It} {it:Addr} {tn:Nat -> Heap -> Prop}
  {E:Value -> Shared -> Prop} {RR:Value -> Addr -> Result -> Shared -> Prop} {Q:VK} (hcalm:X.calm = true) (cf:CapFacts X N scope cap) (hk:scope.kind = .function)
  (hg:∀ cl fp s H,PG (cxC X N scope cl fp s H) target (g cl fp s H)) (hc:∀ cl fp s H,PTs (cxC X N scope cl fp s H) ifs (tc cl fp s H)) (hx:∀ cl fp s H,PE (cxC X N scope cl fp s H) kx (tk cl fp s H)) (he:∀ cl fp s H,PE (cxC X N scope cl fp s H) vx (te cl fp s H))
  (I:Inv X pins σ H s) (T:Turn X.prog X.w X.K target J fp it tn) (st:tn 0 s.heap) (hf:∀ b ∈ fp,FpOk X pins H b) (q:∀ cl fp s H',dcW J (g cl fp s H') (tc cl fp s H') (tk cl fp s H') (te cl fp s H') (capS cap σ) Q H)
  (hRR:∀ d C H' s' m,Inv X pins σ H' s' -> s'.heap.Ns C m -> FpOk X pins H' C -> Q (.ref d) H' -> RR (.ref d) C (.ok .next) s') :
  wpAny (model X.prog X.w) X.A newDict (fun acc s3=>wpAny (model X.prog X.w) X.A (newFunctionEnv scope X.env.globals (clGo X.env scope.names []) [] X.env.qual none .none (some X.env)) (fun cenv s4=>
   codeAny (model X.prog X.w) X.A (.compStart (.DictComp kx vx [⟨target,iter,ifs,0⟩] scope pos) 0 (.ref it) acc { cenv with scope:=relabel scope X.env }) (RR acc cenv.locals) s4) E s3) E s:=by
 refine wpAny_newObj_type (wpAny_newFunctionEnv cf.nocell (by intro y hy; simp at hy) (fun h1 hns hsb=>?_) hk)
 have I3:Inv X pins σ (upd H s.heap.objs.size (.dK [])) { s with heap:=s.heap.push { cls:=.type "dict",data:=.dict #[] } }:=I.laid (a:=s.heap.objs.size) (o:=.dK []) (t':=s.toks) (fun _ _ q=>Heap.get?_push_of_some _ q) (Nat.le_refl _) (dk_empty s.heap I.big)
 have hfr:H s.heap.objs.size = none:=I.fresh
 obtain ⟨W,⟨m0,w0⟩,turn⟩:=q (clGo X.env scope.names []) fp { s with heap:=s.heap.push { cls:=.type "dict",data:=.dict #[] } } (upd H s.heap.objs.size (.dK [])) s.heap.objs.size hfr
 have hlt:∀ b ∈ fp,b < s.heap.objs.size:=fun b hb=>by
  obtain ⟨o,e,_⟩:=T.obj 0 _ st b hb
  exact Heap.lt_size e
 have hf3:∀ b ∈ fp,FpOk X pins (upd H s.heap.objs.size (.dK [])) b:=fun b hb=>⟨by rw [upd_ne (Nat.ne_of_lt (hlt b hb))]; exact (hf b hb).1,(hf b hb).2⟩
 have hlt3:∀ b ∈ fp,b < (s.heap.push { cls:=.type "dict",data:=.dict #[] }).objs.size:=fun b hb=>by
  rw [Heap.size_push]
  exact Nat.lt_succ_of_lt (hlt b hb)
 dsimp only at hns hsb ⊢
 generalize hS3:({ s with heap:=s.heap.push { cls:=.type "dict",data:=.dict #[] } }:Shared) = s3 at I3 turn
 have hheap:s3.heap = s.heap.push { cls:=.type "dict",data:=.dict #[] }:=by rw [<- hS3]
 have htok:s3.toks = s.toks:=by rw [<- hS3]
 rw [<- hheap] at hns hsb hlt3
 have keep3:∀ b o,s3.heap.get? b = some o -> h1.get? b = some o:=fun b o e=>hsb.extBut b o (Nat.ne_of_lt (Heap.lt_size e)) (Heap.get?_push_of_some _ e)
 have keep:∀ b o,s.heap.get? b = some o -> h1.get? b = some o:=fun b o e=>keep3 b o (by rw [hheap]; exact Heap.get?_push_of_some _ e)
 have Ic:=inv_comp (tk:=s.toks) I3 cf hk hf3 hlt3 hns keep3
 have st1:tn 0 h1:=T.keep 0 _ _ st fun b _ o e=>keep b o e
 have fr0:∀ b ∈ fp,(upd H s.heap.objs.size (.dK [])) b = none:=fun b hb=>(hf3 b hb).1
 have stat:∀ {H':Hp},(∀ b ∈ fp,H' b = none) -> ∀ b ∈ fp,FpOk (cxC X N scope (clGo X.env scope.names []) fp s3 (upd H s.heap.objs.size (.dK []))) [] H' b:=fun hn b hb=>
  ⟨hn b hb,Nat.ne_of_lt (hlt3 b hb),Ic.ok.exfs b hb,.inl hb,fun x c h=>(hf b hb).2.2.2.2.1 x c (cl_sub h),fun p hp=>absurd (show p ∈ ([]:List (Addr × Obj)) from hp) (by simp)⟩
 have hos:s3.os = s.os:=by rw [<- hS3]
 have hge:s3.gens = s.gens:=by rw [<- hS3]
 have loop:codeAny (model X.prog X.w) X.A (.compLoop (.DictComp kx vx [⟨target,iter,ifs,0⟩] scope pos) 0 (.ref it) (.ref s.heap.objs.size) (compEnvC scope (clGo X.env scope.names []) s3.heap.objs.size X.env))
   (RR (.ref s.heap.objs.size) s3.heap.objs.size) { s3 with heap:=h1,toks:=s.toks }:=by
  refine compLoopD_any (fun n s'=>∃ i H',Inv (cxC X N scope (clGo X.env scope.names []) fp s3 (upd H s.heap.objs.size (.dK []))) [] (capS cap σ) H' s' /\ tn i s'.heap /\ (∀ b ∈ fp,H' b = none) /\ W i n H') ?_ m0 ⟨0,_,Ic,st1,fr0,w0⟩
  rintro n s4 ⟨i,H4,I4,st4,fr4,w4⟩
  rcases turn i n H4 w4 with ⟨stop,qn⟩ | ⟨go,step⟩
  ·refine thn (T.done (cxC X N scope (clGo X.env scope.names []) fp s3 (upd H s.heap.objs.size (.dK []))) rfl rfl rfl hcalm i [] s4 _ H4 (fun _ _=>False) I4 (stat fr4) st4 stop) fun r s5 ⟨hr,I5⟩=>?_
   subst hr
   obtain ⟨m,hn5,_⟩:=I5.loc
   refine hRR _ _ H4 s5 m ?_ hn5 (I3.fpOk (Nat.le_refl _) I5.free) qn
   exact I3.call' I5.os I5.base I5.hok I5.bare fun b hb=>⟨(hf b hb).2.2.2.1,(hf b hb).2.1,(hf b hb).2.2.2.2.1,(hf b hb).2.2.2.2.2⟩
  ·refine thn (T.item (cxC X N scope (clGo X.env scope.names []) fp s3 (upd H s.heap.objs.size (.dK []))) rfl rfl rfl hcalm i [] s4 _ H4 (fun _ _=>False) I4 (stat fr4) st4 go) fun r s5 ⟨u,hr,h5⟩=>?_
   subst hr
   refine thn h5 fun _ s6 ⟨x,H6,I6,r6,y6,st6,fr6⟩=>?_
   have I6':=I6.pinned (stat fr6) (T.obj _ _ st6)
   refine thn (hg _ _ _ _ _ s6 _ H6 x u _ I6' r6 (step x H6 y6)) fun _ s7 ⟨σ7,H7,I7,q7⟩=>?_
   refine thn (hc _ _ _ _ _ s7 σ7 H7 _ I7 q7) fun ok s8 ⟨H8,I8,q8⟩=>?_
   have again:∀ {σ9:St} {H9:Hp} {s9:Shared},Inv (cxC X N scope (clGo X.env scope.names []) fp s3 (upd H s.heap.objs.size (.dK []))) ([] ++ pinsAt fp s6.heap) σ9 H9 s9 -> (∃ m',m' < n /\ W (i + 1) m' H9) ->
     ∃ m,m < n /\ ∃ i H',Inv (cxC X N scope (clGo X.env scope.names []) fp s3 (upd H s.heap.objs.size (.dK []))) [] (capS cap σ) H' s9 /\ tn i s9.heap /\ (∀ b ∈ fp,H' b = none) /\ W i m H':=fun {σ9 H9 s9} I9 ⟨m',hm,w9⟩=>by
    refine ⟨m',hm,i + 1,H9,inv_recap I3 cf hf3 I9.unpinned,T.keep _ _ _ st6 fun b hb o e=>(I9.pin (b,o) (List.mem_append_right _ (List.mem_append_right _ (mem_pinsAt hb e)))).1,fun b hb=>?_,w9⟩
    obtain ⟨o,e,d⟩:=T.obj _ _ st6 b hb
    exact (I9.pin (b,o) (List.mem_append_right _ (List.mem_append_right _ (mem_pinsAt hb e)))).2.1
   cases ok with
   | false=>exact again I8 q8
   | true=>
    show wpAny _ _ (eval kx _) _ _ s8
    refine thn (hx _ _ _ _ _ s8 σ7 H8 _ I8 q8) fun y0 s8' ⟨v0,H8',I8',r8',q8'⟩=>?_
    refine thn (he _ _ _ _ _ s8' σ7 H8' _ I8' q8') fun y s9 ⟨v,H9,I9,r9,acc,k,ek,hacc,hlen,m',hm,w9⟩=>?_
    subst ek
    exact d_dictSet (X:=cxC X N scope (clGo X.env scope.names []) fp s3 (upd H s.heap.objs.size (.dK []))) I9 hacc hlen r8' r9 fun s10 I10=>again I10 ⟨m',hm,w9⟩
 have e4:({ s with heap:=h1,toks:=s.toks + ([]:List (Str × Value)).length }:Shared) = { s3 with heap:=h1,toks:=s.toks }:=by rw [<- hS3]; rfl
 rw [<- hheap,e4]
 exact codeAny_compStart_dict loop (T.self _ 0 _ _ _ st1 loop)
noncomputable def tDCF (cap:List (Option Nat)) (wi:TI) (g:List (Str × Addr) -> List Addr -> Shared -> Hp -> TG) (tc:List (Str × Addr) -> List Addr -> Shared -> Hp -> TT) (tk te:List (Str × Addr) -> List Addr -> Shared -> Hp -> TE):TE:=fun σ H Q=>wi σ H fun J H1=>∀ cl fp s H',dcW J (g cl fp s H') (tc cl fp s H') (tk cl fp s H') (te cl fp s H') (capS cap σ) Q H1
theorem ps_setDCF {X:Cx} {i:Nat} {y:Str} {XN N:List Str} {XS scope:Scope} {cap:List (Option Nat)} {kx vx target iter:Expr} {ifs:List Expr} {pos spos py:Pos} {wi:TI} {g:List (Str × Addr) -> List Addr -> Shared -> Hp -> TG} {tc:List (Str × Addr) -> List Addr -> Shared -> Hp -> TT} {tk te:List (Str × Addr) -> List Addr -> Shared -> Hp -> TE}
  (hXN:X.N.Nodup) (hiN:X.N[i]? = some y) (hy:X.env.scope.names.lookup y = some .local)
  (hcap:capOk XN N XS scope cap = true) (hN:X.N = XN) (hS:X.env.scope = XS) (hk:scope.kind = .function) (hcalm:X.calm = true) (hi:PI X target iter wi)
  (hg:∀ cl fp s H,PG (cxC X N scope cl fp s H) target (g cl fp s H)) (hc:∀ cl fp s H,PTs (cxC X N scope cl fp s H) ifs (tc cl fp s H)) (hx:∀ cl fp s H,PE (cxC X N scope cl fp s H) kx (tk cl fp s H)) (he:∀ cl fp s H,PE (cxC X N scope cl fp s H) vx (te cl fp s H))
  (hsw:swapsWith (.DictComp kx vx [⟨target,iter,ifs,0⟩] scope pos) (some (.Name y py)) spos.line X.env = pure true:=by rfl)
  (hs:∀ x,foldedSetIterable iter X.env x = pure x:=by intro _; rfl):PS X (.Assign [.Name y py] (.DictComp kx vx [⟨target,iter,ifs,0⟩] scope pos) spos) (tAsg (tDCF cap wi g tc tk te) (gName i)):=by
 refine .of ?_
 intro pins s σ H D I h
 have cf:=capFacts_of hN hS hcap
 rw [exec_Assign_Name_used _ _ _ _ hsw]
 refine wpAny_bind (wpAny_standAt (wpAny_bind ?_))
 show wpAny _ X.A (do let _ <- comprehension (.DictComp kx vx [⟨target,iter,ifs,0⟩] scope pos) scope X.env _ newDict false (eval iter X.env) (some (assign (.Name y py) X.env))) _ _ s
 refine wpAny_bind (wpAny_mono (wpAny_comprehension_free (use:=some (assign (.Name y py) X.env)) (Q:=fun _ s'=>SP X pins D .next s') rfl hs (closure_is (I.cells_of cf)) hk cf.loc (thn (hi pins s σ H _ I h) fun v s1 h1=>thn h1 fun itv s2 h2=>?_))
  (fun _ s' hq=>wpAny_pure (wpAny_pure hq)) fun _ _ e=>e)
 obtain ⟨it,fp,tn,J,H2,rfl,I2,T,st2,f2,q⟩:=h2
 refine dc_blockF (RR:=fun acc C=>compPost (model X.prog X.w) X.A X.xe (some (assign (.Name y py) X.env)) (fun _ s'=>SP X pins D .next s') acc C) hcalm cf hk hg hc hx he I2 T st2 f2 q fun d C H' s' m I' hn hC q'=>?_
 show wpAny _ _ (assign (.Name y py) X.env (.ref d)) _ _ s'
 refine wpAny_assign_Name (store_ok2 (v:=.ref d) I' hXN hiN (.inl hy) rfl (fun s2 I2 ⟨a,sb,ha⟩=>⟨m,hn.sameBut sb ?_,fun h' sb'=>⟨_,H',I2.dropC hC sb',q'⟩⟩) (.inr hy))
 rcases ha with z | z
 ·rw [z]; exact hC.2.1
 ·exact fun e=>hC.2.2.2.2.1 y a z e.symm
end L2
namespace L3
open PySem PySem.Spec L2
theorem RepK.same {K:PySem.W.Frag} {H H':Hp} (s:Same H H') {v:List (Key × V)} {d:List (Key × D)} {A:List Addr} (r:RepK K H v d A):RepK K H' v d A:=
 r.mono (Stb.of s) fun a ha=>by
  obtain ⟨o,e⟩:=Mut.some (r.trk a ha)
  rw [e]; exact s a o e
noncomputable def dcGo (g:TG3) (tc:TT3) (tk te:TU) (ρ0:Ev):List D -> List (Key × D) -> (List (Key × D) -> Prop) -> Prop
 | [],acc,Q=>Q acc
 | x :: xs,acc,Q=>g x ρ0 fun ρ1=>tc ρ1 fun b=>Br b (tk ρ1 fun y=>te ρ1 fun d=>∃ k,keyD y = some k /\ imm d = true /\ dcGo g tc tk te ρ0 xs (putD acc k d) Q) (dcGo g tc tk te ρ0 xs acc Q)
noncomputable def uDC (cap:List (Option Nat)) (ui:TIU) (g:TG3) (tc:TT3) (tk te:TU):TU:=fun ρ Q=>ui ρ fun xs=>xs.length < sizeLine /\ dcGo g tc tk te (capE cap ρ) xs [] fun ds=>Q (.dic ds)
theorem dc3 {K:PySem.W.Frag} {cap:List (Option Nat)} {g3:TG3} {tc3:TT3} {tk3 te3:TU} {fk fv:Fl} {J:It} {g:TG} {tc:TT} {tk te:TE} {xs:List D} {C:List Addr} {ρ:Ev} {σ:St} {G:Ent} {H1:Hp} {fa:Nat -> List Addr} {Q:List (Key × D) -> Prop} {R:VK}
  (hg:∀ (G:Ent) (ρ:Ev) (σ:St) (H:Hp) (fa:Nat -> List Addr) (v:V) (d:D) (B:List Addr) (Q:Ev -> Prop) (R:St -> Hp -> Prop),G.cl = capB cap -> E3 K G ρ σ H fa -> Rep K H v d B -> (∀ i,G.own i -> ∀ a ∈ B,a ∉ fa i) -> g3 d ρ Q ->
   (∀ σ' ρ' fa',E3 K G ρ' σ' H fa' -> (∀ i,G.own i -> fa' i = fa i /\ σ'[i]? = σ[i]?) -> (∀ i,G.own i -> ρ'[i]? = ρ[i]?) -> Q ρ' -> R σ' H) -> g v σ H R)
  (hc:∀ (G:Ent) (ρ:Ev) (σ:St) (H:Hp) (fa:Nat -> List Addr) (Q:Bool -> Prop) (R:Bool -> Hp -> Prop),G.cl = capB cap -> E3 K G ρ σ H fa -> tc3 ρ Q -> (∀ b H',Same H H' -> Q b -> R b H') -> tc σ H R)
  (hk:∀ (G:Ent) (ρ:Ev) (σ:St) (H:Hp) (fa:Nat -> List Addr) (Q:D -> Prop) (R:VK),G.cl = capB cap -> E3 K G ρ σ H fa -> tk3 ρ Q -> (∀ v H' d B,Same H H' -> Rep K H' v d B -> FlOk G H fa B fk -> Q d -> R v H') -> tk σ H R)
  (he:∀ (G:Ent) (ρ:Ev) (σ:St) (H:Hp) (fa:Nat -> List Addr) (Q:D -> Prop) (R:VK),G.cl = capB cap -> E3 K G ρ σ H fa -> te3 ρ Q -> (∀ v H' d B,Same H H' -> Rep K H' v d B -> FlOk G H fa B fv -> Q d -> R v H') -> te σ H R)
  (E:E3 K G ρ σ H1 fa) (it:ItOk K J xs C H1) (tr:∀ a ∈ C,H1 a ≠ none) (hn:xs.length < sizeLine) (q:dcGo g3 tc3 tk3 te3 (capE cap ρ) xs [] Q)
  (k:∀ d H' acc ds,Same H1 H' -> H1 d = none -> H' d = some (.dK acc) -> RepK K H' acc ds [] -> Q ds -> R (.ref d) H'):dcW J g tc tk te (capS cap σ) R H1:=by
 intro d hd
 refine ⟨fun i m H=>m = xs.length - i /\ i <= xs.length /\ Same H1 H /\ ∃ acc ds,H d = some (.dK acc) /\ acc.length <= i /\ RepK K H acc ds [] /\ dcGo g3 tc3 tk3 te3 (capE cap ρ) (xs.drop i) ds Q,
  ⟨xs.length,by simp,Nat.zero_le _,Same.upd_new hd,[],[],upd_same,Nat.le_refl _,.nil,q⟩,?_⟩
 rintro i m H ⟨rfl,hle,s1,acc,ds,hacc,hal,rs,q⟩
 have tf:Tf H1 H:=⟨fun b ys h=>s1 _ _ h,fun b o u h=>s1 _ _ h⟩
 have kC:∀ a ∈ C,H a = H1 a:=fun a ha=>by
  obtain ⟨o,eo⟩:=Option.ne_none_iff_exists'.mp (tr a ha)
  rw [eo]; exact s1 a o eo
 by_cases hlt:i < xs.length
 ·right
  obtain ⟨go,yl⟩:=(it H tf kC i).2 _ (List.getElem?_eq_getElem hlt)
  rw [List.drop_eq_getElem_cons hlt] at q
  refine ⟨go,fun y H2 hy=>?_⟩
  obtain ⟨s2,By,rB,sB⟩:=yl y H2 hy
  have E2:=(E.same (s1.trans s2)).comp cap
  refine hg (entC cap) _ _ H2 _ y _ By _ _ rfl E2 rB (fun j hj=>(entC_own hj).elim) q fun σ3 ρ3 fa3 E3' _ _ q3=>?_
  refine hc (entC cap) ρ3 σ3 H2 fa3 _ _ rfl E3' q3 fun b H3 s3 q4=>?_
  have hacc3:H3 d = some (.dK acc):=s3 _ _ (s2 _ _ hacc)
  cases b with
  | false=>
   rw [if_neg Bool.false_ne_true]
   exact ⟨xs.length - (i + 1),by omega,rfl,hlt,(s1.trans s2).trans s3,acc,ds,hacc3,by omega,(rs.same s2).same s3,q4.f rfl⟩
  | true=>
   rw [if_pos rfl]
   refine hk (entC cap) ρ3 σ3 H3 fa3 _ _ rfl (E3'.same s3) (q4.t rfl) fun vk H4 dk Bk s4 rk fok q5=>?_
   refine he (entC cap) ρ3 σ3 H4 fa3 _ _ rfl ((E3'.same s3).same s4) q5 fun v H5 dv Bv s5 rv fo q6=>?_
   obtain ⟨kk,ek,im,q6⟩:=q6
   have hacc5:H5 d = some (.dK acc):=s5 _ _ (s4 _ _ hacc3)
   have s15:Same H1 H5:=(((s1.trans s2).trans s3).trans s4).trans s5
   have st:Stb H5 (upd H5 d (.dK (putK acc kk v))):=⟨fun b ys h=>by
     by_cases e:b = d
     ·subst e; rw [hacc5] at h; cases h
     ·rw [upd_ne e]; exact h,fun b u w' h=>by
     by_cases e:b = d
     ·subst e; rw [hacc5] at h; cases h
     ·rw [upd_ne e]; exact h,fun b h=>by
     by_cases e:b = d
     ·subst e; rw [upd_same] at h; cases h
     ·rw [upd_ne e] at h; exact h⟩
   have rs5:=(((rs.same s2).same s3).same s4).same s5
   have eB:=rv.immA im
   subst eB
   obtain ⟨C',rp,sC⟩:=rs5.put kk rv
   have eC:C' = []:=List.sublist_nil.mp sC
   subst eC
   refine ⟨acc,kk,rep_key rk ek,hacc5,by omega,xs.length - (i + 1),by omega,rfl,hlt,fun b o e=>?_,putK acc kk v,putD ds kk dv,upd_same,by have:=length_putK acc kk v; omega,?_,q6⟩
   ·rw [upd_ne (ne_of_none e hd)]
    exact s15 _ _ e
   ·exact rp.mono st fun a ha=>by cases ha
 ·have ei:i = xs.length:=by omega
  subst ei
  left
  rw [List.drop_length] at q
  refine ⟨(it H tf kC _).1 rfl,k d H acc ds s1 hd hacc rs q⟩
section
variable {X:Cx} {cl:List Cl} {pos:Pos} {f fk fv:Fl} {XN N:List Str} {XS scope:Scope} {cap:List (Option Nat)} {kx vx target iter:Expr} {ifs:List Expr} {ui:TIU} {g3:TG3} {tc3:TT3} {tk3 te3:TU}
theorem s_setDC {i:Nat} {y:Str} {spos py:Pos} (hXN:X.N.Nodup) (hiN:X.N[i]? = some y) (hy:X.env.scope.names.lookup y = some .local) (hci:clOk cl[i]? .fresh i = true)
  (hcap:capOk XN N XS scope cap = true) (hN:X.N = XN) (hS:X.env.scope = XS) (hk:scope.kind = .function) (hcalm:X.calm = true) (hi:PIU X cl target iter f ui)
  (hg:∀ c fp s H,PG3 (cxC X N scope c fp s H) (capB cap) target g3) (hc:∀ c fp s H,PTs3 (cxC X N scope c fp s H) (capB cap) ifs tc3) (hx:∀ c fp s H,PU (cxC X N scope c fp s H) (capB cap) kx fk tk3) (he:∀ c fp s H,PU (cxC X N scope c fp s H) (capB cap) vx fv te3)
  (hsw:swapsWith (.DictComp kx vx [⟨target,iter,ifs,0⟩] scope pos) (some (.Name y py)) spos.line X.env = pure true:=by rfl)
  (hs:∀ x,foldedSetIterable iter X.env x = pure x:=by intro _; rfl):PS3 X cl (.Assign [.Name y py] (.DictComp kx vx [⟨target,iter,ifs,0⟩] scope pos) spos) (sSet i (uDC cap ui g3 tc3 tk3 te3)):=.of <| by
 obtain ⟨wi,pi,hi⟩:=hi.run
 refine ⟨_,ps_lrn <| ps_setDCF (g:=fun c fp s H=>Classical.choose (hg c fp s H).run) (tc:=fun c fp s H=>Classical.choose (hc c fp s H).run) (tk:=fun c fp s H=>Classical.choose (hx c fp s H).run) (te:=fun c fp s H=>Classical.choose (he c fp s H).run) hXN hiN hy hcap hN hS hk hcalm pi
  (fun c fp s H=>(Classical.choose_spec (hg c fp s H).run).1) (fun c fp s H=>(Classical.choose_spec (hc c fp s H).run).1) (fun c fp s H=>(Classical.choose_spec (hx c fp s H).run).1) (fun c fp s H=>(Classical.choose_spec (he c fp s H).run).1) hsw hs,fun G T ρ σ H fa R hG E hu le=>?_⟩
 refine hi G ρ σ H fa _ _ hG E hu fun J H1 xs C s it tr fo q=>fun c fp s' H'=>?_
 refine dc3 (K:=X.K) (Classical.choose_spec (hg c fp s' H').run).2 (Classical.choose_spec (hc c fp s' H').run).2 (Classical.choose_spec (hx c fp s' H').run).2 (Classical.choose_spec (he c fp s' H').run).2 (E.same s) it tr q.1 q.2 fun d H2 acc ds s2 hd hacc rs q2=>⟨d,acc,hacc,fun ep=>?_⟩
 obtain ⟨s3,r⟩:=lrn_new (ep:=ep) s2 hd hacc rs
 exact le.nx _ _ ⟨_,_,(E.same (s.trans s3)).set (Nat.le_of_ble_eq_true q2.1) r (ClOk.of (f:=.fresh) E ⟨by simp,fun a ha=>by cases List.mem_singleton.mp ha; exact s.free hd⟩ (by rw [hG]; exact hci)),q2.2⟩
end
end L3
namespace L3
open PySem PySem.Spec L2
mutual
noncomputable def pyd:D -> PyData
 | .bl b=>.bool b
 | .int i=>.int i
 | .str x=>.str x
 | .tup xs=>.tuple (pyds xs)
 | .lst xs=>.list (pyds xs)
 | .fz xs=>.list (pyds xs)
 | _=>.none
noncomputable def pyds:List D -> List PyData
 | []=>[]
 | x :: xs=>pyd x :: pyds xs
end
mutual
noncomputable def pln:D -> Bool
 | .non=>true
 | .bl _=>true
 | .int _=>true
 | .str _=>true
 | .tup xs=>plns xs
 | .lst xs=>plns xs
 | .fz xs=>plns xs
 | _=>false
noncomputable def plns:List D -> Bool
 | []=>true
 | x :: xs=>pln x && plns xs
end
section
variable {X:Cx} {pins:List (Addr × Obj)} {σ:St} {H:Hp} {s:Shared}
mutual
theorem reads_of (I:Inv X pins σ H s):∀ {v:V} {d:D} {A:List Addr} {u:Value},Rep X.K H v d A -> pln d = true -> RelV v u -> ∃ as,Reads s.heap u (pyd d) as
 | _,_,_,_,.non,_,r=>by cases r; exact ⟨_,.none⟩
 | _,_,_,_,.bl,_,r=>by cases r; exact ⟨_,.bool _⟩
 | _,_,_,_,.int,_,r=>by obtain ⟨t,rfl⟩:=r; exact ⟨_,.int _ t⟩
 | _,_,_,_,.str,_,r=>by obtain ⟨t,rfl⟩:=r; exact ⟨_,.str _ t⟩
 | _,_,_,_,.tup h rs,p,r=>by
  cases r
  obtain ⟨its,rv,⟨o,ho,hc,n,hd⟩,_⟩:=I.tuple (SqT.of h)
  obtain ⟨as,q⟩:=reads_ofs I rs (by simpa [pln] using p) rv
  exact ⟨_,.tuple ho hc hd (by simpa using q)⟩
 | _,_,_,_,.lst h rs,p,r=>by
  cases r
  obtain ⟨its,rv,pl,_⟩:=I.list (SqL.of h)
  obtain ⟨o,ho,hc,n,hd⟩:=pl.isList
  obtain ⟨as,q⟩:=reads_ofs I rs (by simpa [pln] using p) rv
  exact ⟨_,.list ho hc hd (by simpa using q)⟩
 | _,_,_,_,.frz h rs,p,r=>by
  cases r
  obtain ⟨its,rv,pl,_⟩:=I.list h.sq
  obtain ⟨o,ho,hc,n,hd⟩:=pl.isList
  obtain ⟨as,q⟩:=reads_ofs I rs (by simpa [pln] using p) rv
  exact ⟨_,.list ho hc hd (by simpa using q)⟩
 | _,_,_,_,.dic _ _,p,_=>by simp [pln] at p
 | _,_,_,_,.obj _ _,p,_=>by simp [pln] at p
 | _,_,_,_,.st _ _,p,_=>by simp [pln] at p
 | _,_,_,_,.ty,p,_=>by simp [pln] at p
 | _,_,_,_,.adr,p,_=>by simp [pln] at p
theorem reads_ofs (I:Inv X pins σ H s):∀ {v:List V} {d:List D} {A:List Addr} {u:List Value},Reps X.K H v d A -> plns d = true -> Vals v u -> ∃ as,ReadsAll s.heap u (pyds d) as
 | _,_,_,_,.nil,_,r=>by cases r; exact ⟨_,.nil⟩
 | _,_,_,_,.cons h rs,p,r=>by
  cases r with
  | cons a b=>
   simp only [plns,Bool.and_eq_true] at p
   obtain ⟨as,q⟩:=reads_of I h p.1 a
   obtain ⟨bs,q2⟩:=reads_ofs I rs p.2 b
   exact ⟨_,.cons q q2⟩
end
end
mutual
noncomputable def shw:D -> Bool
 | .non=>true
 | .bl _=>true
 | .int i=>decide (i.natAbs < 10 ^ 150)
 | .str x=>x.cps.toList.all fun c=>decide (c < 16 ^ 8)
 | .tup xs=>shws xs
 | .lst xs=>shws xs
 | .fz xs=>shws xs
 | _=>false
noncomputable def shws:List D -> Bool
 | []=>true
 | x :: xs=>shw x && shws xs
end
mutual
theorem shw_pln:∀ d:D,shw d = true -> pln d = true
 | .non,_=>rfl
 | .bl _,_=>rfl
 | .int _,_=>rfl
 | .str _,_=>rfl
 | .tup xs,h=>by rw [pln]; exact shw_plns xs (by simpa [shw] using h)
 | .lst xs,h=>by rw [pln]; exact shw_plns xs (by simpa [shw] using h)
 | .fz xs,h=>by rw [pln]; exact shw_plns xs (by simpa [shw] using h)
 | .dic _,h=>by simp [shw] at h
 | .obj _ _,h=>by simp [shw] at h
 | .st _,h=>by simp [shw] at h
 | .ty _,h=>by simp [shw] at h
 | .adr _,h=>by simp [shw] at h
theorem shw_plns:∀ d:List D,shws d = true -> plns d = true
 | [],_=>rfl
 | x :: xs,h=>by
  simp only [shws,Bool.and_eq_true] at h
  simp only [plns,Bool.and_eq_true]
  exact ⟨shw_pln x h.1,shw_plns xs h.2⟩
end
theorem log150 {i:Int} (h:i.natAbs < 10 ^ 150):i.natAbs.log2 < 1920:=by
 by_cases e:i.natAbs = 0
 ·rw [e]; decide
 ·exact (Nat.log2_lt e).mpr (Nat.lt_of_lt_of_le h (by decide +kernel))
mutual
theorem shw_show:∀ d:D,shw d = true -> (pyd d).showable = true /\ (pyd d).leavesShort 151 = true /\ (pyd d).hasDict = false
 | .non,_=>⟨by simp [pyd,PyData.showable],by simp [pyd,PyData.leavesShort],by simp [pyd,PyData.hasDict]⟩
 | .bl _,_=>⟨by simp [pyd,PyData.showable],by simp [pyd,PyData.leavesShort],by simp [pyd,PyData.hasDict]⟩
 | .int i,h=>by
  have h:i.natAbs < 10 ^ 150:=by simpa [shw] using h
  refine ⟨?_,?_,by simp [pyd,PyData.hasDict]⟩
  ·simp only [pyd,PyData.showable]; exact decide_eq_true (log150 h)
  ·simp only [pyd,PyData.leavesShort,PyData.shown]
   refine decide_eq_true ?_
   rw [ofString_length]
   exact int_text_length_le10 (by decide) h
 | .str x,h=>⟨by simp [pyd,PyData.showable],by simpa [pyd,PyData.leavesShort,shw] using h,by simp [pyd,PyData.hasDict]⟩
 | .tup xs,h=>by
  have:=shw_shows xs (by simpa [shw] using h)
  exact ⟨by simpa [pyd,PyData.showable] using this.1,by simpa [pyd,PyData.leavesShort] using this.2.1,by simpa [pyd,PyData.hasDict] using this.2.2⟩
 | .lst xs,h=>by
  have:=shw_shows xs (by simpa [shw] using h)
  exact ⟨by simpa [pyd,PyData.showable] using this.1,by simpa [pyd,PyData.leavesShort] using this.2.1,by simpa [pyd,PyData.hasDict] using this.2.2⟩
 | .fz xs,h=>by
  have:=shw_shows xs (by simpa [shw] using h)
  exact ⟨by simpa [pyd,PyData.showable] using this.1,by simpa [pyd,PyData.leavesShort] using this.2.1,by simpa [pyd,PyData.hasDict] using this.2.2⟩
 | .dic _,h=>by simp [shw] at h
 | .obj _ _,h=>by simp [shw] at h
 | .st _,h=>by simp [shw] at h
 | .ty _,h=>by simp [shw] at h
 | .adr _,h=>by simp [shw] at h
theorem shw_shows:∀ d:List D,shws d = true -> PyData.showableAll (pyds d) = true /\ PyData.leavesShortAll 151 (pyds d) = true /\ PyData.hasDictAll (pyds d) = false
 | [],_=>⟨by simp [pyds,PyData.showableAll],by simp [pyds,PyData.leavesShortAll],by simp [pyds,PyData.hasDictAll]⟩
 | x :: xs,h=>by
  simp only [shws,Bool.and_eq_true] at h
  have a:=shw_show x h.1
  have b:=shw_shows xs h.2
  exact ⟨by simp [pyds,PyData.showableAll,a.1,b.1],by simp [pyds,PyData.leavesShortAll,a.2.1,b.2.1],by simp [pyds,PyData.hasDictAll,a.2.2,b.2.2]⟩
end
section
variable {X:Cx} {cl:List Cl} {e a b:Expr} {es:List Expr} {f:Fl} {pos:Pos} {ua ub:TU} {ma mb:TM} {fa fb:Fl}
noncomputable def EqOk (d:D):Prop:=pln d = true /\ (pyd d).canLay0 = true /\ (pyd d).depth <= 64
noncomputable def rEqR (X:Cx) (neg:Bool):R2:=fun x y H Q=>∃ d e A B,Rep X.K H x d A /\ Rep X.K H y e B /\ EqOk d /\ EqOk e /\ Q (.bl (ng neg (PyData.eqv (pyd d) (pyd e)))) H
theorem op_eqR {k:Nat} (hr:Room k X.A):OpR X (compareOp .Eq) (rEqR X false):=by
 intro pins s σ H x y v u Q I rx ry h
 obtain ⟨d,e,A,B,r1,r2,o1,o2,q⟩:=h
 obtain ⟨as,rd⟩:=reads_of I r1 o1.1 rx
 obtain ⟨bs,re⟩:=reads_of I r2 o2.1 ry
 have hu:=hr.units
 exact PySem.SeqAt.compareEq_shaped rd re (by unfold PySem.SeqAt.shaped; rw [o1.2.1,decide_eq_true o1.2.2]; rfl) (by unfold PySem.SeqAt.shaped; rw [o2.2.1,decide_eq_true o2.2.2]; rfl) hu ⟨.bl _,H,I,rfl,q⟩
noncomputable def gEqR (neg:Bool):D -> D -> (D -> Prop) -> Prop:=fun d e Q=>EqOk d /\ EqOk e /\ Q (.bl (ng neg (PyData.eqv (pyd d) (pyd e))))
theorem o_eqR {neg:Bool}:Op3 X (rEqR X neg) (gEqR neg):=by
 intro H v w d e A B Q R r1 r2 q k
 exact ⟨d,e,A,B,r1,r2,q.1,q.2.1,k _ H _ _ (Same.refl H) .bl List.nodup_nil (fun _ h=>(by cases h)) q.2.2⟩
end
end L3
namespace L2
open PySem PySem.Spec PySem.Builtin PySem.Builtin.Str PyProof.Rows
section
variable {X:Cx}
variable {e:Expr} {es:List Expr} {te:TE} {pos:Pos}
end
end L2
namespace L3
open PySem PySem.Spec L2
section
variable {X:Cx} {cl:List Cl} {e a b:Expr} {es:List Expr} {f:Fl} {pos:Pos} {ua ub:TU} {ma mb:TM} {fa fb:Fl}
end
end L3
namespace L2
open PySem PySem.Spec PyProof.Rows
section
variable {X:Cx}
noncomputable def rIxD:R2:=fun x y H Q=>∃ a v,x = .ref a /\ DGet H a y (some v) /\ Q v H
theorem ix_dict (hu:X.A.units + 1 < cLine):IxR X rIxD:=by
 intro value slice pins s σ H x y v u Q I rx ry h hs
 obtain ⟨a,z,rfl,g,q⟩:=h
 cases rx
 exact tail_any (dict_typeIs I g) PySem.F.slot_dict_getitem.lookup (d_getItem hu I g ry fun w' s3 I3 rw'=>⟨z,H,I3,rw',q⟩) hs
noncomputable def rDIn (neg:Bool):R2:=fun y x H Q=>∃ a o,x = .ref a /\ DGet H a y o /\ Q (.bl (match neg with | true=>!o.isSome | false=>o.isSome)) H
theorem op_din (hu:X.A.units + 1 < cLine):OpR X (compareOp .In) (rDIn false):=by
 intro pins s σ H x y v u Q I rx ry h
 obtain ⟨a,o,rfl,g,q⟩:=h
 cases ry
 exact d_in hu I g rx fun s3 I3=>⟨.bl o.isSome,H,I3,rfl,q⟩
end
end L2
namespace L3
open PySem PySem.Spec L2
section
variable {X:Cx} {cl:List Cl} {e a b tg:Expr} {es:List Expr} {f:Fl} {pos:Pos} {ua ub:TU} {ma mb:TM} {fa fb:Fl}
noncomputable def gAddA:D -> D -> (D -> Prop) -> Prop:=fun d e Q=>match d,e with
 | .int i,.int j=>Q (.int (i + j))
 | .str i,.str j=>i.length + j.length <= sizeLine /\ Q (.str (i ++ j))
 | .lst xs,.lst ys=>imms xs = true /\ imms ys = true /\ xs.length + ys.length <= sizeLine /\ Q (.lst (xs ++ ys))
 | .tup xs,.tup ys=>imms xs = true /\ imms ys = true /\ xs.length + ys.length <= sizeLine /\ Q (.tup (xs ++ ys))
 | _,_=>False
noncomputable abbrev rAddS:R2:=fun x y H Q=>∃ i j,x = .str i /\ y = .str j /\ i.length + j.length <= sizeLine /\ Q (.str (i ++ j)) H
noncomputable def rAddA:R2:=fun x y H Q=>(rI0 fun i j=>.int (i + j)) x y H Q \/ rAddS x y H Q \/ rCat x y H Q \/ rCatA x y H Q
theorem op_addA:OpR X (binaryOp .Add) rAddA:=op_add.or (op_add_str.or (op_cat.or op_catA))
theorem o_addA:Op3 X rAddA gAddA:=by
 intro H v w d e A B Q R r1 r2 q k
 cases d <;> cases e <;> first | exact (show False from q).elim | skip
 ·exact .inl (o_int0 H v w _ _ A B Q R r1 r2 q k)
 ·exact .inr (.inl (o_str H v w _ _ A B Q R r1 r2 q k))
 ·exact .inr (.inr (.inr (o_catT H v w _ _ A B Q R r1 r2 q k)))
 ·exact .inr (.inr (.inl (o_cat H v w _ _ A B Q R r1 r2 q k)))
theorem pu_addA (ha:PU X cl a fa ua) (hb:PU X cl b fb ub):PU X cl (.BinOp a .Add b pos) .fresh (uOp gAddA ua ub):=pu_op op_addA o_addA ha hb
theorem pm_addA (ha:PN X cl a ma) (hb:PN X cl b mb):PM X cl (.BinOp a .Add b pos) (mOp gAddA ma mb):=pm_op op_addA o_addA ha hb
noncomputable def gMulA:D -> D -> (D -> Prop) -> Prop:=fun d e Q=>match d,e with
 | .int i,.int j=>CMul i j /\ Q (.int (i * j))
 | .str z,.int n=>MulOk z n /\ Q (.str (Txt.mul z n))
 | .lst xs,.int n=>imms xs = true /\ -(2 ^ 63) <= n /\ n < 2 ^ 63 /\ xs.length * n.toNat <= sizeLine /\ Q (.lst (List.replicate n.toNat xs).flatten)
 | _,_=>False
noncomputable abbrev rMulS:R2:=fun x y H Q=>∃ z n,x = .str z /\ y = .int n /\ MulOk z n /\ Q (.str (Txt.mul z n)) H
noncomputable def rMulA:R2:=fun x y H Q=>(rI CMul fun i j=>.int (i * j)) x y H Q \/ rMulS x y H Q \/ rRep x y H Q
theorem op_mulA:OpR X (binaryOp .Mult) rMulA:=op_mul.or (op_mulS.or op_rep)
theorem reps_flat {K:PySem.W.Frag} {H:Hp} {vs:List V} {xs:List D} (r:Reps K H vs xs []):∀ n:Nat,Reps K H (List.replicate n vs).flatten (List.replicate n xs).flatten []
 | 0=>.nil
 | n + 1=>by
  rw [List.replicate_succ,List.replicate_succ,List.flatten_cons,List.flatten_cons]
  exact r.append (reps_flat r n)
theorem o_mulA:Op3 X rMulA gMulA:=by
 intro H v w d e A B Q R r1 r2 q k
 cases d <;> cases e <;> first | exact (show False from q).elim | skip
 ·exact .inl (o_int H v w _ _ A B Q R r1 r2 q k)
 ·exact .inr (.inl (o_mulS H v w _ _ A B Q R r1 r2 q k))
 ·obtain ⟨im,h1,h2,h3,q⟩:=q
  obtain ⟨p,vs,B1,rfl,hp,rs,_⟩:=rep_lst r1
  cases rep_int r2
  have eB:=rs.immA im
  subst eB
  refine .inr (.inr ⟨p,_,vs,rfl,rfl,hp,h1,h2,by rw [rs.length]; exact h3,fun l hl=>k _ _ (.lst _) [l] (Same.upd_new hl) (.lst upd_same ((reps_flat rs _).same (Same.upd_new hl))) (by simp) (fun a ha=>?_) q⟩)
  have:a = l:=by simpa using ha
  rw [this]; exact hl
theorem pu_mulA (ha:PU X cl a fa ua) (hb:PU X cl b fb ub):PU X cl (.BinOp a .Mult b pos) .fresh (uOp gMulA ua ub):=pu_op op_mulA o_mulA ha hb
noncomputable def gEqA (neg:Bool):D -> D -> (D -> Prop) -> Prop:=fun d e Q=>match flatD d && flatD e with
 | true=>gEq neg d e Q
 | false=>gEqR neg d e Q
theorem o_eqA {neg:Bool} {r:R2} (o:Op3 X r (gEq neg)):Op3 X (fun x y H Q=>r x y H Q \/ rEqR X neg x y H Q) (gEqA neg):=by
 intro H v w d e A B Q R r1 r2 q k
 unfold gEqA at q
 split at q
 ·exact .inl (o H v w d e A B Q R r1 r2 q k)
 ·exact .inr (o_eqR H v w d e A B Q R r1 r2 q k)
section
variable {kr:Nat} (hr:Room kr X.A)
include hr
theorem tt_eqA (ha:PU X cl a fa ua) (hb:PU X cl b fb ub) (hm:behindInMarks .Eq b = false):PT3 X cl (.Compare a [.Eq] [b] pos) (uT (uOp (gEqA false) ua ub)):=tt_cmp (op_eq.or (op_eqR hr)) (o_eqA o_eq) ha hb hm
theorem tm_eqA (ha:PN X cl a ma) (hb:PN X cl b mb) (hm:behindInMarks .Eq b = false):PTM X cl (.Compare a [.Eq] [b] pos) (mT (mOp (gEqA false) ma mb)):=tm_cmp (op_eq.or (op_eqR hr)) (o_eqA o_eq) ha hb hm
noncomputable def gInA (neg:Bool):D -> D -> (D -> Prop) -> Prop:=fun d e Q=>match e with
 | .dic kvs=>∃ k,keyD d = some k /\ Q (.bl (ng neg (valD kvs k).isSome))
 | _=>gIn neg d e Q
end
theorem o_inA {neg:Bool}:Op3 X (fun x y H Q=>rIn X.K neg x y H Q \/ rDIn neg x y H Q) (gInA neg):=by
 intro H v w d e A B Q R r1 r2 q k
 cases e with
 | dic kvs=>
  obtain ⟨j,hk,q⟩:∃ k,keyD d = some k /\ Q (.bl (ng neg (valD kvs k).isSome)):=q
  obtain ⟨p,vs,B',rfl,hp,rs,rfl⟩:=rep_dic r2
  cases rep_key r1 hk
  have hv:=rs.val j
  refine .inr ?_
  cases ev:valD kvs j with
  | none=>
   rw [ev] at q
   exact ⟨p,none,rfl,(by have:=DGet.k (k:=j) hp; rwa [hv.2 ev] at this),k _ H _ _ (Same.refl H) .bl List.nodup_nil (fun _ h=>(by cases h)) (by cases neg <;> exact q)⟩
  | some z=>
   rw [ev] at q
   obtain ⟨u,C,e1,r3,s3⟩:=hv.1 z ev
   exact ⟨p,some u,rfl,(by have:=DGet.k (k:=j) hp; rwa [e1] at this),k _ H _ _ (Same.refl H) .bl List.nodup_nil (fun _ h=>(by cases h)) (by cases neg <;> exact q)⟩
 | _=>exact .inl (o_in H v w _ _ A B Q R r1 r2 q k)
noncomputable def gIxA:D -> D -> (D -> Prop) -> Prop:=fun d y Q=>match d with
 | .dic kvs=>∃ k v,keyD y = some k /\ valD kvs k = some v /\ Q v
 | _=>gIx d y Q
theorem rIxA_of {v w:V} {H:Hp} {d e:D} {A B:List Addr} {Q:D -> Prop} {R:VK} (r1:Rep X.K H v d A) (r2:Rep X.K H w e B) (q:gIxA d e Q) (k:∀ x z C,Rep X.K H x z C -> C.Sublist A -> Q z -> R x H):rIx X.K v w H R \/ rIxD v w H R:=by
 cases d with
 | dic kvs=>
  obtain ⟨a,u,z,C,e1,g,r3,s3,q3⟩:=dget_of r1 r2 (show gDGet (.dic kvs) e Q from q)
  exact .inr ⟨a,u,e1,g,k u z C r3 s3 q3⟩
 | _=>exact .inl (rIx_of r1 r2 q k)
noncomputable def uIxA (ua ub:TU):TU:=fun ρ Q=>ua ρ fun x=>ub ρ fun y=>gIxA x y Q
theorem pu_ixA (hu:X.A.units + 1 < cLine) (ha:PU X cl a fa ua) (hb:PU X cl b fb ub) (hs:PlainIx b):PU X cl (.Subscript a b pos) fa (uIxA ua ub):=.of <| by
 obtain ⟨ta,tb,pa,pb,h⟩:=u2 ha hb
 refine ⟨_,pe_ix (ix_seq.or (ix_dict hu)) pa pb hs,fun G ρ σ H fo Q R hG E hq k=>?_⟩
 refine h G ρ σ H fo _ _ hG E hq fun v w H' d e A B s r1 r2 f1 f2 q=>?_
 exact rIxA_of r1 r2 q fun x z C r sb q2=>k x H' z C s r (f1.sub sb) q2
noncomputable def mIxA (ma mb:TM):TM:=fun ρ Q=>ma ρ fun x ρ1=>mb ρ1 fun y ρ2=>gIxA x y fun d=>Q d ρ2
theorem pn_ixA (hu:X.A.units + 1 < cLine) (ha:PN X cl a ma) (hb:PN X cl b mb) (hs:PlainIx b):PN X cl (.Subscript a b pos) (mIxA ma mb):=.of <| by
 obtain ⟨ta,tb,pa,pb,h⟩:=m2 ha hb
 refine ⟨_,pe_ix (ix_seq.or (ix_dict hu)) pa pb hs,fun G ρ σ H fo Q R hG E hq k=>?_⟩
 refine h G ρ σ H fo _ _ hG E hq fun v w H' d e A B ρ' fa' E' c r1 r2 n1 _ q=>?_
 exact rIxA_of r1 r2 q fun x z C r s q2=>k x H' z C ρ' fa' E' c r (fun i hi a ha=>n1 i hi a (s.mem ha)) q2
end
end L3
namespace L3
open PySem PySem.Spec L2
section
variable {X:Cx} {cl:List Cl} {e a b tg:Expr} {es:List Expr} {f:Fl} {pos:Pos} {ua ub:TU} {ma mb:TM} {fa fb:Fl}
noncomputable def uSlA (ua:TU) (lo hi:TO3):TU:=fun ρ Q=>ua ρ fun d=>lo ρ fun l=>hi ρ fun h=>match d with
 | .tup xs=>imms xs = true /\ Q (.tup (cutD xs l h))
 | .lst xs=>imms xs = true /\ Q (.lst (cutD xs l h))
 | .fz xs=>imms xs = true /\ Q (.lst (cutD xs l h))
 | _=>False
theorem pu_slA {lo hi:Option Expr} {ul uh:TO3} {p2:Pos} (ha:PU X cl a fa ua) (hl:PO3 X cl lo ul) (hh:PO3 X cl hi uh):PU X cl (.Subscript a (.Slice lo hi none p2) pos) .fresh (uSlA ua ul uh):=.of <| by
 obtain ⟨ta,pa,ha⟩:=ha.run
 obtain ⟨tl,pl,hl⟩:=hl.run
 obtain ⟨th,ph,hh⟩:=hh.run
 refine ⟨_,pe_slice (sl_list.or sl_any) pa pl ph,fun G ρ σ H fo Q R hG E hu k=>ha G ρ σ H fo _ _ hG E hu fun v H1 d A s1 r1 f1 q1=>hl G ρ σ H1 fo _ _ hG (E.same s1) q1 fun o1 H2 s2 q2=>hh G ρ σ H2 fo _ _ hG (E.same (s1.trans s2)) q2 fun o2 H3 s3 q3=>?_⟩
 have s13:=(s1.trans s2).trans s3
 have lists:∀ {xs:List D},kindB false d = some xs -> imms xs = true -> Q (.lst (cutD xs o1 o2)) -> rSlL X.K v o1 o2 H3 R:=fun {xs} e1 im q=>by
  obtain ⟨p,vs,B,rfl,hq,rs,_⟩:=rep_sqL ((r1.same s2).same s3) e1
  have eB:=rs.immA im
  subst eB
  refine ⟨p,vs,rfl,hq,fun l hl=>?_⟩
  obtain ⟨B,sB,rc⟩:=rs.cut (HT.sIx xs.length 0 o1) (HT.sIx xs.length xs.length o2 - HT.sIx xs.length 0 o1)
  have eB:B = []:=List.sublist_nil.mp sB
  subst eB
  refine k _ _ _ [l] (s13.trans (Same.upd_new hl)) (.lst upd_same ?_) ⟨by simp,fun a ha=>?_⟩ q
  ·have rc2:Reps X.K H3 (cutV vs o1 o2) (cutD xs o1 o2) []:=by
    unfold cutV cutD
    rw [rs.length]
    exact rc
   exact rc2.same (Same.upd_new hl)
  ·have:a = l:=by simpa using ha
   rw [this]; exact s13.free hl
 cases d <;> first | exact (show False from q3).elim | skip
 ·rename_i xs
  obtain ⟨im,q3⟩:=q3
  obtain ⟨p,vs,rfl,hq,rs⟩:=rep_tup ((r1.same s2).same s3)
  have eB:=rs.immA im
  subst eB
  refine .inr ⟨p,vs,rfl,hq,fun r H4 s4 hr=>?_⟩
  obtain ⟨B,sB,rc⟩:=rs.cut (HT.sIx xs.length 0 o1) (HT.sIx xs.length xs.length o2 - HT.sIx xs.length 0 o1)
  have eB:B = []:=List.sublist_nil.mp sB
  subst eB
  refine k _ _ (.tup (cutD xs o1 o2)) [] (s13.trans s4) (.tup hr ?_) (FlOk.nil _) q3
  have rc':=rc.same s4
  unfold cutV cutD
  rw [rs.length]
  exact rc'
 ·exact .inl (lists rfl q3.1 q3.2)
 ·exact .inl (lists rfl q3.1 q3.2)
end
end L3
namespace L3
open PySem PySem.Spec L2
end L3
namespace L2
open PySem PySem.Spec PySem.Builtin PySem.Builtin.Str PyProof.Rows
section
variable {X:Cx}
noncomputable def rIsB (neg:Bool):R2:=fun x y H Q=>∃ b,y = .bl b /\ Q (.bl (match neg with | true=>!decide (x = .bl b) | false=>decide (x = .bl b))) H
noncomputable def Its (x:Str):It:=⟨fun i _=>i < x.cps.size,fun i H v H'=>H' = H /\ ∃ c,x.cps[i]? = some c /\ v = .str ⟨#[c]⟩,fun i _=>i = x.cps.size⟩
theorem turn_str {P:Program} {w:World} {K:PySem.W.Frag} {tg:Expr} {x:Str} {ty:String} {t:Tok} (it:Addr)
  (W:∀ A:Around,A.handled = none -> Walks P w A it [it] [it] x.cps.size (SignAt x) (fun i h=>h.IsStrIter it ty x t i)) (hne:["enumerate", "zip", "dict_itemiterator", "dict_reverseitemiterator", "odict_iterator", "itertools.zip_longest", "itertools.pairwise"].contains ty = false)
  (hs:∀ (A:Around) (i:Nat) (s:Shared) (Q:Value -> Shared -> Prop) (E:Value -> Shared -> Prop),s.heap.IsStrIter it ty x t i -> Q (.ref it) s -> wpAny (model P w) A (pyIter (.ref it)) Q E s):Turn P w K tg (Its x) [it] it (fun i h=>h.IsStrIter it ty x t i) where
 mem:=by simp
 obj:=fun i h st b hb=>by
  have e:b = it:=by simpa using hb
  subst e
  obtain ⟨o,e,c,d⟩:=st
  exact ⟨o,e,fun v z=>by rw [d] at z; cases z⟩
 keep:=fun i h h' st k=>let ⟨o,ho,r⟩:=st; ⟨o,k it (by simp) o ho,r⟩
 item:=by
  intro X hP hw hK hc i pins s σ H E I hf st hg
  subst hP hw hK
  obtain ⟨f0,f1,f2,f3,f4,f5⟩:=hf it (by simp)
  refine (W X.A (I.ok.hd hc)).item i s _ _ hg st fun v h' tk hv st' kk=>?_
  obtain ⟨c,u,hx,rfl⟩:=hv
  have I1:Inv X pins σ H { s with heap:=h',toks:=tk }:=I.turned (fun b o hb e=>kk b o (by simpa using hb) e) f0 f1 f3 f4 f5
  obtain ⟨o,e,cc,d⟩:=id st'
  exact ⟨_,rfl,go_of (s:={ s with heap:=h',toks:=tk }) e cc d hne ⟨.str ⟨#[c]⟩,H,I1,⟨u,rfl⟩,⟨rfl,c,hx,rfl⟩,st',fun b hb=>(hf b hb).1⟩⟩
 done:=by
  intro X hP hw hK hc i pins s σ H E I hf st hg
  subst hP hw hK
  obtain ⟨f0,f1,f2,f3,f4,f5⟩:=hf it (by simp)
  have hg:i = x.cps.size:=hg
  subst hg
  exact (W X.A (I.ok.hd hc)).done s _ _ st fun h' tk kk=>⟨rfl,I.turned (fun b o hb e=>kk b o (by simpa using hb) e) f0 f1 f3 f4 f5⟩
 self:=hs
noncomputable def iAny (K:PySem.W.Frag) (tl:TE):TI:=fun σ H R=>tl σ H fun x H1=>(∃ z,x = .str z /\ R (Its z) H1) \/ ∃ a,x = .ref a /\ ((∃ xs,SqL K H1 a xs /\ R (Itl K a) H1) \/ ∃ xs,SqT K H1 a xs /\ R (Itt K a) H1)
theorem pi_any {tg l:Expr} {tl:TE} (hl:PE X l tl):PI X tg l (iAny X.K tl):=.of fun pins s σ H R I q=>by
 refine thn (hl pins s σ H _ I q) fun v s1 ⟨x,H1,I1,r1,q1⟩=>?_
 rcases q1 with ⟨z,rfl,q⟩ | ⟨a,rfl,q1⟩
 ·obtain ⟨t,rfl⟩:=r1
  have fp:∀ b ∈ [s1.heap.objs.size],FpOk X pins H1 b:=fun b hb=>by
   have e:b = s1.heap.objs.size:=by simpa using hb
   subst e
   exact I1.fpOk (Nat.le_refl _) (I1.hok.fresh (Nat.le_refl _))
  cases ha:z.cps.all (· < 128)
  ·exact wpAny_pyIter_wide ha ⟨s1.heap.objs.size,[s1.heap.objs.size],_,_,H1,rfl,I1.kept (t':=s1.toks) fun b o e=>Heap.get?_push_of_some _ e,turn_str (t:=t) _ (fun A hA=>Walks.strWide hA _ z t) (by decide) (fun A i s Q E st h=>wpAny_pyIter_striter_wide st h),⟨_,Heap.get?_push_size _ rfl,rfl,rfl⟩,fp,q⟩
  ·exact wpAny_pyIter_ascii ha ⟨s1.heap.objs.size,[s1.heap.objs.size],_,_,H1,rfl,I1.kept (t':=s1.toks) fun b o e=>Heap.get?_push_of_some _ e,turn_str (t:=t) _ (fun A hA=>Walks.strAscii hA _ z t) (by decide) (fun A i s Q E st h=>wpAny_pyIter_striter_ascii st h),⟨_,Heap.get?_push_size _ rfl,rfl,rfl⟩,fp,q⟩
 ·cases r1
  rcases q1 with ⟨xs,hq,q⟩ | ⟨xs,hq,q⟩
  ·obtain ⟨its,rv,p,hz⟩:=I1.list hq
   refine wpAny_pyIter_list p.isList ?_
   refine ⟨s1.heap.objs.size,[s1.heap.objs.size],_,_,H1,rfl,I1.kept (t':=s1.toks) fun b o e=>Heap.get?_push_of_some _ e,turn_list a _,⟨_,Heap.get?_push_size _ rfl,rfl,rfl⟩,fun b hb=>?_,q⟩
   have e:b = s1.heap.objs.size:=by simpa using hb
   subst e
   exact I1.fpOk (Nat.le_refl _) (I1.hok.fresh (Nat.le_refl _))
  ·obtain ⟨its,rv,p,hz⟩:=I1.tuple hq
   refine wpAny_pyIter_tuple (show s1.heap.IsTuple a its.toArray from p) ?_
   refine ⟨s1.heap.objs.size,[s1.heap.objs.size],_,_,H1,rfl,I1.kept (t':=s1.toks) fun b o e=>Heap.get?_push_of_some _ e,turn_tuple a _,⟨_,Heap.get?_push_size _ rfl,rfl,rfl⟩,fun b hb=>?_,q⟩
   have e:b = s1.heap.objs.size:=by simpa using hb
   subst e
   exact I1.fpOk (Nat.le_refl _) (I1.hok.fresh (Nat.le_refl _))
end
end L2
namespace L2
open PySem PySem.Spec PyProof.Rows
section
variable {X:Cx}
theorem beq_bool {x:V} {v:Value} (r:RelV x v) (b:Bool):(v == .bool b) = decide (x = .bl b):=by
 cases x <;> first
  | (cases r; first | rfl | (rename_i c; cases b <;> cases c <;> rfl))
  | (obtain ⟨t,rfl⟩:=r; rfl)
theorem op_isB:OpR X (compareOp .Is) (rIsB false):=by
 intro pins s σ H x y v u Q I rx ry h
 obtain ⟨b,rfl,q⟩:=h
 cases ry
 have f:EP X pins σ Q (.bool (v == .bool b)) s:=⟨.bl _,H,I,by rw [beq_bool rx]; rfl,q⟩
 cases x <;> first
  | (cases rx; exact wpAny_pure f)
  | (obtain ⟨t,rfl⟩:=rx; exact wpAny_pure f)
theorem op_isntB:OpR X (compareOp .IsNot) (rIsB true):=by
 intro pins s σ H x y v u Q I rx ry h
 obtain ⟨b,rfl,q⟩:=h
 cases ry
 have f:EP X pins σ Q (.bool (!(v == .bool b))) s:=⟨.bl _,H,I,by rw [beq_bool rx]; rfl,q⟩
 cases x <;> first
  | (cases rx; exact wpAny_pure f)
  | (obtain ⟨t,rfl⟩:=rx; exact wpAny_pure f)
end
end L2
namespace L3
open PySem PySem.Spec L2
section
variable {X:Cx} {cl:List Cl} {e a b tg:Expr} {es:List Expr} {f:Fl} {pos:Pos} {ua ub uc:TU} {ma mb:TM} {fa fb fc:Fl}
noncomputable def isBl (d:D) (b:Bool):Bool:=match d with
 | .bl c=>c == b
 | _=>false
noncomputable def gIsA (neg:Bool):D -> D -> (D -> Prop) -> Prop:=fun d e Q=>match e with
 | .non=>Q (.bl (ng neg (isNon d)))
 | .bl b=>Q (.bl (ng neg (isBl d b)))
 | _=>False
theorem rep_isB {K:PySem.W.Frag} {H:Hp} {v:V} {d:D} {A:List Addr} (h:Rep K H v d A) (b:Bool):decide (v = .bl b) = isBl d b:=by
 cases h <;> first | (simp [isBl]; done) | skip
 rename_i c
 cases b <;> cases c <;> rfl
noncomputable abbrev rIsN:R2:=fun x y H Q=>y = .non /\ Q (.bl (decide (x = .non))) H
noncomputable abbrev rIsntN:R2:=fun x y H Q=>y = .non /\ Q (.bl (!decide (x = .non))) H
theorem o_isA:Op3 X (fun x y H Q=>rIsN x y H Q \/ rIsB false x y H Q) (gIsA false):=by
 intro H v w d e A B Q R r1 r2 q k
 cases e <;> first | exact (show False from q).elim | skip
 ·exact .inl (o_is H v w d .non A B Q R r1 r2 q k)
 ·cases rep_bl r2
  refine .inr ⟨_,rfl,?_⟩
  show R (.bl (decide (v = .bl _))) H
  rw [rep_isB r1]
  exact k _ H _ _ (Same.refl H) .bl List.nodup_nil (fun _ h=>(by cases h)) q
theorem o_isntA:Op3 X (fun x y H Q=>rIsntN x y H Q \/ rIsB true x y H Q) (gIsA true):=by
 intro H v w d e A B Q R r1 r2 q k
 cases e <;> first | exact (show False from q).elim | skip
 ·exact .inl (o_isnt H v w d .non A B Q R r1 r2 q k)
 ·cases rep_bl r2
  refine .inr ⟨_,rfl,?_⟩
  show R (.bl (!decide (v = .bl _))) H
  rw [rep_isB r1]
  exact k _ H _ _ (Same.refl H) .bl List.nodup_nil (fun _ h=>(by cases h)) q
theorem pu_isA (ha:PU X cl a fa ua) (hb:PU X cl b fb ub) (hm:behindInMarks .Is b = false):PU X cl (.Compare a [.Is] [b] pos) .fresh (uOp (gIsA false) ua ub):=pu_cmp (op_isN.or op_isB) o_isA ha hb hm
theorem tt_isntA (ha:PU X cl a fa ua) (hb:PU X cl b fb ub) (hm:behindInMarks .IsNot b = false):PT3 X cl (.Compare a [.IsNot] [b] pos) (uT (uOp (gIsA true) ua ub)):=tt_cmp (op_notN.or op_isntB) o_isntA ha hb hm
noncomputable def inS (x y:Str):Bool:=!(Builtin.Str.occurrences x y 0 x.length 1).isEmpty
noncomputable def gInB (neg:Bool):D -> D -> (D -> Prop) -> Prop:=fun d e Q=>match e with
 | .str z=>(match d with | .str y=>Q (.bl (ng neg (inS z y))) | _=>False)
 | _=>gInA neg d e Q
noncomputable abbrev rInS (neg:Bool):R2:=fun x y H Q=>∃ i j,x = .str i /\ y = .str j /\ Q (.bl (ng neg (inS j i))) H
theorem op_inS:OpR X (compareOp .In) (rInS false):=op_in_str
theorem o_inB {neg:Bool}:Op3 X (fun x y H Q=>(rIn X.K neg x y H Q \/ rDIn neg x y H Q) \/ rInS neg x y H Q) (gInB neg):=by
 intro H v w d e A B Q R r1 r2 q k
 cases e with
 | str z=>
  cases d <;> first | exact (show False from q).elim | skip
  cases rep_str r1; cases rep_str r2
  exact .inr ⟨_,_,rfl,rfl,k _ H _ _ (Same.refl H) .bl List.nodup_nil (fun _ h=>(by cases h)) q⟩
 | _=>exact .inl (o_inA H v w _ _ A B Q R r1 r2 q k)
theorem tt_inB (hu:X.A.units + 1 < cLine) (ha:PU X cl a fa ua) (hb:PU X cl b fb ub) (hm:behindInMarks .In b = false):PT3 X cl (.Compare a [.In] [b] pos) (uT (uOp (gInB false) ua ub)):=tt_cmp ((op_in_seq.or (op_din hu)).or op_inS) o_inB ha hb hm
noncomputable def sgnD (z:Str):List D:=z.cps.toList.map fun c=>.str ⟨#[c]⟩
noncomputable def seqB (u:TU):TIU:=fun ρ Q=>u ρ fun d=>match d with
 | .lst xs=>Q xs
 | .fz xs=>Q xs
 | .tup xs=>Q xs
 | .str z=>Q (sgnD z)
 | _=>False
theorem itS {K:PySem.W.Frag} {H:Hp} (z:Str):ItOk K (Its z) (sgnD z) [] H:=fun H' tf k i=>by
 refine ⟨fun hl=>?_,fun d e=>?_⟩
 ·show i = z.cps.size
  rw [<- hl]; simp [sgnD]
 ·unfold sgnD at e
  rw [List.getElem?_map] at e
  cases ec:z.cps.toList[i]? with
  | none=>rw [ec] at e; cases e
  | some c=>
   rw [ec] at e
   cases e
   have hi:i < z.cps.size:=by
    have:=(List.getElem?_eq_some_iff.mp ec).1
    simpa using this
   have ec':z.cps[i]? = some c:=by simpa using ec
   refine ⟨hi,fun x H2 hy=>?_⟩
   obtain ⟨rfl,c',e',rfl⟩:=hy
   rw [ec'] at e'
   cases e'
   exact ⟨Same.refl _,[],.str,List.nil_sublist _⟩
theorem i_seqB (h:PU X cl e f ua):PIU X cl tg e f (seqB ua):=.of <| by
 obtain ⟨t,p,h⟩:=h.run
 refine ⟨_,pi_any p,fun G ρ σ H fa Q R hG E hq k=>h G ρ σ H fa _ _ hG E hq fun v H' d B s r fo q=>?_⟩
 cases d <;> first | exact (show False from q).elim | skip
 ·cases rep_str r
  exact .inl ⟨_,rfl,k _ H' _ [] s (itS _) (fun a ha=>by cases ha) (FlOk.nil _) q⟩
 ·obtain ⟨p,vs,rfl,hp,rs⟩:=rep_tup r
  exact .inr ⟨p,rfl,.inr ⟨vs,SqT.of hp,k _ H' _ _ s (itT hp rs) rs.there fo q⟩⟩
 ·have r0:=r
  obtain ⟨p,vs,C,rfl,hp,rs,rfl⟩:=rep_lst r
  exact .inr ⟨p,rfl,.inl ⟨vs,SqL.of hp,k _ H' _ _ s (itL hp rs) (fun a ha=>r0.there ha) fo q⟩⟩
 ·obtain ⟨p,vs,rfl,hp,rs⟩:=rep_fz r
  exact .inr ⟨p,rfl,.inl ⟨vs,hp.sq,k _ H' _ _ s (itF hp rs) rs.there fo q⟩⟩
end
end L3
namespace L2
open PySem PySem.Spec PyProof.Rows
end L2
namespace L3
open PySem PySem.Spec L2
section
variable {X:Cx} {cl:List Cl} {e a b tg:Expr} {es:List Expr} {f:Fl} {pos:Pos} {ua ub uc:TU} {ma mb:TM} {fa fb fc:Fl}
end
end L3
namespace My
open PySem L2 L3
theorem atI0 {α:Type} (x:α) (xs:List α):atI (x :: xs) 0 = some x:=by
 have:(0:Int) < ((xs.length + 1:Nat):Int):=by omega
 unfold atI ixN
 rw [if_pos (Int.le_refl 0),List.length_cons,if_pos this]
 rfl
theorem lc_map {α:Type} {g:TG3} {tc:TT3} {te:TU} {ρ0:Ev} {F f:α -> D} {Q:List D -> Prop}:∀ (as:List α) (acc:List D),(∀ a ∈ as,∀ (K:D -> Prop) (R:Prop),K (f a) -> g (F a) ρ0 fun ρ1=>tc ρ1 fun b=>Br b (te ρ1 K) R) -> Q (acc ++ as.map f) -> lcGo g tc te ρ0 (as.map F) acc Q
 | [],acc,_,q=>by
  rw [List.map_nil,List.append_nil] at q
  exact q
 | a :: as,acc,h,q=>by
  rw [List.map_cons]
  refine h a List.mem_cons_self _ _ (lc_map as (acc ++ [f a]) (fun b hb=>h b (List.mem_cons_of_mem _ hb)) ?_)
  rw [List.append_assoc]
  exact q
theorem lc_filter {α:Type} {g:TG3} {tc:TT3} {te:TU} {ρ0:Ev} {F f:α -> D} {Q:List D -> Prop} (p:α -> Bool):∀ (as:List α) (acc:List D),(∀ a ∈ as,∀ (K:D -> Prop) (R:Prop),(p a = true -> K (f a)) -> (p a = false -> R) -> g (F a) ρ0 fun ρ1=>tc ρ1 fun b=>Br b (te ρ1 K) R) -> Q (acc ++ (as.filter p).map f) -> lcGo g tc te ρ0 (as.map F) acc Q
 | [],acc,_,q=>by
  rw [List.filter_nil,List.map_nil,List.append_nil] at q
  exact q
 | a :: as,acc,h,q=>by
  rw [List.map_cons]
  refine h a List.mem_cons_self _ _ (fun e=>lc_filter p as (acc ++ [f a]) (fun b hb=>h b (List.mem_cons_of_mem _ hb)) ?_) (fun e=>lc_filter p as acc (fun b hb=>h b (List.mem_cons_of_mem _ hb)) ?_)
  ·rw [List.filter_cons,if_pos e,List.map_cons] at q
   rw [List.append_assoc]; exact q
  ·rw [List.filter_cons,if_neg (by rw [e]; exact Bool.false_ne_true)] at q
   exact q
theorem get_map {α:Type} {F:α -> D} {as:List α} {i:Nat} {d:D} (h:(as.map F)[i]? = some d):∃ a,as[i]? = some a /\ d = F a:=by
 rw [List.getElem?_map] at h
 cases e:as[i]? with
 | none=>rw [e] at h; cases h
 | some a=>rw [e] at h; cases h; exact ⟨a,rfl,rfl⟩
theorem line_le {n:Nat} (h:n <= 100000):n < sizeLine:=by rw [sizeLine_eq]; omega
theorem imms_str (ns:List Str):imms (ns.map D.str) = true:=by
 induction ns with
 | nil=>rfl
 | cons n ns ih=>rw [List.map_cons]; exact ih
theorem imms_all {xs:List D} (h:∀ x ∈ xs,imm x = true):imms xs = true:=by
 induction xs with
 | nil=>rfl
 | cons n ns ih=>
  show (imm n && imms ns) = true
  rw [h n List.mem_cons_self,ih fun x hx=>h x (List.mem_cons_of_mem _ hx)]; rfl
theorem atI_map {α:Type} {f:α -> D} {xs:List α} {i:Int} (h0:0 <= i) (h1:i < xs.length):∃ x,x ∈ xs /\ xs[i.toNat]? = some x /\ atI (xs.map f) i = some (f x):=by
 have hi:i.toNat < xs.length:=by omega
 refine ⟨xs[i.toNat],List.getElem_mem hi,List.getElem?_eq_getElem hi,?_⟩
 unfold atI ixN
 rw [if_pos h0,List.length_map,if_pos h1]
 simp [hi]
theorem log70 {n:Int} (h:n <= 10 ^ 70) (h0:0 < n):n.natAbs.log2 < 9000:=by
 have h1:n.natAbs < 2 ^ 9000:=Nat.lt_of_le_of_lt (m:=10 ^ 70) (by omega) (by decide +kernel)
 exact (Nat.log2_lt (by omega)).mpr h1
noncomputable abbrev EM (Q:D -> D -> Prop):Ends3:={ nx:=fun ρ=>uVar 0 ρ fun l=>Q .non l,rt:=fun d ρ=>uVar 0 ρ fun l=>Q d l }
noncomputable abbrev EP (Q:D -> Prop):Ends3:={ nx:=fun _=>Q .non,rt:=fun d _=>Q d }
theorem rngD_map (n:Nat):rngD 0 n = (List.range n).map fun (k:Nat)=>D.int (0 + (k:Int)):=rfl
theorem valD_c (p:Key × D) (r:List (Key × D)) (j:Key):valD (p :: r) j = if p.1 = j then some p.2 else valD r j:=by
 unfold valD
 rw [List.find?_cons]
 by_cases e:p.1 = j
 ·rw [if_pos e,decide_eq_true e]; rfl
 ·rw [if_neg e,decide_eq_false e]
theorem valD_swap (k j:Key) (y:D):∀ kvs:List (Key × D),valD (kvs.map fun kv=>if kv.1 = k then (kv.1,y) else kv) j = if j = k then (valD kvs j).map (fun _=>y) else valD kvs j
 | []=>by simp [valD]
 | p :: r=>by
  rw [List.map_cons,valD_c,valD_c,valD_swap k j y r]
  by_cases e1:p.1 = k
  ·rw [if_pos e1]
   by_cases e2:p.1 = j
   ·have e3:j = k:=e2.symm.trans e1
    simp [e2,e3]
   ·simp [e2]
  ·rw [if_neg e1]
   by_cases e2:p.1 = j
   ·have e3:¬ j = k:=fun z=>e1 (e2.trans z)
    simp [e2,e3]
   ·simp [e2]
theorem valD_any (k:Key):∀ kvs:List (Key × D),(kvs.any fun kv=>decide (kv.1 = k)) = (valD kvs k).isSome
 | []=>rfl
 | p :: r=>by
  rw [List.any_cons,valD_any k r,valD_c]
  by_cases e:p.1 = k
  ·simp [e]
  ·simp [e]
theorem valD_end (k j:Key) (y:D):∀ kvs:List (Key × D),valD (kvs ++ [(k,y)]) j = (valD kvs j).or (if k = j then some y else none)
 | []=>by rw [List.nil_append,valD_c]; simp [valD]
 | p :: r=>by
  rw [List.cons_append,valD_c,valD_c,valD_end k j y r]
  by_cases e:p.1 = j
  ·simp [e]
  ·simp [e]
theorem valD_put (kvs:List (Key × D)) (k j:Key) (y:D):valD (putD kvs k y) j = if j = k then some y else valD kvs j:=by
 unfold putD
 by_cases a:(kvs.any fun kv=>decide (kv.1 = k)) = true
 ·rw [if_pos a,valD_swap]
  rw [valD_any] at a
  obtain ⟨v,hv⟩:=Option.isSome_iff_exists.mp a
  by_cases e:j = k
  ·subst e; simp [hv]
  ·simp [e]
 ·rw [if_neg a,valD_end]
  rw [valD_any] at a
  have hn:valD kvs k = none:=by
   cases q:valD kvs k with
   | none=>rfl
   | some v=>rw [q] at a; exact (a rfl).elim
  by_cases e:j = k
  ·subst e; simp [hn]
  ·have e':¬ k = j:=fun z=>e z.symm
   simp [e,e']
theorem atI1 (a b:D) (l:List D):atI (a :: b :: l) 1 = some b:=by
 unfold atI ixN
 rw [if_pos (by decide),if_pos (by simp only [List.length_cons]; omega)]
 rfl
theorem dc_map {α:Type} {g:TG3} {tc:TT3} {tk te:TU} {ρ0:Ev} {F v:α -> D} {k:α -> Key} {Q:List (Key × D) -> Prop}:∀ (as:List α) (acc:List (Key × D)),(∀ a ∈ as,∀ (K:Key -> D -> Prop) (R:Prop),K (k a) (v a) -> g (F a) ρ0 fun ρ1=>tc ρ1 fun b=>Br b (tk ρ1 fun y=>te ρ1 fun d=>∃ k,keyD y = some k /\ imm d = true /\ K k d) R) ->
  Q (as.foldl (fun acc a=>putD acc (k a) (v a)) acc) -> dcGo g tc tk te ρ0 (as.map F) acc Q
 | [],acc,_,q=>q
 | a :: as,acc,h,q=>by
  rw [List.map_cons]
  exact h a List.mem_cons_self (fun k d=>dcGo g tc tk te ρ0 (as.map F) (putD acc k d) Q) _ (dc_map as _ (fun b hb=>h b (List.mem_cons_of_mem _ hb)) q)
theorem fold_keep {α:Type} {v:α -> D} {k:α -> Key} (j:Key):∀ (as:List α) (acc:List (Key × D)),(∀ a ∈ as,k a ≠ j) -> valD (as.foldl (fun acc a=>putD acc (k a) (v a)) acc) j = valD acc j
 | [],acc,_=>rfl
 | a :: as,acc,h=>by
  rw [List.foldl_cons,fold_keep j as _ fun b hb=>h b (List.mem_cons_of_mem _ hb),valD_put,if_neg fun z=>h a List.mem_cons_self z.symm]
theorem fold_val {α:Type} {v:α -> D} {k:α -> Key}:∀ (as:List α) (acc:List (Key × D)),(as.map k).Nodup -> ∀ a ∈ as,valD (as.foldl (fun acc a=>putD acc (k a) (v a)) acc) (k a) = some (v a)
 | [],_,_,a,ha=>by cases ha
 | b :: as,acc,h,a,ha=>by
  rw [List.map_cons] at h
  obtain ⟨h1,h2⟩:=List.nodup_cons.mp h
  rw [List.foldl_cons]
  rcases List.mem_cons.mp ha with e | e
  ·subst e
   rw [fold_keep (k a) as _ fun c hc z=>h1 (List.mem_map.mpr ⟨c,hc,z⟩),valD_put,if_pos rfl]
  ·exact fold_val as _ h2 a e
noncomputable def scr (d:D) (ns:List Int):Prop:=d = .fz (ns.map D.int) \/ d = .lst (ns.map D.int)
noncomputable abbrev Rw:=Str × List D
noncomputable def row (r:Rw):D:=.tup (.str r.1 :: r.2)
noncomputable def txs (xs:List Str):D:=.lst (xs.map D.str)
noncomputable def uD:Option Str -> D
 | none=>.non
 | some x=>.str x
noncomputable abbrev Pr:=Int × Int
noncomputable def pr (p:Pr):D:=.tup [.int p.1,.int p.2]
noncomputable def crs (ps:List Pr):D:=.tup (ps.map pr)
noncomputable def prOk (p:Pr):Prop:=1 <= p.1 /\ p.1 < 10 ^ 59 /\ 0 <= p.2 /\ p.2 < 10 ^ 60
theorem imms_prs:∀ ps:List Pr,imms (ps.map pr) = true
 | []=>rfl
 | p :: ps=>by
  show ((true && (true && true)) && imms (ps.map pr)) = true
  rw [imms_prs ps]; rfl
noncomputable def CvOk (ps:List Pr):Prop:=1 <= ps.length /\ ps.length <= 5 /\ (∀ p ∈ ps,1 <= p.1 /\ p.1 < 10 ^ 60 /\ 1 <= p.2 /\ p.2 < 10 ^ 60) /\ ps.Pairwise fun p q=>p.1 < q.1 /\ q.2 < p.2
noncomputable def nm (n:Nat) (x:Str):Prop:=1 <= x.cps.toList.length /\ x.cps.toList.length <= n /\ ∀ c ∈ x.cps.toList,97 <= c /\ c <= 122
noncomputable instance (n:Nat) (x:Str):Decidable (nm n x):=by unfold nm; infer_instance
theorem imm_crs (ps:List Pr):imm (crs ps) = true:=imms_prs ps
noncomputable def ABC:Str := "abcdefghijklmnopqrstuvwxyz"
noncomputable def ltr (i:Int):Nat:=(atI ABC.cps.toList i).getD 0
theorem ltr_nat:∀ n:Nat,n < 26 -> ltr (n:Int) = 97 + n:=by decide +kernel
theorem ltr_val {i:Int} (h0:0 <= i) (h1:i < 26):ltr i = 97 + i.toNat:=by
 have e:((i.toNat:Nat):Int) = i:=Int.toNat_of_nonneg h0
 have q:=ltr_nat i.toNat (by omega)
 rw [e] at q
 exact q
theorem ltr_inj {i j:Int} (i0:0 <= i) (i1:i < 26) (j0:0 <= j) (j1:j < 26) (h:ltr i = ltr j):i = j:=by
 rw [ltr_val i0 i1,ltr_val j0 j1] at h; omega
theorem ltr_ok {i:Int} (h0:0 <= i) (h1:i < 26):97 <= ltr i /\ ltr i <= 122:=by rw [ltr_val h0 h1]; omega
theorem foldl_cps (xs:List Int):∀ acc:Array Nat,((xs.map fun b=>(⟨#[ltr b]⟩:Str)).foldl (fun acc p=>acc ++ (Str.cps "") ++ p.cps) acc).toList = acc.toList ++ xs.map ltr:=by
 induction xs with
 | nil=>intro acc; simp
 | cons b B ih=>
  intro acc
  rw [List.map_cons,List.foldl_cons,ih,List.map_cons]
  show (acc ++ #[] ++ #[ltr b]).toList ++ _ = _
  simp
theorem join_cps (xs:List Int):(Txt.join "" (xs.map fun b=>(⟨#[ltr b]⟩:Str))).cps.toList = xs.map ltr:=by
 unfold Txt.join Builtin.Str.glued
 cases xs with
 | nil=>rfl
 | cons b B=>
  exact (foldl_cps B #[ltr b]).trans rfl
theorem app_cps (x y:Str):(x ++ y).cps.toList = x.cps.toList ++ y.cps.toList:=by
 show (x.cps ++ y.cps).toList = _
 simp
theorem nodup_range_map {α:Type} (f:Nat -> α) (n:Nat) (h:∀ i j,i < n -> j < n -> f i = f j -> i = j):((List.range n).map f).Nodup:=by
 rw [List.Nodup,List.pairwise_map]
 refine List.Pairwise.imp_of_mem ?_ (List.nodup_range (n:=n))
 intro a b ha hb hne e
 exact hne (h a b (List.mem_range.mp ha) (List.mem_range.mp hb) e)
end My
namespace My
open PySem L2 L3
local macro_rules | `(tactic| walk_at "w")=>`(tactic| conv=>whnf)
local macro_rules | `(tactic| walk_at "a")=>`(tactic| first | refine ⟨rfl,?_⟩ | refine ⟨_,rfl,?_⟩ | refine ⟨(show (0:Int) < _ from by decide),?_⟩ | refine ⟨(show CDivL _ _ from ⟨by decide,by decide⟩),?_⟩ | refine ⟨(show CPow _ _ from ⟨by decide,by decide,by decide⟩),?_⟩ | refine ⟨(show CMul _ _ from .inr ⟨by decide,by decide⟩),?_⟩ | refine ⟨(show CMul _ _ from .inl ⟨by decide,by decide⟩),?_⟩ | refine ⟨_,_,_,rfl,rfl,rfl,?_⟩ | refine ⟨_,atI0 _ _,?_⟩ | refine ⟨_,_,rfl,rfl,?_⟩)
local macro_rules | `(tactic| walk_at "r")=>`(tactic| ((repeat ((conv=>whnf); (walk_at "a"))); (try (conv=>whnf))))
structure GAt (xs:List Str) (gs:List Rw) (ds:List Nat) (i:Nat) (g:Rw) (u:Option Str) (e:Nat) (cv:List Pr) (n1 n2:Int):Prop where
 name:xs[i]? = some g.1
 row:g.2 = [uD u,crs cv,.int n1,.int n2]
 cv:CvOk cv
 n1:0 <= n1 /\ n1 < 10 ^ 60
 n2:0 <= n2 /\ n2 < 10 ^ 60
 dep:ds[i]? = some e
 top:u = none -> e = 1
 under:∀ y,u = some y -> ∃ j f gj,j < i /\ gs[j]? = some gj /\ gj.1 = y /\ ds[j]? = some f /\ e = f + 1
 ge:1 <= e
 le:e <= 8
noncomputable def GOk (xs:List Str) (gs:List Rw) (ds:List Nat):Prop:=ds.length = gs.length /\ ∀ i g,gs[i]? = some g -> ∃ u e cv n1 n2,GAt xs gs ds i g u e cv n1 n2
theorem GOk.imms {xs:List Str} {gs:List Rw} {ds:List Nat} (h:GOk xs gs ds):∀ g ∈ gs,imms g.2 = true:=fun g hg=>by
 obtain ⟨i,hi⟩:=List.getElem?_of_mem hg
 obtain ⟨u,e,cv,n1,n2,a⟩:=h.2 i g hi
 rw [a.row]
 show (imm (uD u) && (imm (crs cv) && (true && (true && true)))) = true
 rw [imm_crs]
 cases u <;> rfl
theorem GAt.more {xs:List Str} {gs:List Rw} {ds:List Nat} {i:Nat} {g:Rw} {u:Option Str} {e:Nat} {cv:List Pr} {n1 n2:Int} (a:GAt xs gs ds i g u e cv n1 n2) (gs':List Rw) (ds':List Nat):GAt xs (gs ++ gs') (ds ++ ds') i g u e cv n1 n2:=by
 refine ⟨a.name,a.row,a.cv,a.n1,a.n2,?_,a.top,fun y hy=>?_,a.ge,a.le⟩
 ·rw [List.getElem?_append_left (List.getElem?_eq_some_iff.mp a.dep).1]; exact a.dep
 ·obtain ⟨j,f,gj,h1,h2,h3,h4,h5⟩:=a.under y hy
  exact ⟨j,f,gj,h1,by rw [List.getElem?_append_left (List.getElem?_eq_some_iff.mp h2).1]; exact h2,h3,by rw [List.getElem?_append_left (List.getElem?_eq_some_iff.mp h4).1]; exact h4,h5⟩
theorem GOk.snoc {xs:List Str} {gs:List Rw} {ds:List Nat} {g:Rw} {e:Nat} {u:Option Str} {cv:List Pr} {n1 n2:Int} (h:GOk xs gs ds) (a:GAt xs (gs ++ [g]) (ds ++ [e]) gs.length g u e cv n1 n2):GOk xs (gs ++ [g]) (ds ++ [e]):=by
 refine ⟨by simp [h.1],fun i x hi=>?_⟩
 by_cases hl:i < gs.length
 ·rw [List.getElem?_append_left hl] at hi
  obtain ⟨u',e',cv',n1',n2',a'⟩:=h.2 i x hi
  exact ⟨u',e',cv',n1',n2',a'.more _ _⟩
 ·have hi2:=(List.getElem?_eq_some_iff.mp hi).1
  rw [List.length_append,List.length_singleton] at hi2
  have ei:i = gs.length:=by omega
  subst ei
  rw [List.getElem?_append_right (Nat.le_refl _),Nat.sub_self] at hi
  cases hi
  exact ⟨_,_,_,_,_,a⟩
structure LAt (xs:List Str) (gs:List Rw) (i:Nat) (l:Rw) (y:Str) (ps:List Pr) (n:Int) (b:Bool):Prop where
 name:xs[i]? = some l.1
 row:l.2 = [.str y,crs ps,.int n,.bl b]
 at_:∃ g ∈ gs,g.1 = y
 len:ps.length <= 4
 prs:∀ p ∈ ps,prOk p
 n:0 <= n /\ n < 10 ^ 60
noncomputable def LOk (xs:List Str) (gs ls:List Rw):Prop:=ls.length = xs.length /\ ∀ i l,ls[i]? = some l -> ∃ y ps n b,LAt xs gs i l y ps n b
theorem LAt.imms {xs:List Str} {gs:List Rw} {i:Nat} {l:Rw} {y:Str} {ps:List Pr} {n:Int} {b:Bool} (a:LAt xs gs i l y ps n b):imms l.2 = true:=by
 rw [a.row]
 show (true && (L3.imms (ps.map pr) && (true && (true && true)))) = true
 rw [imms_prs]; rfl
theorem LOk.imms {xs:List Str} {gs ls:List Rw} (h:LOk xs gs ls):∀ l ∈ ls,imms l.2 = true:=fun l hl=>by
 obtain ⟨i,hi⟩:=List.getElem?_of_mem hl
 obtain ⟨y,ps,n,b,a⟩:=h.2 i l hi
 exact a.imms
end My
namespace My
open PySem L2 L3
structure Gd where
 nm:Str
 un:Option Str
 cv:List Pr
 de:Int
 wa:Int
structure Ld where
 nm:Str
 at_:Str
 cs:List Pr
 la:Int
 on:Bool
structure Bd where
 gs:List Gd
 ls:List Ld
noncomputable def gD (g:Gd):D:=.tup [.str g.nm,uD g.un,crs g.cv,.int g.de,.int g.wa]
noncomputable def lD (l:Ld):D:=.tup [.str l.nm,.str l.at_,crs l.cs,.int l.la,.bl l.on]
noncomputable def bD (b:Bd):D:=.tup [.tup (b.gs.map gD),.tup (b.ls.map lD)]
noncomputable def UnOk (gs:List Gd):Prop:=∃ dp:Nat -> Nat,∀ i g,gs[i]? = some g -> 1 <= dp i /\ dp i <= 8 /\ (g.un = none -> dp i = 1) /\ ∀ y,g.un = some y -> ∃ j gj,j < i /\ gs[j]? = some gj /\ gj.nm = y /\ dp i = dp j + 1
structure BdOk (b:Bd):Prop where
 g1:1 <= b.gs.length
 g16:b.gs.length <= 16
 l24:b.ls.length <= 24
 nd:(b.gs.map (·.nm) ++ b.ls.map (·.nm)).Nodup
 nmg:∀ g ∈ b.gs,nm 8 g.nm
 nml:∀ l ∈ b.ls,nm 8 l.nm
 cv:∀ g ∈ b.gs,CvOk g.cv
 de:∀ g ∈ b.gs,0 <= g.de /\ g.de < 10 ^ 60
 wa:∀ g ∈ b.gs,0 <= g.wa /\ g.wa < 10 ^ 60
 un:UnOk b.gs
 cs4:∀ l ∈ b.ls,l.cs.length <= 4
 cs:∀ l ∈ b.ls,∀ p ∈ l.cs,1 <= p.1 /\ p.1 < 10 ^ 60 /\ 0 <= p.2 /\ p.2 < 10 ^ 60
 la:∀ l ∈ b.ls,0 <= l.la /\ l.la < 10 ^ 60
 at_:∀ l ∈ b.ls,∃ g ∈ b.gs,g.nm = l.at_
theorem imm_uD (u:Option Str):imm (uD u) = true:=by cases u <;> rfl
theorem imm_gD (g:Gd):imm (gD g) = true:=by
 show (true && (imm (uD g.un) && (imm (crs g.cv) && (true && (true && true))))) = true
 rw [imm_uD,imm_crs]; rfl
theorem imm_lD (g:Ld):imm (lD g) = true:=by
 show (true && (true && (imm (crs g.cs) && (true && (true && true))))) = true
 rw [imm_crs]; rfl
theorem imms_map {α:Type} {f:α -> D} (h:∀ a,imm (f a) = true) (as:List α):imms (as.map f) = true:=imms_all fun x hx=>by
 obtain ⟨a,_,rfl⟩:=List.mem_map.mp hx
 exact h a
theorem imms_gD (gs:List Gd):imms (gs.map gD) = true:=imms_map imm_gD gs
theorem imms_lD (gs:List Ld):imms (gs.map lD) = true:=imms_map imm_lD gs
end My
namespace L2
open PySem PySem.Spec PyProof.Rows
section
variable {M:Model} {A:Around} {E:Value -> Shared -> Prop} {s:Shared} {base:Heap} {env:Env} {outer:List Env} {L e:Addr} {Q:Unit -> Shared -> Prop}
end
end L2
namespace L2
open PySem PySem.Spec PyProof.Rows
section
variable {P:Program} {w:World} {K:PySem.W.Frag} {mg:Str -> Option Value} {base:Heap} {N:List Str} {qual:Str} {scope:Scope} {f:Addr} {cd:Value} {A:Around} {outer:List Env} {s:Shared} {H:Hp} {E:XK}
 {pins:List (Addr × Obj)} {σ:St} {H1:Hp} {s1:Shared}
end
end L2
namespace L2
open PySem PySem.Spec PyProof.Rows
end L2
namespace L2
open PySem PySem.Spec PyProof.Rows
section
variable {M:Model} {A:Around} {E:Value -> Shared -> Prop} {s:Shared} {base:Heap} {env:Env} {outer:List Env} {L e:Addr} {Q:Unit -> Shared -> Prop}
end
section
variable {M:Model} {A:Around} {E:Value -> Shared -> Prop} {h:Heap} {g:Array GenState} {d:Drawn} {t:Nat} {os:OsState} {e C C':Addr} {oe:Obj} {Q:Bool -> Shared -> Prop}
 {nm q:Str} {N:Addr} {bs bm:List Value} {hdct:Bool} {sn:List Str} {sub:List Value} {ab:Bool} {col:Option Bool} {dd:Option Addr} {k0 k1 k2 k3 k5:Option Value} {newId:String}
 {nm' q':Str} {N':Addr} {bs' bm':List Value} {hdct':Bool} {sn':List Str} {sub':List Value} {ab':Bool} {col':Option Bool} {dd':Option Addr} {k0' k1' k2' k3' k5':Option Value} {newId':String}
end
end L2
namespace L2
open PySem PySem.Spec PyProof.Rows
section
variable {X:Cx} {pins:List (Addr × Obj)} {σ:St} {H:Hp} {s:Shared} {e:Addr} {oe:Obj} {F:Value -> Shared -> Prop}
end
end L2
namespace L2
open PySem PySem.Spec PyProof.Rows
section
variable {X:Cx} {pins:List (Addr × Obj)} {σ:St} {H:Hp} {s:Shared} {e T:Addr} {cls a0:Value} {E:XK} {x:Value} {Q:Unit -> Shared -> Prop} {M:Model} {A:Around} {E2:Value -> Shared -> Prop}
end
end L2
namespace L2
open PySem PySem.Spec PyProof.Rows
section
variable {X:Cx} {pins:List (Addr × Obj)} {σ:St} {H:Hp} {s:Shared} {i:Nat} {n:Str} {M:Model} {A:Around} {E:Value -> Shared -> Prop} {Q:Unit -> Shared -> Prop}
end
end L2
namespace L3
open PySem PySem.Spec PySem.Calls PyProof.Rows L2
noncomputable abbrev Cxp:=List D -> (D -> Prop) -> (Str -> Prop) -> Prop
noncomputable def calm (c:Cxp):Cp:=fun ds Q=>c ds Q fun _=>False
section
variable {X:Cx} {cl:List Cl} {e:Expr} {es:List Expr} {pos p:Pos} {us:TUs} {k:Nat} {fn:Addr} {fd:FuncData} {ps:List Str} {x:Str}
end
section
variable {X:Cx} {cl:List Cl} {e:Expr} {es:List Expr} {pos cpos hpos np p:Pos} {us:TUs} {k:Nat} {fn:Addr} {fd:FuncData} {ps:List Str} {x y bn n:Str} {i:Nat}
end
end L3
namespace PySem.W
open PySem PySem.Calls PyProof.Rows Builtin Builtin.ObjectAttr Builtin.Getset_descriptor
section
variable {K:Frag} {prog:Program} {w:World} {A:Around} {E:Value -> Shared -> Prop} {s:Shared} {e D:Addr} {oe:Obj}
end
end PySem.W
namespace PySem.W
open PySem PySem.Calls PyProof.Rows Builtin Builtin.ObjectAttr Builtin.Getset_descriptor
section
variable {K:Frag} {prog:Program} {w:World} {A:Around} {E:Value -> Shared -> Prop} {s:Shared} {e D:Addr} {oe:Obj}
end
end PySem.W
namespace PySem.W
open PySem PySem.Calls PyProof.Rows
structure BxCls (K:Frag) (D:Addr):Prop where
 ga:findIn K (.ref D) "__getattribute__" = some (some (.builtin "BaseException.__getattribute__"))
 gn:findIn K (.ref D) "__getattr__" = some none
 cl:findIn K (.ref D) "__class__" = some (some (.builtin "object.__class__"))
 sp:specialIn K (.builtin "object.__class__") "__get__" = some (some (.builtin "getset_descriptor.__get__"))
 tk:takesIn K (.builtin "object.__class__") = some true
 ob:mroIn K D (.type "object") = some true
 be:mroIn K D (.type "BaseException") = some true
section
variable {K:Frag} {D e:Addr}
theorem BxCls.at (B:BxCls K D):∃ c d cd sl,K.lookup D = some ⟨c,d,.cls cd,sl⟩:=by
 have h:=B.ob
 unfold mroIn clsIn at h
 split at h
 ·rename_i c d cd sl ho
  exact ⟨_,_,_,_,ho⟩
 ·cases h
end
end PySem.W
namespace L3
open PySem PySem.Spec PySem.Calls PyProof.Rows PySem.W L2
section
variable {X:Cx} {cl:List Cl} {e C:Addr} {oe:Obj} {pos p p1 p2:Pos} {n y:Str} {i:Nat} {b:Bool}
end
end L3
namespace L2
open PySem PySem.Spec PyProof.Rows
end L2
namespace L3
open PySem PySem.Spec PyProof.Rows L2
section
variable {X:Cx} {cl:List Cl} {tg e a kx:Expr} {f fb:Fl} {ua ub:TU} {pos p:Pos}
end
end L3
namespace PySem.SeqAt
open PySem MeetsSeq MeetsSeq2 MeetsSeq3 SeqRoads2
end PySem.SeqAt
namespace PySem.SeqAt
open PySem MeetsSeq MeetsSeq2 MeetsSeq3 SeqRoads2
section
variable {A:Around} {s:Shared}
end
end PySem.SeqAt
namespace L2
open PySem PySem.Spec PyProof.Rows
section
variable {X:Cx}
end
end L2
namespace L3
open PySem PySem.Spec PyProof.Rows L2
section
variable {X:Cx} {cl:List Cl} {a b:Expr} {fa fb:Fl} {ua ub:TU} {pos:Pos}
end
end L3
namespace L2
open PySem PySem.Spec PyProof.Rows
theorem part_of {v:Value} {o:Option Int} (h:IsPart v o):∃ p:Option (Int × Tok),v = partValue p /\ o = p.map (·.1):=by
 cases h with
 | none=>exact ⟨none,rfl,rfl⟩
 | int i t=>exact ⟨some (i,t),rfl,rfl⟩
section
variable {X:Cx}
noncomputable def rSlS:V -> Option Int -> Option Int -> Hp -> VK -> Prop:=fun x lo hi H Q=>∃ z,x = .str z /\ z.length <= sizeLine /\ Q (.str (Txt.slice z lo hi)) H
theorem sl_str:SlR X rSlS:=by
 intro pins s σ H x v vl vu lo hi sl Q I rx hs pl pu h
 obtain ⟨z,rfl,hz,q⟩:=h
 obtain ⟨t,rfl⟩:=rx
 obtain ⟨p1,rfl,rfl⟩:=part_of pl
 obtain ⟨p2,rfl,rfl⟩:=part_of pu
 refine ⟨"str",_,F.slot_str_getitem.lookup,typeIs_str s z t,wpAny_getItem_str_slice (l:=p1) (u:=p2) (st:=none) hs rfl ?_⟩
 unfold sliceMade
 split
 ·rename_i e
  have e2:Txt.slice z (p1.map (·.1)) (p2.map (·.1)) = z:=by unfold Txt.slice; exact if_pos e
  rw [e2] at q
  exact ⟨.str z,H,I,⟨t,rfl⟩,q⟩
 ·rename_i e
  have e2:Txt.slice z (p1.map (·.1)) (p2.map (·.1)) = ⟨((slicePicked z p1 p2 none).filterMap (z.cps[·]?)).toArray⟩:=by unfold Txt.slice; exact if_neg e
  rw [e2] at q
  refine ⟨?_,.str _,H,I.tok _,⟨_,rfl⟩,q⟩
  have h1:(((slicePicked z p1 p2 none).filterMap (z.cps[·]?)).toArray).size <= z.length:=by
   rw [List.size_toArray]
   exact Nat.le_trans (List.length_filterMap_le _ _) (sliceIndices_le _ _ _)
  exact Nat.le_trans h1 hz
end
end L2
namespace L3
open PySem PySem.Spec L2
section
variable {X:Cx} {cl:List Cl} {a:Expr} {fa:Fl} {ua:TU} {pos:Pos}
noncomputable def uSlS (ua:TU) (lo hi:TO3):TU:=fun ρ Q=>ua ρ fun d=>lo ρ fun l=>hi ρ fun h=>match d with
 | .str z=>z.length <= sizeLine /\ Q (.str (Txt.slice z l h))
 | _=>False
theorem pu_slS {lo hi:Option Expr} {ul uh:TO3} {p2:Pos} (ha:PU X cl a fa ua) (hl:PO3 X cl lo ul) (hh:PO3 X cl hi uh):PU X cl (.Subscript a (.Slice lo hi none p2) pos) .fresh (uSlS ua ul uh):=.of <| by
 obtain ⟨ta,pa,ha⟩:=ha.run
 obtain ⟨tl,pl,hl⟩:=hl.run
 obtain ⟨th,ph,hh⟩:=hh.run
 refine ⟨_,pe_slice sl_str pa pl ph,fun G ρ σ H fo Q R hG E hu k=>ha G ρ σ H fo _ _ hG E hu fun v H1 d A s1 r1 f1 q1=>hl G ρ σ H1 fo _ _ hG (E.same s1) q1 fun o1 H2 s2 q2=>hh G ρ σ H2 fo _ _ hG (E.same (s1.trans s2)) q2 fun o2 H3 s3 q3=>?_⟩
 cases d <;> first | exact (show False from q3).elim | skip
 cases rep_str r1
 exact ⟨_,rfl,q3.1,k _ H3 _ [] ((s1.trans s2).trans s3) .str (FlOk.nil _) q3.2⟩
end
end L3
namespace PySem
theorem keys_list_no:typeLookup (.type "list") "keys" = pure none:=by rw [typeLookup_type,builtinLookup_eq_fast]; kernel_rfl
theorem no_keys {prog:Program} {w:World} {A:Around} {E:Value -> Shared -> Prop} {s:Shared} {a:Addr} {o:Obj} {xs:Array Value} {k:Nat} {Q:Option Value -> Shared -> Prop}
  (hx:s.heap.get? a = some o) (hc:o.cls = .type "list") (hdat:o.data = .seq xs k) (hd:o.dict = none) (hA:A.handled = none)
  (h:∀ h' tk e,Heap.NewExcOf s.heap h' e "AttributeError" -> Q none { s with heap:=h',toks:=tk }):wpAny (model prog w) A (getAttr? (.ref a) "keys") Q E s:=by
 obtain ⟨c,dct,dat,sl⟩:=o
 simp only at hc hdat hd
 subst hc hdat hd
 obtain ⟨hp,g,d,tk,os⟩:=s
 have hT:∀ tk',(⟨hp,g,d,tk',os⟩:Shared).TypeIs (.ref a) "list" := fun _=>⟨_,hx,rfl⟩
 have f1:=sub_AttributeError
 have f3:=F.slot_list_getattribute.lookup
 have f4:=F.slot_list_getattribute.bind (.ref a)
 have f5:=am_list_getattr_none
 unfold getAttr? getAttrBy? getAttrBy
 repeat (any_goals (first | assumption | exact hT _ | ((with_reducible show wpAny _ _ (call (Value.builtin "list.__getattribute__") _ _) _ _ _); refine call_meets F.slot_list_getattribute (hT _) am_entry_list_getattribute (F.args_list_getattribute_2 _ _) (meets_getattribute_miss_list a xs k sl "keys" _ keys_list_no (by decide +kernel) (by size_fits)) ⟨hx,hA,fun h' tk' e hx'=>?_⟩) | wp_step))
 obtain ⟨t',u',he⟩:=hx'.there
 show wpAny _ _ (getattributeRaised _ _ _ _ _ _ _) _ _ _
 unfold getattributeRaised
 repeat (any_goals (first | assumption | wp_step))
 exact h _ _ _ hx'.of
end PySem
namespace L2
open PySem PySem.Spec PyProof.Rows
theorem du_entry:entryFor table "dict.update.loop" = some Builtin.«dict.update.loop»:=entryFor_of_tree (by kernel_rfl)
theorem du_plain:plainId "dict.update.loop" = true:=by decide +kernel
noncomputable def Pair2 (H:Hp) (t:V) (kv:Key × V):Prop:=∃ a,t = .ref a /\ H a = some (.tup [kV kv.1,kv.2])
theorem paired_at {α β:Type} {F:α -> β -> Prop}:∀ {l:List α} {m:List β},Paired F l m -> ∀ (i:Nat) (a:α) (b:β),l[i]? = some a -> m[i]? = some b -> F a b
 | _,_,.nil,i,a,b,h,_=>by simp at h
 | _,_,.cons r t,0,a,b,h,g=>by simp at h g; subst h g; exact r
 | _,_,.cons r t,i + 1,a,b,h,g=>paired_at t i a b (by simpa using h) (by simpa using g)
section
variable {X:Cx} {pins:List (Addr × Obj)} {σ:St}
theorem d_dictSet2 {H:Hp} {s:Shared} {a:Addr} {v:V} {u r:Value} {A:Around} {E:Value -> Shared -> Prop} {kvs:List (Key × V)} {k:Key} {Q:Unit -> Shared -> Prop} (I:Inv X pins σ H s) (e:H a = some (.dK kvs)) (l:kvs.length < sizeLine) (ry:RelV (kV k) u) (rv:RelV v r)
  (h:∀ s',Inv X pins σ (upd H a (.dK (putK kvs k v))) s' -> Heap.SameBut a s.heap s'.heap -> Q () s'):wpAny (model X.prog X.w) A (dictSet a u r) Q E s:=by
 obtain ⟨z,hd,vs,rel,dd⟩:=dk_of I.hok e
 have hz:vs.length <= sizeLine:=by rw [<- rel.length]; exact z
 have hl:(putK kvs k v).length <= sizeLine:=by have:=length_putK kvs k v; omega
 refine wpAny_dictSet_pairs (hsz:=hz) (kV_is ry) dd fun h' dd' hs=>h _ ?_ hs
 exact d_write I (by rw [e]; exact True.intro) hs (let ⟨q,_,_,hq,_⟩:=dd'; ⟨q,hq⟩) (dk_new hl hd (rel.put k rv) dd')
theorem du_loop {A:Around} {R:Result -> Shared -> Prop} {H:Hp} {d p it:Addr} {ts:List V} {kvs:List (Key × V)} (hh:A.handled = none) (hp:SqL X.K H p ts) (hd:H d = none) (ht:Paired (Pair2 H) ts kvs) (hl:kvs.length < sizeLine) (hit:it ≠ d) (hfp:∀ o,FpOk X pins (upd H d o) it) (res:∀ s',Inv X pins σ (upd H d (.dK (mergeK [] kvs))) s' -> R (.ok (.ret .none)) s') :
  ∀ (n i:Nat) (s:Shared),kvs.length - i = n -> i <= kvs.length -> Inv X pins σ (upd H d (.dK (mergeK [] (kvs.take i)))) s -> s.heap.IsListIter it p i ->
   codeAny (model X.prog X.w) A (.builtin "dict.update.loop" ⟨[.ref d,.ref it,rawInt i,.none],[]⟩) R s:=by
 intro n
 induction n with
 | zero=>
  intro i s hn hi I st
  have e:i = kvs.length:=by omega
  subst e
  rw [List.take_length] at I
  have hq:SqL X.K (upd H d (.dK (mergeK [] kvs))) p ts:=Same.seq (Same.upd_new hd) hp
  obtain ⟨its,rv,pl,hz⟩:=I.list hq
  obtain ⟨f0,f1,f2,f3,f4,f5⟩:=hfp (.dK (mergeK [] kvs))
  have e1:=ht.length
  have e2:=rv.length
  refine codeAny_builtin du_entry ?_
  rw [Around.under_plainId du_plain _]
  show wpAny _ A.in1 (pyNext (.ref it) >>= _) _ _ s
  refine wpAny_bind (wpAny_pyNext_list_end hh st pl.isList (by simp; omega) fun h' eb=>?_)
  have I1:=I.turned (t':=s.toks) (h':=h') (fun b o hb e=>eb b o hb e) f0 f1 f3 f4 f5
  exact wpAny_bind (wpAny_pure (wpAny_pure (res _ I1)))
 | succ n ih=>
  intro i s hn hi I st
  have hi:i < kvs.length:=by omega
  have sm:Same H (upd H d (.dK (mergeK [] (kvs.take i)))):=Same.upd_new hd
  obtain ⟨its,rv,pl,hz⟩:=I.list (Same.seq sm hp)
  obtain ⟨f0,f1,f2,f3,f4,f5⟩:=hfp (.dK (mergeK [] (kvs.take i)))
  have e1:=ht.length
  have hx:ts[i]? = some (ts[i]'(by omega)):=List.getElem?_eq_getElem (by omega)
  have hk:kvs[i]? = some (kvs[i]'hi):=List.getElem?_eq_getElem hi
  obtain ⟨a,ea,ha⟩:=paired_at ht i _ _ hx hk
  obtain ⟨u,hu,ru⟩:=rv.get hx
  rw [ea] at ru
  cases (show u = Value.ref a from ru)
  refine codeAny_builtin du_entry ?_
  rw [Around.under_plainId du_plain _]
  show wpAny _ A.in1 (pyNext (.ref it) >>= _) _ _ s
  refine wpAny_bind (wpAny_pyNext_list_item st pl.isList (x:=.ref a) (by simpa using hu) fun h' st' sb=>?_)
  have I1:=I.turned (t':=s.toks) (h':=h') (fun b o hb e=>(sb.2 b hb).trans e) f0 f1 f3 f4 f5
  obtain ⟨_,its2,rv2,o2,g1,g2,n2,g3⟩:=(show ObjOk X.prog X.w _ h' a (.tup _) from I1.hok a _ (sm _ _ ha))
  obtain ⟨k1,v1,rfl,rk,rv1⟩:=vals2 rv2
  have hlen:(mergeK [] (kvs.take i)).length < sizeLine:=by
   have h1:=length_mergeK (kvs.take i) []
   rw [List.length_take] at h1
   simp at h1
   omega
  have em:mergeK [] (kvs.take (i + 1)) = putK (mergeK [] (kvs.take i)) (kvs[i]'hi).1 (kvs[i]'hi).2:=by
   rw [List.take_add_one,hk]
   unfold mergeK
   rw [List.foldl_append]; rfl
  refine wpAny_bind (wpAny_holding (wpAny_bind (wpAny_tryCatch ?_)))
  unfold Builtin.Dict.pairItems
  refine wpAny_bind (wpAny_typeOf ⟨o2,g1,g2⟩ ?_)
  rw [if_pos (by decide)]
  refine wpAny_bind (wpAny_seqItems g1 g3 (wpAny_pure ?_))
  show wpAny _ _ (holding [k1,v1] (dictSet d k1 v1)) _ _ _
  refine wpAny_holding (d_dictSet2 I1 upd_same hlen rk rv1 fun s' I2 hs=>?_)
  rw [upd_upd,<- em] at I2
  exact wpAny_pure ⟨plainId_quiet du_plain _,ih (i + 1) s' (by omega) hi I2 (st'.at fun o e=>(hs.2 it hit).trans e)⟩
theorem call_dictP (hc:X.calm = true):CallR X (.type "dict") (fun xs H Q=>∃ p ts kvs,xs = [.ref p] /\ SqL X.K H p ts /\ Paired (Pair2 H) ts kvs /\ kvs.length < sizeLine /\ ∀ d,H d = none -> Q (.ref d) (upd H d (.dK (mergeK [] kvs)))):=by
 intro pins s σ H xs us Q I r h
 obtain ⟨p,ts,kvs,rfl,hp,ht,hl,q⟩:=h
 obtain ⟨u,rfl,ru⟩:=vals1 r
 cases (show u = Value.ref p from ru)
 refine callType_codes (Q₁:=fun obj s1=>obj = .ref s.heap.objs.size /\ s1 = { s with heap:=s.heap.push { cls:=.type "dict",data:=.dict #[] } }) F.kt_called_dict (F.kt_typeCall_dict_1 _) F.entry_dict_init (kt_code_dict_new _ ⟨rfl,rfl⟩) ?_
 rintro obj s1 ⟨rfl,rfl⟩
 have hn:=I.hok.fresh (Nat.le_refl s.heap.objs.size)
 have I1:=I.laid (a:=s.heap.objs.size) (o:=.dK []) (h':=s.heap.push { cls:=.type "dict",data:=.dict #[] }) (t':=s.toks) (fun _ _ q=>Heap.get?_push_of_some _ q) (Nat.le_refl _) (dk_empty s.heap I.big)
 obtain ⟨its,rv,pl,hz⟩:=I1.list (Same.seq (Same.upd_new hn) hp)
 have hT:Shared.TypeIs { s with heap:=s.heap.push { cls:=.type "dict",data:=.dict #[] } } (.ref s.heap.objs.size) "dict" := ⟨_,Heap.get?_push_size _ rfl,rfl⟩
 refine ⟨hT,F.args_dict_init_2 _ _,?_⟩
 unfold Builtin.«dict.__init__»
 refine wpAny_bind ?_
 unfold Builtin.Dict.selfAndRest
 refine wpAny_bind (wpAny_notOrdered_dict hT ?_)
 show wpAny _ _ (pure (s.heap.objs.size,[Value.ref p])) _ _ _
 refine wpAny_pure ?_
 show wpAny _ _ (Builtin.Dict.updateFrom "dict.__init__" s.heap.objs.size (.ref p) [] .none) _ _ _
 unfold Builtin.Dict.updateFrom
 refine wpAny_bind (wpAny_typeOf pl.isList.typeIs ?_)
 rw [if_pos (by decide)]
 obtain ⟨ob,n0,hg0,hg1,hg2,hg3⟩:=pl
 refine wpAny_bind (no_keys hg0 hg1 hg3 hg2 (I.ok.hd hc) fun h2 tk2 e2 nx=>?_)
 have I2:=I1.kept (t':=tk2) (h':=h2) nx.keeps
 rw [if_pos (show (none:Option Value).isNone = true from rfl)]
 refine wpAny_bind (wpAny_rule ?_)
 refine wpAny_bind (wpAny_pyIter_list (items:=its.toArray) ⟨ob,nx.keeps _ _ hg0,hg1,n0,hg3⟩ ?_)
 refine wpAny_pure ⟨plainId_quiet du_plain _,?_⟩
 have sz2:s.heap.objs.size < h2.objs.size:=by
  have:=Heap.lt_size (nx.keeps _ _ (Heap.get?_push_size s.heap (o:={ cls:=.type "dict",data:=.dict #[] }) rfl))
  exact this
 refine du_loop (X:=X) (pins:=pins) (σ:=σ) (A:=X.A.in1) (H:=H) (d:=s.heap.objs.size) (p:=p) (it:=h2.objs.size) (ts:=ts) (kvs:=kvs) (I.ok.hd hc) hp hn ht hl (Nat.ne_of_gt sz2) (fun o=>?_) (fun s' I'=>?_) kvs.length 0 _ rfl (Nat.zero_le _) ?_ ?_
 ·exact I2.fpOk (Nat.le_refl _) (by rw [upd_ne (Nat.ne_of_gt sz2)]; exact (Same.upd_new hn).free (I2.hok.fresh (Nat.le_refl _)))
 ·exact ⟨rfl,.ref s.heap.objs.size,_,I',rfl,q _ hn⟩
 ·exact I2.kept (t':=tk2) fun b o e=>Heap.get?_push_of_some _ e
 ·exact ⟨_,Heap.get?_push_size _ rfl,rfl,rfl⟩
end
end L2
namespace L3
open PySem PySem.Spec PyProof.Rows L2
noncomputable def pairD:D -> Option (Key × D)
 | .tup [k,v]=>(keyD k).map fun j=>(j,v)
 | _=>none
noncomputable def pairsD:List D -> Option (List (Key × D))
 | []=>some []
 | x :: xs=>match pairD x,pairsD xs with
  | some p,some ps=>some (p :: ps)
  | _,_=>none
noncomputable def mergeD (more:List (Key × D)):List (Key × D):=more.foldl (fun acc kv=>putD acc kv.1 kv.2) []
section
variable {X:Cx}
theorem pairs_of {K:PySem.W.Frag} {H:Hp}:∀ {ts:List V} {xs:List D} {A:List Addr} {ps:List (Key × D)},Reps K H ts xs A -> pairsD xs = some ps -> imms xs = true ->
  ∃ kvs:List (Key × V),Paired (Pair2 H) ts kvs /\ RepK K H kvs ps [] /\ kvs.length = ps.length
 | _,_,_,_,.nil,e,_=>by cases e; exact ⟨[],.nil,.nil,rfl⟩
 | _,_,_,ps,.cons (d:=d) (ds:=ds) h t,e,im=>by
  have im':(imm d && imms ds) = true:=im
  rw [Bool.and_eq_true] at im'
  unfold pairsD at e
  cases e1:pairD d with
  | none=>rw [e1] at e; cases e
  | some p=>
   cases e2:pairsD ds with
   | none=>rw [e1,e2] at e; cases e
   | some qs=>
    rw [e1,e2] at e
    cases e
    obtain ⟨kvs,a,b,c⟩:=pairs_of t e2 im'.2
    unfold pairD at e1
    split at e1
    ·rename_i k v
     obtain ⟨j,hj,rfl⟩:=Option.map_eq_some_iff.mp e1
     obtain ⟨q,vs,rfl,hq,rs⟩:=rep_tup h
     obtain ⟨x,y,B,C,rfl,r1,r2,_⟩:=rs.two
     cases rep_key r1 hj
     have iv:imm v = true:=by
      have z:(imm k && (imm v && true)) = true:=im'.1
      simp only [Bool.and_eq_true] at z
      exact z.2.1
     have hC:=r2.immA iv
     subst hC
     exact ⟨(j,y) :: kvs,.cons ⟨q,rfl,hq⟩ a,RepK.cons (A:=[]) (B:=[]) r2 b,by rw [List.length_cons,List.length_cons,c]⟩
    ·cases e1
theorem merge_rep {K:PySem.W.Frag} {H:Hp}:∀ {kvs:List (Key × V)} {ps:List (Key × D)} {A:List Addr} {acc:List (Key × V)} {ad:List (Key × D)},RepK K H kvs ps A -> A = [] -> RepK K H acc ad [] -> RepK K H (mergeK acc kvs) (ps.foldl (fun a kv=>putD a kv.1 kv.2) ad) []
 | _,_,_,_,_,.nil,_,q=>q
 | _,_,_,acc,ad,.cons (k:=k) h t,e,q=>by
  obtain ⟨e1,e2⟩:=List.append_eq_nil_iff.mp e
  subst e1
  obtain ⟨C,rp,sC⟩:=q.put k h
  rw [List.sublist_nil.mp sC] at rp
  show RepK K H (mergeK (putK acc k _) _) (List.foldl _ (putD ad k _) _) []
  exact merge_rep t e2 rp
noncomputable def gDictA:List D -> (D -> Prop) -> Prop:=fun ds Q=>(∃ (d:D) (xs:List D) (ps:List (Key × D)),ds = [d] /\ kindB false d = some xs /\ imms xs = true /\ pairsD xs = some ps /\ ps.length < sizeLine /\ Q (.dic (mergeD ps))) \/
 ∃ kds:List (Key × D),ds = [.dic kds] /\ (kds.all fun kv=>imm kv.2) = true /\ Q (.dic kds)
noncomputable def rDictA (K:PySem.W.Frag) (xs:List V) (H:Hp) (Q:VK):Prop:=(∃ p ts kvs,xs = [.ref p] /\ SqL K H p ts /\ Paired (Pair2 H) ts kvs /\ kvs.length < sizeLine /\ ∀ d,H d = none -> Q (.ref d) (upd H d (.dK (mergeK [] kvs)))) \/
  ∃ p kvs,xs = [.ref p] /\ Dd H p kvs /\ ∀ d,H d = none -> Q (.ref d) (upd H d (.dK kvs))
theorem call_dictA0 (hc:X.calm = true):CallR X (.type "dict") (rDictA X.K):=by
 intro pins s σ H xs us Q I r h
 rcases h with h | ⟨p,kvs,rfl,hp,q⟩
 ·exact call_dictP hc pins s σ H xs us Q I r h
 ·obtain ⟨u,rfl,ru⟩:=vals1 r
  cases (show u = Value.ref p from ru)
  obtain ⟨z,hd,vs,rel,dd⟩:=dk_rd I.hok (.of hp)
  refine kt_call_dict hd dd (by rw [<- rel.length]; exact z) fun h' dd' hs=>?_
  have hn:=I.hok.fresh (Nat.le_refl s.heap.objs.size)
  have kp:∀ b o,s.heap.get? b = some o -> h'.get? b = some o:=fun b o e=>by
   have hb:b ≠ s.heap.objs.size:=Nat.ne_of_lt (Heap.lt_size e)
   exact (hs.2 b hb).trans (Heap.get?_push_of_some _ e)
  have bg:(s.heap.objs.size == sysModules) = false:=(dk_empty (P:=X.prog) (w:=X.w) (H:=H) s.heap I.big).2.1
  exact ⟨.ref s.heap.objs.size,_,I.laid (t':=s.toks) kp (Nat.le_refl _) (dk_new z bg rel dd'),rfl,q _ hn⟩
theorem call_dictA (hc:X.calm = true):CallR X (.type "dict") (fun xs H Q=>rDictA X.K xs H (lrn Q)):=call_lrn (call_dictA0 hc)
theorem c_dictA:Call3 X (fun xs H Q=>rDictA X.K xs H (lrn Q)) gDictA:=by
 intro H vs ds A Q R r q k
 rcases q with ⟨d,xs,ps,rfl,e1,im,e2,hl,q⟩ | ⟨kds,rfl,im,q⟩
 ·obtain ⟨v,rfl,rr⟩:=r.one
  obtain ⟨p,ts,B,rfl,hq,r2,_⟩:=rep_sqL rr e1
  obtain ⟨kvs,pp,rk,el⟩:=pairs_of r2 e2 im
  refine .inl ⟨p,ts,kvs,rfl,hq,pp,by rw [el]; exact hl,fun a ha=>?_⟩
  have rm:RepK X.K H (mergeK [] kvs) (mergeD ps) []:=merge_rep rk rfl .nil
  refine ⟨a,_,rfl,upd_same,fun ep=>?_⟩
  rw [upd_upd]
  refine k _ _ _ [a] (Same.upd_new ha) (.dic upd_same (rm.mono (Stb.of (Same.upd_new ha)) fun b hb=>by cases hb)) (List.nodup_cons.mpr ⟨(fun z=>nomatch z),List.nodup_nil⟩) (fun b hb=>by cases List.mem_singleton.mp hb; exact ha) q
 ·obtain ⟨v,rfl,rr⟩:=r.one
  obtain ⟨p,kvs,B,rfl,hp,rk,_⟩:=rep_dic rr
  have hB:=rk.immA im
  subst hB
  refine .inr ⟨p,kvs,rfl,hp,fun a ha=>?_⟩
  refine ⟨a,_,rfl,upd_same,fun ep=>?_⟩
  rw [upd_upd]
  exact k _ _ _ [a] (Same.upd_new ha) (.dic upd_same (rk.mono (Stb.of (Same.upd_new ha)) fun b hb=>by cases hb)) (List.nodup_cons.mpr ⟨(fun z=>nomatch z),List.nodup_nil⟩) (fun b hb=>by cases List.mem_singleton.mp hb; exact ha) q
end
end L3
namespace L2
open PySem PySem.Spec PyProof.Rows
section
variable {X:Cx} {e c:Expr} {te:TE} {pos p2:Pos}
noncomputable def tFlip (K:PySem.W.Frag) (te:TE) (tc:TO):TE:=fun σ H Q=>te σ H fun x H1=>tc σ H1 fun l H2=>l = some (-1) /\ ∃ a xs,x = .ref a /\ SqL K H2 a xs /\ ∀ p,H2 p = none -> Q (.ref p) (upd H2 p (.lst xs.reverse))
theorem pe_flip {tc:TO} (he:PE X e te) (hc:PO X (some c) tc):PE X (.Subscript e (.Slice none none (some c) p2) pos) (tFlip X.K te tc):=by
 refine .of ?_
 intro pins s σ H Q I h
 refine Subscript_ (thn (he pins s σ H _ I h) fun v s1 ⟨x,H1,I1,r1,q1⟩=>?_)
 refine wpAny_Slice ?_
 rw [evalPart_none]
 refine wpAny_pure (wpAny_pure ?_)
 refine thn (hc pins s1 σ H1 _ I1 q1) fun vc s2 ⟨l,H2,I2,pc,e1,a,xs,ex,hq,q2⟩=>?_
 subst e1 ex
 cases r1
 have I4:Inv X pins σ H2 { s2 with heap:=s2.heap.push { cls:=.type "slice",data:=.fields #[.none,.none,vc] } }:=I2.kept (t':=s2.toks) fun b ob q=>Heap.get?_push_of_some _ q
 obtain ⟨its,r,ht,hz⟩:=I4.list hq
 have hlen:=r.length
 show wpAny (model X.prog X.w) X.A (subscriptTail e (.Slice none none (some c) p2) (.ref a) (.ref s2.heap.objs.size)) (EP X pins σ Q) X.xe { s2 with heap:=s2.heap.push { cls:=.type "slice",data:=.fields #[.none,.none,vc] } }
 refine tail_any (ops:=[.ref a,.ref s2.heap.objs.size]) ht.isList.typeIs slot_list_getitem.lookup ?_ (by with_unfolding_all rfl)
 refine wpAny_getItem_list_slice ht.isList (Heap.IsSliceOf.new ..) .none .none pc (by decide) ?_ (by rw [List.size_toArray]; omega)
 rw [PySem.W.krv_pick]
 refine ⟨.ref _,_,I4.laid (t':=s2.toks) (o:=.lst xs.reverse) (fun b ob q=>Heap.get?_push_of_some _ q) (Nat.le_refl _) ?_,rfl,q2 _ (I4.hok.fresh (Nat.le_refl _))⟩
 exact ⟨by rw [List.length_reverse]; exact hz,_,0,r.reverse,Heap.get?_push_size _ rfl⟩
end
end L2
namespace L3
open PySem PySem.Spec L2
section
variable {X:Cx} {cl:List Cl} {a c:Expr} {fa:Fl} {ua uc:TU} {pos p2:Pos}
noncomputable def uFlip (ua:TU) (uc:TO3):TU:=fun ρ Q=>ua ρ fun d=>uc ρ fun l=>l = some (-1) /\ match d with
 | .lst xs=>imms xs = true /\ Q (.lst xs.reverse)
 | _=>False
theorem reps_rev {K:PySem.W.Frag} {H:Hp} {vs:List V} {ds:List D} (r:Reps K H vs ds []):Reps K H vs.reverse ds.reverse []:=by
 obtain ⟨C,rC,mC,_⟩:=r.rev
 have e:C = []:=by
  cases C with
  | nil=>rfl
  | cons a C=>exact absurd ((mC a).mp List.mem_cons_self) (by simp)
 rw [e] at rC
 exact rC
theorem pu_flip {f:Fl} {uc:TU} (ha:PU X cl a fa ua) (hc:PU X cl c f uc):PU X cl (.Subscript a (.Slice none none (some c) p2) pos) .fresh (uFlip ua (oSome uc)):=.of <| by
 obtain ⟨ta,pa,ha⟩:=ha.run
 obtain ⟨tl,pl,hl⟩:=(o3_some hc).run
 refine ⟨_,pe_flip pa pl,fun G ρ σ H fo Q R hG E hu k=>ha G ρ σ H fo _ _ hG E hu fun v H1 d A s1 r1 f1 q1=>hl G ρ σ H1 fo _ _ hG (E.same s1) q1 fun o1 H2 s2 q2=>?_⟩
 obtain ⟨e1,q2⟩:=q2
 cases d <;> first | exact (show False from q2).elim | skip
 obtain ⟨p,vs,B,rfl,hp,rs,_⟩:=rep_lst (r1.same s2)
 have eB:=rs.immA q2.1
 subst eB
 refine ⟨e1,p,vs,rfl,SqL.of hp,fun l hl=>?_⟩
 exact k _ _ _ [l] ((s1.trans s2).trans (Same.upd_new hl)) (.lst upd_same ((reps_rev rs).same (Same.upd_new hl))) ⟨List.nodup_cons.mpr ⟨(fun z=>nomatch z),List.nodup_nil⟩,fun b hb=>by cases List.mem_singleton.mp hb; exact (s1.trans s2).free hl⟩ q2.2
end
end L3
namespace L2
open PySem PySem.Spec PySem.Calls PyProof.Rows
section
variable {X:Cx} {pins:List (Addr × Obj)} {σ:St} {H:Hp} {s:Shared}
end
end L2
namespace L3
open PySem PySem.Spec PySem.Calls PyProof.Rows L2
section
variable {X:Cx} {cl:List Cl} {e:Expr} {es:List Expr} {pos cpos hpos np p:Pos} {us:TUs} {k m:Nat} {x y bn n:Str} {i j:Nat} {AP:Addr -> Prop}
end
end L3
namespace My
open PySem L2 L3
noncomputable def strm (cs:List Int) (a st:Int):D:=.lst [.lst (cs.map D.int),.int a,.int st]
noncomputable def SOk (cs:List Int) (a st:Int):Prop:=0 <= a /\ 0 <= st /\ st < 2305843009213693951 /\ cs.length <= 63
noncomputable def cStream:Cp:=fun ds Q=>∃ (d:D) (ns:List Int),ds = [d] /\ scr d ns /\ ∀ cs:List Int,cs.length <= 63 -> Q (strm cs 0 20011)
noncomputable def cTakeS:Cm:=fun ds Q=>∃ (cs:List Int) (a st n:Int),ds = [strm cs a st,.int n] /\ SOk cs a st /\ 0 < n /\ n <= 10 ^ 70 /\ ∀ (r:Int) (cs':List Int) (a' st':Int),0 <= r -> r < n -> SOk cs' a' st' -> Q (.int r) (strm cs' a' st')
noncomputable def cCurveS:Cm:=fun ds Q=>∃ (cs:List Int) (a st far long:Int),ds = [strm cs a st,.int far,.int long] /\ SOk cs a st /\ 0 < far /\ far <= 10 ^ 59 /\ 0 < long /\ long <= 10 ^ 59 /\ ∀ (cv:List Pr) (cs':List Int) (a' st':Int),CvOk cv -> SOk cs' a' st' -> Q (crs cv) (strm cs' a' st')
noncomputable def cNamesS:Cm:=fun ds Q=>∃ (cs:List Int) (a st n:Int),ds = [strm cs a st,.int n] /\ SOk cs a st /\ 0 <= n /\ n <= 26 /\ ∀ (xs:List Str) (cs':List Int) (a' st':Int),(xs.length:Int) = n -> xs.Nodup -> (∀ x ∈ xs,nm 8 x) -> SOk cs' a' st' -> Q (txs xs) (strm cs' a' st')
noncomputable def cGuardsS:Cm:=fun ds Q=>∃ (cs:List Int) (a st far long:Int) (xs:List Str),ds = [strm cs a st,txs xs,.int far,.int long] /\ SOk cs a st /\ 0 < far /\ far <= 10 ^ 59 /\ 0 < long /\ long <= 10 ^ 59 /\ 1 <= xs.length /\ xs.length <= 16 /\ xs.Nodup /\ ∀ (gs:List Gd) (cs':List Int) (a' st':Int),gs.map (·.nm) = xs -> UnOk gs -> (∀ g ∈ gs,CvOk g.cv) -> (∀ g ∈ gs,0 <= g.de /\ g.de < 10 ^ 60) -> (∀ g ∈ gs,0 <= g.wa /\ g.wa < 10 ^ 60) -> SOk cs' a' st' -> Q (.tup (gs.map gD)) (strm cs' a' st')
noncomputable def cLoadsS:Cm:=fun ds Q=>∃ (cs:List Int) (a st far long:Int) (xs:List Str) (gs:List Gd),ds = [strm cs a st,txs xs,.tup (gs.map gD),.int far,.int long] /\ SOk cs a st /\ 0 < far /\ far <= 10 ^ 59 /\ 0 < long /\ long <= 10 ^ 59 /\ 1 <= gs.length /\ gs.length <= 16 /\ xs.length <= 24 /\ ∀ (ls:List Ld) (cs':List Int) (a' st':Int),ls.map (·.nm) = xs -> (∀ l ∈ ls,l.cs.length <= 4) -> (∀ l ∈ ls,∀ p ∈ l.cs,1 <= p.1 /\ p.1 < 10 ^ 60 /\ 0 <= p.2 /\ p.2 < 10 ^ 60) -> (∀ l ∈ ls,0 <= l.la /\ l.la < 10 ^ 60) -> (∀ l ∈ ls,∃ g ∈ gs,g.nm = l.at_) -> SOk cs' a' st' -> Q (.tup (ls.map lD)) (strm cs' a' st')
noncomputable def cBoardS:Cm:=fun ds Q=>∃ (cs:List Int) (a st most many far long:Int),ds = [strm cs a st,.int most,.int many,.int far,.int long] /\ SOk cs a st /\ 0 < far /\ far <= 10 ^ 59 /\ 0 < long /\ long <= 10 ^ 59 /\ 0 < most /\ most <= 16 /\ 0 <= many /\ many <= 10 /\ ∀ (b:Bd) (cs':List Int) (a' st':Int),BdOk b -> SOk cs' a' st' -> Q (bD b) (strm cs' a' st')
noncomputable abbrev cs (x:Str):List Nat:=x.cps.toList
noncomputable def nt (n:Int):Str:=Str.ofString (toString n)
theorem nt_len {n:Int} (h:0 <= n) (h1:n < 10 ^ 60):(nt n).length <= 61:=by
 unfold nt
 rw [ofString_length]
 exact int_text_length_le10 (by decide) (by omega)
noncomputable def num (n:Int):Prop:=0 <= n /\ n < 10 ^ 60
theorem num.len {n:Int} (h:num n):(nt n).length <= 61:=nt_len h.1 h.2
noncomputable def noNl (x:Str):Prop:=10 ∉ cs x
noncomputable instance (x:Str):Decidable (noNl x):=by unfold noNl; infer_instance
mutual
noncomputable def kn:D -> Bool
 | .non=>true
 | .bl _=>true
 | .int _=>true
 | .str x=>decide (x.length <= 100000)
 | .tup xs=>kns xs
 | .lst xs=>kns xs
 | .dic _=>true
 | _=>false
noncomputable def kns:List D -> Bool
 | []=>true
 | x :: xs=>kn x && kns xs
end
structure GsOk (gs:List Gd):Prop where
 len:gs.length <= 16
 nd:(gs.map (·.nm)).Nodup
 un:UnOk gs
noncomputable def und (gs:List Gd) (x:Str):Option Str:=match gs.find? (fun g=>decide (g.nm = x)) with
 | some g=>g.un
 | none=>none
noncomputable def ups (gs:List Gd):Nat -> Option Str -> List Str
 | 0,_=>[]
 | _ + 1,none=>[]
 | n + 1,some x=>x :: ups gs n (und gs x)
noncomputable def gns (b:Bd):List Str:=b.gs.map (·.nm)
noncomputable def lns (b:Bd):List Str:=b.ls.map (·.nm)
noncomputable def atOf (b:Bd) (x:Str):Str:=match b.ls.find? (fun l=>decide (l.nm = x)) with
 | some l=>l.at_
 | none=>x
noncomputable def overS (b:Bd) (x:Str):List Str:=ups b.gs 8 (some (atOf b x))
end My
namespace L3
open PySem PySem.Spec PySem.Calls PyProof.Rows L2
section
variable {X:Cx} {cl:List Cl} {e:Expr} {es:List Expr} {pos p:Pos} {us:TUs} {k:Nat} {fn:Addr} {fd:FuncData} {ps:List Str} {x:Str} {ua:TU} {f:Fl} {ma:TM}
structure PAS (X:Cx) (cl:List Cl) (es:List Expr) (u:TUs):Prop where
 of ::
 run:∃ t,PA X es t /\ ∀ (G:Ent) (ρ:Ev) (σ:L2.St) (H:Hp) (fa:Nat -> List Addr) (Q:List D -> Prop) (R:List V -> Hp -> Prop),G.cl = cl -> E3 X.K G ρ σ H fa -> u ρ Q ->
  (∀ vs H' ds A,Same H H' -> Reps X.K H' vs ds A -> ds.length = es.length -> (∀ i,G.own i -> ∀ a ∈ A,a ∉ fa i) -> Q ds -> R vs H') -> t σ H R
theorem as_nil:PAS X cl [] uNil:=.of ⟨_,pa_nil,fun G ρ σ H fa Q R _ E hu k=>k [] H [] [] (Same.refl H) .nil rfl (fun _ _ _ h=>(by cases h)) hu⟩
theorem as_cons (ha:PU X cl e f ua) (hr:PAS X cl es us) (hs:isStar e = false) (hf:flMin f .stab = true):PAS X cl (e :: es) (uCons ua us):=.of <| by
 obtain ⟨t1,p1,h1⟩:=ha.run
 obtain ⟨t2,p2,h2⟩:=hr.run
 refine ⟨_,pa_k p1 p2 hs,fun G ρ σ H fa Q R hG E hu k=>?_⟩
 refine h1 G ρ σ H fa _ _ hG E hu fun v H1 d A s1 r1 f1 q1=>?_
 refine h2 G ρ σ H1 fa _ _ hG (E.same s1) q1 fun vs H2 ds B s2 r2 n3 n4 q2=>?_
 refine k (v :: vs) H2 (d :: ds) (A ++ B) (s1.trans s2) (.cons (r1.same s2) r2) (by simp [n3]) (fun i hi a ha=>?_) q2
 rcases List.mem_append.mp ha with z | z
 ·exact f1.weak E hf i hi a z
 ·exact n4 i hi a z
theorem pu_tupS {x1} (h:PAS X cl es us) (hn:Nat.ble es.length 1000 = true):PU X cl (.Tuple es x1 pos) .stab (uTup us):=.of <| by
 obtain ⟨t,p,h⟩:=h.run
 refine ⟨_,pe_tup p,fun G ρ σ H fa Q R hG E hu k=>?_⟩
 refine h G ρ σ H fa _ _ hG E hu fun vs H1 ds A s r n3 n4 q=>⟨by rw [r.length,n3]; exact line1000 (Nat.le_of_ble_eq_true hn),fun x hx=>?_⟩
 exact k _ _ (.tup ds) A (s.trans (Same.upd_new hx)) (.tup upd_same (r.same (Same.upd_new hx))) n4 q
end
end L3
namespace My
open PySem L2 L3
noncomputable def seqS (d:D) (xs:List Str):Prop:=d = .lst (xs.map D.str) \/ d = .tup (xs.map D.str)
noncomputable def fedB (b:Bd) (op:List Str) (x:Str):Bool:=(overS b x).all fun g=>decide (g ∉ op)
noncomputable def cOverS:Cp:=fun ds Q=>∃ (b:Bd) (x:Str),ds = [bD b,.str x] /\ BdOk b /\ x ∈ gns b ++ lns b /\ Q (txs (overS b x))
end My
namespace L2
open PySem PySem.Spec PyProof.Rows
theorem callT_by {prog:Program} {w:World} {A:Around} {E:Value -> Shared -> Prop} {s:Shared} {T newId initId:String} {Bi:Builtin} {args:List Value} {Q Q1:Value -> Shared -> Prop} (ft:TypeCalled T newId initId) (ct:checkTypeCall T ⟨args,[]⟩ = pure ()) (en:entryFor table initId = some Bi)
  (hnew:codeAny (model prog w) A.in1 (.call (.builtin newId) ⟨.type T :: args,[]⟩) (wants Q1 E) s)
  (next:∀ x s1,Q1 x s1 -> s1.TypeIs x T /\ (∀ {A':Around} {Q':Unit -> Shared -> Prop} {E':Value -> Shared -> Prop},Q' () s1 -> wpAny (model prog w) A' (checkBuiltinCall initId ⟨x :: args,[]⟩) Q' E' s1) /\
   wpAny (model prog w) A.in1.in1 (Bi ⟨x :: args,[]⟩)
    (fun f s'=>match f with | .done r=>wants (fun r s2=>r = .none /\ Q x s2) E (.ok r) s' | .again c=>c.quiet = true /\ codeAny (model prog w) A.in1 c (wants (fun r s2=>r = .none /\ Q x s2) E) s')
    (fun e s'=>wants (fun r s2=>r = .none /\ Q x s2) E (.error e) s') s1) :
  wpAny (model prog w) A (call (.type T) args) Q E s:=by
 have ⟨c,tl,f1⟩:=ft.mro; have f2:=ft.made; have f3:=ft.sub; have f4:=ft.notType; have f5:=ft.canCreate
 refine wpAny_call (codeAny_of_tree (show wpAny _ _ (callAny (.type T) _) _ _ _ from wpAny_pure ⟨Code.quiet_builtin _ (by decide +kernel),codeAny_builtin F.entry_type_call ?_⟩))
 rw [Around.under_plain (weight_type_call_type T args []) rfl]; repeat (any_goals (first | assumption | wp_step))
 refine codeAny_mono hnew fun r s1 hr=>?_
 cases r with
 | error e=>exact hr
 | ok fl=>
  cases fl with
  | ret x=>
   have ⟨f6,ck,run⟩:=next _ _ hr; have f7:=ft.init.lookup; have f8:=ft.init.bind x; repeat (any_goals (first | assumption | wp_step))
   refine codeAny_mono (codeAny_call_builtin ft.init.plain en (ck run)) fun r2 s2 hr2=>?_
   cases r2 with
   | error e=>exact hr2
   | ok fl2=>
    cases fl2 with
    | ret r=>obtain ⟨rfl,hq⟩:=hr2; repeat (any_goals (first | assumption | wp_step))
    | _=>exact hr2.elim
  | _=>exact hr.elim
theorem set_walk {prog:Program} {w:World} {A:Around} {R:Result -> Shared -> Prop} {I:Addr} {fp wr:List Addr} {n:Nat} {P:Nat -> Value -> Prop} {St:Nat -> Heap -> Prop} (W:Walks prog w A.in1 I fp wr n P St) (S:Addr) (hS:S ∉ fp) (key:Nat -> Key) (hv:∀ i v,P i v -> keyIs (key i) v = true) (hb:n + 1 < scanBound) :
  ∀ (k i:Nat) (s:Shared),n - i = k -> i <= n -> St i s.heap -> (∃ m,m <= i /\ s.heap.SetOf (mixKind prog w) S (fun x=>((List.range i).map key).any fun z=>decide (z = x)) m) ->
   (∀ h' tk m,(∀ b o,b ∉ S :: wr -> s.heap.get? b = some o -> h'.get? b = some o) -> h'.SetOf (mixKind prog w) S (fun x=>((List.range n).map key).any fun z=>decide (z = x)) m -> R (.ok (.ret .none)) { s with heap:=h',toks:=tk }) ->
   codeAny (model prog w) A (.builtin "set.update.loop" ⟨[.ref S,.ref I],[]⟩) R s:=by
 have nw:S ∉ wr:=fun h=>hS (W.sub _ h)
 have stay:∀ {h h':Heap} {T:Key -> Bool} {m:Nat},(∀ b o,b ∉ wr -> h.get? b = some o -> h'.get? b = some o) -> h.SetOf (mixKind prog w) S T m -> h'.SetOf (mixKind prog w) S T m:=fun k ⟨o,es,ep,t,ho,r⟩=>⟨o,es,ep,t,k S _ nw ho,r⟩
 have same:∀ {h:Heap} {T T':Key -> Bool} {m:Nat},h.SetOf (mixKind prog w) S T m -> T = T' -> h.SetOf (mixKind prog w) S T' m:=fun a e=>e ▸ a
 intro k
 induction k with
 | zero=>
  intro i s hk hi st ⟨m,_,hm⟩ res
  have e:i = n:=by omega
  subst e
  refine codeAny_builtin PyProof.Rows.F.entry_set_update_loop ?_
  rw [Around.under_plainId PyProof.Rows.F.plain_set_update_loop _]
  show wpAny _ A.in1 (pyNext (.ref I) >>= _) _ _ s
  refine wpAny_bind (W.done s _ _ st fun h' tk kp=>?_)
  exact wpAny_pure (res h' tk m (fun b o hb e=>kp b o (fun z=>hb (List.mem_cons_of_mem _ z)) e) (stay kp hm))
 | succ k ih=>
  intro i s hk hi st ⟨m,hmi,hm⟩ res
  have hlt:i < n:=by omega
  refine codeAny_builtin PyProof.Rows.F.entry_set_update_loop ?_
  rw [Around.under_plainId PyProof.Rows.F.plain_set_update_loop _]
  show wpAny _ A.in1 (pyNext (.ref I) >>= _) _ _ s
  refine wpAny_bind (W.item i s _ _ hlt st fun v h' tk hP st' kp=>?_)
  have hkv:=hv i v hP
  have hsc:v.scannable = true:=by rcases keyIs_shape hkv with ⟨j,t,_,rfl⟩ | ⟨x,t,_,rfl⟩ <;> rfl
  have hm1:=stay kp hm
  show wpAny _ A.in1 (holding [v] (setAdd S v) >>= _) _ _ _
  refine wpAny_bind (wpAny_holding ?_)
  unfold setAdd
  refine wpAny_holding (wpAny_bind ((mixKind prog w).pyHash (k:=key i) hkv ?_))
  refine wpAny_setAddHashed_of (knd:=mixKind prog w) (n:=m) (s:={ s with heap:=h',toks:=tk + 1 }) hkv hsc hm1 (by omega) fun h2 sb hm2=>?_
  refine wpAny_pure ⟨plainId_quiet PyProof.Rows.F.plain_set_update_loop _,ih (i + 1) _ (by omega) hlt (W.frame (i + 1) h' h2 st' fun b hb o e=>(sb.2 b fun z=>hS (z ▸ hb)).trans e) ⟨_,?_,same hm2 (funext fun x=>?_)⟩ fun h3 tk3 m3 kp3 hm3=>?_⟩
  ·split <;> omega
  ·rw [List.range_succ,List.map_append]
   rw [List.any_append]
   show ((_:Bool) || decide (x = key i)) = (_ || (decide (key i = x) || false))
   rw [Bool.or_false,show decide (x = key i) = decide (key i = x) from decide_eq_decide.mpr eq_comm]
  ·refine res h3 tk3 m3 (fun b o hb e=>kp3 b o hb ?_) hm3
   exact (sb.2 b fun z=>hb (by rw [z]; exact List.mem_cons_self)).trans (kp b o (fun z=>hb (List.mem_cons_of_mem _ z)) e)
theorem pairs_key (P:Program) (w:World) {ts:List V} {its:List Value} {ks:List Key} (r:Vals ts its) (e:ts = ks.map kV) (i:Nat) (v:Value) (h:its.toArray[i]? = some v):keyIs (ks.getD i (.inl 0)) v = true:=by
 subst e
 have h1:its[i]? = some v:=by simpa using h
 have hl:=r.length
 rw [List.length_map] at hl
 have hi:=(List.getElem?_eq_some_iff.mp h1).1
 have hk:ks[i]? = some (ks[i]'(by omega)):=List.getElem?_eq_getElem (by omega)
 obtain ⟨u,hu,ru⟩:=r.get (show (ks.map kV)[i]? = some (kV (ks[i]'(by omega))) by rw [List.getElem?_map,hk]; rfl)
 rw [h1] at hu
 cases hu
 rw [List.getD_eq_getElem?_getD,hk]
 exact kV_is (P:=P) (w:=w) ru
theorem range_getD (ks:List Key):(List.range ks.length).map (fun i=>ks.getD i (.inl 0)) = ks:=by
 refine List.ext_getElem? fun i=>?_
 rw [List.getElem?_map]
 by_cases h:i < ks.length
 ·rw [List.getElem?_range h,List.getElem?_eq_getElem h]
  show some (ks.getD i (.inl 0)) = _
  rw [List.getD_eq_getElem?_getD,List.getElem?_eq_getElem h]; rfl
 ·rw [List.getElem?_eq_none (by simpa using h),List.getElem?_eq_none (by simpa using h)]; rfl
section
variable {X:Cx}
theorem sub_tuple_set:isSubtype (.type "tuple") (.type "set") = pure false:=by rw [isSubtype_type]; kernel_rfl
theorem sub_tuple_fset:isSubtype (.type "tuple") (.type "frozenset") = pure false:=by rw [isSubtype_type]; kernel_rfl
theorem call_setS (hc:X.calm = true):CallR X (.type "set") (fun xs H Q=>∃ (p:Addr) (ts:List V) (ks:List Key),xs = [.ref p] /\ (SqL X.K H p ts \/ SqT X.K H p ts) /\ ts = ks.map kV /\ ks.length + 1 < scanBound /\ ∀ d n,H d = none -> Q (.ref d) (upd H d (.set (fun k=>ks.any fun z=>decide (z = k)) n))):=by
 intro pins s σ H xs us Q I r h
 obtain ⟨p,ts,ks,rfl,hp,ht,hl,q⟩:=h
 obtain ⟨u,rfl,ru⟩:=vals1 r
 cases (show u = Value.ref p from ru)
 refine callT_by (Q1:=fun x s1=>∃ led:Bool,x = .ref s.heap.objs.size /\ s1 = { s with heap:=s.heap.push { cls:=.type "set",dict:=none,data:=.set #[] 0 (.fresh 0 0 led) } }) F.called_set (F.typeCall_set_1 _) F.entry_set_init (code_set_new_1 _ fun led=>⟨led,rfl,rfl⟩) ?_
 rintro x s1 ⟨led,rfl,rfl⟩
 have hn:=I.hok.fresh (Nat.le_refl s.heap.objs.size)
 have hS:(s.heap.push { cls:=.type "set",dict:=none,data:=.set #[] 0 (.fresh 0 0 led) }).get? s.heap.objs.size = some { cls:=.type "set",dict:=none,data:=.set #[] 0 (.fresh 0 0 led) }:=Heap.get?_push_size _ rfl
 have hT:Shared.TypeIs { s with heap:=s.heap.push { cls:=.type "set",dict:=none,data:=.set #[] 0 (.fresh 0 0 led) } } (.ref s.heap.objs.size) "set" := ⟨_,hS,rfl⟩
 refine ⟨hT,fun hq=>check_set_init_1 hT hq,?_⟩
 have fin:∀ (h':Heap) (tk m:Nat),(∀ b o,b < s.heap.objs.size -> s.heap.get? b = some o -> h'.get? b = some o) -> h'.SetOf (mixKind X.prog X.w) s.heap.objs.size (fun x=>ks.any fun z=>decide (z = x)) m ->
   EP X pins σ Q (.ref s.heap.objs.size) { s with heap:=h',toks:=tk }:=fun h' tk m kp hm=>
  ⟨.ref s.heap.objs.size,_,I.laid (a:=s.heap.objs.size) (o:=.set (fun k=>ks.any fun z=>decide (z = k)) m) (h':=h') (t':=tk) (fun b o e=>kp b o (Heap.lt_size e) e) (Nat.le_refl _) hm,rfl,q _ m hn⟩
 have hh:=I.ok.hd hc
 have e0:((List.range 0).map fun i=>ks.getD i (.inl 0)) = []:=rfl
 have start:∀ {h2:Heap},h2.get? s.heap.objs.size = some { cls:=.type "set",dict:=none,data:=.set #[] 0 (.fresh 0 0 led) } -> h2.SetOf (mixKind X.prog X.w) s.heap.objs.size (fun x=>((List.range 0).map fun i=>ks.getD i (.inl 0)).any fun z=>decide (z = x)) 0:=fun g=>
  ⟨_,#[],0,_,g,⟨rfl,rfl,rfl⟩,rfl,fun e he=>by simp at he,fun k=>by simp,by decide,by rfl,rfl⟩
 have plt:p < s.heap.objs.size:=by
  rcases hp with hp | hp
  ·obtain ⟨_,_,pl,_⟩:=I.list hp
   obtain ⟨o,_,e,_⟩:=pl
   exact Heap.lt_size e
  ·obtain ⟨_,_,pl,_⟩:=I.tuple hp
   exact pl.lt
 have np:s.heap.objs.size ∉ [(s.heap.push { cls:=.type "set",dict:=none,data:=.set #[] 0 (.fresh 0 0 led) }).objs.size,p]:=by
  rw [Heap.size_push]
  intro z
  rcases List.mem_cons.mp z with z | z
  ·exact absurd z (Nat.ne_of_lt (Nat.lt_succ_self _))
  ·exact absurd (List.mem_singleton.mp z) (Nat.ne_of_gt plt)
 have nI:p ≠ (s.heap.push { cls:=.type "set",dict:=none,data:=.set #[] 0 (.fresh 0 0 led) }).objs.size:=by
  rw [Heap.size_push]; exact Nat.ne_of_lt (Nat.lt_succ_of_lt plt)
 have kp2:∀ {h2 h':Heap},(∀ b o,s.heap.get? b = some o -> h2.get? b = some o) -> (∀ b o,b ∉ [s.heap.objs.size,(s.heap.push { cls:=.type "set",dict:=none,data:=.set #[] 0 (.fresh 0 0 led) }).objs.size] -> h2.get? b = some o -> h'.get? b = some o) -> ∀ b o,b < s.heap.objs.size -> s.heap.get? b = some o -> h'.get? b = some o:=fun k1 k2 b o hb e=>k2 b o (fun z=>by
  rw [Heap.size_push] at z
  rcases List.mem_cons.mp z with z | z
  ·exact absurd z (Nat.ne_of_lt hb)
  ·exact absurd (List.mem_singleton.mp z) (Nat.ne_of_lt (Nat.lt_succ_of_lt hb))) (k1 b o e)
 rcases hp with hp | hp
 ·obtain ⟨its,rv,pl,hz⟩:=I.list hp
  have hlen:its.length = ks.length:=by rw [<- rv.length,ht,List.length_map]
  obtain ⟨ob,n0,hg0,hg1,hg2,hg3⟩:=pl
  obtain ⟨oc,od,odt,osl⟩:=ob
  simp only at hg1 hg2 hg3
  subst hg1 hg2 hg3
  have hol:(s.heap.push { cls:=.type "set",dict:=none,data:=.set #[] 0 (.fresh 0 0 led) }).get? p = some { cls:=.type "list",dict:=none,data:=.seq its.toArray n0,slots:=osl }:=Heap.get?_push_of_some _ hg0
  have f1:=F.sub_list_set; have f2:=F.sub_list_frozenset; have f3:(Value.type "list" == Value.type "dict") = false:=by decide
  unfold Builtin.«set.__init__» noKeywords Builtin.Frozenset.updateFrom
  generalize hPI:pyIter = PI
  wp_walk
  subst hPI
  refine wpAny_pyIter_list (items:=its.toArray) ⟨_,hol,rfl,n0,rfl⟩ (wpAny_bind (wpAny_runValue ?_))
  refine set_walk (Walks.list (by simp [hh]) _ p nI its.toArray) s.heap.objs.size np (fun i=>ks.getD i (.inl 0)) (fun i v hv=>pairs_key X.prog X.w rv ht i v hv) (by rw [List.size_toArray,hlen]; exact hl) its.toArray.size 0 _ (by omega) (Nat.zero_le _) ⟨⟨_,Heap.get?_push_size _ rfl,rfl,rfl⟩,⟨_,Heap.get?_push_of_some _ hol,rfl,n0,rfl⟩⟩ ⟨0,Nat.le_refl _,start (Heap.get?_push_of_some _ hS)⟩ fun h' tk m kp hm=>?_
  rw [show its.toArray.size = ks.length by rw [List.size_toArray]; exact hlen,range_getD] at hm
  exact wpAny_pure (wpAny_pure ⟨rfl,fin h' tk m (kp2 (fun b o e=>Heap.get?_push_of_some _ (Heap.get?_push_of_some _ e)) kp) hm⟩)
 ·obtain ⟨its,rv,pl,hz⟩:=I.tuple hp
  have hlen:its.length = ks.length:=by rw [<- rv.length,ht,List.length_map]
  obtain ⟨ob,hg0,hg1,n0,hg3⟩:=pl
  obtain ⟨oc,od,odt,osl⟩:=ob
  simp only at hg1 hg3
  subst hg1 hg3
  have hol:(s.heap.push { cls:=.type "set",dict:=none,data:=.set #[] 0 (.fresh 0 0 led) }).get? p = some { cls:=.type "tuple",dict:=od,data:=.seq its.toArray n0,slots:=osl }:=Heap.get?_push_of_some _ hg0
  have f1:=sub_tuple_set; have f2:=sub_tuple_fset; have f3:(Value.type "tuple" == Value.type "dict") = false:=by decide
  unfold Builtin.«set.__init__» noKeywords Builtin.Frozenset.updateFrom
  generalize hPI:pyIter = PI
  wp_walk
  subst hPI
  refine wpAny_pyIter_tuple (items:=its.toArray) ⟨_,hol,rfl,n0,rfl⟩ (wpAny_bind (wpAny_runValue ?_))
  refine set_walk (Walks.tuple (by simp [hh]) _ p nI its.toArray) s.heap.objs.size np (fun i=>ks.getD i (.inl 0)) (fun i v hv=>pairs_key X.prog X.w rv ht i v hv) (by rw [List.size_toArray,hlen]; exact hl) its.toArray.size 0 _ (by omega) (Nat.zero_le _) ⟨⟨_,Heap.get?_push_size _ rfl,rfl,rfl⟩,⟨_,Heap.get?_push_of_some _ hol,rfl,n0,rfl⟩⟩ ⟨0,Nat.le_refl _,start (Heap.get?_push_of_some _ hS)⟩ fun h' tk m kp hm=>?_
  rw [show its.toArray.size = ks.length by rw [List.size_toArray]; exact hlen,range_getD] at hm
  exact wpAny_pure (wpAny_pure ⟨rfl,fin h' tk m (kp2 (fun b o e=>Heap.get?_push_of_some _ (Heap.get?_push_of_some _ e)) kp) hm⟩)
end
end L2
namespace L2
open PySem PySem.Spec PyProof.Rows
section
variable {X:Cx}
theorem key_scan {k:Key} {u:Value} (r:RelV (kV k) u):u.scannable = true:=by
 cases k with
 | inl i=>obtain ⟨t,rfl⟩:=r; rfl
 | inr x=>obtain ⟨t,rfl⟩:=r; rfl
noncomputable def rSIn (neg:Bool):R2:=fun x y H Q=>∃ k p S n,x = kV k /\ y = .ref p /\ H p = some (.set S n) /\ Q (.bl (match neg with | true=>!S k | false=>S k)) H
theorem op_snotin:OpR X (compareOp .NotIn) (rSIn true):=by
 intro pins s σ H x y v u Q I rx ry h
 obtain ⟨k,p,S,n,rfl,rfl,g,q⟩:=h
 cases ry
 exact wpAny_notInSet_of (kV_is rx) (key_scan rx) (show s.heap.SetOf (mixKind X.prog X.w) p S n from I.hok p _ g) ⟨.bl (!S k),H,I.tok _,rfl,q⟩
end
end L2
namespace L3
open PySem PySem.Spec L2
noncomputable def memK (ks:List Key) (k:Key):Bool:=ks.any fun z=>decide (z = k)
noncomputable def kD:Key -> D
 | .inl i=>.int i
 | .inr x=>.str x
section
variable {X:Cx} {cl:List Cl} {e a b tg:Expr} {es:List Expr} {f:Fl} {pos:Pos} {ua ub:TU} {fa fb:Fl} {us:TUs} {x y:Str}
theorem rep_kD {K:PySem.W.Frag} {H:Hp} {v:V} {k:Key} {A:List Addr} (r:Rep K H v (kD k) A):v = kV k:=by
 cases k with
 | inl i=>cases r; rfl
 | inr x=>cases r; rfl
theorem reps_kD {K:PySem.W.Frag} {H:Hp}:∀ {vs:List V} {ks:List Key} {A:List Addr},Reps K H vs (ks.map kD) A -> vs = ks.map kV
 | _,[],_,.nil=>rfl
 | _,k :: ks,_,.cons h r=>by rw [List.map_cons,rep_kD h,reps_kD r]
noncomputable def gInT (neg:Bool):D -> D -> (D -> Prop) -> Prop:=fun d e Q=>match e with
 | .st ks=>∃ k,keyD d = some k /\ Q (.bl (ng neg (memK ks k)))
 | _=>False
theorem o_inT {neg:Bool}:Op3 X (rSIn neg) (gInT neg):=by
 intro H v w d e A B Q R r1 r2 q k
 cases e <;> first | exact (show False from q).elim | skip
 rename_i ks
 obtain ⟨j,hj,q⟩:=q
 cases r2 with
 | st g hS=>
  rename_i p S n
  refine ⟨j,_,_,_,rep_key r1 hj,rfl,g,?_⟩
  have e1:S j = memK ks j:=hS j
  rw [e1]
  cases neg <;> exact k _ H _ _ (Same.refl H) .bl List.nodup_nil (fun _ h=>(by cases h)) q
theorem pu_notinT (ha:PU X cl a fa ua) (hb:PU X cl b fb ub) (hm:behindInMarks .NotIn b = false):PU X cl (.Compare a [.NotIn] [b] pos) .fresh (uOp (gInT true) ua ub):=pu_cmp op_snotin o_inT ha hb hm
noncomputable def gSet:List D -> (D -> Prop) -> Prop:=fun ds Q=>∃ d ks,ds = [d] /\ seqD d = some (ks.map kD) /\ ks.length < 4000 /\ Q (.st ks)
theorem c_setS:Call3 X (fun xs H Q=>∃ (p:Addr) (ts:List V) (ks:List Key),xs = [.ref p] /\ (SqL X.K H p ts \/ SqT X.K H p ts) /\ ts = ks.map kV /\ ks.length + 1 < scanBound /\ ∀ d n,H d = none -> Q (.ref d) (upd H d (.set (fun k=>ks.any fun z=>decide (z = k)) n))) gSet:=by
 intro H vs ds A Q R r q k
 obtain ⟨d,ks,rfl,e,hl,q⟩:=q
 obtain ⟨v,rfl,rr⟩:=r.one
 obtain ⟨p,ws,B,rfl,hq,r2,_⟩:=rep_seq rr e
 refine ⟨p,ws,ks,rfl,hq,reps_kD r2,by unfold scanBound; omega,fun l n hl=>k _ _ (.st ks) [l] (Same.upd_new hl) (.st upd_same fun _=>rfl) (by simp) (fun a ha=>?_) q⟩
 rw [List.mem_singleton.mp ha]; exact hl
noncomputable def sPar (i j:Nat) (us:TUs):TS3:=fun T ρ=>us ρ fun ds=>∃ d e,ds = [d,e] /\ imm d = true /\ imm e = true /\ Nat.blt i ρ.length = true /\ Nat.blt j ρ.length = true /\ T.nx ((ρ.set i (some d)).set j (some e))
theorem s_par {i j:Nat} {px py pt:Pos} {kt k2 pt2} (hc:X.calm = true) (hN:X.N.Nodup) (hi:X.N[i]? = some x) (hj:X.N[j]? = some y) (hij:i ≠ j) (hx:X.env.scope.names.lookup x = some .local) (hy:X.env.scope.names.lookup y = some .local) (ha:PAV X cl [a,b] us) (ci:cl[i]? = some .bor) (cj:cl[j]? = some .bor)
  (hw:swappedStores [.Tuple [.Name x px,.Name y py] kt pt] (.Tuple [a,b] k2 pt2) X.env = pure (some [x,y])) (hs:swapsWithSole [.Tuple [.Name x px,.Name y py] kt pt] (.Tuple [a,b] k2 pt2) pos.line X.env = pure false:=by rfl) :
  PS3 X cl (.Assign [.Tuple [.Name x px,.Name y py] kt pt] (.Tuple [a,b] k2 pt2) pos) (sPar i j us):=.of <| by
 obtain ⟨t,pt,h⟩:=ha.run
 refine ⟨_,ps_par hc hN hi hj hij hx hy pt hw hs,fun G T ρ σ H fa R hG E hu le=>?_⟩
 refine h G ρ σ H fa _ _ hG E hu fun vs H1 ds A s r n3 q=>?_
 obtain ⟨d,e,rfl,i1,i2,l1,l2,q⟩:=q
 cases r with
 | cons r1 r=>
  cases r with
  | cons r2 r=>
   cases r
   have e1:=r1.immA i1
   have e2:=r2.immA i2
   subst e1 e2
   have ok:∀ (fa:Nat -> List Addr) (n:Nat),cl[n]? = some .bor -> ClOk G fa [] n:=fun fa n hn=>⟨fun _ _ _ _ h=>(by cases h),by rw [hG,hn]; trivial⟩
   have E1:=(E.same s).set (Nat.le_of_ble_eq_true l1) r1 (ok _ i ci)
   have E2:=E1.set (by rw [List.length_set]; exact Nat.le_of_ble_eq_true l2) r2 (ok _ j cj)
   exact ⟨_,_,rfl,le.nx _ _ ⟨_,_,E2,q⟩⟩
noncomputable def sDAug3 (i:Nat) (uk ue:TU):TS3:=fun T ρ=>uVar i ρ fun l=>uk ρ fun y=>match l with
 | .dic kds=>∃ k a,keyD y = some k /\ valD kds k = some (.int a) /\ kds.length < sizeLine /\ ue ρ fun z=>∃ b,z = .int b /\ T.nx (ρ.set i (some (.dic (putD kds k (.int (a + b))))))
 | _=>False
theorem s_daug {vp tp:Pos} {ik:Expr} (hu:X.A.units + 1 < cLine) (i:Nat) (hv:PE X (.Name x vp) (tVar i)) (hi:cl[i]? = some .own) (hk:PU X cl ik fb ub) (he:PU X cl e fa ua)
  (ha:∀ ov iv new,augStore ik ov iv new = (do holding [new,ov,iv] (setItem ov iv new); release [new,ov,iv] []; pure .next):=by intros; rfl) :
  PS3 X cl (.AugAssign (.Subscript (.Name x vp) ik tp) .Add e pos) (sDAug3 i ub ua):=.of <| by
 obtain ⟨t,p,h⟩:=he.run
 obtain ⟨t2,p2,h2⟩:=hk.run
 refine ⟨_,ps_lrn <| ps_daug hu hv p2 p (ip_add (X:=X)) ha,fun G T ρ σ H fo R hG E hu' le=>?_⟩
 have own:G.own i:=by unfold Ent.own; rw [hG]; exact hi
 obtain ⟨l0,e0,q⟩:=uVar_some hu'
 obtain ⟨v,hvi,r0⟩:=E.rep i l0 e0
 refine ⟨v,hvi,h2 G ρ σ H fo _ _ hG E q fun wk H1 dk Bk s1 rk fk q=>?_⟩
 obtain ⟨kds,rfl⟩:∃ kds,l0 = .dic kds:=by cases l0 <;> first | exact ⟨_,rfl⟩ | exact (show False from q).elim
 obtain ⟨k,a0,hk,hval,hn,q⟩:=q
 obtain ⟨p,kvs,ep0,B,rfl,hp,rs,eA⟩:=rep_dicE r0
 cases rep_key rk hk
 obtain ⟨u,C0,e1,r1,_⟩:=(rs.val k).1 _ hval
 cases r1
 refine ⟨p,_,rfl,e1 ▸ DGet.k (.inr ⟨_,s1 _ _ hp⟩),h G ρ σ H1 fo _ _ hG (E.same s1) q fun w H2 z Bz s2 rz fz q=>?_⟩
 obtain ⟨b0,rfl,q⟩:=q
 cases rz
 refine ⟨a0,b0,rfl,rfl,?_⟩
 have s12:=s1.trans s2
 have E2:=E.same s12
 have hp2:=s12 _ _ hp
 have rs2:RepK X.K H2 kvs kds B:=by
  have:=(Rep.dic hp rs:Rep X.K H (.ref p) (.dic kds) (p :: B)).same s12
  cases this with
  | dic hp' rs'=>
   rw [hp2] at hp'
   cases hp'
   exact rs'
 have nd:=E2.nd i (.inl own)
 have pin:p ∈ fo i:=by rw [eA]; exact List.mem_cons_self
 rw [eA] at nd
 obtain ⟨np,ndB⟩:=List.nodup_cons.mp nd
 obtain ⟨C,rC,sC⟩:=rs2.put k (.int (i:=a0 + b0))
 have hpC:p ∉ C:=fun z=>np (sC.mem z)
 have rn:∀ ep,Rep X.K (upd H2 p (.dE (putK kvs k (.int (a0 + b0))) ep)) (.ref p) (.dic (putD kds k (.int (a0 + b0)))) (p :: C):=fun ep=>.dic upd_same (rC.mono (Stb.updM (by rw [hp2]; exact True.intro)) fun a ha=>upd_ne fun e=>hpC (e ▸ ha))
 have n3:∀ a ∈ p :: C,a ∈ fo i:=fun a ha=>by
  rcases List.mem_cons.mp ha with z | z
  ·exact z ▸ pin
  ·rw [eA]; exact List.mem_cons_of_mem _ (sC.mem z)
 have li:i < ρ.length:=(List.getElem?_eq_some_iff.mp e0).1
 refine ⟨_,DPut.k (.inr ⟨_,hp2⟩) (by rw [rs.length]; exact hn),p,_,upd_same,fun ep=>?_⟩
 rw [upd_upd]
 exact le.nx _ _ ⟨_,_,E2.put own li hvi pin upd_out (by rw [upd_same]; exact fun z=>nomatch z) (rn ep) (List.nodup_cons.mpr ⟨hpC,ndB.sublist sC⟩) fun a ha=>.inl (n3 a ha),q⟩
end
end L3
namespace L2
open PySem PySem.Spec PyProof.Rows
namespace RT
theorem owner_rv:Manifest.owners.lookup (String.ofList ['d','e','s','r','e','v','e','r'].reverse) = some Manifest.sig_reversed:=by kernel_rfl
theorem s_next:Slot "reversed" "__next__" "reversed.__next__" := .of (owner := "reversed") (n := "__next__") (by rw [typeLookup_type,builtinLookup_eq_fast]; kernel_rfl) (by decide +kernel) (by decide +kernel) (by decide +kernel) (by first | exact .inl (by decide +kernel) | exact .inr (by decide +kernel)) (by rw [isSubtype_type]; kernel_rfl)
theorem e_next:entryFor table "reversed.__next__" = some Builtin.«reversed.__next__»:=entryFor_of_tree (by kernel_rfl)
theorem a_next (a:Value):argsOk "reversed.__next__" ⟨[a],[]⟩:=by unfold argsOk; rw [signature?_of (id := "reversed.__next__") (n:=['_','_','t','x','e','n','_','_']) (o:=['d','e','s','r','e','v','e','r']) (by kernel_rfl) owner_rv]; kernel_rfl
theorem s_iter:Slot "reversed" "__iter__" "reversed.__iter__" := .of (owner := "reversed") (n := "__iter__") (by rw [typeLookup_type,builtinLookup_eq_fast]; kernel_rfl) (by decide +kernel) (by decide +kernel) (by decide +kernel) (by first | exact .inl (by decide +kernel) | exact .inr (by decide +kernel)) (by rw [isSubtype_type]; kernel_rfl)
theorem a_iter (a:Value):argsOk "reversed.__iter__" ⟨[a],[]⟩:=by unfold argsOk; rw [signature?_of (id := "reversed.__iter__") (n:=['_','_','r','e','t','i','_','_']) (o:=['d','e','s','r','e','v','e','r']) (by kernel_rfl) owner_rv]; kernel_rfl
theorem s_init:Slot "reversed" "__init__" "object.__init__" := .of (owner := "object") (n := "__init__") (by rw [typeLookup_type,builtinLookup_eq_fast]; kernel_rfl) (by decide +kernel) (by decide +kernel) (by decide +kernel) (by first | exact .inl (by decide +kernel) | exact .inr (by decide +kernel)) (by rw [isSubtype_type]; kernel_rfl)
theorem called:TypeCalled "reversed" "reversed.__new__" "object.__init__" := ⟨by decide +kernel,by decide +kernel,⟨_,_,F.mro_reversed⟩,F.made_reversed,by decide +kernel,F.sub_reversed_self,s_init⟩
theorem no_own:typeLookup (.type "tuple") "__reversed__" = pure none:=by rw [typeLookup_type,builtinLookup_eq_fast]; kernel_rfl
theorem no_dict:isSubtype (.type "tuple") (.type "dict") = pure false:=by rw [isSubtype_type]; kernel_rfl
theorem e_iter:entryFor table "reversed.__iter__" = some Builtin.«dict_keyiterator.__iter__»:=entryFor_alias (id' := "dict_keyiterator.__iter__") (by kernel_rfl) (by first | rfl | decide +kernel | (unfold String.splitOn; simp +decide [String.splitOnAux])) (by decide +kernel) (by kernel_rfl)
end RT
noncomputable def revT (t:Addr) (i:Int):Obj:={ cls:=.type "reversed",data:=.fields #[.ref t,rawInt i] }
noncomputable def RevT (h:Heap) (a t:Addr) (i:Int):Prop:=∃ o,h.get? a = some o /\ o.cls = .type "reversed" /\ o.data = .fields #[.ref t,rawInt i]
section
variable {prog:Program} {w:World} {A:Around} {E:Value -> Shared -> Prop} {s:Shared}
theorem RevT.ty {a t:Addr} {i:Int} (x:RevT s.heap a t i):s.TypeIs (.ref a) "reversed" := let ⟨o,ho,hc,_⟩:=x; ⟨o,ho,hc⟩
theorem RevT.at {h h':Heap} {a t:Addr} {i:Int} (x:RevT h a t i) (e:∀ o,h.get? a = some o -> h'.get? a = some o):RevT h' a t i:=let ⟨o,ho,r⟩:=x; ⟨o,e _ ho,r⟩
theorem rv_new {t:Addr} {items:Array Value} {Q1:Value -> Shared -> Prop} (ht:IsTup s.heap t items) (hf:(items.size:Int) < 2 ^ 63) (h:Q1 (.ref s.heap.objs.size) { s with heap:=s.heap.push (revT t ((items.size:Int) - 1)),toks:=s.toks + 1 + 1 }) :
  codeAny (model prog w) A (.call (.builtin "reversed.__new__") ⟨[.type "reversed",.ref t],[]⟩) (wants Q1 E) s:=by
 refine codeAny_of_tree (show wpAny _ A.in1 (do checkBuiltinCall "reversed.__new__" ⟨[.type "reversed",.ref t],[]⟩; again (.builtin "reversed.__new__" ⟨[.type "reversed",.ref t],[]⟩)) _ _ s from wpAny_bind (wpAny_of_eq (F.newCall_reversed_1 _) (wpAny_pure ⟨plainId_quiet F.plain_reversed_new _,codeAny_builtin F.entry_reversed_new ?_⟩)))
 rw [Around.under_plainId F.plain_reversed_new _]; unfold Builtin.«reversed.__new__»
 refine wpAny_bind (wpAny_of_eq (newClass_reversed _) ?_); try dsimp only
 refine wpAny_bind (wpAny_of_eq (a:=()) (by first | rfl | kernel_rfl) (wpAny_bind (wpAny_of_eq (a:=()) (by first | rfl | kernel_rfl) ?_)))
 try dsimp only
 refine wpAny_bind (wpAny_specialOf ht.typeIs RT.no_own ?_); try dsimp only
 refine wpAny_bind ?_
 show wpAny _ _ (isInstance (.ref t) (.type "dict") >>= _) _ _ _
 refine wpAny_bind (wpAny_isInstance ht.typeIs RT.no_dict ?_)
 show wpAny _ _ (specialOf (.ref t) "__getitem__" >>= _) _ _ _
 refine wpAny_bind (wpAny_specialOf ht.typeIs slot_tuple_getitem.lookup (wpAny_pure ?_))
 show wpAny _ _ (call (.builtin "len") [.ref t] >>= _) _ _ _
 refine wpAny_bind (len_tuple ht hf ?_)
 refine wpAny_bind (wpAny_of_eq (a:=some (items.size:Int)) rfl ?_)
 show wpAny _ _ (Builtin.SmallTypes.newRecord (.type "reversed") [.ref t,rawInt ((items.size:Int) - 1)] >>= _) _ _ _
 unfold Builtin.SmallTypes.newRecord
 refine wpAny_bind (wpAny_newObj_type (wpAny_pure h) (by size_fits))
theorem call_rvT {t:Addr} {items:Array Value} {Q:Value -> Shared -> Prop} (ht:IsTup s.heap t items) (hf:(items.size:Int) < 2 ^ 63) (h:Q (.ref s.heap.objs.size) { s with heap:=s.heap.push (revT t ((items.size:Int) - 1)),toks:=s.toks + 1 + 1 }) :
  wpAny (model prog w) A (call (.type "reversed") [.ref t]) Q E s:=by
 refine callType_codes (Q₁:=fun x s1=>x = .ref s.heap.objs.size /\ s1 = { s with heap:=s.heap.push (revT t ((items.size:Int) - 1)),toks:=s.toks + 1 + 1 }) RT.called (F.typeCall_reversed_1 _) F.entry_object_init (rv_new ht hf ⟨rfl,rfl⟩) ?_
 rintro x s1 ⟨rfl,rfl⟩
 have hT:Shared.TypeIs { s with heap:=s.heap.push (revT t ((items.size:Int) - 1)),toks:=s.toks + 1 + 1 } (.ref s.heap.objs.size) "reversed" := ⟨_,Heap.get?_push_size _ rfl,rfl⟩
 exact ⟨hT,F.args_object_init_2 _ _,object_init_meets RT.called.init.lookup RT.called.made (by decide) prog w A.in1 _ _ ⟨hT,rfl,h⟩⟩
theorem rv_item {it t:Addr} {i:Nat} {items:Array Value} {x:Value} {Q:Option Value -> Shared -> Prop} (hit:RevT s.heap it t (i:Int)) (ht:IsTup s.heap t items) (hn:t ≠ it) (hx:items[i]? = some x) (hf:(items.size:Int) < 2 ^ 63)
  (hQ:∀ h',RevT h' it t ((i:Int) - 1) -> Heap.SameBut it s.heap h' -> Q (some x) { s with heap:=h',toks:=s.toks + 1 }):wpAny (model prog w) A (pyNext (.ref it)) Q E s:=by
 obtain ⟨o,ho,hc,hd⟩:=id hit
 unfold pyNext
 refine wpAny_bind (wpAny_attempt (wpAny_callSpecial?_slot (name:=Str.ofString "__next__") hit.ty RT.s_next (wpAny_call_entry RT.s_next hit.ty RT.e_next ?_ (RT.a_next _))))
 unfold Builtin.«reversed.__next__»
 refine wpAny_bind (wpAny_of_eq (a:=(Value.ref it,[])) rfl ?_); try dsimp only
 refine wpAny_bind (wpAny_field ho hd (x:=.ref t) rfl (wpAny_bind (wpAny_field ho hd (x:=rawInt (i:Int)) rfl ?_)))
 show wpAny _ _ (if (i:Int) < 0 then _ else _) _ _ s
 rw [if_neg (by omega)]
 show wpAny _ _ (specialOf (.ref t) "__getitem__" >>= _) _ _ s
 refine wpAny_bind (wpAny_specialOf ht.typeIs slot_tuple_getitem.lookup ?_)
 show wpAny _ _ (mkInt (i:Int) >>= _) _ _ s
 refine wpAny_bind (wpAny_mkInt ?_)
 have hi:=(Array.getElem?_eq_some_iff.mp hx).1
 have hj:seqIndex? (i:Int) items.size = some i:=by
  unfold seqIndex?
  simp
  omega
 refine wpAny_bind (wpAny_attempt (getItem_tuple (j:=i) (x:=x) (s:={ s with toks:=s.toks + 1 }) ht (by omega) (by omega) hj hx ?_))
 show wpAny _ _ (field (.ref it) 1 >>= _) _ _ _
 refine wpAny_bind (wpAny_field ho hd (x:=rawInt (i:Int)) rfl ?_)
 show wpAny _ _ (setField (.ref it) 1 (rawInt ((i:Int) - 1)) >>= _) _ _ _
 refine wpAny_bind (wpAny_setField ho hd (by simp) ?_)
 exact wpAny_pure ⟨x,rfl,wpAny_pure (hQ _ ⟨_,Heap.get?_update_self _ ho (Obj.isFreed_of_fields (Obj.data_mapFields hd _)),(Obj.cls_mapFields ..).trans hc,by rw [Obj.data_mapFields hd]; simp⟩ (Heap.SameBut.update ..))⟩
theorem rv_end {it t:Addr} {Q:Option Value -> Shared -> Prop} (hh:A.handled = none) (hit:RevT s.heap it t (-1))
  (hQ:∀ h',Heap.ExtBut it s.heap h' -> Q none { s with heap:=h' }):wpAny (model prog w) A (pyNext (.ref it)) Q E s:=by
 obtain ⟨o,ho,hc,hd⟩:=id hit
 unfold pyNext
 refine wpAny_bind (wpAny_attempt (wpAny_callSpecial?_slot (name:=Str.ofString "__next__") hit.ty RT.s_next (wpAny_call_entry RT.s_next hit.ty RT.e_next ?_ (RT.a_next _))))
 unfold Builtin.«reversed.__next__»
 refine wpAny_bind (wpAny_of_eq (a:=(Value.ref it,[])) rfl ?_); try dsimp only
 refine wpAny_bind (wpAny_field ho hd (x:=.ref t) rfl (wpAny_bind (wpAny_field ho hd (x:=rawInt (-1)) rfl ?_)))
 show wpAny _ _ (if (-1:Int) < 0 then _ else _) _ _ s
 rw [if_pos (by decide)]
 refine wpAny_bind (wpAny_rule (wpAny_bind ?_))
 show wpAny _ _ (setField (.ref it) 1 (rawInt (-1)) >>= _) _ _ s
 refine wpAny_bind (wpAny_setField ho hd (by simp) ?_)
 have u1:=Heap.get?_update_self (fun o=>o.mapFields fun xs=>xs.setIfInBounds 1 (rawInt (-1))) ho (Obj.isFreed_of_fields (Obj.data_mapFields hd _))
 refine wpAny_setField u1 (Obj.data_mapFields hd _) (by simp) ?_
 have ex:Heap.ExtBut it s.heap ((s.heap.update it (Obj.mapFields fun x=>x.setIfInBounds 1 (rawInt (-1)))).update it (Obj.mapFields fun x=>x.setIfInBounds 0 Value.none)):=(Heap.SameBut.update ..).extBut.trans (Heap.SameBut.update ..).extBut
 show wpAny _ _ _ _ _ { s with heap:=(s.heap.update it (Obj.mapFields fun x=>x.setIfInBounds 1 (rawInt (-1)))).update it (Obj.mapFields fun x=>x.setIfInBounds 0 Value.none) }
 generalize (s.heap.update it (Obj.mapFields fun x=>x.setIfInBounds 1 (rawInt (-1)))).update it (Obj.mapFields fun x=>x.setIfInBounds 0 Value.none) = h2 at ex
 refine wpAny_bind (show wpAny _ _ (newExc (.type "StopIteration") [] >>= _) _ _ _ from wpAny_bind ?_)
 simp only [newExc,newTuple]; refine wpAny_bind (wpAny_newObj_type (wpAny_bind (m:=firstArgMember _ _) (wpAny_of_eq (a:=Value.none) (by first | rfl | (simp only [firstArgMember]; rfl)) (wpAny_newObj_type ?_ (by size_fits)))) (by size_fits))
 simp only [raiseNew]; refine wpAny_bind (wpAny_handled ?_)
 first | rw [show A.in1.handled = none from hh] | rw [hh]
 refine wpAny_bind (wpAny_pure (wpAny_throw ?_))
 refine wpAny_bind (wpAny_isInstance (T := "StopIteration") (b:=true) ⟨_,Heap.get?_push_size _ rfl,rfl⟩ isSubtype_stop (wpAny_pure (hQ _ ((ex.push _).push _))))
theorem rv_iter {it t:Addr} {i:Int} {Q:Value -> Shared -> Prop} (hit:RevT s.heap it t i) (h:Q (.ref it) s):wpAny (model prog w) A (pyIter (.ref it)) Q E s:=by
 refine wpAny_pyIter_slot hit.ty RT.s_iter (wpAny_call_entry RT.s_iter hit.ty RT.e_iter (show wpAny _ _ (ret (.ref it)) _ _ s from wpAny_pure ⟨_,rfl, "reversed",_,hit.ty,RT.s_next.lookup,h⟩) (RT.a_iter _))
end
noncomputable def Itw (K:PySem.W.Frag) (a:Addr) (n:Nat):It:=
 ⟨fun i H=>i < n /\ n <= sizeLine /\ ∃ xs,SqT K H a xs /\ xs.length = n,fun i H x H'=>H' = H /\ ∀ xs,SqT K H a xs -> xs[n - 1 - i]? = some x,fun i H=>i = n⟩
theorem turn_rvT {P:Program} {w:World} {K:PySem.W.Frag} {tg:Expr} (a it:Addr) (n:Nat) (ne:a ≠ it):Turn P w K tg (Itw K a n) [it] it (fun i h=>i <= n /\ RevT h it a ((n:Int) - 1 - (i:Int))) where
 mem:=List.mem_singleton.mpr rfl
 obj:=fun i h st b hb=>by
  cases List.mem_singleton.mp hb
  obtain ⟨_,o,e,c,d⟩:=st
  exact ⟨o,e,fun v z=>by rw [d] at z; cases z⟩
 keep:=fun i h h' st k=>⟨st.1,st.2.at fun o e=>k it (List.mem_singleton.mpr rfl) o e⟩
 item:=by
  intro X hP hw hK hc i pins s σ H E I hf st hg
  subst hP hw hK
  obtain ⟨hi,hz,xs,hq,hn⟩:=hg
  obtain ⟨its,rv,p,_⟩:=I.tuple hq
  have hx:xs[n - 1 - i]? = some (xs[n - 1 - i]'(by omega)):=List.getElem?_eq_getElem (by omega)
  obtain ⟨u,hu,ru⟩:=rv.get hx
  obtain ⟨f0,f1,f2,f3,f4,f5⟩:=hf it (List.mem_singleton.mpr rfl)
  have st2:=st.2
  have hl:its.length = n:=by rw [<- rv.length]; exact hn
  rw [show (n:Int) - 1 - (i:Int) = ((n - 1 - i:Nat):Int) by omega] at st2
  refine rv_item st2 p ne (x:=u) (by simpa using hu) (by rw [List.size_toArray,hl]; rw [sizeLine_eq] at hz; omega) fun h' st' sb=>?_
  rw [show ((n - 1 - i:Nat):Int) - 1 = (n:Int) - 1 - ((i + 1:Nat):Int) by omega] at st'
  have I1:Inv X pins σ H { s with heap:=h',toks:=s.toks + 1 }:=I.turned (t':=s.toks + 1) (fun b o hb e=>(sb.2 b hb).trans e) f0 f1 f3 f4 f5
  obtain ⟨o,e,c,d⟩:=id st'
  exact ⟨u,rfl,go_of (s:={ s with heap:=h',toks:=s.toks + 1 }) e c d (by decide) ⟨_,H,I1,ru,⟨rfl,fun ys hy=>by rw [I.tuple_inj hy hq]; exact hx⟩,⟨hi,st'⟩,fun b hb=>(hf b hb).1⟩⟩
 done:=by
  intro X hP hw hK hc i pins s σ H E I hf st hg
  subst hP hw hK
  obtain rfl:i = n:=hg
  obtain ⟨f0,f1,f2,f3,f4,f5⟩:=hf it (List.mem_singleton.mpr rfl)
  have st2:=st.2
  rw [show (i:Int) - 1 - (i:Int) = -1 by omega] at st2
  exact rv_end (I.ok.hd hc) st2 fun h' eb=>⟨rfl,I.turned (t':=s.toks) (fun b o hb e=>eb b o hb e) f0 f1 f3 f4 f5⟩
 self:=fun _ _ _ _ _ st h=>rv_iter st.2 h
noncomputable def iBackT (K:PySem.W.Frag) (ta:TA):TI:=fun σ H R=>ta σ H fun vs H1=>∃ a xs,vs = [.ref a] /\ SqT K H1 a xs /\ R (Itw K a xs.length) H1
theorem pi_backT {X:Cx} {tg a:Expr} {ta:TA} {p pos:Pos} (hg:Gl X "reversed") (hm:X.mg "reversed" = none) (ha:PA X [a] ta) (hs:starEach [a] X.env = [(false,eval a X.env)]:=by rfl):PI X tg (.Call (.Name "reversed" p) [a] [] pos) (iBackT X.K ta):=by
 refine .of ?_
 intro pins s σ H R I h
 refine wpAny_Call_Name_kw (ld_blt I hg hm PyProof.Rows.boot_reversed ?_ (by decide) (by decide))
 refine callWith_type1 (thn (ha pos pins s σ H _ I h) fun us s1 ⟨vs,H1,I1,r1,q1⟩=>?_) hs rfl
 obtain ⟨l,xs,rfl,hq,q⟩:=q1
 obtain ⟨u,rfl,ru⟩:=vals1 r1
 cases (show u = Value.ref l from ru)
 obtain ⟨its,rv,pl,hz⟩:=I1.tuple hq
 have hlen:its.toArray.size = xs.length:=by rw [List.size_toArray]; exact rv.length.symm
 refine call_rvT pl (by rw [hlen]; rw [sizeLine_eq] at hz; omega) ?_
 rw [hlen]
 refine rv_iter (t:=l) (i:=(xs.length:Int) - 1) ⟨_,Heap.get?_push_size _ rfl,rfl,rfl⟩ ?_
 refine ⟨s1.heap.objs.size,[s1.heap.objs.size],_,_,H1,rfl,I1.kept (t':=s1.toks + 1 + 1) fun b o e=>Heap.get?_push_of_some _ e,turn_rvT l _ xs.length (Nat.ne_of_lt pl.lt),⟨Nat.zero_le _,?_⟩,fun b hb=>?_,q⟩
 ·rw [show (xs.length:Int) - 1 - ((0:Nat):Int) = (xs.length:Int) - 1 by omega]
  exact ⟨_,Heap.get?_push_size _ rfl,rfl,rfl⟩
 ·cases List.mem_singleton.mp hb
  exact I1.fpOk (Nat.le_refl _) (I1.hok.fresh (Nat.le_refl _))
end L2
namespace L3
open PySem PySem.Spec PyProof.Rows L2
section
variable {X:Cx} {cl:List Cl} {tg e:Expr} {f:Fl} {ua:TU} {pos p:Pos}
noncomputable def backT (u:TU):TIU:=fun ρ Q=>u ρ fun d=>match d with
 | .tup xs=>xs.length < sizeLine /\ Q xs.reverse
 | _=>False
theorem it_backT {K:PySem.W.Frag} {H:Hp} {q:Addr} {vs:List V} {xs:List D} {C:List Addr} (hz:vs.length <= sizeLine) (h:∀ H',Tf H H' -> SqT K H' q vs) (r:Reps K H vs xs C):ItOk K (Itw K q vs.length) xs.reverse C H:=fun H' tf k i=>by
 have hs:=h H' tf
 have hl:=r.length
 refine ⟨fun e=>?_,fun d e=>?_⟩
 ·show i = vs.length
  rw [List.length_reverse] at e
  omega
 ·have hi:i < xs.length:=by
   have:=(List.getElem?_eq_some_iff.mp e).1
   rwa [List.length_reverse] at this
  rw [List.getElem?_reverse hi] at e
  obtain ⟨v,B,e1,r1,s1⟩:=seq_get r tf k e
  refine ⟨⟨by omega,hz,vs,hs,rfl⟩,fun y H2 hy=>?_⟩
  obtain ⟨e2,hy⟩:=hy
  subst e2
  have e3:=hy vs hs
  rw [hl,e1] at e3
  cases e3
  exact ⟨Same.refl _,B,r1,s1⟩
theorem i_backT (h:PU X cl e f ua) (hs:isStar e = false) (mk:∀ {t},PA X [e] t -> PI X tg (.Call (.Name "reversed" p) [e] [] pos) (iBackT X.K t)):PIU X cl tg (.Call (.Name "reversed" p) [e] [] pos) f (backT ua):=.of <| by
 obtain ⟨t,q,h⟩:=h.run
 refine ⟨_,mk (pa_k q pa_nil hs),fun G ρ σ H fa Q R hG E hu k=>h G ρ σ H fa _ _ hG E hu fun v H' d B s r fo q=>?_⟩
 cases d <;> first | exact (show False from q).elim | skip
 obtain ⟨p,vs,rfl,hp,rs⟩:=rep_tup r
 exact ⟨p,vs,rfl,.inl (.inl hp),k _ H' _ _ s (it_backT (by rw [rs.length]; exact Nat.le_of_lt q.1) (fun H2 tf=>.inl (.inl (tf.tups _ _ hp))) rs) rs.there fo q.2⟩
end
end L3
namespace L2
open PySem PySem.Spec PyProof.Rows
theorem val_in:∀ {ps:List (Key × Int)} {k:Key} {n:Int},(ps.map (·.1)).Nodup -> (k,n) ∈ ps -> valV (ps.map fun p=>(p.1,V.int p.2)) k = some (.int n)
 | [],_,_,_,h=>by cases h
 | p :: ps,k,n,nd,h=>by
  rw [List.map_cons] at nd
  obtain ⟨h1,h2⟩:=List.nodup_cons.mp nd
  rcases List.mem_cons.mp h with e | e
  ·subst e
   exact valV_pos rfl
  ·have ne:¬ p.1 = k:=fun z=>h1 (z ▸ List.mem_map.mpr ⟨_,e,rfl⟩)
   rw [List.map_cons,valV_neg (p:=(p.1,V.int p.2)) ne]
   exact val_in h2 e
theorem hits_same {A:Around} {s:Shared} {ps:List (Key × Int)} {kb:List (Key × Value)} (nd:(ps.map (·.1)).Nodup) (rb:KV (ps.map fun p=>(p.1,V.int p.2)) kb):∀ {qs:List (Key × Int)} {ka:List (Key × Value)},(∀ q ∈ qs,q ∈ ps) -> KV (qs.map fun p=>(p.1,V.int p.2)) ka -> PySem.W.KeqHits A s kb ka true
 | [],_,_,.nil=>.nil
 | q :: qs,_,h,.cons r t=>by
  rename_i c ka
  obtain ⟨k,v⟩:=c
  obtain ⟨e1,e2⟩:=r
  cases (show q.1 = k from e1)
  obtain ⟨t1,e2⟩:=(show RelV (.int q.2) v from e2)
  have hv:=val_in nd (show (q.1,q.2) ∈ ps from h q List.mem_cons_self)
  have ro:=rb.val q.1
  rw [hv] at ro
  cases ho:valueAt kb q.1 with
  | none=>rw [ho] at ro; exact ro.elim
  | some y=>
   rw [ho] at ro
   obtain ⟨t2,e3⟩:=(show RelV (.int q.2) y from ro)
   have hit:PySem.SeqAt.EqAt A s v y (q.2 == q.2):=by rw [e2,e3]; exact PySem.SeqAt.EqAt.int_int _ _ _ _
   rw [beq_self_eq_true] at hit
   exact .hit ho hit (hits_same nd rb (fun z hz=>h z (List.mem_cons_of_mem _ hz)) t)
section
variable {X:Cx}
noncomputable def rEqDI (neg:Bool):R2:=fun x y H Q=>∃ (p q:Addr) (ps:List (Key × Int)),x = .ref p /\ y = .ref q /\ Dd H p (ps.map fun p=>(p.1,V.int p.2)) /\ Dd H q (ps.map fun p=>(p.1,V.int p.2)) /\ (ps.map (·.1)).Nodup /\ Q (.bl (match neg with | true=>false | false=>true)) H
theorem op_neDI (hu:X.A.units < cLine):OpR X (compareOp .NotEq) (rEqDI true):=by
 intro pins s σ H x y v u Q I rx ry h
 obtain ⟨p,q,ps,rfl,rfl,h1,h2,nd,k⟩:=h
 cases rx; cases ry
 obtain ⟨_,n1,va,ra,da⟩:=(show ObjOk X.prog X.w H s.heap p _ from h1.ok I.hok)
 obtain ⟨_,n2,vb,rb,db⟩:=(show ObjOk X.prog X.w H s.heap q _ from h2.ok I.hok)
 refine PySem.W.keq_ne n1 n2 da db hu (fun _=>hits_same nd rb (fun z hz=>hz) ra) ?_
 rw [show (!(va.length == vb.length && true)) = false by rw [<- ra.length,<- rb.length]; simp]
 exact ⟨.bl false,H,I,rfl,k⟩
end
end L2
namespace L3
open PySem PySem.Spec PySem.Calls PyProof.Rows L2
section
variable {X:Cx} {cl:List Cl} {e a b:Expr} {es:List Expr} {pos cpos hpos np p:Pos} {us:TUs} {ua ub:TU} {fa fb:Fl} {ma:TM} {k:Nat} {fn:Addr} {fd:FuncData} {ps:List Str} {x y bn:Str} {i:Nat}
noncomputable def gEqDI (neg:Bool):D -> D -> (D -> Prop) -> Prop:=fun d e Q=>∃ ps:List (Key × Int),d = .dic (ps.map fun p=>(p.1,D.int p.2)) /\ e = .dic (ps.map fun p=>(p.1,D.int p.2)) /\ (ps.map (·.1)).Nodup /\ Q (.bl (!neg))
theorem repK_ints {K:PySem.W.Frag} {H:Hp}:∀ {kvs:List (Key × V)} {ps:List (Key × Int)} {A:List Addr},RepK K H kvs (ps.map fun p=>(p.1,D.int p.2)) A -> kvs = ps.map fun p=>(p.1,V.int p.2)
 | _,[],_,.nil=>rfl
 | _,p :: ps,_,.cons h r=>by
  cases h
  rw [repK_ints r]; rfl
theorem o_eqDI {neg:Bool}:Op3 X (rEqDI neg) (gEqDI neg):=by
 intro H v w d e A B Q R r1 r2 q k
 obtain ⟨ps,rfl,rfl,nd,q⟩:=q
 obtain ⟨p1,kvs,B1,rfl,h1,rs1,_⟩:=rep_dic r1
 obtain ⟨p2,kws,B2,rfl,h2,rs2,_⟩:=rep_dic r2
 rw [repK_ints rs1] at h1
 rw [repK_ints rs2] at h2
 refine ⟨p1,p2,ps,rfl,rfl,h1,h2,nd,?_⟩
 cases neg <;> exact k _ H _ _ (Same.refl H) .bl List.nodup_nil (fun _ h=>(by cases h)) q
theorem tt_neDI (hu:X.A.units < cLine) (ha:PU X cl a fa ua) (hb:PU X cl b fb ub) (hm:behindInMarks .NotEq b = false):PT3 X cl (.Compare a [.NotEq] [b] pos) (uT (uOp (gEqDI true) ua ub)):=tt_cmp (op_neDI hu) o_eqDI ha hb hm
end
end L3
namespace My
open PySem L2 L3
noncomputable def Pd (kvs:List (Key × D)) (x:Str):Int:=match valD kvs (.inr x) with
 | some (.int n)=>n
 | _=>0
noncomputable def PullOk (kvs:List (Key × D)):Prop:=∀ kv ∈ kvs,∃ n,kv.2 = .int n
noncomputable def litD (b:Bd) (op:List Str):List (Key × D):=b.gs.map fun g=>(.inr g.nm,.bl (fedB b op g.nm))
noncomputable def drawD (b:Bd) (v:Str -> Int):List (Key × D):=b.gs.map fun g=>(.inr g.nm,.int (v g.nm))
noncomputable def drawV (b:Bd) (op:List Str) (P:Str -> Int) (y:Str):Int:=((gns b ++ lns b).map fun x=>if fedB b op x then (((overS b x).count y:Nat):Int) * P x else 0).sum
noncomputable def cFedGuards:Cp:=fun ds Q=>∃ (b:Bd) (o:D) (op:List Str),ds = [bD b,o] /\ BdOk b /\ seqS o op /\ op.length < 4000 /\ Q (.dic (litD b op))
noncomputable def cDrawsFed:Cp:=fun ds Q=>∃ (b:Bd) (op:List Str) (kvs:List (Key × D)),ds = [bD b,.dic (litD b op),.dic kvs] /\ BdOk b /\ PullOk kvs /\ Q (.dic (drawD b (drawV b op (Pd kvs))))
noncomputable def cDraws:Cp:=fun ds Q=>∃ (b:Bd) (o:D) (op:List Str) (kvs:List (Key × D)),ds = [bD b,o,.dic kvs] /\ BdOk b /\ seqS o op /\ op.length < 4000 /\ PullOk kvs /\ Q (.dic (drawD b (drawV b op (Pd kvs))))
noncomputable def tFedGuards_b1_2:TS3:=(sDPut3 3 (mP (uImm (vAnd (uOp (gInT true) (uVar 5) (uVar 2)) (vOr (uOp (gIsA false) (uVar 6) (uC .non)) (uIxA (uVar 3) (uVar 6)))))) (mP (uVar 5)))
noncomputable def tFedGuards_b1_1:TS3:=(sSeq (sPar 5 6 (uCons (uIxA (uVar 4) (uC (.int 0))) (uCons (uIxA (uVar 4) (uC (.int 1))) uNil))) tFedGuards_b1_2)
noncomputable def tFedGuards_4:TS3:=(sRet (uVar 3))
noncomputable def tFedGuards_3:TS3:=(sSeq (sFor (iP (seqB (uIxA (uVar 0) (uC (.int 0))))) (g1 4) tFedGuards_b1_1) tFedGuards_4)
noncomputable def tFedGuards_2:TS3:=(sSeq (sSet 3 (uC (.dic []))) tFedGuards_3)
noncomputable def tFedGuards:TS3:=(sSeq (sSet 2 (uCB gSet (uCons (uVar 1) uNil))) tFedGuards_2)
noncomputable def tDrawsFed_b1_1:TS3:=(sDAug3 3 (uIxA (uVar 5) (uC (.int 1))) (uDGet2 (uVar 2) (uIxA (uVar 5) (uC (.int 0))) (uC (.int 0))))
noncomputable def tDrawsFed_b3_1:TS3:=(sDPut3 3 (mP (uC (.int 0))) (mP (uVar 6)))
noncomputable def tDrawsFed_b5_1:TS3:=(sDAug3 3 (uVar 7) (uIxA (uVar 3) (uVar 6)))
noncomputable def tDrawsFed_b4_1:TS3:=(sIf (tP (uT (uOp (gIsA true) (uVar 7) (uC .non)))) tDrawsFed_b5_1 sNext)
noncomputable def tDrawsFed_b2_2:TS3:=(sIf (tP (uNot (uTru (uIxA (uVar 1) (uVar 6))))) tDrawsFed_b3_1 tDrawsFed_b4_1)
noncomputable def tDrawsFed_b2_1:TS3:=(sSeq (sPar 6 7 (uCons (uIxA (uVar 4) (uC (.int 0))) (uCons (uIxA (uVar 4) (uC (.int 1))) uNil))) tDrawsFed_b2_2)
noncomputable def tDrawsFed_4:TS3:=(sRet (uVar 3))
noncomputable def tDrawsFed_3:TS3:=(sSeq (sFor (iP (backT (uIxA (uVar 0) (uC (.int 0))))) (g1 4) tDrawsFed_b2_1) tDrawsFed_4)
noncomputable def tDrawsFed_2:TS3:=(sSeq (sFor (iP (seqB (uIxA (uVar 0) (uC (.int 1))))) (g1 5) tDrawsFed_b1_1) tDrawsFed_3)
noncomputable def tDrawsFed:TS3:=(sSeq (sSet 3 (uDC [none,some 2] (seqB (uIxA (uVar 0) (uC (.int 0)))) (g1 0) uYes (uIxA (uVar 0) (uC (.int 0))) (uDGet2 (uVar 1) (uIxA (uVar 0) (uC (.int 0))) (uC (.int 0))))) tDrawsFed_2)
noncomputable def tDraws:TS3:=(sRet (uCall cDrawsFed (uCons (uVar 0) (uCons (uCall cFedGuards (uCons (uVar 0) (uCons (uVar 1) uNil))) (uCons (uVar 2) uNil)))))
noncomputable def tStream:TS3:=(sRet (uLst (uCons (uCB gList (uCons (uSlA (uVar 0) oNone (oSome (uC (.int 63)))) uNil)) (uCons (uC (.int 0)) (uCons (uC (.int 20011)) uNil)))))
noncomputable def tTakeS_b2_1:TS3:=(sPut 0 (mP (uImm (uVar 2))) (mP (uC (.int 1))))
noncomputable def tTakeS_b1_4:TS3:=(sIf (tP (uT (uOp gGe (uVar 2) (uOp gPow (uC (.int 10)) (uC (.int 18)))))) tTakeS_b2_1 sNext)
noncomputable def tTakeS_b1_3:TS3:=(sSeq (sPut 0 (mP (uOp gMod (uOp gAddA (uOp gMulA (uIxA (uVar 0) (uC (.int 2))) (uC (.int 1000003))) (uVar 2)) (uC (.int 2305843009213693951)))) (mP (uC (.int 2)))) tTakeS_b1_4)
noncomputable def tTakeS_b1_2:TS3:=(sSeq (sPut 0 (mP (uSlA (uIxA (uVar 0) (uC (.int 0))) (oSome (uC (.int 1))) oNone)) (mP (uC (.int 0)))) tTakeS_b1_3)
noncomputable def tTakeS_b1_1:TS3:=(sSeq (sSet 2 (uImm (uIxA (uIxA (uVar 0) (uC (.int 0))) (uC (.int 0))))) tTakeS_b1_2)
noncomputable def tTakeS_b3_3:TS3:=(sRet (uImm (uVar 3)))
noncomputable def tTakeS_b3_2:TS3:=(sSeq (sPut 0 (mP (uOp gFdv (uIxA (uVar 0) (uC (.int 1))) (uVar 1))) (mP (uC (.int 1)))) tTakeS_b3_3)
noncomputable def tTakeS_b3_1:TS3:=(sSeq (sSet 3 (uOp gMod (uIxA (uVar 0) (uC (.int 1))) (uVar 1))) tTakeS_b3_2)
noncomputable def tTakeS_4:TS3:=(sRet (uOp gMod (uOp gFdv (uOp gAddA (uOp gMod (uOp gMulA (uOp gFdv (uIxA (uVar 0) (uC (.int 2))) (uC (.int 1048576))) (uC (.int 48271))) (uC (.int 2147483647))) (uOp gMod (uIxA (uVar 0) (uC (.int 2))) (uC (.int 2147483629)))) (uC (.int 3))) (uVar 1)))
noncomputable def tTakeS_3:TS3:=(sSeq (sPut 0 (mP (uOp gMod (uOp gAddA (uOp gMulA (uIxA (uVar 0) (uC (.int 2))) (uC (.int 636413622384679300))) (uC (.int 1442695040888963407))) (uC (.int 2305843009213693951)))) (mP (uC (.int 2)))) tTakeS_4)
noncomputable def tTakeS_2:TS3:=(sSeq (sIf (tP (uT (uOp gGt (uIxA (uVar 0) (uC (.int 1))) (uC (.int 0))))) tTakeS_b3_1 sNext) tTakeS_3)
noncomputable def tTakeS:TS3:=(sSeq (sWhile (tP (uAnd (uT (uOp (gEqA false) (uIxA (uVar 0) (uC (.int 1))) (uC (.int 0)))) (uT (uOp (gEqL true) (uIxA (uVar 0) (uC (.int 0))) (uLst uNil))))) tTakeS_b1_1) tTakeS_2)
noncomputable def tCurveS_b1_2:TS3:=(sDrop (mApp 5 (mOp gAddA (mP (uOp gAddA (uIxA (uOp gAddA (uVar 5) (uLst (uCons (uC (.int 0)) uNil))) (uOp gSub (uVar 6) (uC (.int 1)))) (uC (.int 1)))) (mLend 0 cTakeS (mCons (mP (uVar 2)) mNil)))))
noncomputable def tCurveS_b1_1:TS3:=(sSeq (sDrop (mApp 4 (mOp gAddA (mP (uOp gAddA (uIxA (uOp gAddA (uVar 4) (uLst (uCons (uC (.int 0)) uNil))) (uOp gSub (uVar 6) (uC (.int 1)))) (uC (.int 1)))) (mLend 0 cTakeS (mCons (mP (uVar 1)) mNil))))) tCurveS_b1_2)
noncomputable def tCurveS_5:TS3:=(sRet (uCB gTuple (uCons (uLC [none,some 4,some 5,some 3] (rng1U (uVar 3)) (g1 0) uYes (uTup (uCons (uImm (uIxA (uVar 1) (uVar 0))) (uCons (uImm (uIxA (uVar 2) (uOp gSub (uOp gSub (uVar 3) (uC (.int 1))) (uVar 0)))) uNil)))) uNil)))
noncomputable def tCurveS_4:TS3:=(sSeq (sFor (iP (rng1U (uVar 3))) (g1 6) tCurveS_b1_1) tCurveS_5)
noncomputable def tCurveS_3:TS3:=(sSeq (sSet 5 (uLst uNil)) tCurveS_4)
noncomputable def tCurveS_2:TS3:=(sSeq (sSet 4 (uLst uNil)) tCurveS_3)
noncomputable def tCurveS:TS3:=(sSeq (sSetM 3 (mOp gAddA (mP (uC (.int 1))) (mLend 0 cTakeS (mCons (mP (uC (.int 5))) mNil)))) tCurveS_2)
noncomputable def tNamesS_b1_1:TS3:=(sRet (uLC [none,some 7,some 6] (rng1U (uVar 1)) (g1 0) uYes (uImm (uIxA (uVar 1) (uOp gMod (uOp gAddA (uVar 2) (uOp gMulA (uC (.int 5)) (uVar 0))) (uC (.int 26)))))))
noncomputable def tNamesS_10:TS3:=(sRet (uLC [none,some 4,some 2,some 5,some 6] (rng1U (uVar 1)) (g1 0) uYes (uOp gAddA (uOp gAddA (uSlS (uVar 1) oNone (oSome (uVar 3))) (uIxA (uVar 2) (uOp gMod (uOp gAddA (uVar 4) (uVar 0)) (uC (.int 26))))) (uSlS (uVar 1) (oSome (uOp gAddA (uVar 3) (uC (.int 1)))) oNone))))
noncomputable def tNamesS_9:TS3:=(sSeq (sIf (mT (mOp (gEqA false) (mLend 0 cTakeS (mCons (mP (uC (.int 4))) mNil)) (mP (uC (.int 0))))) tNamesS_b1_1 sNext) tNamesS_10)
noncomputable def tNamesS_8:TS3:=(sSeq (sSet 7 (uOp gAddA (uVar 7) (uLst (uCons (uC (.str "a")) (uCons (uC (.str "aa")) (uCons (uC (.str "aaa")) (uCons (uC (.str "aaaaaaaa")) (uCons (uC (.str "b")) uNil)))))))) tNamesS_9)
noncomputable def tNamesS_7:TS3:=(sSeq (sSet 7 (uOp gAddA (uVar 7) (uLst (uCons (uC (.str "move")) (uCons (uC (.str "dark")) (uCons (uC (.str "draws")) (uCons (uC (.str "sum")) (uCons (uC (.str "through")) (uCons (uC (.str "parted")) (uCons (uC (.str "not")) (uCons (uC (.str "awake")) uNil))))))))))) tNamesS_8)
noncomputable def tNamesS_6:TS3:=(sSeq (sSet 7 (uLst (uCons (uC (.str "guard")) (uCons (uC (.str "load")) (uCons (uC (.str "on")) (uCons (uC (.str "off")) (uCons (uC (.str "open")) (uCons (uC (.str "close")) (uCons (uC (.str "fault")) (uCons (uC (.str "go")) (uCons (uC (.str "row")) (uCons (uC (.str "map")) (uCons (uC (.str "least")) (uCons (uC (.str "board")) (uCons (uC (.str "change")) uNil))))))))))))))) tNamesS_7)
noncomputable def tNamesS_5:TS3:=(sSeq (sSetM 6 (mLend 0 cTakeS (mCons (mP (uC (.int 26))) mNil))) tNamesS_6)
noncomputable def tNamesS_4:TS3:=(sSeq (sSetM 5 (mLend 0 cTakeS (mCons (mP (uVar 3)) mNil))) tNamesS_5)
noncomputable def tNamesS_3:TS3:=(sSeq (sSetM 4 (mJoin (mP (uC (.str ""))) (mLC 2 0 [none,some 2,some 0] (iP (rng1U (uVar 3))) (g1 0) mYes (mImm (mIxA (mP (uVar 1)) (mLend 2 cTakeS (mCons (mP (uC (.int 26))) mNil))))))) tNamesS_4)
noncomputable def tNamesS_2:TS3:=(sSeq (sSetM 3 (mOp gAddA (mP (uC (.int 1))) (mLend 0 cTakeS (mCons (mP (uC (.int 8))) mNil)))) tNamesS_3)
noncomputable def tNamesS:TS3:=(sSeq (sSet 2 (uC (.str "abcdefghijklmnopqrstuvwxyz"))) tNamesS_2)
noncomputable def tGuardsS_b2_2:TS3:=(sSet 9 (uOp gAddA (uIxA (uVar 5) (uVar 7)) (uC (.int 1))))
noncomputable def tGuardsS_b2_1:TS3:=(sSeq (sSet 8 (uIxA (uVar 1) (uVar 7))) tGuardsS_b2_2)
noncomputable def tGuardsS_b1_7:TS3:=(sDrop (mApp 4 (mTup (mCons (mP (uImm (uIxA (uVar 1) (uVar 6)))) (mCons (mP (uImm (uVar 8))) (mCons (mP (uImm (uVar 10))) (mCons (mLend 0 cTakeS (mCons (mIxA (mP (uLst (uCons (uC (.int 1)) (uCons (uImm (uVar 3)) uNil)))) (mLend 0 cTakeS (mCons (mP (uC (.int 2))) mNil))) mNil)) (mCons (mLend 0 cTakeS (mCons (mIxA (mP (uLst (uCons (uC (.int 1)) (uCons (uImm (uVar 3)) uNil)))) (mLend 0 cTakeS (mCons (mP (uC (.int 2))) mNil))) mNil)) mNil))))))))
noncomputable def tGuardsS_b1_6:TS3:=(sSeq (sSetM 10 (mLend 0 cCurveS (mCons (mP (uVar 2)) (mCons (mP (uVar 3)) mNil)))) tGuardsS_b1_7)
noncomputable def tGuardsS_b1_5:TS3:=(sSeq (sDrop (mApp 5 (mP (uImm (uVar 9))))) tGuardsS_b1_6)
noncomputable def tGuardsS_b1_4:TS3:=(sSeq (sIf (mAnd (tP (uT (uOp gGt (uVar 6) (uC (.int 0))))) (mAnd (mT (mOp gGt (mLend 0 cTakeS (mCons (mP (uC (.int 7))) mNil)) (mP (uC (.int 0))))) (tP (uT (uOp gLt (uIxA (uVar 5) (uVar 7)) (uC (.int 8))))))) tGuardsS_b2_1 sNext) tGuardsS_b1_5)
noncomputable def tGuardsS_b1_3:TS3:=(sSeq (sSet 9 (uC (.int 1))) tGuardsS_b1_4)
noncomputable def tGuardsS_b1_2:TS3:=(sSeq (sSet 8 (uC .non)) tGuardsS_b1_3)
noncomputable def tGuardsS_b1_1:TS3:=(sSeq (sSetM 7 (mImm (mIxA (mLst (mCons (mP (uOp gSub (uVar 6) (uC (.int 1)))) (mCons (mLend 0 cTakeS (mCons (mP (uCB (g2I fun i j=>if j > i then j else i) (uCons (uC (.int 1)) (uCons (uVar 6) uNil)))) mNil)) mNil))) (mLend 0 cTakeS (mCons (mP (uC (.int 2))) mNil))))) tGuardsS_b1_2)
noncomputable def tGuardsS_4:TS3:=(sRet (uCB gTuple (uCons (uVar 4) uNil)))
noncomputable def tGuardsS_3:TS3:=(sSeq (sFor (iP (rng1U (uCB gLen (uCons (uVar 1) uNil)))) (g1 6) tGuardsS_b1_1) tGuardsS_4)
noncomputable def tGuardsS_2:TS3:=(sSeq (sSet 5 (uLst uNil)) tGuardsS_3)
noncomputable def tGuardsS:TS3:=(sSeq (sSet 4 (uLst uNil)) tGuardsS_2)
noncomputable def tLoadsS_b1_3:TS3:=(sDrop (mApp 5 (mTup (mCons (mP (uImm (uVar 6))) (mCons (mP (uImm (uVar 8))) (mCons (mP (uCB gTuple (uCons (uVar 7) uNil))) (mCons (mLend 0 cTakeS (mCons (mP (uVar 3)) mNil)) (mCons (mOp gGt (mLend 0 cTakeS (mCons (mP (uC (.int 3))) mNil)) (mP (uC (.int 0)))) mNil))))))))
noncomputable def tLoadsS_b1_2:TS3:=(sSeq (sSetM 8 (mImm (mIxA (mIxA (mP (uVar 2)) (mLend 0 cTakeS (mCons (mP (uCB gLen (uCons (uVar 2) uNil))) mNil))) (mP (uC (.int 0)))))) tLoadsS_b1_3)
noncomputable def tLoadsS_b1_1:TS3:=(sSeq (sSetM 7 (mLC 1 0 [none,some 0,some 3,some 4] (rng1 (mLend 0 cTakeS (mCons (mP (uC (.int 3))) mNil))) (g1 0) mYes (mTup (mCons (mOp gAddA (mP (uC (.int 1))) (mLend 1 cTakeS (mCons (mP (uVar 3)) mNil))) (mCons (mLend 1 cTakeS (mCons (mP (uVar 2)) mNil)) mNil))))) tLoadsS_b1_2)
noncomputable def tLoadsS_3:TS3:=(sRet (uCB gTuple (uCons (uVar 5) uNil)))
noncomputable def tLoadsS_2:TS3:=(sSeq (sFor (iP (seqB (uVar 1))) (g1 6) tLoadsS_b1_1) tLoadsS_3)
noncomputable def tLoadsS:TS3:=(sSeq (sSet 5 (uLst uNil)) tLoadsS_2)
noncomputable def tBoardS_4:TS3:=(sRetM (mTup (mCons (mP (uImm (uVar 7))) (mCons (mLend 0 cLoadsS (mCons (mP (uSlA (uVar 6) (oSome (uVar 5)) oNone)) (mCons (mP (uVar 7)) (mCons (mP (uVar 3)) (mCons (mP (uVar 4)) mNil))))) mNil))))
noncomputable def tBoardS_3:TS3:=(sSeq (sSetM 7 (mLend 0 cGuardsS (mCons (mP (uSlA (uVar 6) oNone (oSome (uVar 5)))) (mCons (mP (uVar 3)) (mCons (mP (uVar 4)) mNil))))) tBoardS_4)
noncomputable def tBoardS_2:TS3:=(sSeq (sSetM 6 (mLend 0 cNamesS (mCons (mP (uOp gAddA (uVar 5) (uVar 2))) mNil))) tBoardS_3)
noncomputable def tBoardS:TS3:=(sSeq (sSetM 5 (mOp gAddA (mP (uC (.int 1))) (mLend 0 cTakeS (mCons (mP (uVar 1)) mNil)))) tBoardS_2)
noncomputable def tOverS_b1_2:TS3:=(sSet 3 (uIxA (uVar 2) (uVar 3)))
noncomputable def tOverS_b1_1:TS3:=(sSeq (sDrop (mApp 4 (mP (uImm (uVar 3))))) tOverS_b1_2)
noncomputable def tOverS_5:TS3:=(sRet (uVar 4))
noncomputable def tOverS_4:TS3:=(sSeq (sWhile (tP (uT (uOp (gIsA true) (uVar 3) (uC .non)))) tOverS_b1_1) tOverS_5)
noncomputable def tOverS_3:TS3:=(sSeq (sSet 4 (uLst uNil)) tOverS_4)
noncomputable def tOverS_2:TS3:=(sSeq (sSet 3 (uDGet2 (uCB gDictA (uCons (uLC [none] (seqB (uIxA (uVar 0) (uC (.int 1)))) (g1 0) uYes (uTup (uCons (uImm (uIxA (uVar 0) (uC (.int 0)))) (uCons (uImm (uIxA (uVar 0) (uC (.int 1)))) uNil)))) uNil)) (uVar 1) (uVar 1))) tOverS_3)
noncomputable def tOverS:TS3:=(sSeq (sSet 2 (uCB gDictA (uCons (uLC [none] (seqB (uIxA (uVar 0) (uC (.int 0)))) (g1 0) uYes (uTup (uCons (uImm (uIxA (uVar 0) (uC (.int 0)))) (uCons (uImm (uIxA (uVar 0) (uC (.int 1)))) uNil)))) uNil))) tOverS_2)
end My
namespace L2
open PySem PySem.Spec PyProof.Rows
end L2
namespace L3
open PySem PySem.Spec PySem.Calls PyProof.Rows L2
section
variable {X:Cx} {cl:List Cl} {tg e a b:Expr} {es:List Expr} {pos p2 vp:Pos} {ua ub:TU} {f fa fb:Fl} {ma mb:TM} {x:Str} {i:Nat}
theorem rep_key0 {K:PySem.W.Frag} {H:Hp} (k:Key):Rep K H (kV k) (kD k) []:=by
 cases k with
 | inl i=>exact .int
 | inr x=>exact .str
noncomputable def keysU (u:TU):TIU:=fun ρ Q=>u ρ fun d=>match d with
 | .dic kds=>Q (kds.map fun kv=>kD kv.1)
 | _=>False
theorem RepK.key {K:PySem.W.Frag} {H:Hp}:∀ {vs:List (Key × V)} {ds:List (Key × D)} {A:List Addr},RepK K H vs ds A -> ds.map (·.1) = vs.map (·.1)
 | _,_,_,.nil=>rfl
 | _,_,_,.cons _ r=>by rw [List.map_cons,List.map_cons,r.key]
theorem itK {K:PySem.W.Frag} {H:Hp} {p ep:Nat} {kvs:List (Key × V)} {kds:List (Key × D)} {C:List Addr} (h:H p = some (.dE kvs ep)) (r:RepK K H kvs kds C):ItOk K (Itk p kvs.length ep) (kds.map fun kv=>kD kv.1) (p :: C) H:=fun H' tf k i=>by
 have hp:H' p = some (.dE kvs ep):=(k p List.mem_cons_self).trans h
 have hl:(kds.map fun kv=>kD kv.1).length = kvs.length:=by rw [List.length_map,<- r.length]
 refine ⟨fun hi=>⟨kvs,hp,rfl,by rw [<- hl]; exact Nat.le_of_eq hi⟩,fun d e=>?_⟩
 have hi:i < kvs.length:=by rw [<- hl]; exact (List.getElem?_eq_some_iff.mp e).1
 refine ⟨⟨kvs,kvs[i],hp,rfl,List.getElem?_eq_getElem hi⟩,fun y H2 hy=>?_⟩
 obtain ⟨e2,hy⟩:=hy
 subst e2
 have e3:=hy kvs hp
 rw [List.getElem?_eq_getElem hi] at e3
 have ek:=congrArg (fun l=>l[i]?) r.key
 simp only [List.getElem?_map,List.getElem?_eq_getElem hi,Option.map_some] at ek
 rw [List.getElem?_map] at e
 cases ed:kds[i]? with
 | none=>rw [ed] at e; cases e
 | some kd=>
  rw [ed] at e ek
  have e4:kd.1 = (kvs[i]).1:=Option.some.inj ek
  have e5:kD kd.1 = d:=Option.some.inj e
  have e6:kV (kvs[i]).1 = y:=Option.some.inj e3
  subst e5 e6
  rw [e4]
  exact ⟨Same.refl _,[],rep_key0 _,List.nil_sublist _⟩
theorem i_keys (h:PU X cl e f ua):PIU X cl tg e f (keysU ua):=.of <| by
 obtain ⟨t,p,h⟩:=h.run
 refine ⟨_,pi_keys p,fun G ρ σ H fa Q R hG E hu k=>h G ρ σ H fa _ _ hG E hu fun v H' d B s r fo q=>?_⟩
 cases d <;> first | exact (show False from q).elim | skip
 have r0:=r
 obtain ⟨p,kvs,ep,C,rfl,hp,rs,rfl⟩:=rep_dicE r
 exact ⟨p,kvs,ep,rfl,hp,k _ H' _ _ s (itK hp rs) (fun a ha=>r0.there ha) fo q⟩
noncomputable def sRetP (i:Nat) (m:TM):TS3:=fun T ρ=>uVar i ρ fun _=>m ρ fun d ρ'=>uVar i ρ' fun d0=>T.rt (.tup [d0,d]) ρ'
theorem s_retP {kt} (h:PE X (.Name x vp) (tVar i)) (hi:i ≠ 0) (hc:cl[i]? = some .own) (he:PM X cl e ma) (hst:isStar e = false):PS3 X cl (.Return (some (.Tuple [.Name x vp,e] kt p2)) pos) (sRetP i ma):=.of <| by
 obtain ⟨t,p,he⟩:=he.run
 refine ⟨_,ps_ret (pe_tup (pa_k h (pa_k p pa_nil hst) rfl)),fun G T ρ σ H fo R hG E hu le=>?_⟩
 have o:G.own i:=by unfold Ent.own; rw [hG]; exact hc
 obtain ⟨d1,e1,q⟩:=uVar_some hu
 obtain ⟨v,hv,_⟩:=E.rep i d1 e1
 refine ⟨v,hv,he G ρ σ H fo _ _ hG E q fun w H' d B ρ' fo' E' c r n1 n2 q=>?_⟩
 obtain ⟨d0,e0,q⟩:=uVar_some q
 obtain ⟨v',hv',r0⟩:=E'.rep i d0 e0
 have ev:v' = v:=by rw [hv] at hv'; cases hv'; rfl
 subst ev
 refine ⟨by show 2 <= sizeLine; decide,fun pp hpp=>?_⟩
 have s:=Same.upd_new (o:=.tup [v',w]) hpp
 refine le.rt _ _ ⟨.tup [d0,d],ρ',σ,fo',fo' i ++ (B ++ []),E'.same s,.tup upd_same (.cons (r0.same s) (.cons (r.same s) .nil)),?_,?_,?_,q⟩
 ·rw [List.append_nil]
  exact List.nodup_append.mpr ⟨E'.nd i (.inl o),n1,fun a ha b hb z=>(n2 b hb).2 i (z ▸ ha)⟩
 ·intro a ha
  rw [List.append_nil] at ha
  rcases List.mem_append.mp ha with z | z
  ·exact E'.new i (.inr ⟨o,fun y=>hi (E'.po.one i y o)⟩) a z
  ·exact E.stb.dom a (n2 a z).1
 ·intro j hj ho a ha
  rw [List.append_nil] at ha
  rcases List.mem_append.mp ha with z | z
  ·exact fun y=>E'.dj i j (fun e=>hi (e ▸ E'.po.one j hj ho)) o a z y
  ·exact (n2 a z).2 j
noncomputable def mSlM (ua:TU) (mb:TM):TM:=fun ρ Q=>ua ρ fun d=>mb ρ fun z ρ'=>∃ (h:Int) (xs:List D),z = .int h /\ kindB false d = some xs /\ imms xs = true /\ Q (.lst (cutD xs none (some h))) ρ'
theorem pm_slM (ha:PU X cl a fa ua) (hf:flMin fa .stab = true) (hb:PN X cl b mb):PM X cl (.Subscript a (.Slice none (some b) none p2) pos) (mSlM ua mb):=.of <| by
 obtain ⟨ta,pa,ha⟩:=ha.run
 obtain ⟨tb,pb,hb⟩:=hb.run
 refine ⟨_,pe_slice sl_list pa po_none (po_some pb),fun G ρ σ H fo Q R hG E hu k=>ha G ρ σ H fo _ _ hG E hu fun v H1 d A s1 r1 f1 q1=>hb G ρ σ H1 fo _ _ hG (E.same s1) q1 fun w H2 z Bz ρ' fo' E' c rz nz q2=>?_⟩
 obtain ⟨h,xs,rfl,e1,im,q⟩:=q2
 cases rep_int rz
 have fl:=f1.weak E hf
 have r2:=c.keep r1 fl
 obtain ⟨p,vs,B,rfl,hq,rs,_⟩:=rep_sqL r2 e1
 have eB:=rs.immA im
 subst eB
 refine ⟨_,rfl,p,vs,rfl,hq,fun l hl=>?_⟩
 obtain ⟨B,sB,rc⟩:=rs.cut (HT.sIx xs.length 0 none) (HT.sIx xs.length xs.length (some h) - HT.sIx xs.length 0 none)
 have eB:B = []:=List.sublist_nil.mp sB
 subst eB
 have c2:=(Chg.same (K:=X.K) (G:=G) (fa:=fo) s1).trans c
 refine k _ _ _ [l] ρ' fo' (E'.same (Same.upd_new hl)) (c2.trans (Chg.same (Same.upd_new hl))) (.lst upd_same ?_) (by simp) (fun a ha=>?_) q
 ·have rc2:Reps X.K H2 (cutV vs none (some h)) (cutD xs none (some h)) []:=by
   unfold cutV cutD
   rw [rs.length]
   exact rc
  exact rc2.mono (Stb.of (Same.upd_new hl)) fun a ha=>by cases ha
 ·cases List.mem_singleton.mp ha
  exact ⟨c2.stb.dom _ hl,fun i z=>E'.there i z hl⟩
theorem reps_ints {K:PySem.W.Frag} {H:Hp}:∀ {vs:List V} {ns:List Int} {A:List Addr},Reps K H vs (ns.map D.int) A -> vs = ns.map V.int
 | _,[],_,.nil=>rfl
 | _,n :: ns,_,.cons h r=>by cases h; rw [reps_ints r]; rfl
end
end L3
namespace L3
open PySem PySem.Spec PySem.Calls PyProof.Rows L2
section
variable {X:Cx} {cl:List Cl} {tg e a b:Expr} {es:List Expr} {pos p2 vp:Pos} {ua ub:TU} {f fa fb:Fl} {ma mb:TM} {x y:Str} {i j:Nat}
end
end L3
namespace L2
open PySem PySem.Spec PyProof.Rows PySem.SeqAt
theorem ne_pairs {prog:Program} {w:World} {A:Around} {E:Value -> Shared -> Prop} {s:Shared} {l b:Addr} {x1 x2 y1 y2:Value} {Q:Value -> Shared -> Prop} (hl:s.heap.IsTuple l #[x1,x2]) (hb:s.heap.IsTuple b #[y1,y2]) (hu:A.units < cLine)
  (e1:∀ (Q':Bool -> Shared -> Prop) (E':Value -> Shared -> Prop),Q' true s -> wpAny (model prog w) A.in1 (eqBool x1 y1) Q' E' s) (e2:∀ (Q':Bool -> Shared -> Prop) (E':Value -> Shared -> Prop),Q' true s -> wpAny (model prog w) A.in1 (eqBool x2 y2) Q' E' s)
  (h:Q (.bool false) s):wpAny (model prog w) A (compareOp .NotEq (.ref l) (.ref b)) Q E s:=by
 obtain ⟨⟨c1,d1,da1,sl1⟩,ho,hc,n,hd⟩:=id hl
 obtain ⟨⟨c2,d2,da2,sl2⟩,ho2,hc2,n2,hd2⟩:=id hb
 cases (show c1 = _ from hc); cases (show da1 = _ from hd); cases (show c2 = _ from hc2); cases (show da2 = _ from hd2)
 refine wpAny_richCompare_same_room (op:=.NotEq) (T := "tuple") ⟨_,ho,rfl⟩ ⟨_,ho2,rfl⟩ F.slot_tuple_ne (wpAny_call_entry F.slot_tuple_ne ⟨_,ho,rfl⟩ F.entry_tuple_ne ?_ (F.args_tuple_ne_2 _ _)) hu
 have f2:=AutoSeq1.sub_tuple_tuple
 obtain ⟨hp,g,d,tk,os⟩:=s
 wp_walk using wpAny_loadPart' ho,wpAny_loadPart' ho2,e1 _ _,e2 _ _
 exact ⟨.bool false,rfl,(fun z=>nomatch z),h⟩
theorem eq_dicts {prog:Program} {w:World} {A:Around} {E:Value -> Shared -> Prop} {s:Shared} {a b:Addr} {Q:Bool -> Shared -> Prop} {ps:List (Key × Int)} {va vb:List (Key × Value)} (hu:A.units < cLine) (na:(a == sysModules) = false) (nb:(b == sysModules) = false)
  (da:s.heap.DictOf (mixKind prog w) a va) (db:s.heap.DictOf (mixKind prog w) b vb) (nd:(ps.map (·.1)).Nodup) (ra:KV (ps.map fun p=>(p.1,V.int p.2)) va) (rb:KV (ps.map fun p=>(p.1,V.int p.2)) vb) (h:Q true s):wpAny (model prog w) A (eqBool (.ref a) (.ref b)) Q E s:=by
 by_cases e:a = b
 ·subst e
  exact EqAt.same (.ref a) prog w E Q h
 ·unfold eqBool
  refine wpAny_holding (wpAny_ite_split (fun z=>absurd (Value.ref.inj (eq_of_beq z)) e) fun _=>?_)
  refine wpAny_bind (PySem.W.keq_eq na nb da db hu (fun _=>hits_same nd rb (fun z hz=>hz) ra) ?_)
  rw [show (va.length == vb.length && true) = true by rw [<- ra.length,<- rb.length]; simp]
  exact wpAny_truthy_bool h
theorem vals_strs2:∀ {xs:List Str} {its:List Value},Vals (xs.map V.str) its -> its.length = xs.length /\ ∀ (j:Nat) (h1:j < its.length) (h2:j < xs.length),∃ t,its[j] = Value.str xs[j] t
 | [],_,.nil=>⟨rfl,fun j h1=>absurd h1 (Nat.not_lt_zero _)⟩
 | x :: xs,_,.cons ⟨t,h⟩ r=>by
  obtain ⟨e1,e2⟩:=vals_strs2 r
  refine ⟨by rw [List.length_cons,List.length_cons,e1],fun j h1 h2=>?_⟩
  cases j with
  | zero=>exact ⟨t,h⟩
  | succ j=>exact e2 j (Nat.lt_of_succ_lt_succ h1) (Nat.lt_of_succ_lt_succ h2)
theorem eq_lists {A:Around} {s:Shared} {a b:Addr} {xs:List Str} {ia ib:List Value} (hu:A.units < cLine) (la:s.heap.IsList a ia.toArray) (lb:s.heap.IsList b ib.toArray) (ra:Vals (xs.map V.str) ia) (rb:Vals (xs.map V.str) ib):EqAt A s (.ref a) (.ref b) true:=by
 by_cases e:a = b
 ·subst e
  exact EqAt.same (.ref a)
 ·obtain ⟨n1,a1⟩:=vals_strs2 ra
  obtain ⟨n2,a2⟩:=vals_strs2 rb
  refine EqAt.of_refs e ?_
  have:=RcAt.lists (e:=fun _=>true) la lb (by rw [List.size_toArray,List.size_toArray,n1,n2]) hu (fun j h1 h2=>by
   rw [List.size_toArray] at h1 h2
   obtain ⟨t1,z1⟩:=a1 j h1 (n1 ▸ h1)
   obtain ⟨t2,z2⟩:=a2 j h2 (n2 ▸ h2)
   rw [List.getElem_toArray,List.getElem_toArray,z1,z2]
   have q:=EqAt.str_str (A:=A.in1) (s:=s) (xs[j]'(n1 ▸ h1)) t1 (xs[j]'(n1 ▸ h1)) t2
   rw [beq_self_eq_true] at q
   exact q)
  have z:(List.range ia.toArray.size).all (fun _=>true) = true:=List.all_eq_true.mpr fun _ _=>rfl
  rw [z] at this
  exact this
noncomputable def rNeDL (K:PySem.W.Frag):R2:=fun x y H Q=>∃ (p q a1 a2 l1 l2:Addr) (ps:List (Key × Int)) (xs:List Str),x = .ref p /\ y = .ref q /\ SqT K H p [.ref a1,.ref l1] /\ SqT K H q [.ref a2,.ref l2] /\ Dd H a1 (ps.map fun p=>(p.1,V.int p.2)) /\ Dd H a2 (ps.map fun p=>(p.1,V.int p.2)) /\ (ps.map (·.1)).Nodup /\
 SqL K H l1 (xs.map V.str) /\ SqL K H l2 (xs.map V.str) /\ Q (.bl false) H
theorem op_neDL {X:Cx} (hu:X.A.units + 1 < cLine):OpR X (compareOp .NotEq) (rNeDL X.K):=by
 intro pins s σ H x y v u Q I rx ry h
 obtain ⟨p,q,a1,a2,l1,l2,ps,xs,rfl,rfl,h1,h2,d1,d2,nd,s1,s2,k⟩:=h
 cases rx; cases ry
 obtain ⟨it1,r1,t1,_⟩:=I.tuple h1
 obtain ⟨it2,r2,t2,_⟩:=I.tuple h2
 obtain ⟨v1,w1,rfl,rv1,rw1⟩:=vals2 r1
 obtain ⟨v2,w2,rfl,rv2,rw2⟩:=vals2 r2
 cases rv1; cases rv2; cases rw1; cases rw2
 obtain ⟨_,n1,va,ra,da⟩:=(show ObjOk X.prog X.w H s.heap a1 _ from d1.ok I.hok)
 obtain ⟨_,n2,vb,rb,db⟩:=(show ObjOk X.prog X.w H s.heap a2 _ from d2.ok I.hok)
 obtain ⟨ia,rla,pa,_⟩:=I.list s1
 obtain ⟨ib,rlb,pb,_⟩:=I.list s2
 refine ne_pairs (show s.heap.IsTuple p _ from t1) (show s.heap.IsTuple q _ from t2) (Nat.lt_of_succ_lt hu) (fun Q' E' hq=>eq_dicts hu n1 n2 da db nd ra rb hq) (fun Q' E' hq=>eq_lists hu pa.isList pb.isList rla rlb X.prog X.w E' Q' hq) ⟨.bl false,H,I,rfl,k⟩
end L2
namespace L3
open PySem PySem.Spec PySem.Calls PyProof.Rows L2
section
variable {X:Cx} {cl:List Cl} {e a b:Expr} {pos:Pos} {ua ub:TU} {fa fb:Fl}
noncomputable def gNeDL:D -> D -> (D -> Prop) -> Prop:=fun d e Q=>∃ (ps:List (Key × Int)) (xs:List Str),d = .tup [.dic (ps.map fun p=>(p.1,D.int p.2)),.lst (xs.map D.str)] /\ e = .tup [.dic (ps.map fun p=>(p.1,D.int p.2)),.lst (xs.map D.str)] /\ (ps.map (·.1)).Nodup /\ Q (.bl false)
theorem reps_strs2 {K:PySem.W.Frag} {H:Hp}:∀ {vs:List V} {xs:List Str} {A:List Addr},Reps K H vs (xs.map D.str) A -> vs = xs.map V.str
 | _,[],_,.nil=>rfl
 | _,x :: xs,_,.cons h r=>by cases h; rw [reps_strs2 r]; rfl
theorem dl_of {H:Hp} {v:V} {ps:List (Key × Int)} {xs:List Str} {A:List Addr} (r:Rep X.K H v (.tup [.dic (ps.map fun p=>(p.1,D.int p.2)),.lst (xs.map D.str)]) A):∃ p a l,v = .ref p /\ SqT X.K H p [.ref a,.ref l] /\ Dd H a (ps.map fun p=>(p.1,V.int p.2)) /\ SqL X.K H l (xs.map V.str):=by
 obtain ⟨p,vs,rfl,hp,rs⟩:=rep_tup r
 cases rs with
 | cons r1 rs=>
  cases rs with
  | cons r2 rs=>
   cases rs
   obtain ⟨a,kvs,B1,rfl,h1,rs1,_⟩:=rep_dic r1
   obtain ⟨l,ts,B2,rfl,h2,rs2,_⟩:=rep_lst r2
   rw [repK_ints rs1] at h1
   cases reps_strs2 rs2
   exact ⟨p,a,l,rfl,SqT.of hp,h1,SqL.of h2⟩
theorem o_neDL:Op3 X (rNeDL X.K) gNeDL:=by
 intro H v w d e A B Q R r1 r2 q k
 obtain ⟨ps,xs,rfl,rfl,nd,q⟩:=q
 obtain ⟨p,a1,l1,rfl,h1,d1,s1⟩:=dl_of r1
 obtain ⟨q',a2,l2,rfl,h2,d2,s2⟩:=dl_of r2
 exact ⟨p,q',a1,a2,l1,l2,ps,xs,rfl,rfl,h1,h2,d1,d2,nd,s1,s2,k _ H _ _ (Same.refl H) .bl List.nodup_nil (fun _ h=>(by cases h)) q⟩
theorem tt_neDL (hu:X.A.units + 1 < cLine) (ha:PU X cl a fa ua) (hb:PU X cl b fb ub) (hm:behindInMarks .NotEq b = false):PT3 X cl (.Compare a [.NotEq] [b] pos) (uT (uOp gNeDL ua ub)):=tt_cmp (op_neDL hu) o_neDL ha hb hm
end
end L3
namespace My
open PySem L2 L3
noncomputable def plD (ps:List (Str × Int)):List (Key × D):=ps.map fun p=>(.inr p.1,.int p.2)
structure PlOk (b:Bd) (ps:List (Str × Int)):Prop where
 nd:(ps.map (·.1)).Nodup
 sub:∀ p ∈ ps,p.1 ∈ gns b ++ lns b
 pos:∀ p ∈ ps,0 <= p.2
noncomputable def cPulls:Cm:=fun ds Q=>∃ (cs:List Int) (a st far:Int) (b:Bd),ds = [strm cs a st,bD b,.int far] /\ SOk cs a st /\ BdOk b /\ 0 < far /\ far <= 10 ^ 60 /\ ∀ (ps:List (Str × Int)) (op:List Str) (cs':List Int) (a' st':Int),PlOk b ps -> (∀ x ∈ op,x ∈ gns b) -> op.length <= 32 -> SOk cs' a' st' -> Q (.tup [.dic (plD ps),txs op]) (strm cs' a' st')
noncomputable def cDue19:Cp:=fun ds Q=>∃ (b:Bd) (op:List Str) (ps:List (Str × Int)),ds = [bD b,txs op,.dic (plD ps)] /\ BdOk b /\ PlOk b ps /\ Q (.dic (drawD b (drawV b op (Pd (plD ps)))))
noncomputable def cRight19:Cp:=fun ds Q=>∃ (b:Bd) (v:Str -> Int),ds = [.dic (drawD b v),.dic (drawD b v)] /\ BdOk b /\ Q (.bl true)
noncomputable def cLaw19:Cp:=fun ds Q=>∃ (d:D) (ns:List Int),ds = [d] /\ scr d ns /\ ns.length <= 63 /\ Q (.bl true)
noncomputable def tPulls_b2_1:TS3:=(sDPut3 4 (mLend 0 cTakeS (mCons (mIxA (mP (uLst (uCons (uC (.int 2)) (uCons (uImm (uVar 2)) uNil)))) (mLend 0 cTakeS (mCons (mP (uC (.int 2))) mNil))) mNil)) (mP (uVar 5)))
noncomputable def tPulls_b1_1:TS3:=(sIf (mT (mOp gGt (mLend 0 cTakeS (mCons (mP (uC (.int 3))) mNil)) (mP (uC (.int 0))))) tPulls_b2_1 sNext)
noncomputable def tPulls_5:TS3:=(sRetP 4 (mOp gAddA (mP (uFlip (uVar 6) (oSome (uUn gNeg (uC (.int 1)))))) (mSlM (uVar 6) (mLend 0 cTakeS (mCons (mP (uC (.int 2))) mNil)))))
noncomputable def tPulls_4:TS3:=(sSeq (sSetM 6 (mLC 1 0 [none,some 0] (iP (seqB (uIxA (uVar 1) (uC (.int 0))))) (g1 0) (mT (mOp (gEqA false) (mLend 1 cTakeS (mCons (mP (uC (.int 6))) mNil)) (mP (uC (.int 0))))) (mP (uImm (uIxA (uVar 0) (uC (.int 0))))))) tPulls_5)
noncomputable def tPulls_3:TS3:=(sSeq (sFor (iP (seqB (uVar 3))) (g1 5) tPulls_b1_1) tPulls_4)
noncomputable def tPulls_2:TS3:=(sSeq (sSet 4 (uC (.dic []))) tPulls_3)
noncomputable def tPulls:TS3:=(sSeq (sSet 3 (uLC [none] (seqB (uOp gAddA (uIxA (uVar 1) (uC (.int 0))) (uIxA (uVar 1) (uC (.int 1))))) (g1 0) uYes (uImm (uIxA (uVar 0) (uC (.int 0)))))) tPulls_2)
noncomputable def tDue19_b3_1:TS3:=(sDPut3 3 (mP (uOp gAddA (uIxA (uVar 3) (uVar 6)) (uIxA (uVar 2) (uVar 4)))) (mP (uVar 6)))
noncomputable def tDue19_b2_1:TS3:=(sFor (iP (seqB (uVar 5))) (g1 6) tDue19_b3_1)
noncomputable def tDue19_b1_2:TS3:=(sIf (tP (uT (uOp (gEqL false) (uLC [none,some 1] (seqB (uVar 5)) (g1 0) (uT (uOp (gInB false) (uVar 0) (uVar 1))) (uImm (uVar 0))) (uLst uNil)))) tDue19_b2_1 sNext)
noncomputable def tDue19_b1_1:TS3:=(sSeq (sSet 5 (uCall cOverS (uCons (uVar 0) (uCons (uVar 4) uNil)))) tDue19_b1_2)
noncomputable def tDue19_3:TS3:=(sRet (uVar 3))
noncomputable def tDue19_2:TS3:=(sSeq (sFor (iP (keysU (uVar 2))) (g1 4) tDue19_b1_1) tDue19_3)
noncomputable def tDue19:TS3:=(sSeq (sSet 3 (uCB gDictA (uCons (uLC [none] (seqB (uIxA (uVar 0) (uC (.int 0)))) (g1 0) uYes (uTup (uCons (uImm (uIxA (uVar 0) (uC (.int 0)))) (uCons (uC (.int 0)) uNil)))) uNil))) tDue19_2)
noncomputable def tRight19_b1_1:TS3:=(sRet (uC (.bl false)))
noncomputable def tRight19_b3_1:TS3:=(sRet (uC (.bl false)))
noncomputable def tRight19_b2_1:TS3:=(sIf (tP (uOr (uNot (uTru (uCB gIsi (uCons (uIxA (uVar 0) (uVar 2)) (uCons (uC (.ty "int")) uNil))))) (uTru (uCB gIsi (uCons (uIxA (uVar 0) (uVar 2)) (uCons (uC (.ty "bool")) uNil)))))) tRight19_b3_1 sNext)
noncomputable def tRight19_3:TS3:=(sRet (uC (.bl true)))
noncomputable def tRight19_2:TS3:=(sSeq (sFor (iP (keysU (uVar 0))) (g1 2) tRight19_b2_1) tRight19_3)
noncomputable def tRight19:TS3:=(sSeq (sIf (tP (uOr (uNot (uTru (uCB gIsi (uCons (uVar 0) (uCons (uC (.ty "dict")) uNil))))) (uT (uOp (gEqDI true) (uVar 0) (uVar 1))))) tRight19_b1_1 sNext) tRight19_2)
noncomputable def tLaw19_b2_1:TS3:=(sRet (uC (.bl false)))
noncomputable def tLaw19_b3_1:TS3:=(sRet (uC (.bl false)))
noncomputable def tLaw19_b1_8:TS3:=(sIf (tP (uNot (uTru (uCall cRight19 (uCons (uCall cDraws (uCons (uVar 2) (uCons (uCB gTuple (uCons (uVar 5) uNil)) (uCons (uVar 4) uNil)))) (uCons (uVar 7) uNil)))))) tLaw19_b3_1 sNext)
noncomputable def tLaw19_b1_7:TS3:=(sSeq (sDPut3 8 (mP (uC (.int 1))) (mP (uC (.str "other")))) tLaw19_b1_8)
noncomputable def tLaw19_b1_6:TS3:=(sSeq (sDPut3 8 (mP (uC (.int 7))) (mP (uIxA (uIxA (uIxA (uVar 2) (uC (.int 0))) (uC (.int 0))) (uC (.int 0))))) tLaw19_b1_7)
noncomputable def tLaw19_b1_5:TS3:=(sSeq (sIf (tP (uOr (uNot (uTru (uCall cRight19 (uCons (uVar 8) (uCons (uVar 7) uNil))))) (uT (uOp gNeDL (uTup (uCons (uVar 4) (uCons (uVar 5) uNil))) (uVar 6))))) tLaw19_b2_1 sNext) tLaw19_b1_6)
noncomputable def tLaw19_b1_4:TS3:=(sSeq (sSet 8 (uCall cDraws (uCons (uVar 2) (uCons (uVar 5) (uCons (uVar 4) uNil))))) tLaw19_b1_5)
noncomputable def tLaw19_b1_3:TS3:=(sSeq (sSet 7 (uCall cDue19 (uCons (uVar 2) (uCons (uVar 5) (uCons (uVar 4) uNil))))) tLaw19_b1_4)
noncomputable def tLaw19_b1_2:TS3:=(sSeq (sSet 6 (uTup (uCons (uCB gDictA (uCons (uVar 4) uNil)) (uCons (uCB gList (uCons (uVar 5) uNil)) uNil)))) tLaw19_b1_3)
noncomputable def tLaw19_b1_1:TS3:=(sSeq (sUnpM (gT (gCons3 (g1 4) (gCons3 (g1 5) gNil3))) (mLend 1 cPulls (mCons (mP (uVar 2)) (mCons (mIxA (mP (uLst (uCons (uC (.int 9)) (uCons (uOp gPow (uC (.int 10)) (uC (.int 60))) uNil)))) (mLend 1 cTakeS (mCons (mP (uC (.int 2))) mNil))) mNil)))) tLaw19_b1_2)
noncomputable def tLaw19_4:TS3:=(sRet (uCall cRight19 (uCons (uCall cDraws (uCons (uVar 2) (uCons (uLst uNil) (uCons (uC (.dic [])) uNil)))) (uCons (uCB gDictA (uCons (uLC [none] (seqB (uIxA (uVar 2) (uC (.int 0)))) (g1 0) uYes (uTup (uCons (uImm (uIxA (uVar 0) (uC (.int 0)))) (uCons (uC (.int 0)) uNil)))) uNil)) uNil))))
noncomputable def tLaw19_3:TS3:=(sSeq (sFor (iP (rng1U (uOp gAddA (uC (.int 2)) (uCB (g2I fun i j=>if j < i then j else i) (uCons (uC (.int 40)) (uCons (uCB gLen (uCons (uVar 0) uNil)) uNil)))))) (g1 3) tLaw19_b1_1) tLaw19_4)
noncomputable def tLaw19_2:TS3:=(sSeq (sSetM 2 (mLend 1 cBoardS (mCons (mIxA (mP (uLst (uCons (uC (.int 2)) (uCons (uC (.int 8)) (uCons (uC (.int 16)) uNil))))) (mLend 1 cTakeS (mCons (mP (uC (.int 3))) mNil))) (mCons (mLend 1 cTakeS (mCons (mP (uC (.int 11))) mNil)) (mCons (mP (uC (.int 9))) (mCons (mP (uC (.int 9))) mNil)))))) tLaw19_3)
noncomputable def tLaw19:TS3:=(sSeq (sSet 1 (uCall cStream (uCons (uVar 0) uNil))) tLaw19_2)
noncomputable def top (i:Nat):Stmt:=PySem.Challenge.pw_fuseboard_k19_draws_summed.main.body.getD i (.Pass ⟨0,0,0,0⟩)
noncomputable abbrev sFedGuards:Stmt:=top 1
noncomputable abbrev sDrawsFed:Stmt:=top 3
noncomputable abbrev sDraws:Stmt:=top 2
noncomputable abbrev sStream:Stmt:=top 5
noncomputable abbrev sTakeS:Stmt:=top 6
noncomputable abbrev sCurveS:Stmt:=top 7
noncomputable abbrev sNamesS:Stmt:=top 8
noncomputable abbrev sGuardsS:Stmt:=top 9
noncomputable abbrev sLoadsS:Stmt:=top 10
noncomputable abbrev sBoardS:Stmt:=top 11
noncomputable abbrev sOverS:Stmt:=top 12
noncomputable abbrev sPulls:Stmt:=top 13
noncomputable abbrev sDue19:Stmt:=top 14
noncomputable abbrev sRight19:Stmt:=top 15
noncomputable abbrev sLaw19:Stmt:=top 16
section
variable {P:Program} {w:World} {K:PySem.W.Frag} {mg:Str -> Option Value} {base:Heap}
theorem scFedGuards:FnScope ["board", "opened", "apart", "found", "guard", "name", "under"] ["board", "opened"] (defScope sFedGuards):=⟨rfl,rfl,rfl,by decide +kernel,rfl,by decide +kernel,by decide +kernel⟩
theorem okFedGuards {f:Addr} {fd:FuncData} (F:Fun K "fed_guards" "fed_guards" sFedGuards f fd) (hset:mg "set" = none)
  (len:∀ ds Q,cFedGuards ds Q -> ds.length = 2) (rd:∀ ds Q,cFedGuards ds Q -> tFedGuards (EP Q) (startD 7 ds)):FnOk P w K mg base CX0 1 f fd ["board", "opened"] (spP K cFedGuards):=
 fnP (cl:=[.bor,.bor,.bor,.own,.bor,.bor,.bor]) F scFedGuards rfl len (fun cdv A outer s0 H E hr=>(bb4 rfl (s_set (i:=2) scFedGuards.nd rfl (Or.inl rfl) (pu_callTy (call_setS rfl) c_setS (by rfl) hset PyProof.Rows.boot_set (av_cons (pu_var 1 (pv 1) rfl) av_nil rfl)) rfl)
   (s_set (i:=3) scFedGuards.nd rfl (Or.inl rfl) pu_dnew rfl)
   (s_for (PIU.m (i_seqB (pu_ixA (hu_of hr) (pu_var 0 (pv 0) rfl) pu_int (fun _ _=>rfl))) rfl) (g_name (pg_name (i:=4) scFedGuards.nd rfl (Or.inl rfl)) rfl)
    (bb2 rfl (s_par (i:=5) (j:=6) rfl scFedGuards.nd rfl rfl (by decide) rfl rfl (av_cons (pu_ixA (hu_of hr) (pu_var 4 (pv 4) rfl) pu_int (fun _ _=>rfl)) (av_cons (pu_ixA (hu_of hr) (pu_var 4 (pv 4) rfl) pu_int (fun _ _=>rfl)) av_nil rfl) rfl) rfl rfl rfl)
   (s_dput (hu_of hr) 3 (pv 3) rfl (PM.n (PU.m (PU.imm (pu_and (pu_notinT (pu_var 5 (pv 5) rfl) (pu_var 2 (pv 2) rfl) rfl) (pu_one (pu_or (pu_isA (pu_var 6 (pv 6) rfl) pu_non (nomark _)) (pu_one (pu_ixA (hu_of hr) (pu_var 3 (pv 3) rfl) (pu_var 6 (pv 6) rfl) (fun _ _=>rfl))))))))) (PU.n (pu_var 5 (pv 5) rfl) rfl))) (fun a b c=>ps_for PassesOwn.never rfl a b c))
   (s_retV 3 (pv 3) (by decide) rfl))) rd
theorem scDrawsFed:FnScope ["board", "lit", "pulls", "found", "guard", "load", "name", "under"] ["board", "lit", "pulls"] (defScope sDrawsFed):=⟨rfl,rfl,rfl,by decide +kernel,rfl,by decide +kernel,by decide +kernel⟩
theorem ndDrawsFed0:(["guard", "pulls"]:List Str).Nodup:=by decide +kernel
theorem okDrawsFed {f:Addr} {fd:FuncData} (F:Fun K "draws_fed" "draws_fed" sDrawsFed f fd) (hreversed:mg "reversed" = none)
  (len:∀ ds Q,cDrawsFed ds Q -> ds.length = 3) (rd:∀ ds Q,cDrawsFed ds Q -> tDrawsFed (EP Q) (startD 8 ds)):FnOk P w K mg base CX0 1 f fd ["board", "lit", "pulls"] (spP K cDrawsFed):=
 fnP (cl:=[.bor,.bor,.bor,.own,.bor,.bor,.bor,.bor]) F scDrawsFed rfl len (fun cdv A outer s0 H E hr=>(bb4 rfl (s_setDC (i:=3) (XN:=["board", "lit", "pulls", "found", "guard", "load", "name", "under"]) (N:=["guard", "pulls"]) (XS:=defScope sDrawsFed) (cap:=[none,some 2]) scDrawsFed.nd rfl rfl rfl (by decide +kernel) rfl rfl rfl rfl (i_seqB (pu_ixA (hu_of hr) (pu_var 0 (pv 0) rfl) pu_int (fun _ _=>rfl))) (fun _ _ _ _=>(g_name (pg_name (i:=0) ndDrawsFed0 rfl (Or.inl rfl)) rfl)) (fun _ _ _ _=>ts_nil) (fun _ _ _ _=>(pu_ixA (hu_of hr) (pu_var 0 (pv 0) rfl) pu_int (fun _ _=>rfl))) (fun _ _ _ _=>(pu_dget2 (hu_of hr) (pu_var 1 (pv 1) rfl) (pu_ixA (hu_of hr) (pu_var 0 (pv 0) rfl) pu_int (fun _ _=>rfl)) pu_int ⟨rfl,rfl,rfl,rfl⟩)))
   (s_for (PIU.m (i_seqB (pu_ixA (hu_of hr) (pu_var 0 (pv 0) rfl) pu_int (fun _ _=>rfl))) rfl) (g_name (pg_name (i:=5) scDrawsFed.nd rfl (Or.inl rfl)) rfl)
    (bb1 rfl (s_daug (hu_of hr) 3 (pv 3) rfl (pu_ixA (hu_of hr) (pu_var 5 (pv 5) rfl) pu_int (fun _ _=>rfl)) (pu_dget2 (hu_of hr) (pu_var 2 (pv 2) rfl) (pu_ixA (hu_of hr) (pu_var 5 (pv 5) rfl) pu_int (fun _ _=>rfl)) pu_int ⟨rfl,rfl,rfl,rfl⟩))) (fun a b c=>ps_for PassesOwn.never rfl a b c))
   (s_for (PIU.m (i_backT (pu_ixA (hu_of hr) (pu_var 0 (pv 0) rfl) pu_int (fun _ _=>rfl)) rfl (fun pa=>pi_backT (by rfl) hreversed pa)) rfl) (g_name (pg_name (i:=4) scDrawsFed.nd rfl (Or.inl rfl)) rfl)
    (bb2 rfl (s_par (i:=6) (j:=7) rfl scDrawsFed.nd rfl rfl (by decide) rfl rfl (av_cons (pu_ixA (hu_of hr) (pu_var 4 (pv 4) rfl) pu_int (fun _ _=>rfl)) (av_cons (pu_ixA (hu_of hr) (pu_var 4 (pv 4) rfl) pu_int (fun _ _=>rfl)) av_nil rfl) rfl) rfl rfl rfl)
   (s_if (PT3.m (tt_not (tt_truth (pu_ixA (hu_of hr) (pu_var 1 (pv 1) rfl) (pu_var 6 (pv 6) rfl) (fun _ _=>rfl)) (fun _=>rfl)))) (bb1 rfl (s_dput (hu_of hr) 3 (pv 3) rfl (PU.n pu_int rfl) (PU.n (pu_var 6 (pv 6) rfl) rfl))) (bb1 rfl (s_if (PT3.m (tt_isntA (pu_var 7 (pv 7) rfl) pu_non (nomark _))) (bb1 rfl (s_daug (hu_of hr) 3 (pv 3) rfl (pu_var 7 (pv 7) rfl) (pu_ixA (hu_of hr) (pu_var 3 (pv 3) rfl) (pu_var 6 (pv 6) rfl) (fun _ _=>rfl)))) b_nil)))) (fun a b c=>ps_for PassesOwn.never rfl a b c))
   (s_retV 3 (pv 3) (by decide) rfl))) rd
theorem scDraws:FnScope ["board", "opened", "pulls"] ["board", "opened", "pulls"] (defScope sDraws):=⟨rfl,rfl,rfl,by decide +kernel,rfl,by decide +kernel,by decide +kernel⟩
theorem okDraws {f:Addr} {fd:FuncData} (F:Fun K "draws" "draws" sDraws f fd) {fFedGuards:Addr} {fdFedGuards:FuncData} (CFedGuards:Cle P w K mg base "fed_guards" 1 ["board", "opened"] (spP K cFedGuards) fFedGuards fdFedGuards) {fDrawsFed:Addr} {fdDrawsFed:FuncData} (CDrawsFed:Cle P w K mg base "draws_fed" 1 ["board", "lit", "pulls"] (spP K cDrawsFed) fDrawsFed fdDrawsFed)
  (len:∀ ds Q,cDraws ds Q -> ds.length = 3) (rd:∀ ds Q,cDraws ds Q -> tDraws (EP Q) (startD 3 ds)):FnOk P w K mg base CX0 2 f fd ["board", "opened", "pulls"] (spP K cDraws):=
 fnP (cl:=[.bor,.bor,.bor]) F scDraws rfl len (fun cdv A outer s0 H E hr=>(bb1 rfl (s_ret (pu_call CDrawsFed (hr.mono (by decide)) (by rfl) (av_cons (pu_var 0 (pv 0) rfl) (av_cons (pu_call CFedGuards (hr.mono (by decide)) (by rfl) (av_cons (pu_var 0 (pv 0) rfl) (av_cons (pu_var 1 (pv 1) rfl) av_nil rfl) rfl) rfl) (av_cons (pu_var 2 (pv 2) rfl) av_nil rfl) rfl) rfl) rfl) rfl))) rd
theorem scStream:FnScope ["_law_script"] ["_law_script"] (defScope sStream):=⟨rfl,rfl,rfl,by decide +kernel,rfl,by decide +kernel,by decide +kernel⟩
theorem okStream {f:Addr} {fd:FuncData} (F:Fun K "_law_stream" "_law_stream" sStream f fd) (hlist:mg "list" = none)
  (len:∀ ds Q,cStream ds Q -> ds.length = 1) (rd:∀ ds Q,cStream ds Q -> tStream (EP Q) (startD 1 ds)):FnOk P w K mg base CX0 1 f fd ["_law_script"] (spP K cStream):=
 fnP (cl:=[.bor]) F scStream rfl len (fun cdv A outer s0 H E hr=>(bb1 rfl (s_ret (pu_lst (af_cons (pu_callTy call_list_of c_list (by rfl) hlist PyProof.Rows.boot_list (av_cons (pu_slA (pu_var 0 (pv 0) rfl) o3_none (o3_some pu_int)) av_nil rfl)) (af_cons pu_int (af_cons pu_int af_nil rfl) rfl) rfl) rfl) rfl))) rd
theorem scTakeS:FnScope ["_law_stream_here", "_law_many", "_law_cell", "_law_found"] ["_law_stream_here", "_law_many"] (defScope sTakeS):=⟨rfl,rfl,rfl,by decide +kernel,rfl,by decide +kernel,by decide +kernel⟩
theorem okTakeS {f:Addr} {fd:FuncData} (F:Fun K "_law_take" "_law_take" sTakeS f fd)
  (len:∀ ds Q,cTakeS ds Q -> ds.length = 2) (rd:∀ ds Q,cTakeS ds Q -> tTakeS (EM Q) (startD 4 ds)):FnOk P w K mg base CX0 1 f fd ["_law_stream_here", "_law_many"] (spM K cTakeS):=
 fnM (cl:=[.bor,.bor,.bor]) F scTakeS rfl len (fun cdv A outer s0 H E hr=>(bb4 rfl (s_while PassesOwn.never (PT3.m (PW3.pt (tw_and (tt_eqA hr (pu_ixA (hu_of hr) (pu_var 0 (pv 0) rfl) pu_int (fun _ _=>rfl)) pu_int (nomark _)) (tw_and1 (tt_neL (Nat.lt_of_succ_lt (hu_of hr)) (pu_ixA (hu_of hr) (pu_var 0 (pv 0) rfl) pu_int (fun _ _=>rfl)) (pu_lst af_nil rfl) (nomark _)))))) (bb4 rfl (s_set (i:=2) scTakeS.nd rfl (Or.inl rfl) (PU.imm (pu_ixA (hu_of hr) (pu_ixA (hu_of hr) (pu_var 0 (pv 0) rfl) pu_int (fun _ _=>rfl)) pu_int (fun _ _=>rfl))) rfl)
   (s_put 0 (pv 0) rfl (PU.m (pu_slA (pu_ixA (hu_of hr) (pu_var 0 (pv 0) rfl) pu_int (fun _ _=>rfl)) (o3_some pu_int) o3_none)) (PU.n pu_int rfl) (fun p p2=>ps_asg p (pg_sub (pv 0) p2 set_list)))
   (s_put 0 (pv 0) rfl (PU.m (pu_mod (pu_addA (pu_mulA (pu_ixA (hu_of hr) (pu_var 0 (pv 0) rfl) pu_int (fun _ _=>rfl)) pu_int) (pu_var 2 (pv 2) rfl)) pu_int)) (PU.n pu_int rfl) (fun p p2=>ps_asg p (pg_sub (pv 0) p2 set_list)))
   (s_if (PT3.m (tt_ge (pu_var 2 (pv 2) rfl) (pu_pow pu_int pu_int) (nomark _))) (bb1 rfl (s_put 0 (pv 0) rfl (PU.m (PU.imm (pu_var 2 (pv 2) rfl))) (PU.n pu_int rfl) (fun p p2=>ps_asg p (pg_sub (pv 0) p2 set_list)))) b_nil)))
   (s_if (PT3.m (tt_gt (pu_ixA (hu_of hr) (pu_var 0 (pv 0) rfl) pu_int (fun _ _=>rfl)) pu_int (nomark _))) (bb3 rfl (s_set (i:=3) scTakeS.nd rfl (Or.inl rfl) (pu_mod (pu_ixA (hu_of hr) (pu_var 0 (pv 0) rfl) pu_int (fun _ _=>rfl)) (pu_var 1 (pv 1) rfl)) rfl)
   (s_put 0 (pv 0) rfl (PU.m (pu_fdiv (pu_ixA (hu_of hr) (pu_var 0 (pv 0) rfl) pu_int (fun _ _=>rfl)) (pu_var 1 (pv 1) rfl))) (PU.n pu_int rfl) (fun p p2=>ps_asg p (pg_sub (pv 0) p2 set_list)))
   (s_ret (PU.imm (pu_var 3 (pv 3) rfl)) rfl)) b_nil)
   (s_put 0 (pv 0) rfl (PU.m (pu_mod (pu_addA (pu_mulA (pu_ixA (hu_of hr) (pu_var 0 (pv 0) rfl) pu_int (fun _ _=>rfl)) pu_int) pu_int) pu_int)) (PU.n pu_int rfl) (fun p p2=>ps_asg p (pg_sub (pv 0) p2 set_list)))
   (s_ret (pu_mod (pu_fdiv (pu_addA (pu_mod (pu_mulA (pu_fdiv (pu_ixA (hu_of hr) (pu_var 0 (pv 0) rfl) pu_int (fun _ _=>rfl)) pu_int) pu_int) pu_int) (pu_mod (pu_ixA (hu_of hr) (pu_var 0 (pv 0) rfl) pu_int (fun _ _=>rfl)) pu_int)) pu_int) (pu_var 1 (pv 1) rfl)) rfl))) rd
theorem scCurveS:FnScope ["_law_stream_here", "_law_far", "_law_long", "_law_many", "_law_levels", "_law_turns", "_law_k"] ["_law_stream_here", "_law_far", "_law_long"] (defScope sCurveS):=⟨rfl,rfl,rfl,by decide +kernel,rfl,by decide +kernel,by decide +kernel⟩
theorem ndCurveS0:(["_law_k", "_law_levels", "_law_turns", "_law_many"]:List Str).Nodup:=by decide +kernel
theorem okCurveS {f:Addr} {fd:FuncData} (F:Fun K "_law_curve" "_law_curve" sCurveS f fd) {fTakeS:Addr} {fdTakeS:FuncData} (CTakeS:Cle P w K mg base "_law_take" 1 ["_law_stream_here", "_law_many"] (spM K cTakeS) fTakeS fdTakeS) (hrange:mg "range" = none) (htuple:mg "tuple" = none)
  (len:∀ ds Q,cCurveS ds Q -> ds.length = 3) (rd:∀ ds Q,cCurveS ds Q -> tCurveS (EM Q) (startD 7 ds)):FnOk P w K mg base CX0 2 f fd ["_law_stream_here", "_law_far", "_law_long"] (spM K cCurveS):=
 fnM (cl:=[.bor,.bor,.bor,.own,.own,.bor]) F scCurveS rfl len (fun cdv A outer s0 H E hr=>(bb5 rfl (s_setM (i:=3) scCurveS.nd rfl (Or.inr rfl) (pm_addA (PU.n pu_int rfl) (PM.n (pm_lend 0 (pv 0) rfl CTakeS (hr.mono (by decide)) (by rfl) (an_cons (PU.n pu_int rfl) an_nil rfl)))) rfl)
   (s_set (i:=4) scCurveS.nd rfl (Or.inr rfl) (pu_lst af_nil rfl) rfl)
   (s_set (i:=5) scCurveS.nd rfl (Or.inr rfl) (pu_lst af_nil rfl) rfl)
   (s_for (PIU.m (i_range1 (by rfl) hrange (pu_var 3 (pv 3) rfl) rfl (fun pa=>pi_range1 (by rfl) hrange pa)) rfl) (g_name (pg_name (i:=6) scCurveS.nd rfl (Or.inl rfl)) rfl)
    (bb2 rfl (s_expr (PM.n (pm_append (r:=rAppend) 4 (pv 4) rfl (pm_addA (PU.n (pu_addA (pu_ixA (hu_of hr) (pu_addA (pu_var 4 (pv 4) rfl) (pu_lst (af_cons pu_int af_nil rfl) rfl)) (pu_sub (pu_var 6 (pv 6) rfl) pu_int) (fun _ _=>rfl)) pu_int) rfl) (PM.n (pm_lend 0 (pv 0) rfl CTakeS (hr.mono (by decide)) (by rfl) (an_cons (PU.n (pu_var 1 (pv 1) rfl) rfl) an_nil rfl)))) rfl (fun pa=>pe_bm PySem.F.plainAttrs_list PySem.F.slot_list_append PySem.F.type_list_append mt_append (pv 4) pa))))
   (s_expr (PM.n (pm_append (r:=rAppend) 5 (pv 5) rfl (pm_addA (PU.n (pu_addA (pu_ixA (hu_of hr) (pu_addA (pu_var 5 (pv 5) rfl) (pu_lst (af_cons pu_int af_nil rfl) rfl)) (pu_sub (pu_var 6 (pv 6) rfl) pu_int) (fun _ _=>rfl)) pu_int) rfl) (PM.n (pm_lend 0 (pv 0) rfl CTakeS (hr.mono (by decide)) (by rfl) (an_cons (PU.n (pu_var 2 (pv 2) rfl) rfl) an_nil rfl)))) rfl (fun pa=>pe_bm PySem.F.plainAttrs_list PySem.F.slot_list_append PySem.F.type_list_append mt_append (pv 5) pa))))) (fun a b c=>ps_for PassesOwn.never rfl a b c))
   (s_ret (pu_callTy call_tuple_of c_tuple (by rfl) htuple PyProof.Rows.boot_tuple (av_cons (pu_lc (XN:=["_law_stream_here", "_law_far", "_law_long", "_law_many", "_law_levels", "_law_turns", "_law_k"]) (N:=["_law_k", "_law_levels", "_law_turns", "_law_many"]) (XS:=defScope sCurveS) (cap:=[none,some 4,some 5,some 3]) (by decide +kernel) rfl rfl rfl rfl (i_range1 (by rfl) hrange (pu_var 3 (pv 3) rfl) rfl (fun pa=>pi_range1 (by rfl) hrange pa)) (fun _ _ _ _=>(g_name (pg_name (i:=0) ndCurveS0 rfl (Or.inl rfl)) rfl)) (fun _ _ _ _=>ts_nil) (fun _ _ _ _=>(pu_tup (af_cons (PU.imm (pu_ixA (hu_of hr) (pu_var 1 (pv 1) rfl) (pu_var 0 (pv 0) rfl) (fun _ _=>rfl))) (af_cons (PU.imm (pu_ixA (hu_of hr) (pu_var 2 (pv 2) rfl) (pu_sub (pu_sub (pu_var 3 (pv 3) rfl) pu_int) (pu_var 0 (pv 0) rfl)) (fun _ _=>rfl))) af_nil rfl) rfl) rfl))) av_nil rfl)) rfl))) rd
theorem scNamesS:FnScope ["_law_stream_here", "_law_many", "_law_letters", "_law_size", "_law_base", "_law_at", "_law_start", "_law_words"] ["_law_stream_here", "_law_many"] (defScope sNamesS):=⟨rfl,rfl,rfl,by decide +kernel,rfl,by decide +kernel,by decide +kernel⟩
theorem ndNamesS0:(["_law_k", "_law_letters", "_law_stream_here"]:List Str).Nodup:=by decide +kernel
theorem ndNamesS1:(["_law_k", "_law_words", "_law_start"]:List Str).Nodup:=by decide +kernel
theorem ndNamesS2:(["_law_k", "_law_base", "_law_letters", "_law_at", "_law_start"]:List Str).Nodup:=by decide +kernel
theorem okNamesS {f:Addr} {fd:FuncData} (F:Fun K "_law_names" "_law_names" sNamesS f fd) {fTakeS:Addr} {fdTakeS:FuncData} (CTakeS:Cle P w K mg base "_law_take" 1 ["_law_stream_here", "_law_many"] (spM K cTakeS) fTakeS fdTakeS) (hrange:mg "range" = none)
  (len:∀ ds Q,cNamesS ds Q -> ds.length = 2) (rd:∀ ds Q,cNamesS ds Q -> tNamesS (EM Q) (startD 8 ds)):FnOk P w K mg base CX0 2 f fd ["_law_stream_here", "_law_many"] (spM K cNamesS):=
 fnM (cl:=[.bor,.bor,.bor,.bor,.bor,.bor,.bor]) F scNamesS rfl len (fun cdv A outer s0 H E hr=>(bb10 rfl (s_set (i:=2) scNamesS.nd rfl (Or.inr rfl) pu_str rfl)
   (s_setM (i:=3) scNamesS.nd rfl (Or.inl rfl) (pm_addA (PU.n pu_int rfl) (PM.n (pm_lend 0 (pv 0) rfl CTakeS (hr.mono (by decide)) (by rfl) (an_cons (PU.n pu_int rfl) an_nil rfl)))) rfl)
   (s_setM (i:=4) scNamesS.nd rfl (Or.inr rfl) (pm_join (PU.n pu_str rfl) (PM.n (pm_lc (XN:=["_law_stream_here", "_law_many", "_law_letters", "_law_size", "_law_base", "_law_at", "_law_start", "_law_words"]) (N:=["_law_k", "_law_letters", "_law_stream_here"]) (XS:=defScope sNamesS) (cap:=[none,some 2,some 0]) 2 0 rfl rfl rfl (by decide +kernel) rfl rfl rfl rfl (PIU.m (i_range1 (by rfl) hrange (pu_var 3 (pv 3) rfl) rfl (fun pa=>pi_range1 (by rfl) hrange pa)) rfl) (fun _ _ _ _=>(g_name (pg_name (i:=0) ndNamesS0 rfl (Or.inl rfl)) rfl)) (fun _ _ _ _=>tsm_nil) (fun _ _ _ _=>(PN.imm (pn_ixA (hu_of hr) (PU.n (pu_var 1 (pv 1) rfl) rfl) (PM.n (pm_lend 2 (pv 2) rfl CTakeS (hr.mono (by decide)) (by rfl) (an_cons (PU.n pu_int rfl) an_nil rfl))) (fun _ _=>rfl)))))) rfl (fun po pa=>pe_bm PySem.F.plainAttrs_str PySem.F.slot_str_join PySem.F.type_str_join mt_join po pa)) rfl)
   (s_setM (i:=5) scNamesS.nd rfl (Or.inr rfl) (pm_lend 0 (pv 0) rfl CTakeS (hr.mono (by decide)) (by rfl) (an_cons (PU.n (pu_var 3 (pv 3) rfl) rfl) an_nil rfl)) rfl)
   (s_setM (i:=6) scNamesS.nd rfl (Or.inr rfl) (pm_lend 0 (pv 0) rfl CTakeS (hr.mono (by decide)) (by rfl) (an_cons (PU.n pu_int rfl) an_nil rfl)) rfl)
   (s_set (i:=7) scNamesS.nd rfl (Or.inr rfl) (pu_lst (af_cons pu_str (af_cons pu_str (af_cons pu_str (af_cons pu_str (af_cons pu_str (af_cons pu_str (af_cons pu_str (af_cons pu_str (af_cons pu_str (af_cons pu_str (af_cons pu_str (af_cons pu_str (af_cons pu_str af_nil rfl) rfl) rfl) rfl) rfl) rfl) rfl) rfl) rfl) rfl) rfl) rfl) rfl) rfl) rfl)
   (s_set (i:=7) scNamesS.nd rfl (Or.inr rfl) (pu_addA (pu_var 7 (pv 7) rfl) (pu_lst (af_cons pu_str (af_cons pu_str (af_cons pu_str (af_cons pu_str (af_cons pu_str (af_cons pu_str (af_cons pu_str (af_cons pu_str af_nil rfl) rfl) rfl) rfl) rfl) rfl) rfl) rfl) rfl)) rfl)
   (s_set (i:=7) scNamesS.nd rfl (Or.inr rfl) (pu_addA (pu_var 7 (pv 7) rfl) (pu_lst (af_cons pu_str (af_cons pu_str (af_cons pu_str (af_cons pu_str (af_cons pu_str af_nil rfl) rfl) rfl) rfl) rfl) rfl)) rfl)
   (s_if (tm_eqA hr (PM.n (pm_lend 0 (pv 0) rfl CTakeS (hr.mono (by decide)) (by rfl) (an_cons (PU.n pu_int rfl) an_nil rfl))) (PU.n pu_int rfl) (nomark _)) (bb1 rfl (s_ret (pu_lc (XN:=["_law_stream_here", "_law_many", "_law_letters", "_law_size", "_law_base", "_law_at", "_law_start", "_law_words"]) (N:=["_law_k", "_law_words", "_law_start"]) (XS:=defScope sNamesS) (cap:=[none,some 7,some 6]) (by decide +kernel) rfl rfl rfl rfl (i_range1 (by rfl) hrange (pu_var 1 (pv 1) rfl) rfl (fun pa=>pi_range1 (by rfl) hrange pa)) (fun _ _ _ _=>(g_name (pg_name (i:=0) ndNamesS1 rfl (Or.inl rfl)) rfl)) (fun _ _ _ _=>ts_nil) (fun _ _ _ _=>(PU.imm (pu_ixA (hu_of hr) (pu_var 1 (pv 1) rfl) (pu_mod (pu_addA (pu_var 2 (pv 2) rfl) (pu_mulA pu_int (pu_var 0 (pv 0) rfl))) pu_int) (fun _ _=>rfl))))) rfl)) b_nil)
   (s_ret (pu_lc (XN:=["_law_stream_here", "_law_many", "_law_letters", "_law_size", "_law_base", "_law_at", "_law_start", "_law_words"]) (N:=["_law_k", "_law_base", "_law_letters", "_law_at", "_law_start"]) (XS:=defScope sNamesS) (cap:=[none,some 4,some 2,some 5,some 6]) (by decide +kernel) rfl rfl rfl rfl (i_range1 (by rfl) hrange (pu_var 1 (pv 1) rfl) rfl (fun pa=>pi_range1 (by rfl) hrange pa)) (fun _ _ _ _=>(g_name (pg_name (i:=0) ndNamesS2 rfl (Or.inl rfl)) rfl)) (fun _ _ _ _=>ts_nil) (fun _ _ _ _=>(pu_addA (pu_addA (pu_slS (pu_var 1 (pv 1) rfl) o3_none (o3_some (pu_var 3 (pv 3) rfl))) (pu_ixA (hu_of hr) (pu_var 2 (pv 2) rfl) (pu_mod (pu_addA (pu_var 4 (pv 4) rfl) (pu_var 0 (pv 0) rfl)) pu_int) (fun _ _=>rfl))) (pu_slS (pu_var 1 (pv 1) rfl) (o3_some (pu_addA (pu_var 3 (pv 3) rfl) pu_int)) o3_none)))) rfl))) rd
theorem scGuardsS:FnScope ["_law_stream_here", "_law_names_here", "_law_far", "_law_long", "_law_found", "_law_deep", "_law_k", "_law_at", "_law_under", "_law_level", "_law_curve_here"] ["_law_stream_here", "_law_names_here", "_law_far", "_law_long"] (defScope sGuardsS):=⟨rfl,rfl,rfl,by decide +kernel,rfl,by decide +kernel,by decide +kernel⟩
theorem okGuardsS {f:Addr} {fd:FuncData} (F:Fun K "_law_guards" "_law_guards" sGuardsS f fd) {fTakeS:Addr} {fdTakeS:FuncData} (CTakeS:Cle P w K mg base "_law_take" 1 ["_law_stream_here", "_law_many"] (spM K cTakeS) fTakeS fdTakeS) {fCurveS:Addr} {fdCurveS:FuncData} (CCurveS:Cle P w K mg base "_law_curve" 2 ["_law_stream_here", "_law_far", "_law_long"] (spM K cCurveS) fCurveS fdCurveS) (hlen:mg "len" = none) (hmax:mg "max" = none) (hrange:mg "range" = none) (htuple:mg "tuple" = none)
  (len:∀ ds Q,cGuardsS ds Q -> ds.length = 4) (rd:∀ ds Q,cGuardsS ds Q -> tGuardsS (EM Q) (startD 11 ds)):FnOk P w K mg base CX0 3 f fd ["_law_stream_here", "_law_names_here", "_law_far", "_law_long"] (spM K cGuardsS):=
 fnM (cl:=[.bor,.bor,.bor,.own,.own,.bor,.bor,.bor,.bor,.bor]) F scGuardsS rfl len (fun cdv A outer s0 H E hr=>(bb4 rfl (s_set (i:=4) scGuardsS.nd rfl (Or.inl rfl) (pu_lst af_nil rfl) rfl)
   (s_set (i:=5) scGuardsS.nd rfl (Or.inl rfl) (pu_lst af_nil rfl) rfl)
   (s_for (PIU.m (i_range1 (by rfl) hrange (pu_callB call_len c_len (by rfl) hlen PySem.boot_len (av_cons (pu_var 1 (pv 1) rfl) av_nil rfl)) rfl (fun pa=>pi_range1 (by rfl) hrange pa)) rfl) (g_name (pg_name (i:=6) scGuardsS.nd rfl (Or.inl rfl)) rfl)
    (bb7 rfl (s_setM (i:=7) scGuardsS.nd rfl (Or.inl rfl) (PN.imm (pn_ixA (hu_of hr) (PM.n (pm_lst (am_cons (PU.m (pu_sub (pu_var 6 (pv 6) rfl) pu_int)) (am_cons (pm_lend 0 (pv 0) rfl CTakeS (hr.mono (by decide)) (by rfl) (an_cons (PU.n (pu_callB (call_max2 rfl) c_2I (by rfl) hmax PyProof.Rows.boot_max (av_cons pu_int (av_cons (pu_var 6 (pv 6) rfl) av_nil rfl) rfl)) rfl) an_nil rfl)) am_nil rfl) rfl) rfl)) (PM.n (pm_lend 0 (pv 0) rfl CTakeS (hr.mono (by decide)) (by rfl) (an_cons (PU.n pu_int rfl) an_nil rfl))) (fun _ _=>rfl))) rfl)
   (s_set (i:=8) scGuardsS.nd rfl (Or.inl rfl) pu_non rfl)
   (s_set (i:=9) scGuardsS.nd rfl (Or.inl rfl) pu_int rfl)
   (s_if (PWM.pt (mw_and (PT3.m (tt_gt (pu_var 6 (pv 6) rfl) pu_int (nomark _))) (mw_and (tm_gt (PM.n (pm_lend 0 (pv 0) rfl CTakeS (hr.mono (by decide)) (by rfl) (an_cons (PU.n pu_int rfl) an_nil rfl))) (PU.n pu_int rfl) (nomark _)) (mw_and1 (PT3.m (tt_lt (pu_ixA (hu_of hr) (pu_var 5 (pv 5) rfl) (pu_var 7 (pv 7) rfl) (fun _ _=>rfl)) pu_int (nomark _))))))) (bb2 rfl (s_set (i:=8) scGuardsS.nd rfl (Or.inl rfl) (pu_ixA (hu_of hr) (pu_var 1 (pv 1) rfl) (pu_var 7 (pv 7) rfl) (fun _ _=>rfl)) rfl)
   (s_set (i:=9) scGuardsS.nd rfl (Or.inl rfl) (pu_addA (pu_ixA (hu_of hr) (pu_var 5 (pv 5) rfl) (pu_var 7 (pv 7) rfl) (fun _ _=>rfl)) pu_int) rfl)) b_nil)
   (s_expr (PM.n (pm_append (r:=rAppend) 5 (pv 5) rfl (PU.m (PU.imm (pu_var 9 (pv 9) rfl))) rfl (fun pa=>pe_bm PySem.F.plainAttrs_list PySem.F.slot_list_append PySem.F.type_list_append mt_append (pv 5) pa))))
   (s_setM (i:=10) scGuardsS.nd rfl (Or.inl rfl) (pm_lend 0 (pv 0) rfl CCurveS (hr.mono (by decide)) (by rfl) (an_cons (PU.n (pu_var 2 (pv 2) rfl) rfl) (an_cons (PU.n (pu_var 3 (pv 3) rfl) rfl) an_nil rfl) rfl)) rfl)
   (s_expr (PM.n (pm_append (r:=rAppend) 4 (pv 4) rfl (pm_tup (am_cons (PU.m (PU.imm (pu_ixA (hu_of hr) (pu_var 1 (pv 1) rfl) (pu_var 6 (pv 6) rfl) (fun _ _=>rfl)))) (am_cons (PU.m (PU.imm (pu_var 8 (pv 8) rfl))) (am_cons (PU.m (PU.imm (pu_var 10 (pv 10) rfl))) (am_cons (pm_lend 0 (pv 0) rfl CTakeS (hr.mono (by decide)) (by rfl) (an_cons (pn_ixA (hu_of hr) (PU.n (pu_lst (af_cons pu_int (af_cons (PU.imm (pu_var 3 (pv 3) rfl)) af_nil rfl) rfl) rfl) rfl) (PM.n (pm_lend 0 (pv 0) rfl CTakeS (hr.mono (by decide)) (by rfl) (an_cons (PU.n pu_int rfl) an_nil rfl))) (fun _ _=>rfl)) an_nil rfl)) (am_cons (pm_lend 0 (pv 0) rfl CTakeS (hr.mono (by decide)) (by rfl) (an_cons (pn_ixA (hu_of hr) (PU.n (pu_lst (af_cons pu_int (af_cons (PU.imm (pu_var 3 (pv 3) rfl)) af_nil rfl) rfl) rfl) rfl) (PM.n (pm_lend 0 (pv 0) rfl CTakeS (hr.mono (by decide)) (by rfl) (an_cons (PU.n pu_int rfl) an_nil rfl))) (fun _ _=>rfl)) an_nil rfl)) am_nil rfl) rfl) rfl) rfl) rfl) rfl) rfl (fun pa=>pe_bm PySem.F.plainAttrs_list PySem.F.slot_list_append PySem.F.type_list_append mt_append (pv 4) pa))))) (fun a b c=>ps_for PassesOwn.never rfl a b c))
   (s_ret (pu_callTy call_tuple_of c_tuple (by rfl) htuple PyProof.Rows.boot_tuple (av_cons (pu_var 4 (pv 4) rfl) av_nil rfl)) rfl))) rd
theorem scLoadsS:FnScope ["_law_stream_here", "_law_names_here", "_law_guards_here", "_law_far", "_law_long", "_law_found", "_law_name", "_law_course", "_law_at"] ["_law_stream_here", "_law_names_here", "_law_guards_here", "_law_far", "_law_long"] (defScope sLoadsS):=⟨rfl,rfl,rfl,by decide +kernel,rfl,by decide +kernel,by decide +kernel⟩
theorem ndLoadsS0:(["_law_k", "_law_stream_here", "_law_far", "_law_long"]:List Str).Nodup:=by decide +kernel
theorem okLoadsS {f:Addr} {fd:FuncData} (F:Fun K "_law_loads" "_law_loads" sLoadsS f fd) {fTakeS:Addr} {fdTakeS:FuncData} (CTakeS:Cle P w K mg base "_law_take" 1 ["_law_stream_here", "_law_many"] (spM K cTakeS) fTakeS fdTakeS) (hlen:mg "len" = none) (hrange:mg "range" = none) (htuple:mg "tuple" = none)
  (len:∀ ds Q,cLoadsS ds Q -> ds.length = 5) (rd:∀ ds Q,cLoadsS ds Q -> tLoadsS (EM Q) (startD 9 ds)):FnOk P w K mg base CX0 2 f fd ["_law_stream_here", "_law_names_here", "_law_guards_here", "_law_far", "_law_long"] (spM K cLoadsS):=
 fnM (cl:=[.bor,.bor,.bor,.bor,.own,.bor,.bor,.bor]) F scLoadsS rfl len (fun cdv A outer s0 H E hr=>(bb3 rfl (s_set (i:=5) scLoadsS.nd rfl (Or.inl rfl) (pu_lst af_nil rfl) rfl)
   (s_for (PIU.m (i_seqB (pu_var 1 (pv 1) rfl)) rfl) (g_name (pg_name (i:=6) scLoadsS.nd rfl (Or.inl rfl)) rfl)
    (bb3 rfl (s_setMLC (i:=7) (XN:=["_law_stream_here", "_law_names_here", "_law_guards_here", "_law_far", "_law_long", "_law_found", "_law_name", "_law_course", "_law_at"]) (N:=["_law_k", "_law_stream_here", "_law_far", "_law_long"]) (XS:=defScope sLoadsS) (cap:=[none,some 0,some 3,some 4]) 1 0 scLoadsS.nd rfl rfl rfl rfl rfl rfl (by decide +kernel) rfl rfl rfl rfl (im_range1 (by rfl) hrange (PM.n (pm_lend 0 (pv 0) rfl CTakeS (hr.mono (by decide)) (by rfl) (an_cons (PU.n pu_int rfl) an_nil rfl))) rfl (fun pa=>pi_range1 (by rfl) hrange pa)) (fun _ _ _ _=>(g_name (pg_name (i:=0) ndLoadsS0 rfl (Or.inl rfl)) rfl)) (fun _ _ _ _=>tsm_nil) (fun _ _ _ _=>(pm_tup (am_cons (pm_addA (PU.n pu_int rfl) (PM.n (pm_lend 1 (pv 1) rfl CTakeS (hr.mono (by decide)) (by rfl) (an_cons (PU.n (pu_var 3 (pv 3) rfl) rfl) an_nil rfl)))) (am_cons (pm_lend 1 (pv 1) rfl CTakeS (hr.mono (by decide)) (by rfl) (an_cons (PU.n (pu_var 2 (pv 2) rfl) rfl) an_nil rfl)) am_nil rfl) rfl) rfl)))
   (s_setM (i:=8) scLoadsS.nd rfl (Or.inl rfl) (PN.imm (pn_ixA (hu_of hr) (pn_ixA (hu_of hr) (PU.n (pu_var 2 (pv 2) rfl) rfl) (PM.n (pm_lend 0 (pv 0) rfl CTakeS (hr.mono (by decide)) (by rfl) (an_cons (PU.n (pu_callB call_len c_len (by rfl) hlen PySem.boot_len (av_cons (pu_var 2 (pv 2) rfl) av_nil rfl)) rfl) an_nil rfl))) (fun _ _=>rfl)) (PU.n pu_int rfl) (fun _ _=>rfl))) rfl)
   (s_expr (PM.n (pm_append (r:=rAppend) 5 (pv 5) rfl (pm_tup (am_cons (PU.m (PU.imm (pu_var 6 (pv 6) rfl))) (am_cons (PU.m (PU.imm (pu_var 8 (pv 8) rfl))) (am_cons (PU.m (pu_callTy call_tuple_of c_tuple (by rfl) htuple PyProof.Rows.boot_tuple (av_cons (pu_var 7 (pv 7) rfl) av_nil rfl))) (am_cons (pm_lend 0 (pv 0) rfl CTakeS (hr.mono (by decide)) (by rfl) (an_cons (PU.n (pu_var 3 (pv 3) rfl) rfl) an_nil rfl)) (am_cons (pm_gt (PM.n (pm_lend 0 (pv 0) rfl CTakeS (hr.mono (by decide)) (by rfl) (an_cons (PU.n pu_int rfl) an_nil rfl))) (PU.n pu_int rfl) (nomark _)) am_nil rfl) rfl) rfl) rfl) rfl) rfl) rfl (fun pa=>pe_bm PySem.F.plainAttrs_list PySem.F.slot_list_append PySem.F.type_list_append mt_append (pv 5) pa))))) (fun a b c=>ps_for PassesOwn.never rfl a b c))
   (s_ret (pu_callTy call_tuple_of c_tuple (by rfl) htuple PyProof.Rows.boot_tuple (av_cons (pu_var 5 (pv 5) rfl) av_nil rfl)) rfl))) rd
theorem scBoardS:FnScope ["_law_stream_here", "_law_most", "_law_many", "_law_far", "_law_long", "_law_guards_many", "_law_names_here", "_law_guards_here"] ["_law_stream_here", "_law_most", "_law_many", "_law_far", "_law_long"] (defScope sBoardS):=⟨rfl,rfl,rfl,by decide +kernel,rfl,by decide +kernel,by decide +kernel⟩
theorem okBoardS {f:Addr} {fd:FuncData} (F:Fun K "_law_board" "_law_board" sBoardS f fd) {fTakeS:Addr} {fdTakeS:FuncData} (CTakeS:Cle P w K mg base "_law_take" 1 ["_law_stream_here", "_law_many"] (spM K cTakeS) fTakeS fdTakeS) {fNamesS:Addr} {fdNamesS:FuncData} (CNamesS:Cle P w K mg base "_law_names" 2 ["_law_stream_here", "_law_many"] (spM K cNamesS) fNamesS fdNamesS) {fGuardsS:Addr} {fdGuardsS:FuncData} (CGuardsS:Cle P w K mg base "_law_guards" 3 ["_law_stream_here", "_law_names_here", "_law_far", "_law_long"] (spM K cGuardsS) fGuardsS fdGuardsS) {fLoadsS:Addr} {fdLoadsS:FuncData} (CLoadsS:Cle P w K mg base "_law_loads" 2 ["_law_stream_here", "_law_names_here", "_law_guards_here", "_law_far", "_law_long"] (spM K cLoadsS) fLoadsS fdLoadsS)
  (len:∀ ds Q,cBoardS ds Q -> ds.length = 5) (rd:∀ ds Q,cBoardS ds Q -> tBoardS (EM Q) (startD 8 ds)):FnOk P w K mg base CX0 4 f fd ["_law_stream_here", "_law_most", "_law_many", "_law_far", "_law_long"] (spM K cBoardS):=
 fnM (cl:=[.bor,.bor,.bor,.bor,.bor,.bor,.bor]) F scBoardS rfl len (fun cdv A outer s0 H E hr=>(bb4 rfl (s_setM (i:=5) scBoardS.nd rfl (Or.inl rfl) (pm_addA (PU.n pu_int rfl) (PM.n (pm_lend 0 (pv 0) rfl CTakeS (hr.mono (by decide)) (by rfl) (an_cons (PU.n (pu_var 1 (pv 1) rfl) rfl) an_nil rfl)))) rfl)
   (s_setM (i:=6) scBoardS.nd rfl (Or.inl rfl) (pm_lend 0 (pv 0) rfl CNamesS (hr.mono (by decide)) (by rfl) (an_cons (PU.n (pu_addA (pu_var 5 (pv 5) rfl) (pu_var 2 (pv 2) rfl)) rfl) an_nil rfl)) rfl)
   (s_setM (i:=7) scBoardS.nd rfl (Or.inl rfl) (pm_lend 0 (pv 0) rfl CGuardsS (hr.mono (by decide)) (by rfl) (an_cons (PU.n (pu_slA (pu_var 6 (pv 6) rfl) o3_none (o3_some (pu_var 5 (pv 5) rfl))) rfl) (an_cons (PU.n (pu_var 3 (pv 3) rfl) rfl) (an_cons (PU.n (pu_var 4 (pv 4) rfl) rfl) an_nil rfl) rfl) rfl)) rfl)
   (s_retM (pm_tup (am_cons (PU.m (PU.imm (pu_var 7 (pv 7) rfl))) (am_cons (pm_lend 0 (pv 0) rfl CLoadsS (hr.mono (by decide)) (by rfl) (an_cons (PU.n (pu_slA (pu_var 6 (pv 6) rfl) (o3_some (pu_var 5 (pv 5) rfl)) o3_none) rfl) (an_cons (PU.n (pu_var 7 (pv 7) rfl) rfl) (an_cons (PU.n (pu_var 3 (pv 3) rfl) rfl) (an_cons (PU.n (pu_var 4 (pv 4) rfl) rfl) an_nil rfl) rfl) rfl) rfl)) am_nil rfl) rfl) rfl)))) rd
theorem scOverS:FnScope ["_law_board_here", "_law_place", "_law_unders", "_law_at", "_law_found"] ["_law_board_here", "_law_place"] (defScope sOverS):=⟨rfl,rfl,rfl,by decide +kernel,rfl,by decide +kernel,by decide +kernel⟩
theorem ndOverS0:(["_law_guard"]:List Str).Nodup:=by decide +kernel
theorem ndOverS1:(["_law_load"]:List Str).Nodup:=by decide +kernel
theorem okOverS {f:Addr} {fd:FuncData} (F:Fun K "_law_over" "_law_over" sOverS f fd) (hdict:mg "dict" = none)
  (len:∀ ds Q,cOverS ds Q -> ds.length = 2) (rd:∀ ds Q,cOverS ds Q -> tOverS (EP Q) (startD 5 ds)):FnOk P w K mg base CX0 1 f fd ["_law_board_here", "_law_place"] (spP K cOverS):=
 fnP (cl:=[.bor,.bor,.bor,.bor,.own]) F scOverS rfl len (fun cdv A outer s0 H E hr=>(bb5 rfl (s_set (i:=2) scOverS.nd rfl (Or.inl rfl) (pu_callTy (call_dictA rfl) c_dictA (by rfl) hdict PyProof.Rows.boot_dict (av_cons (pu_lc (XN:=["_law_board_here", "_law_place", "_law_unders", "_law_at", "_law_found"]) (N:=["_law_guard"]) (XS:=defScope sOverS) (cap:=[none]) (by decide +kernel) rfl rfl rfl rfl (i_seqB (pu_ixA (hu_of hr) (pu_var 0 (pv 0) rfl) pu_int (fun _ _=>rfl))) (fun _ _ _ _=>(g_name (pg_name (i:=0) ndOverS0 rfl (Or.inl rfl)) rfl)) (fun _ _ _ _=>ts_nil) (fun _ _ _ _=>(pu_tup (af_cons (PU.imm (pu_ixA (hu_of hr) (pu_var 0 (pv 0) rfl) pu_int (fun _ _=>rfl))) (af_cons (PU.imm (pu_ixA (hu_of hr) (pu_var 0 (pv 0) rfl) pu_int (fun _ _=>rfl))) af_nil rfl) rfl) rfl))) av_nil rfl)) rfl)
   (s_set (i:=3) scOverS.nd rfl (Or.inl rfl) (pu_dget2 (hu_of hr) (pu_callTy (call_dictA rfl) c_dictA (by rfl) hdict PyProof.Rows.boot_dict (av_cons (pu_lc (XN:=["_law_board_here", "_law_place", "_law_unders", "_law_at", "_law_found"]) (N:=["_law_load"]) (XS:=defScope sOverS) (cap:=[none]) (by decide +kernel) rfl rfl rfl rfl (i_seqB (pu_ixA (hu_of hr) (pu_var 0 (pv 0) rfl) pu_int (fun _ _=>rfl))) (fun _ _ _ _=>(g_name (pg_name (i:=0) ndOverS1 rfl (Or.inl rfl)) rfl)) (fun _ _ _ _=>ts_nil) (fun _ _ _ _=>(pu_tup (af_cons (PU.imm (pu_ixA (hu_of hr) (pu_var 0 (pv 0) rfl) pu_int (fun _ _=>rfl))) (af_cons (PU.imm (pu_ixA (hu_of hr) (pu_var 0 (pv 0) rfl) pu_int (fun _ _=>rfl))) af_nil rfl) rfl) rfl))) av_nil rfl)) (pu_var 1 (pv 1) rfl) (pu_var 1 (pv 1) rfl) ⟨rfl,rfl,rfl,rfl⟩) rfl)
   (s_set (i:=4) scOverS.nd rfl (Or.inl rfl) (pu_lst af_nil rfl) rfl)
   (s_while PassesOwn.never (PT3.m (tt_isntA (pu_var 3 (pv 3) rfl) pu_non (nomark _))) (bb2 rfl (s_expr (PM.n (pm_append (r:=rAppend) 4 (pv 4) rfl (PU.m (PU.imm (pu_var 3 (pv 3) rfl))) rfl (fun pa=>pe_bm PySem.F.plainAttrs_list PySem.F.slot_list_append PySem.F.type_list_append mt_append (pv 4) pa))))
   (s_set (i:=3) scOverS.nd rfl (Or.inl rfl) (pu_ixA (hu_of hr) (pu_var 2 (pv 2) rfl) (pu_var 3 (pv 3) rfl) (fun _ _=>rfl)) rfl)))
   (s_retV 4 (pv 4) (by decide) rfl))) rd
theorem scPulls:FnScope ["_law_stream_here", "_law_board_here", "_law_far", "_law_places", "_law_pulls_here", "_law_place", "_law_opened"] ["_law_stream_here", "_law_board_here", "_law_far"] (defScope sPulls):=⟨rfl,rfl,rfl,by decide +kernel,rfl,by decide +kernel,by decide +kernel⟩
theorem ndPulls0:(["_law_one"]:List Str).Nodup:=by decide +kernel
theorem ndPulls1:(["_law_guard", "_law_stream_here"]:List Str).Nodup:=by decide +kernel
theorem okPulls {f:Addr} {fd:FuncData} (F:Fun K "_law_pulls" "_law_pulls" sPulls f fd) {fTakeS:Addr} {fdTakeS:FuncData} (CTakeS:Cle P w K mg base "_law_take" 1 ["_law_stream_here", "_law_many"] (spM K cTakeS) fTakeS fdTakeS)
  (len:∀ ds Q,cPulls ds Q -> ds.length = 3) (rd:∀ ds Q,cPulls ds Q -> tPulls (EM Q) (startD 7 ds)):FnOk P w K mg base CX0 2 f fd ["_law_stream_here", "_law_board_here", "_law_far"] (spM K cPulls):=
 fnM (cl:=[.bor,.bor,.bor,.own,.bor,.bor]) F scPulls rfl len (fun cdv A outer s0 H E hr=>(bb5 rfl (s_setLC (i:=3) (XN:=["_law_stream_here", "_law_board_here", "_law_far", "_law_places", "_law_pulls_here", "_law_place", "_law_opened"]) (N:=["_law_one"]) (XS:=defScope sPulls) (cap:=[none]) scPulls.nd rfl rfl rfl (by decide +kernel) rfl rfl rfl rfl (i_seqB (pu_addA (pu_ixA (hu_of hr) (pu_var 1 (pv 1) rfl) pu_int (fun _ _=>rfl)) (pu_ixA (hu_of hr) (pu_var 1 (pv 1) rfl) pu_int (fun _ _=>rfl)))) (fun _ _ _ _=>(g_name (pg_name (i:=0) ndPulls0 rfl (Or.inl rfl)) rfl)) (fun _ _ _ _=>ts_nil) (fun _ _ _ _=>(PU.imm (pu_ixA (hu_of hr) (pu_var 0 (pv 0) rfl) pu_int (fun _ _=>rfl)))))
   (s_set (i:=4) scPulls.nd rfl (Or.inl rfl) pu_dnew rfl)
   (s_for (PIU.m (i_seqB (pu_var 3 (pv 3) rfl)) rfl) (g_name (pg_name (i:=5) scPulls.nd rfl (Or.inl rfl)) rfl)
    (bb1 rfl (s_if (tm_gt (PM.n (pm_lend 0 (pv 0) rfl CTakeS (hr.mono (by decide)) (by rfl) (an_cons (PU.n pu_int rfl) an_nil rfl))) (PU.n pu_int rfl) (nomark _)) (bb1 rfl (s_dput (hu_of hr) 4 (pv 4) rfl (PM.n (pm_lend 0 (pv 0) rfl CTakeS (hr.mono (by decide)) (by rfl) (an_cons (pn_ixA (hu_of hr) (PU.n (pu_lst (af_cons pu_int (af_cons (PU.imm (pu_var 2 (pv 2) rfl)) af_nil rfl) rfl) rfl) rfl) (PM.n (pm_lend 0 (pv 0) rfl CTakeS (hr.mono (by decide)) (by rfl) (an_cons (PU.n pu_int rfl) an_nil rfl))) (fun _ _=>rfl)) an_nil rfl))) (PU.n (pu_var 5 (pv 5) rfl) rfl))) b_nil)) (fun a b c=>ps_for PassesOwn.never rfl a b c))
   (s_setMLC (i:=6) (XN:=["_law_stream_here", "_law_board_here", "_law_far", "_law_places", "_law_pulls_here", "_law_place", "_law_opened"]) (N:=["_law_guard", "_law_stream_here"]) (XS:=defScope sPulls) (cap:=[none,some 0]) 1 0 scPulls.nd rfl rfl rfl rfl rfl rfl (by decide +kernel) rfl rfl rfl rfl (PIU.m (i_seqB (pu_ixA (hu_of hr) (pu_var 1 (pv 1) rfl) pu_int (fun _ _=>rfl))) rfl) (fun _ _ _ _=>(g_name (pg_name (i:=0) ndPulls1 rfl (Or.inl rfl)) rfl)) (fun _ _ _ _=>(tsm_one (tm_eqA hr (PM.n (pm_lend 1 (pv 1) rfl CTakeS (hr.mono (by decide)) (by rfl) (an_cons (PU.n pu_int rfl) an_nil rfl))) (PU.n pu_int rfl) (nomark _)))) (fun _ _ _ _=>(PU.m (PU.imm (pu_ixA (hu_of hr) (pu_var 0 (pv 0) rfl) pu_int (fun _ _=>rfl))))))
   (s_retP (i:=4) (pv 4) (by decide) rfl (pm_addA (PU.n (pu_flip (pu_var 6 (pv 6) rfl) (pu_neg pu_int)) rfl) (PM.n (pm_slM (pu_var 6 (pv 6) rfl) rfl (PM.n (pm_lend 0 (pv 0) rfl CTakeS (hr.mono (by decide)) (by rfl) (an_cons (PU.n pu_int rfl) an_nil rfl)))))) rfl))) rd
theorem scDue19:FnScope ["_law_board_here", "_law_opened", "_law_pulls_here", "_law_found", "_law_place", "_law_above", "_law_guard"] ["_law_board_here", "_law_opened", "_law_pulls_here"] (defScope sDue19):=⟨rfl,rfl,rfl,by decide +kernel,rfl,by decide +kernel,by decide +kernel⟩
theorem ndDue190:(["_law_guard"]:List Str).Nodup:=by decide +kernel
theorem ndDue191:(["_law_guard", "_law_opened"]:List Str).Nodup:=by decide +kernel
theorem okDue19 {f:Addr} {fd:FuncData} (F:Fun K "_law_due" "_law_due" sDue19 f fd) {fOverS:Addr} {fdOverS:FuncData} (COverS:Cle P w K mg base "_law_over" 1 ["_law_board_here", "_law_place"] (spP K cOverS) fOverS fdOverS) (hdict:mg "dict" = none)
  (len:∀ ds Q,cDue19 ds Q -> ds.length = 3) (rd:∀ ds Q,cDue19 ds Q -> tDue19 (EP Q) (startD 7 ds)):FnOk P w K mg base CX0 2 f fd ["_law_board_here", "_law_opened", "_law_pulls_here"] (spP K cDue19):=
 fnP (cl:=[.bor,.bor,.bor,.own,.bor,.bor,.bor]) F scDue19 rfl len (fun cdv A outer s0 H E hr=>(bb3 rfl (s_set (i:=3) scDue19.nd rfl (Or.inl rfl) (pu_callTy (call_dictA rfl) c_dictA (by rfl) hdict PyProof.Rows.boot_dict (av_cons (pu_lc (XN:=["_law_board_here", "_law_opened", "_law_pulls_here", "_law_found", "_law_place", "_law_above", "_law_guard"]) (N:=["_law_guard"]) (XS:=defScope sDue19) (cap:=[none]) (by decide +kernel) rfl rfl rfl rfl (i_seqB (pu_ixA (hu_of hr) (pu_var 0 (pv 0) rfl) pu_int (fun _ _=>rfl))) (fun _ _ _ _=>(g_name (pg_name (i:=0) ndDue190 rfl (Or.inl rfl)) rfl)) (fun _ _ _ _=>ts_nil) (fun _ _ _ _=>(pu_tup (af_cons (PU.imm (pu_ixA (hu_of hr) (pu_var 0 (pv 0) rfl) pu_int (fun _ _=>rfl))) (af_cons pu_int af_nil rfl) rfl) rfl))) av_nil rfl)) rfl)
   (s_for (PIU.m (i_keys (pu_var 2 (pv 2) rfl)) rfl) (g_name (pg_name (i:=4) scDue19.nd rfl (Or.inl rfl)) rfl)
    (bb2 rfl (s_set (i:=5) scDue19.nd rfl (Or.inl rfl) (pu_call COverS (hr.mono (by decide)) (by rfl) (av_cons (pu_var 0 (pv 0) rfl) (av_cons (pu_var 4 (pv 4) rfl) av_nil rfl) rfl) rfl) rfl)
   (s_if (PT3.m (tt_eqL (Nat.lt_of_succ_lt (hu_of hr)) (pu_lc (XN:=["_law_board_here", "_law_opened", "_law_pulls_here", "_law_found", "_law_place", "_law_above", "_law_guard"]) (N:=["_law_guard", "_law_opened"]) (XS:=defScope sDue19) (cap:=[none,some 1]) (by decide +kernel) rfl rfl rfl rfl (i_seqB (pu_var 5 (pv 5) rfl)) (fun _ _ _ _=>(g_name (pg_name (i:=0) ndDue191 rfl (Or.inl rfl)) rfl)) (fun _ _ _ _=>(ts_one (tt_inB (hu_of hr) (pu_var 0 (pv 0) rfl) (pu_var 1 (pv 1) rfl) rfl))) (fun _ _ _ _=>(PU.imm (pu_var 0 (pv 0) rfl)))) (pu_lst af_nil rfl) (nomark _))) (bb1 rfl (s_for (PIU.m (i_seqB (pu_var 5 (pv 5) rfl)) rfl) (g_name (pg_name (i:=6) scDue19.nd rfl (Or.inl rfl)) rfl)
    (bb1 rfl (s_dput (hu_of hr) 3 (pv 3) rfl (PU.n (pu_addA (pu_ixA (hu_of hr) (pu_var 3 (pv 3) rfl) (pu_var 6 (pv 6) rfl) (fun _ _=>rfl)) (pu_ixA (hu_of hr) (pu_var 2 (pv 2) rfl) (pu_var 4 (pv 4) rfl) (fun _ _=>rfl))) rfl) (PU.n (pu_var 6 (pv 6) rfl) rfl))) (fun a b c=>ps_for PassesOwn.never rfl a b c))) b_nil)) (fun a b c=>ps_for PassesOwn.never rfl a b c))
   (s_retV 3 (pv 3) (by decide) rfl))) rd
theorem scRight19:FnScope ["_law_found", "_law_due_here", "_law_guard"] ["_law_found", "_law_due_here"] (defScope sRight19):=⟨rfl,rfl,rfl,by decide +kernel,rfl,by decide +kernel,by decide +kernel⟩
theorem okRight19 {f:Addr} {fd:FuncData} (F:Fun K "_law_right" "_law_right" sRight19 f fd) (hbool:mg "bool" = none) (hdict:mg "dict" = none) (hint:mg "int" = none) (hisinstance:mg "isinstance" = none)
  (len:∀ ds Q,cRight19 ds Q -> ds.length = 2) (rd:∀ ds Q,cRight19 ds Q -> tRight19 (EP Q) (startD 3 ds)):FnOk P w K mg base CX0 1 f fd ["_law_found", "_law_due_here"] (spP K cRight19):=
 fnP (cl:=[.bor,.bor,.bor]) F scRight19 rfl len (fun cdv A outer s0 H E hr=>(bb3 rfl (s_if (PT3.m (PW3.pt (tw_or (tt_not (tt_truth (pu_callB call_isinst c_isi (by rfl) hisinstance PyProof.Rows.boot_isinstance (av_cons (pu_var 0 (pv 0) rfl) (av_cons (pu_ty (pe_bltn (v:=.ty "dict") rfl hdict PyProof.Rows.boot_dict rfl)) av_nil rfl) rfl)) (fun _=>rfl))) (tw_or1 (tt_neDI (Nat.lt_of_succ_lt (hu_of hr)) (pu_var 0 (pv 0) rfl) (pu_var 1 (pv 1) rfl) (nomark _)))))) (bb1 rfl (s_ret pu_bl rfl)) b_nil)
   (s_for (PIU.m (i_keys (pu_var 0 (pv 0) rfl)) rfl) (g_name (pg_name (i:=2) scRight19.nd rfl (Or.inl rfl)) rfl)
    (bb1 rfl (s_if (PT3.m (PW3.pt (tw_or (tt_not (tt_truth (pu_callB call_isinst c_isi (by rfl) hisinstance PyProof.Rows.boot_isinstance (av_cons (pu_ixA (hu_of hr) (pu_var 0 (pv 0) rfl) (pu_var 2 (pv 2) rfl) (fun _ _=>rfl)) (av_cons (pu_ty (pe_bltn (v:=.ty "int") rfl hint PyProof.Rows.boot_int rfl)) av_nil rfl) rfl)) (fun _=>rfl))) (tw_or1 (tt_truth (pu_callB call_isinst c_isi (by rfl) hisinstance PyProof.Rows.boot_isinstance (av_cons (pu_ixA (hu_of hr) (pu_var 0 (pv 0) rfl) (pu_var 2 (pv 2) rfl) (fun _ _=>rfl)) (av_cons (pu_ty (pe_bltn (v:=.ty "bool") rfl hbool PyProof.Rows.boot_bool rfl)) av_nil rfl) rfl)) (fun _=>rfl)))))) (bb1 rfl (s_ret pu_bl rfl)) b_nil)) (fun a b c=>ps_for PassesOwn.never rfl a b c))
   (s_ret pu_bl rfl))) rd
theorem scLaw19:FnScope ["_law_script", "_law_stream_here", "_law_board_here", "_law_turn", "_law_pulls_here", "_law_opened", "_law_kept", "_law_due_here", "_law_found"] ["_law_script"] (defScope sLaw19):=⟨rfl,rfl,rfl,by decide +kernel,rfl,by decide +kernel,by decide +kernel⟩
theorem ndLaw190:(["_law_guard"]:List Str).Nodup:=by decide +kernel
theorem okLaw19 {f:Addr} {fd:FuncData} (F:Fun K "law" "law" sLaw19 f fd) {fDraws:Addr} {fdDraws:FuncData} (CDraws:Cle P w K mg base "draws" 2 ["board", "opened", "pulls"] (spP K cDraws) fDraws fdDraws) {fStream:Addr} {fdStream:FuncData} (CStream:Cle P w K mg base "_law_stream" 1 ["_law_script"] (spP K cStream) fStream fdStream) {fTakeS:Addr} {fdTakeS:FuncData} (CTakeS:Cle P w K mg base "_law_take" 1 ["_law_stream_here", "_law_many"] (spM K cTakeS) fTakeS fdTakeS) {fBoardS:Addr} {fdBoardS:FuncData} (CBoardS:Cle P w K mg base "_law_board" 4 ["_law_stream_here", "_law_most", "_law_many", "_law_far", "_law_long"] (spM K cBoardS) fBoardS fdBoardS) {fPulls:Addr} {fdPulls:FuncData} (CPulls:Cle P w K mg base "_law_pulls" 2 ["_law_stream_here", "_law_board_here", "_law_far"] (spM K cPulls) fPulls fdPulls) {fDue19:Addr} {fdDue19:FuncData} (CDue19:Cle P w K mg base "_law_due" 2 ["_law_board_here", "_law_opened", "_law_pulls_here"] (spP K cDue19) fDue19 fdDue19) {fRight19:Addr} {fdRight19:FuncData} (CRight19:Cle P w K mg base "_law_right" 1 ["_law_found", "_law_due_here"] (spP K cRight19) fRight19 fdRight19) (hdict:mg "dict" = none) (hlen:mg "len" = none) (hlist:mg "list" = none) (hmin:mg "min" = none) (hrange:mg "range" = none) (htuple:mg "tuple" = none)
  (len:∀ ds Q,cLaw19 ds Q -> ds.length = 1) (rd:∀ ds Q,cLaw19 ds Q -> tLaw19 (EP Q) (startD 9 ds)):FnOk P w K mg base CX0 5 f fd ["_law_script"] (spP K cLaw19):=
 fnP (cl:=[.bor,.own,.bor,.bor,.bor,.bor,.bor,.bor,.own]) F scLaw19 rfl len (fun cdv A outer s0 H E hr=>(bb4 rfl (s_set (i:=1) scLaw19.nd rfl (Or.inl rfl) (pu_call CStream (hr.mono (by decide)) (by rfl) (av_cons (pu_var 0 (pv 0) rfl) av_nil rfl) rfl) rfl)
   (s_setM (i:=2) scLaw19.nd rfl (Or.inl rfl) (pm_lend 1 (pv 1) rfl CBoardS (hr.mono (by decide)) (by rfl) (an_cons (pn_ixA (hu_of hr) (PU.n (pu_lst (af_cons pu_int (af_cons pu_int (af_cons pu_int af_nil rfl) rfl) rfl) rfl) rfl) (PM.n (pm_lend 1 (pv 1) rfl CTakeS (hr.mono (by decide)) (by rfl) (an_cons (PU.n pu_int rfl) an_nil rfl))) (fun _ _=>rfl)) (an_cons (PM.n (pm_lend 1 (pv 1) rfl CTakeS (hr.mono (by decide)) (by rfl) (an_cons (PU.n pu_int rfl) an_nil rfl))) (an_cons (PU.n pu_int rfl) (an_cons (PU.n pu_int rfl) an_nil rfl) rfl) rfl) rfl)) rfl)
   (s_for (PIU.m (i_range1 (by rfl) hrange (pu_addA pu_int (pu_callB (call_min2 rfl) c_2I (by rfl) hmin PyProof.Rows.boot_min (av_cons pu_int (av_cons (pu_callB call_len c_len (by rfl) hlen PySem.boot_len (av_cons (pu_var 0 (pv 0) rfl) av_nil rfl)) av_nil rfl) rfl))) rfl (fun pa=>pi_range1 (by rfl) hrange pa)) rfl) (g_name (pg_name (i:=3) scLaw19.nd rfl (Or.inl rfl)) rfl)
    (bb8 rfl (s_unpM (PM.n (pm_lend 1 (pv 1) rfl CPulls (hr.mono (by decide)) (by rfl) (an_cons (PU.n (pu_var 2 (pv 2) rfl) rfl) (an_cons (pn_ixA (hu_of hr) (PU.n (pu_lst (af_cons pu_int (af_cons (pu_pow pu_int pu_int) af_nil rfl) rfl) rfl) rfl) (PM.n (pm_lend 1 (pv 1) rfl CTakeS (hr.mono (by decide)) (by rfl) (an_cons (PU.n pu_int rfl) an_nil rfl))) (fun _ _=>rfl)) an_nil rfl) rfl))) (g_tup (n:=2) (gs_cons (g_name (pg_name (i:=4) scLaw19.nd rfl (Or.inl rfl)) rfl) (gs_cons (g_name (pg_name (i:=5) scLaw19.nd rfl (Or.inl rfl)) rfl) gs_nil)) (fun _ _ _ h=>glen2 h) (fun p=>pg_tup rfl p)) (fun p g=>ps_asg p g))
   (s_set (i:=6) scLaw19.nd rfl (Or.inl rfl) (pu_tup (af_cons (pu_callTy (call_dictA rfl) c_dictA (by rfl) hdict PyProof.Rows.boot_dict (av_cons (pu_var 4 (pv 4) rfl) av_nil rfl)) (af_cons (pu_callTy call_list_of c_list (by rfl) hlist PyProof.Rows.boot_list (av_cons (pu_var 5 (pv 5) rfl) av_nil rfl)) af_nil rfl) rfl) rfl) rfl)
   (s_set (i:=7) scLaw19.nd rfl (Or.inl rfl) (pu_call CDue19 (hr.mono (by decide)) (by rfl) (av_cons (pu_var 2 (pv 2) rfl) (av_cons (pu_var 5 (pv 5) rfl) (av_cons (pu_var 4 (pv 4) rfl) av_nil rfl) rfl) rfl) rfl) rfl)
   (s_set (i:=8) scLaw19.nd rfl (Or.inl rfl) (pu_call CDraws (hr.mono (by decide)) (by rfl) (av_cons (pu_var 2 (pv 2) rfl) (av_cons (pu_var 5 (pv 5) rfl) (av_cons (pu_var 4 (pv 4) rfl) av_nil rfl) rfl) rfl) rfl) rfl)
   (s_if (PT3.m (PW3.pt (tw_or (tt_not (tt_truth (pu_call CRight19 (hr.mono (by decide)) (by rfl) (av_cons (pu_var 8 (pv 8) rfl) (av_cons (pu_var 7 (pv 7) rfl) av_nil rfl) rfl) rfl) (fun _=>rfl))) (tw_or1 (tt_neDL (hu_of hr) (pu_tupS (as_cons (pu_var 4 (pv 4) rfl) (as_cons (pu_var 5 (pv 5) rfl) as_nil rfl rfl) rfl rfl) rfl) (pu_var 6 (pv 6) rfl) (nomark _)))))) (bb1 rfl (s_ret pu_bl rfl)) b_nil)
   (s_dput (hu_of hr) 8 (pv 8) rfl (PU.n pu_int rfl) (PU.n (pu_ixA (hu_of hr) (pu_ixA (hu_of hr) (pu_ixA (hu_of hr) (pu_var 2 (pv 2) rfl) pu_int (fun _ _=>rfl)) pu_int (fun _ _=>rfl)) pu_int (fun _ _=>rfl)) rfl))
   (s_dput (hu_of hr) 8 (pv 8) rfl (PU.n pu_int rfl) (PU.n pu_str rfl))
   (s_if (PT3.m (tt_not (tt_truth (pu_call CRight19 (hr.mono (by decide)) (by rfl) (av_cons (pu_call CDraws (hr.mono (by decide)) (by rfl) (av_cons (pu_var 2 (pv 2) rfl) (av_cons (pu_callTy call_tuple_of c_tuple (by rfl) htuple PyProof.Rows.boot_tuple (av_cons (pu_var 5 (pv 5) rfl) av_nil rfl)) (av_cons (pu_var 4 (pv 4) rfl) av_nil rfl) rfl) rfl) rfl) (av_cons (pu_var 7 (pv 7) rfl) av_nil rfl) rfl) rfl) (fun _=>rfl)))) (bb1 rfl (s_ret pu_bl rfl)) b_nil)) (fun a b c=>ps_for PassesOwn.never rfl a b c))
   (s_ret (pu_call CRight19 (hr.mono (by decide)) (by rfl) (av_cons (pu_call CDraws (hr.mono (by decide)) (by rfl) (av_cons (pu_var 2 (pv 2) rfl) (av_cons (pu_lst af_nil rfl) (av_cons pu_dnew av_nil rfl) rfl) rfl) rfl) (av_cons (pu_callTy (call_dictA rfl) c_dictA (by rfl) hdict PyProof.Rows.boot_dict (av_cons (pu_lc (XN:=["_law_script", "_law_stream_here", "_law_board_here", "_law_turn", "_law_pulls_here", "_law_opened", "_law_kept", "_law_due_here", "_law_found"]) (N:=["_law_guard"]) (XS:=defScope sLaw19) (cap:=[none]) (by decide +kernel) rfl rfl rfl rfl (i_seqB (pu_ixA (hu_of hr) (pu_var 2 (pv 2) rfl) pu_int (fun _ _=>rfl))) (fun _ _ _ _=>(g_name (pg_name (i:=0) ndLaw190 rfl (Or.inl rfl)) rfl)) (fun _ _ _ _=>ts_nil) (fun _ _ _ _=>(pu_tup (af_cons (PU.imm (pu_ixA (hu_of hr) (pu_var 0 (pv 0) rfl) pu_int (fun _ _=>rfl))) (af_cons pu_int af_nil rfl) rfl) rfl))) av_nil rfl)) av_nil rfl) rfl) rfl) rfl))) rd
end
end My
namespace My
open PySem L2 L3
local macro_rules | `(tactic| walk_at "w")=>`(tactic| conv=>whnf)
local macro_rules | `(tactic| walk_at "a")=>`(tactic| first | refine ⟨rfl,?_⟩ | refine ⟨_,rfl,?_⟩ | refine Br.yes rfl ?_ | refine Br.no rfl ?_ | refine ⟨(show (0:Int) < _ from by decide),?_⟩ | refine ⟨(show CDivL _ _ from ⟨by decide,by decide⟩),?_⟩ | refine ⟨(show CPow _ _ from ⟨by decide,by decide,by decide⟩),?_⟩ | refine ⟨(show CMul _ _ from .inr ⟨by decide,by decide⟩),?_⟩ | refine ⟨(show CMul _ _ from .inl ⟨by decide,by decide⟩),?_⟩ | refine ⟨_,_,_,rfl,rfl,rfl,?_⟩ | refine ⟨_,atI0 _ _,?_⟩ | refine ⟨_,atI1 _ _ _,?_⟩ | refine ⟨_,_,rfl,rfl,?_⟩)
local macro_rules | `(tactic| walk_at "r")=>`(tactic| ((repeat ((conv=>whnf); (walk_at "a"))); (try (conv=>whnf))))
theorem sz {n:Nat} (h:n <= 100000):n <= sizeLine:=by rw [sizeLine_eq]; omega
theorem imms_txs (xs:List Str):imms (xs.map D.str) = true:=imms_str xs
theorem inD_str (x:Str):∀ ys:List Str,inD (.str x) (ys.map D.str) = decide (x ∈ ys)
 | []=>rfl
 | y :: ys=>by
  have ih:=inD_str x ys
  unfold inD at ih ⊢
  rw [List.map_cons,List.any_cons,ih]
  show (decide (y = x) || decide (x ∈ ys)) = _
  by_cases h:y = x
  ·subst h; simp
  ·have h2:¬ x = y:=fun z=>h z.symm
   simp [h,h2]
theorem flats_str:∀ ys:List Str,(ys.map D.str).all flatD = true
 | []=>rfl
 | y :: ys=>by
  rw [List.map_cons,List.all_cons,flats_str ys]
  rfl
theorem find_of:∀ {gs:List Gd} {g:Gd},(gs.map (·.nm)).Nodup -> g ∈ gs -> gs.find? (fun h=>decide (h.nm = g.nm)) = some g
 | [],_,_,h=>by cases h
 | a :: as,g,h,hg=>by
  rw [List.map_cons] at h
  obtain ⟨h1,h2⟩:=List.nodup_cons.mp h
  rw [List.find?_cons]
  rcases List.mem_cons.mp hg with e | e
  ·subst e; rw [decide_eq_true rfl]
  ·have ne:¬ a.nm = g.nm:=fun z=>h1 (z ▸ List.mem_map.mpr ⟨g,e,rfl⟩)
   rw [decide_eq_false ne]
   exact find_of h2 e
theorem und_of {gs:List Gd} {g:Gd} (h:(gs.map (·.nm)).Nodup) (hg:g ∈ gs):und gs g.nm = g.un:=by
 unfold und
 rw [find_of h hg]
noncomputable def Deep (gs:List Gd) (dp:Nat -> Nat) (n:Nat) (y:Str):Prop:=∃ (j:Nat) (g:Gd),gs[j]? = some g /\ g.nm = y /\ 1 <= dp j /\ dp j <= n
noncomputable def UnDp (gs:List Gd) (dp:Nat -> Nat):Prop:=∀ i g,gs[i]? = some g -> 1 <= dp i /\ dp i <= 8 /\ (g.un = none -> dp i = 1) /\ ∀ y,g.un = some y -> ∃ j gj,j < i /\ gs[j]? = some gj /\ gj.nm = y /\ dp i = dp j + 1
theorem Deep.next {gs:List Gd} {dp:Nat -> Nat} {n:Nat} {y z:Str} (h:UnDp gs dp) (hx:(gs.map (·.nm)).Nodup) (d:Deep gs dp (n + 1) y) (e:und gs y = some z):Deep gs dp n z:=by
 obtain ⟨j,g,h1,rfl,h3,h4⟩:=d
 rw [und_of hx (List.mem_of_getElem? h1)] at e
 obtain ⟨_,_,_,a⟩:=h j g h1
 obtain ⟨j',gj,_,b2,b3,b4⟩:=a z e
 exact ⟨j',gj,b2,b3,(h j' gj b2).1,by omega⟩
theorem BdOk.gsk {b:Bd} (h:BdOk b):GsOk b.gs:=⟨h.g16,(List.nodup_append.mp h.nd).1,h.un⟩
theorem lnd {b:Bd} (hb:BdOk b):(b.ls.map (·.nm)).Nodup:=(List.nodup_append.mp hb.nd).2.1
theorem findL_of:∀ {ls:List Ld} {l:Ld},(ls.map (·.nm)).Nodup -> l ∈ ls -> ls.find? (fun h=>decide (h.nm = l.nm)) = some l
 | [],_,_,h=>by cases h
 | a :: as,g,h,hg=>by
  rw [List.map_cons] at h
  obtain ⟨h1,h2⟩:=List.nodup_cons.mp h
  rw [List.find?_cons]
  rcases List.mem_cons.mp hg with e | e
  ·subst e; rw [decide_eq_true rfl]
  ·have ne:¬ a.nm = g.nm:=fun z=>h1 (z ▸ List.mem_map.mpr ⟨g,e,rfl⟩)
   rw [decide_eq_false ne]
   exact findL_of h2 e
theorem findL_no {ls:List Ld} {x:Str} (h:x ∉ ls.map (·.nm)):ls.find? (fun h=>decide (h.nm = x)) = none:=by
 rw [List.find?_eq_none]
 intro l hl e
 exact h (List.mem_map.mpr ⟨l,hl,of_decide_eq_true e⟩)
theorem at_guard {b:Bd} (hb:BdOk b) {x:Str} (hx:x ∈ gns b ++ lns b):∃ g ∈ b.gs,g.nm = atOf b x:=by
 unfold atOf
 rcases List.mem_append.mp hx with h | h
 ·have hn:x ∉ b.ls.map (·.nm):=fun z=>(List.nodup_append.mp hb.nd).2.2 x h x z rfl
  rw [findL_no hn]
  obtain ⟨g,hg,e⟩:=List.mem_map.mp h
  exact ⟨g,hg,e⟩
 ·obtain ⟨l,hl,rfl⟩:=List.mem_map.mp h
  rw [findL_of (lnd hb) hl]
  exact hb.at_ l hl
theorem ats_val {b:Bd} (hb:BdOk b) (kds:List (Key × D)) (hv:∀ l ∈ b.ls,valD kds (.inr l.nm) = some (.str l.at_)) (hn:∀ x,x ∉ lns b -> valD kds (.inr x) = none) (x:Str):(valD kds (.inr x)).getD (.str x) = .str (atOf b x):=by
 unfold atOf
 by_cases h:x ∈ lns b
 ·obtain ⟨l,hl,rfl⟩:=List.mem_map.mp h
  rw [findL_of (lnd hb) hl,hv l hl]; rfl
 ·rw [findL_no h,hn x h]; rfl
theorem sum_add {α:Type} (f g:α -> Int):∀ l:List α,(l.map fun x=>f x + g x).sum = (l.map f).sum + (l.map g).sum
 | []=>rfl
 | x :: l=>by
  rw [List.map_cons,List.map_cons,List.map_cons,List.sum_cons,List.sum_cons,List.sum_cons,sum_add f g l]
  omega
theorem sum_zero {α:Type} (l:List α) (f:α -> Int) (h:∀ x ∈ l,f x = 0):(l.map f).sum = 0:=by
 induction l with
 | nil=>rfl
 | cons x l ih=>rw [List.map_cons,List.sum_cons,h x List.mem_cons_self,ih fun y hy=>h y (List.mem_cons_of_mem _ hy)]; rfl
theorem sum_congr {α:Type} {l:List α} {f g:α -> Int} (h:∀ x ∈ l,f x = g x):(l.map f).sum = (l.map g).sum:=by
 rw [List.map_congr_left h]
theorem sum_swap {α β:Type} (f:α -> β -> Int) (m:List β):∀ l:List α,(l.map fun x=>(m.map fun y=>f x y).sum).sum = (m.map fun y=>(l.map fun x=>f x y).sum).sum
 | []=>(sum_zero m (fun _=>0) fun _ _=>rfl).symm
 | x :: l=>by
  rw [List.map_cons,List.sum_cons,sum_swap f m l,<- sum_add]
  rfl
theorem sum_mul {α:Type} (f:α -> Int) (c:Int):∀ l:List α,(l.map f).sum * c = (l.map fun x=>f x * c).sum
 | []=>Int.zero_mul c
 | x :: l=>by rw [List.map_cons,List.map_cons,List.sum_cons,List.sum_cons,Int.add_mul,sum_mul f c l]
theorem sum_one {α:Type} {nm:α -> Str} (f:α -> Int):∀ {l:List α} {a:α},(l.map nm).Nodup -> a ∈ l -> (l.map fun x=>if nm x = nm a then f x else 0).sum = f a
 | [],_,_,h=>by cases h
 | x :: l,a,nd,h=>by
  rw [List.map_cons] at nd
  obtain ⟨h1,h2⟩:=List.nodup_cons.mp nd
  rw [List.map_cons,List.sum_cons]
  rcases List.mem_cons.mp h with e | e
  ·subst e
   rw [if_pos rfl,sum_zero l _ fun y hy=>if_neg fun z:nm y = nm a=>h1 (z ▸ List.mem_map.mpr ⟨y,hy,rfl⟩)]
   omega
  ·have ne:¬ nm x = nm a:=fun z=>h1 (z ▸ List.mem_map.mpr ⟨a,e,rfl⟩)
   rw [if_neg ne,sum_one f h2 e]
   omega
theorem count_cons' (y x:Str) (l:List Str):(((x :: l).count y:Nat):Int) = (if x = y then 1 else 0) + ((l.count y:Nat):Int):=by
 rw [List.count_cons]
 by_cases h:x = y
 ·subst h; simp; omega
 ·simp [h]
theorem ups_rec {gs:List Gd} {dp:Nat -> Nat} (ud:UnDp gs dp) (nd:(gs.map (·.nm)).Nodup) (y:Str):∀ (n:Nat) (x:Str),Deep gs dp n x ->
  (((ups gs n (some x)).count y:Nat):Int) = (if x = y then 1 else 0) + (gs.map fun h=>if h.un = some y then (((ups gs n (some x)).count h.nm:Nat):Int) else 0).sum
 | 0,x,d=>by
  obtain ⟨_,_,_,_,h1,h2⟩:=d
  omega
 | n + 1,x,d=>by
  obtain ⟨j,g,hj,rfl,h1,h2⟩:=id d
  have hg:=List.mem_of_getElem? hj
  have hun:=und_of nd hg
  have e0:ups gs (n + 1) (some g.nm) = g.nm :: ups gs n g.un:=by
   show g.nm :: ups gs n (und gs g.nm) = _
   rw [hun]
  rw [e0,count_cons']
  have e1:(gs.map fun h=>if h.un = some y then (((g.nm :: ups gs n g.un).count h.nm:Nat):Int) else 0).sum = (if g.un = some y then 1 else 0) + (gs.map fun h=>if h.un = some y then (((ups gs n g.un).count h.nm:Nat):Int) else 0).sum:=by
   have e2:=sum_one (nm:=fun h:Gd=>h.nm) (fun h:Gd=>if h.un = some y then 1 else 0) nd hg
   rw [<- e2,<- sum_add]
   refine sum_congr fun h _=>?_
   rw [count_cons']
   by_cases z:h.un = some y
   ·rw [if_pos z,if_pos z,if_pos z]
    by_cases z2:g.nm = h.nm
    ·rw [if_pos z2,if_pos z2.symm]
    ·rw [if_neg z2,if_neg fun w=>z2 w.symm]
   ·rw [if_neg z,if_neg z,if_neg z]
    split <;> rfl
  rw [e1]
  cases hu:g.un with
  | none=>
   have e3:ups gs n none = []:=by cases n <;> rfl
   rw [e3,sum_zero gs _ fun h _=>by split <;> rfl]
   rw [show (if (none:Option Str) = some y then (1:Int) else 0) = 0 from if_neg (by intro z; cases z)]
   simp
  | some z=>
   have dz:=d.next ud nd (hun.trans hu)
   have ih:=ups_rec ud nd y n z dz
   rw [ih]
   have e4:(if (some z:Option Str) = some y then (1:Int) else 0) = if z = y then 1 else 0:=by
    by_cases w:z = y
    ·rw [if_pos w,if_pos (by rw [w])]
    ·rw [if_neg w,if_neg fun q=>w (Option.some.inj q)]
   rw [e4]
theorem at_self {b:Bd} (hb:BdOk b) {x:Str} (hx:x ∈ gns b):atOf b x = x:=by
 have hn:x ∉ b.ls.map (·.nm):=fun z=>(List.nodup_append.mp hb.nd).2.2 x hx x z rfl
 unfold atOf; rw [findL_no hn]
theorem at_load {b:Bd} (hb:BdOk b) {l:Ld} (hl:l ∈ b.ls):atOf b l.nm = l.at_:=by
 unfold atOf; rw [findL_of (lnd hb) hl]
theorem deep8 {b:Bd} (hb:BdOk b):∃ dp,UnDp b.gs dp /\ ∀ x ∈ gns b,Deep b.gs dp 8 x:=by
 obtain ⟨dp,ud⟩:=hb.gsk.un
 refine ⟨dp,ud,fun x hx=>?_⟩
 obtain ⟨g,hg,rfl⟩:=List.mem_map.mp hx
 obtain ⟨j,hj⟩:=List.getElem?_of_mem hg
 obtain ⟨a1,a2,_⟩:=ud j g hj
 exact ⟨j,g,hj,rfl,a1,a2⟩
theorem at_in {b:Bd} (hb:BdOk b) {x:Str} (hx:x ∈ gns b ++ lns b):atOf b x ∈ gns b:=by
 obtain ⟨g,hg,e⟩:=at_guard hb hx
 rw [<- e]; exact List.mem_map.mpr ⟨g,hg,rfl⟩
theorem over_rec {b:Bd} (hb:BdOk b) {x:Str} (hx:x ∈ gns b ++ lns b) (y:Str) :
  (((overS b x).count y:Nat):Int) = (if atOf b x = y then 1 else 0) + (b.gs.map fun h=>if h.un = some y then (((overS b x).count h.nm:Nat):Int) else 0).sum:=by
 obtain ⟨dp,ud,dd⟩:=deep8 hb
 exact ups_rec ud hb.gsk.nd y 8 _ (dd _ (at_in hb hx))
theorem ups_room {gs:List Gd} {dp:Nat -> Nat} (ud:UnDp gs dp) (nd:(gs.map (·.nm)).Nodup):∀ (n m:Nat) (x:Str),Deep gs dp n x -> n <= m -> ups gs m (some x) = ups gs n (some x)
 | 0,_,_,d,_=>by
  obtain ⟨_,_,_,_,h1,h2⟩:=d
  omega
 | n + 1,0,_,_,h=>by omega
 | n + 1,m + 1,x,d,h=>by
  show x :: ups gs m (und gs x) = x :: ups gs n (und gs x)
  cases hu:und gs x with
  | none=>cases m <;> cases n <;> rfl
  | some z=>rw [ups_room ud nd n m z (d.next ud nd hu) (by omega)]
theorem ups_sub {gs:List Gd} {dp:Nat -> Nat} (ud:UnDp gs dp) (nd:(gs.map (·.nm)).Nodup):∀ (n:Nat) (x y:Str),n <= 8 -> Deep gs dp n x -> y ∈ ups gs n (some x) -> ∀ z ∈ ups gs 8 (some y),z ∈ ups gs n (some x)
 | 0,_,_,_,d,_=>by
  obtain ⟨_,_,_,_,h1,h2⟩:=d
  omega
 | n + 1,x,y,hn,d,hy=>by
  have hy:y ∈ x :: ups gs n (und gs x):=hy
  rcases List.mem_cons.mp hy with e | e
  ·subst e
   rw [ups_room ud nd (n + 1) 8 y d hn]
   exact fun z hz=>hz
  ·cases hu:und gs x with
   | none=>
    rw [hu] at e
    cases n <;> cases e
   | some w=>
    rw [hu] at e
    intro z hz
    show z ∈ x :: ups gs n (und gs x)
    rw [hu]
    exact List.mem_cons_of_mem _ (ups_sub ud nd n w y (by omega) (d.next ud nd hu) e z hz)
theorem over_up {b:Bd} (hb:BdOk b) {x y:Str} (hx:x ∈ gns b ++ lns b) (hy:y ∈ gns b) (h:y ∈ overS b x):∀ z ∈ overS b y,z ∈ overS b x:=by
 obtain ⟨dp,ud,dd⟩:=deep8 hb
 unfold overS
 rw [at_self hb hy]
 exact ups_sub ud hb.gsk.nd 8 _ y (Nat.le_refl _) (dd _ (at_in hb hx)) h
theorem fed_over {b:Bd} (hb:BdOk b) {op:List Str} {x y:Str} (hx:x ∈ gns b ++ lns b) (hy:y ∈ gns b) (h:y ∈ overS b x) (f:fedB b op x = true):fedB b op y = true:=by
 unfold fedB at f ⊢
 rw [List.all_eq_true] at f ⊢
 exact fun z hz=>f z (over_up hb hx hy h z hz)
theorem fed_at {b:Bd} (hb:BdOk b) {op:List Str} {x:Str} (hx:x ∈ gns b ++ lns b):fedB b op x = fedB b op (atOf b x):=by
 unfold fedB overS
 rw [at_self hb (at_in hb hx)]
noncomputable def ownV (b:Bd) (P:Str -> Int) (y:Str):Int:=P y + (b.ls.map fun l=>if l.at_ = y then P l.nm else 0).sum
theorem own_sum {b:Bd} (hb:BdOk b) (P:Str -> Int) {y:Str} (hy:y ∈ gns b):((gns b ++ lns b).map fun x=>if atOf b x = y then P x else 0).sum = ownV b P y:=by
 rw [List.map_append,List.sum_append]
 have e1:((gns b).map fun x=>if atOf b x = y then P x else 0).sum = P y:=by
  have:=sum_one (nm:=fun x:Str=>x) P (l:=gns b) (a:=y) (by rw [List.map_id']; exact hb.gsk.nd) hy
  rw [<- this]
  exact sum_congr fun x hx=>by rw [at_self hb hx]
 have e2:((lns b).map fun x=>if atOf b x = y then P x else 0).sum = (b.ls.map fun l=>if l.at_ = y then P l.nm else 0).sum:=by
  unfold lns
  rw [List.map_map]
  exact sum_congr fun l hl=>by
   show (if atOf b l.nm = y then P l.nm else 0) = _
   rw [at_load hb hl]
 rw [e1,e2]; rfl
theorem draw_rec {b:Bd} (hb:BdOk b) (op:List Str) (P:Str -> Int) {y:Str} (hy:y ∈ gns b) :
  drawV b op P y = if fedB b op y then ownV b P y + (b.gs.map fun h=>if h.un = some y then drawV b op P h.nm else 0).sum else 0:=by
 by_cases f:fedB b op y = true
 ·rw [if_pos f,<- own_sum hb P hy]
  have e1:(b.gs.map fun h=>if h.un = some y then drawV b op P h.nm else 0).sum = ((gns b ++ lns b).map fun x=>(b.gs.map fun h=>if h.un = some y then (if fedB b op x then (((overS b x).count h.nm:Nat):Int) * P x else 0) else 0).sum).sum:=by
   rw [sum_swap]
   refine sum_congr fun h _=>?_
   by_cases z:h.un = some y
   ·rw [if_pos z]
    unfold drawV
    exact sum_congr fun x _=>by rw [if_pos z]
   ·rw [if_neg z]
    exact (sum_zero _ _ fun x _=>if_neg z).symm
  rw [e1,<- sum_add]
  unfold drawV
  refine sum_congr fun x hx=>?_
  rw [over_rec hb hx y,Int.add_mul,sum_mul]
  by_cases fx:fedB b op x = true
  ·rw [if_pos fx]
   have e2:(if atOf b x = y then (1:Int) else 0) * P x = if atOf b x = y then P x else 0:=by split <;> simp
   rw [e2]
   congr 1
   refine sum_congr fun h _=>?_
   by_cases z:h.un = some y
   ·rw [if_pos z,if_pos z,if_pos fx]
   ·rw [if_neg z,if_neg z]; simp
  ·rw [if_neg fx]
   have e3:¬ atOf b x = y:=fun z=>fx (by rw [fed_at hb hx,z]; exact f)
   rw [if_neg e3,sum_zero b.gs _ fun h _=>by rw [if_neg fx]; split <;> rfl]
   rfl
 ·rw [if_neg f]
  unfold drawV
  refine sum_zero _ _ fun x hx=>?_
  by_cases fx:fedB b op x = true
  ·rw [if_pos fx]
   have:y ∉ overS b x:=fun z=>f (fed_over hb hx hy z fx)
   rw [List.count_eq_zero.mpr this]; simp
  ·rw [if_neg fx]
theorem eqDs_txs:∀ xs ys:List Str,eqDs (xs.map D.str) (ys.map D.str) = decide (xs = ys)
 | [],[]=>rfl
 | [],_ :: _=>rfl
 | _ :: _,[]=>rfl
 | x :: xs,y :: ys=>by
  show (eqV (.str x) (.str y) && eqDs (xs.map D.str) (ys.map D.str)) = _
  rw [eqDs_txs xs ys]
  show (decide (x = y) && decide (xs = ys)) = _
  by_cases h1:x = y
  ·subst h1; simp
  ·simp [h1]
theorem seqS_seq {o:D} {op:List Str} (h:seqS o op):seqD o = some (op.map D.str):=by
 rcases h with rfl | rfl <;> rfl
theorem pairs_map {α:Type} (k:α -> Str) (v:α -> D):∀ as:List α,pairsD (as.map fun a=>.tup [.str (k a),v a]) = some (as.map fun a=>((.inr (k a):Key),v a))
 | []=>rfl
 | a :: as=>by
  rw [List.map_cons]
  unfold pairsD
  rw [pairs_map k v as]
  rfl
theorem merge_map {α:Type} (k:α -> Str) (v:α -> D) (as:List α):mergeD (as.map fun a=>((.inr (k a):Key),v a)) = as.foldl (fun acc a=>putD acc (.inr (k a)) (v a)) []:=by
 unfold mergeD
 rw [List.foldl_map]
theorem merge_val {α:Type} {k:α -> Str} {v:α -> D} {as:List α} (nd:(as.map k).Nodup) {a:α} (ha:a ∈ as):valD (mergeD (as.map fun a=>((.inr (k a):Key),v a))) (.inr (k a)) = some (v a):=by
 rw [merge_map]
 refine fold_val (k:=fun a:α=>(.inr (k a):Key)) (v:=v) as [] ?_ a ha
 have e:as.map (fun g:α=>(.inr (k g):Key)) = (as.map k).map (fun y=>(.inr y:Key)):=by rw [List.map_map]; rfl
 rw [e,List.Nodup,List.pairwise_map]
 exact nd.imp fun h z=>h (Sum.inr.inj z)
theorem merge_none {α:Type} {k:α -> Str} {v:α -> D} {as:List α} {x:Str} (h:x ∉ as.map k):valD (mergeD (as.map fun a=>((.inr (k a):Key),v a))) (.inr x) = none:=by
 rw [merge_map]
 exact fold_keep (k:=fun a:α=>(.inr (k a):Key)) (v:=v) (.inr x) as [] fun l hl z=>h (List.mem_map.mpr ⟨l,hl,Sum.inr.inj z⟩)
theorem over4 {Q:D -> Prop} {b:Bd} {x:Str} (hb:BdOk b) {y:Str} (hg:∃ g ∈ b.gs,g.nm = y) (q:Q (txs (ups b.gs 8 (some y)))) {kds:List (Key × D)} (hv:∀ g ∈ b.gs,valD kds (.inr g.nm) = some (uD g.un)) :
  tOverS_4 (EP Q) [some (bD b),some (.str x),some (.dic kds),some (.str y),some (txs [])]:=by
 obtain ⟨g0,hg0,e0⟩:=hg
 obtain ⟨dp,ud⟩:=hb.gsk.un
 have ud:UnDp b.gs dp:=ud
 have hl:=hb.g16
 have hx:=hb.gsk.nd
 refine ⟨fun m ρ=>∃ (acc:List Str) (cur:Option Str),ρ = [some (bD b),some (.str x),some (.dic kds),some (uD cur),some (txs acc)] /\ acc ++ ups b.gs m cur = ups b.gs 8 (some y) /\ acc.length <= 8 - m /\ m <= 8 /\ (∀ y,cur = some y -> Deep b.gs dp m y),⟨8,[],some y,rfl,rfl,Nat.zero_le _,Nat.le_refl _,fun y hy=>?_⟩,?_⟩
 ·cases hy
  obtain ⟨j,hj⟩:=List.getElem?_of_mem hg0
  obtain ⟨a1,a2,_⟩:=ud j g0 hj
  exact ⟨j,g0,hj,e0,a1,a2⟩
 ·rintro m ρ ⟨acc,cur,rfl,hup,ha,hm,hd⟩
  cases cur with
  | none=>
   walk_at "r"
   have e:ups b.gs m none = []:=by cases m <;> rfl
   rw [e,List.append_nil] at hup
   rw [<- hup] at q
   exact q
  | some z=>
   have dy:=hd z rfl
   have hm0:∃ m',m = m' + 1:=by
    obtain ⟨_,_,_,_,h1,h2⟩:=dy
    exact ⟨m - 1,by omega⟩
   obtain ⟨m',rfl⟩:=hm0
   have hg:∃ g ∈ b.gs,g.nm = z:=by
    obtain ⟨j,g,h1,h2,_⟩:=dy
    exact ⟨g,List.mem_of_getElem? h1,h2⟩
   obtain ⟨g,hgm,rfl⟩:=hg
   have hun:=und_of hx hgm
   walk_at "r"
   refine ⟨by rw [List.length_map]; exact line_le (by omega),?_⟩
   refine ⟨_,_,rfl,hv g hgm,rfl,?_⟩
   refine ⟨m',Nat.lt_succ_self _,acc ++ [g.nm],g.un,?_,?_,?_,by omega,fun z hz=>dy.next ud hx (hun.trans hz)⟩
   ·unfold txs
    rw [List.map_append]
    rfl
   ·rw [List.append_assoc,<- hun]
    exact hup
   ·rw [List.length_append,List.length_singleton]; omega
theorem rdOverS (ds:List D) (Q:D -> Prop) (h:cOverS ds Q):tOverS (EP Q) (startD 5 ds):=by
 obtain ⟨b,x,rfl,hb,hx,q⟩:=h
 have h16:=hb.g16
 have h24:=hb.l24
 refine ⟨_,atI0 _ _,by rw [List.length_map]; exact line_le (by omega),?_⟩
 refine lc_map (f:=fun g:Gd=>.tup [.str g.nm,uD g.un]) b.gs [] (fun g hg K R kk=>?_) ?_
 ·walk_at "r"
  exact ⟨imm_uD g.un,kk⟩
 rw [List.nil_append]
 refine .inl ⟨_,_,_,rfl,rfl,imms_map (f:=fun g:Gd=>.tup [.str g.nm,uD g.un]) (fun g=>by show (true && (imm (uD g.un) && true)) = true; rw [imm_uD]; rfl) b.gs,pairs_map (fun g:Gd=>g.nm) (fun g:Gd=>uD g.un) b.gs,by rw [List.length_map]; exact line_le (by omega),rfl,?_⟩
 refine ⟨_,atI1 _ _ _,by rw [List.length_map]; exact line_le (by omega),?_⟩
 refine lc_map (f:=fun l:Ld=>.tup [.str l.nm,.str l.at_]) b.ls [] (fun g hg K R kk=>?_) ?_
 ·walk_at "r"
  exact kk
 rw [List.nil_append]
 refine .inl ⟨_,_,_,rfl,rfl,imms_map (f:=fun l:Ld=>.tup [.str l.nm,.str l.at_]) (fun g=>rfl) b.ls,pairs_map (fun l:Ld=>l.nm) (fun l:Ld=>.str l.at_) b.ls,by rw [List.length_map]; exact line_le (by omega),?_⟩
 have e:=ats_val hb _ (fun l hl=>merge_val (k:=fun l:Ld=>l.nm) (v:=fun l:Ld=>.str l.at_) (lnd hb) hl) (fun y hy=>merge_none (k:=fun l:Ld=>l.nm) (v:=fun l:Ld=>.str l.at_) hy) x
 walk_at "r"
 rw [e]
 refine ⟨rfl,rfl,rfl,?_⟩
 exact over4 hb (at_guard hb hx) q fun g hg=>merge_val (k:=fun g:Gd=>g.nm) (v:=fun g:Gd=>uD g.un) hb.gsk.nd hg
theorem named_val {α:Type} {k:α -> Str} {v:α -> D} {as:List α} (nd:(as.map k).Nodup) {a:α} (ha:a ∈ as):valD (as.map fun a=>((.inr (k a):Key),v a)) (.inr (k a)) = some (v a):=by
 induction as with
 | nil=>cases ha
 | cons x as ih=>
  rw [List.map_cons] at nd
  obtain ⟨h1,h2⟩:=List.nodup_cons.mp nd
  unfold valD
  rw [List.map_cons,List.find?_cons]
  rcases List.mem_cons.mp ha with e | e
  ·subst e
   rw [decide_eq_true rfl]; rfl
  ·have ne:¬ (Sum.inr (k x):Key) = Sum.inr (k a):=fun z=>h1 (Sum.inr.inj z ▸ List.mem_map.mpr ⟨a,e,rfl⟩)
   rw [decide_eq_false ne]
   exact ih h2 e
theorem named_none {α:Type} {k:α -> Str} {v:α -> D} {as:List α} {x:Str} (h:x ∉ as.map k):valD (as.map fun a=>((.inr (k a):Key),v a)) (.inr x) = none:=by
 unfold valD
 rw [Option.map_eq_none_iff,List.find?_eq_none]
 intro kv hkv e
 obtain ⟨a,ha,rfl⟩:=List.mem_map.mp hkv
 exact h (List.mem_map.mpr ⟨a,ha,Sum.inr.inj (of_decide_eq_true e)⟩)
theorem named_any {α:Type} {k:α -> Str} {v:α -> D} (as:List α) (x:Str):((as.map fun a=>((.inr (k a):Key),v a)).any fun kv=>decide (kv.1 = Sum.inr x)) = decide (x ∈ as.map k):=by
 by_cases h:x ∈ as.map k
 ·rw [decide_eq_true h,List.any_eq_true]
  obtain ⟨a,ha,rfl⟩:=List.mem_map.mp h
  exact ⟨_,List.mem_map.mpr ⟨a,ha,rfl⟩,decide_eq_true rfl⟩
 ·rw [decide_eq_false h,List.any_eq_false]
  intro kv hkv e
  obtain ⟨a,ha,rfl⟩:=List.mem_map.mp hkv
  exact h (List.mem_map.mpr ⟨a,ha,Sum.inr.inj (of_decide_eq_true e)⟩)
theorem named_app {α:Type} {k:α -> Str} {v:α -> D} {as:List α} {x:Str} {d:D} (h:x ∉ as.map k):putD (as.map fun a=>((.inr (k a):Key),v a)) (.inr x) d = (as.map fun a=>((.inr (k a):Key),v a)) ++ [(.inr x,d)]:=by
 unfold putD
 rw [named_any,decide_eq_false h]; rfl
theorem draw_put {b:Bd} {v:Str -> Int} {x:Str} {n:Int} (hx:x ∈ gns b):putD (drawD b v) (.inr x) (.int n) = drawD b (fun y=>if y = x then n else v y):=by
 unfold drawD putD
 rw [named_any (k:=fun g:Gd=>g.nm) (v:=fun g:Gd=>.int (v g.nm)),decide_eq_true (show x ∈ b.gs.map (fun g:Gd=>g.nm) from hx),if_pos rfl,List.map_map]
 refine List.map_congr_left fun g _=>?_
 show (if (Sum.inr g.nm:Key) = Sum.inr x then _ else _) = _
 by_cases e:g.nm = x
 ·rw [if_pos (by rw [e])]
  show (_,D.int n) = (_,D.int (if g.nm = x then n else v g.nm))
  rw [if_pos e]
 ·rw [if_neg fun z=>e (Sum.inr.inj z)]
  show (_,D.int (v g.nm)) = (_,D.int (if g.nm = x then n else v g.nm))
  rw [if_neg e]
theorem draw_val {b:Bd} (hb:BdOk b) {v:Str -> Int} {x:Str} (hx:x ∈ gns b):valD (drawD b v) (.inr x) = some (.int (v x)):=by
 obtain ⟨g,hg,rfl⟩:=List.mem_map.mp hx
 exact named_val (k:=fun g:Gd=>g.nm) (v:=fun g:Gd=>.int (v g.nm)) hb.gsk.nd hg
theorem draw_congr {b:Bd} {v w:Str -> Int} (h:∀ x ∈ gns b,v x = w x):drawD b v = drawD b w:=
 List.map_congr_left fun g hg=>by rw [h g.nm (List.mem_map.mpr ⟨g,hg,rfl⟩)]
theorem draw_len (b:Bd) (v:Str -> Int):(drawD b v).length = b.gs.length:=List.length_map _
theorem fold_named {α:Type} {k:α -> Str} {v:α -> D}:∀ {as bs:List α},((bs ++ as).map k).Nodup -> as.foldl (fun acc a=>putD acc (.inr (k a)) (v a)) (bs.map fun a=>((.inr (k a):Key),v a)) = (bs ++ as).map fun a=>((.inr (k a):Key),v a)
 | [],bs,_=>by rw [List.append_nil]; rfl
 | a :: as,bs,nd=>by
  have e:bs ++ a :: as = (bs ++ [a]) ++ as:=by rw [List.append_assoc]; rfl
  rw [List.foldl_cons,e]
  have hn:k a ∉ bs.map k:=fun z=>by
   rw [List.map_append,List.map_cons] at nd
   exact (List.nodup_append.mp nd).2.2 _ z _ List.mem_cons_self rfl
  rw [named_app hn]
  have e2:(bs.map fun a=>((.inr (k a):Key),v a)) ++ [(.inr (k a),v a)] = (bs ++ [a]).map fun a=>((.inr (k a):Key),v a):=by rw [List.map_append]; rfl
  rw [e2]
  exact fold_named (by rw [<- e]; exact nd)
theorem pull_get {kvs:List (Key × D)} (h:PullOk kvs) (x:Str):(valD kvs (.inr x)).getD (.int 0) = .int (Pd kvs x):=by
 unfold Pd
 cases e:valD kvs (.inr x) with
 | none=>rfl
 | some d=>
  unfold valD at e
  obtain ⟨kv,hkv,rfl⟩:=Option.map_eq_some_iff.mp e
  obtain ⟨n,hn⟩:=h kv (List.mem_of_find?_eq_some hkv)
  show kv.2 = _
  rw [hn]
theorem memK_txs (op:List Str) (x:Str):memK (op.map Sum.inr) (.inr x) = decide (x ∈ op):=by
 unfold memK
 rw [List.any_map]
 by_cases h:x ∈ op
 ·rw [decide_eq_true h,List.any_eq_true]
  exact ⟨x,h,decide_eq_true rfl⟩
 ·rw [decide_eq_false h,List.any_eq_false]
  intro y hy e
  have:y = x:=Sum.inr.inj (of_decide_eq_true e)
  exact h (this ▸ hy)
theorem fed_step {b:Bd} (hb:BdOk b) (op:List Str) {g:Gd} (hg:g ∈ b.gs):fedB b op g.nm = (decide (g.nm ∉ op) && match g.un with | none=>true | some y=>fedB b op y):=by
 have hx:g.nm ∈ gns b:=List.mem_map.mpr ⟨g,hg,rfl⟩
 obtain ⟨dp,ud,dd⟩:=deep8 hb
 have hun:=und_of hb.gsk.nd hg
 have e0:overS b g.nm = g.nm :: ups b.gs 7 g.un:=by
  unfold overS
  rw [at_self hb hx]
  show g.nm :: ups b.gs 7 (und b.gs g.nm) = _
  rw [hun]
 unfold fedB
 rw [e0,List.all_cons]
 cases hu:g.un with
 | none=>rfl
 | some y=>
  have d7:=(dd _ hx).next ud hb.gsk.nd (hun.trans hu)
  have hy:y ∈ gns b:=by
   obtain ⟨j,h,h1,h2,_⟩:=d7
   exact List.mem_map.mpr ⟨h,List.mem_of_getElem? h1,h2⟩
  have e1:overS b y = ups b.gs 7 (some y):=by
   unfold overS
   rw [at_self hb hy]
   exact ups_room ud hb.gsk.nd 7 8 y d7 (by decide)
  show (_ && _) = (_ && (overS b y).all _)
  rw [e1]
theorem fg2 {T:Ends3} {b:Bd} {o:D} {op:List Str} {i:Nat} {g:Gd} {v4:Option D} (hb:BdOk b) (hg:b.gs[i]? = some g)
  (hT:T.nx [some (bD b),some o,some (.st (op.map Sum.inr)),some (.dic ((b.gs.take (i + 1)).map fun g=>(.inr g.nm,.bl (fedB b op g.nm)))),v4,some (.str g.nm),some (uD g.un)]) :
  tFedGuards_b1_2 T [some (bD b),some o,some (.st (op.map Sum.inr)),some (.dic ((b.gs.take i).map fun g=>(.inr g.nm,.bl (fedB b op g.nm)))),v4,some (.str g.nm),some (uD g.un)]:=by
 have h16:=hb.g16
 have hgm:=List.mem_of_getElem? hg
 have hi:=(List.getElem?_eq_some_iff.mp hg).1
 have hnot:g.nm ∉ (b.gs.take i).map (fun g:Gd=>g.nm):=fun z=>by
  obtain ⟨h,hh,e⟩:=List.mem_map.mp z
  obtain ⟨j,hj⟩:=List.getElem?_of_mem hh
  have hj2:=(List.getElem?_eq_some_iff.mp hj).1
  rw [List.length_take] at hj2
  rw [List.getElem?_take_of_lt (by omega)] at hj
  have:=(List.getElem?_inj (i:=j) (j:=i) (l:=b.gs.map (·.nm)) (by rw [List.length_map]; omega) hb.gsk.nd).mp (by rw [List.getElem?_map,List.getElem?_map,hj,hg]; show some h.nm = some g.nm; rw [e])
  omega
 have fin:∀ k:Bool,k = fedB b op g.nm -> ∃ j,keyD (.str g.nm) = some j /\ ((b.gs.take i).map fun g:Gd=>((.inr g.nm:Key),D.bl (fedB b op g.nm))).length < sizeLine /\ T.nx [some (bD b),some o,some (.st (op.map Sum.inr)),some (.dic (putD ((b.gs.take i).map fun g=>(.inr g.nm,.bl (fedB b op g.nm))) j (.bl k))),v4,some (.str g.nm),some (uD g.un)]:=fun k hk=>by
  refine ⟨.inr g.nm,rfl,by rw [List.length_map,List.length_take]; exact line_le (by omega),?_⟩
  rw [named_app (k:=fun g:Gd=>g.nm) (v:=fun g:Gd=>.bl (fedB b op g.nm)) hnot,hk]
  rw [List.take_add_one,hg,List.map_append] at hT
  exact hT
 have st:=fed_step hb op hgm
 refine ⟨_,rfl,?_⟩
 show Br (!memK (op.map Sum.inr) (.inr g.nm)) _ _
 rw [memK_txs]
 by_cases h1:g.nm ∈ op
 ·refine Br.no (by rw [decide_eq_true h1]; rfl) ?_
  rw [show decide (g.nm ∉ op) = false from decide_eq_false fun z=>z h1] at st
  exact ⟨rfl,rfl,fin false st.symm⟩
 ·refine Br.yes (by rw [decide_eq_false h1]; rfl) ?_
  rw [show decide (g.nm ∉ op) = true from decide_eq_true h1,Bool.true_and] at st
  cases hu:g.un with
  | none=>
   rw [hu] at st fin
   exact Br.yes rfl ⟨rfl,rfl,fin true st.symm⟩
  | some y=>
   rw [hu] at st fin
   obtain ⟨dp,ud⟩:=hb.un
   obtain ⟨_,_,_,up⟩:=ud i g hg
   obtain ⟨j,gj,hj,hgj,rfl,_⟩:=up y hu
   have hjm:gj ∈ b.gs.take i:=by
    refine List.mem_of_getElem? (i:=j) ?_
    rw [List.getElem?_take_of_lt hj]; exact hgj
   have nd2:((b.gs.take i).map fun g:Gd=>g.nm).Nodup:=by
    rw [List.map_take]
    exact hb.gsk.nd.sublist (List.take_sublist _ _)
   have hv:=named_val (k:=fun g:Gd=>g.nm) (v:=fun g:Gd=>.bl (fedB b op g.nm)) nd2 hjm
   refine Br.no rfl ?_
   exact ⟨_,_,rfl,hv,rfl,rfl,fin (fedB b op gj.nm) st.symm⟩
theorem rdFedGuards (ds:List D) (Q:D -> Prop) (h:cFedGuards ds Q):tFedGuards (EP Q) (startD 7 ds):=by
 obtain ⟨b,o,op,rfl,hb,hs,hl,q⟩:=h
 have h16:=hb.g16
 have e0:op.map D.str = (op.map (Sum.inr:Str -> Key)).map kD:=by rw [List.map_map]; rfl
 refine ⟨o,op.map Sum.inr,rfl,by rw [<- e0]; exact seqS_seq hs,by rw [List.length_map]; exact hl,rfl,rfl,?_⟩
 refine ⟨_,atI0 _ _,?_⟩
 refine .of ⟨fun i ρ=>∃ v4 v5 v6:Option D,ρ = [some (bD b),some o,some (.st (op.map Sum.inr)),some (.dic ((b.gs.take i).map fun g=>(.inr g.nm,.bl (fedB b op g.nm)))),v4,v5,v6],⟨none,none,none,rfl⟩,?_,?_⟩
 ·rintro i e ρ he ⟨v4,v5,v6,rfl⟩
  obtain ⟨g,hg,rfl⟩:=get_map he
  have hgm:=List.mem_of_getElem? hg
  have hi:=(List.getElem?_eq_some_iff.mp hg).1
  refine ⟨rfl,?_⟩
  walk_at "r"
  refine ⟨imm_uD g.un,rfl,rfl,?_⟩
  exact fg2 hb hg ⟨_,_,_,rfl⟩
 ·rintro ρ ⟨v4,v5,v6,rfl⟩
  rw [List.length_map,List.take_length]
  exact q
noncomputable def wv (b:Bd) (op:List Str) (P:Str -> Int) (pr:List Gd) (y:Str):Int:=if y ∈ pr.map (·.nm) then drawV b op P y else ownV b P y + (pr.map fun h=>if h.un = some y then drawV b op P h.nm else 0).sum
theorem nm_inj {b:Bd} (hb:BdOk b) {i j:Nat} {g h:Gd} (hi:b.gs[i]? = some g) (hj:b.gs[j]? = some h) (e:g.nm = h.nm):i = j:=
 (List.getElem?_inj (i:=i) (j:=j) (l:=b.gs.map (·.nm)) (by rw [List.length_map]; exact (List.getElem?_eq_some_iff.mp hi).1) hb.gsk.nd).mp (by rw [List.getElem?_map,List.getElem?_map,hi,hj]; show some g.nm = some h.nm; rw [e])
theorem in_drop {b:Bd} (hb:BdOk b) {i j:Nat} {g:Gd} (hi:b.gs[i]? = some g) (hij:i < j):g.nm ∉ (b.gs.drop j).map (·.nm):=fun z=>by
 obtain ⟨h,hh,e⟩:=List.mem_map.mp z
 obtain ⟨k,hk⟩:=List.getElem?_of_mem hh
 rw [List.getElem?_drop] at hk
 have:=nm_inj hb hk hi e
 omega
theorem wv_here {b:Bd} (hb:BdOk b) (op:List Str) (P:Str -> Int) {j:Nat} {g:Gd} (hj:b.gs[j]? = some g):wv b op P (b.gs.drop (j + 1)) g.nm = ownV b P g.nm + (b.gs.map fun h=>if h.un = some g.nm then drawV b op P h.nm else 0).sum:=by
 unfold wv
 rw [if_neg (in_drop hb hj (Nat.lt_succ_self _))]
 congr 1
 conv=>rhs; rw [<- List.take_append_drop (j + 1) b.gs,List.map_append,List.sum_append]
 rw [sum_zero (b.gs.take (j + 1)) _ fun h hh=>if_neg fun z=>?_]
 ·omega
 ·obtain ⟨i,hi⟩:=List.getElem?_of_mem hh
  have hi2:=(List.getElem?_eq_some_iff.mp hi).1
  rw [List.length_take] at hi2
  rw [List.getElem?_take_of_lt (by omega)] at hi
  obtain ⟨dp,ud⟩:=hb.un
  obtain ⟨_,_,_,up⟩:=ud i h hi
  obtain ⟨k,gk,hk,hgk,e,_⟩:=up _ z
  have:=nm_inj hb hgk hj e
  omega
theorem wv_next {b:Bd} (hb:BdOk b) (op:List Str) (P:Str -> Int) {j:Nat} {g:Gd} (hj:b.gs[j]? = some g) {y:Str}:wv b op P (b.gs.drop j) y = if y = g.nm then drawV b op P g.nm else wv b op P (b.gs.drop (j + 1)) y + if g.un = some y then drawV b op P g.nm else 0:=by
 have hlt:=(List.getElem?_eq_some_iff.mp hj).1
 have e:b.gs.drop j = g :: b.gs.drop (j + 1):=by
  rw [List.drop_eq_getElem_cons hlt]
  have:=(List.getElem?_eq_some_iff.mp hj).2
  rw [this]
 rw [e]
 unfold wv
 rw [List.map_cons]
 by_cases h1:y = g.nm
 ·subst h1
  rw [if_pos List.mem_cons_self,if_pos rfl]
 ·rw [if_neg h1]
  by_cases h2:y ∈ (b.gs.drop (j + 1)).map (·.nm)
  ·rw [if_pos (List.mem_cons_of_mem _ h2),if_pos h2,if_neg,Int.add_zero]
   intro z
   obtain ⟨dp,ud⟩:=hb.un
   obtain ⟨_,_,_,up⟩:=ud j g hj
   obtain ⟨k,gk,hk,hgk,e2,_⟩:=up y z
   exact in_drop hb hgk (show k < j + 1 by omega) (e2 ▸ h2)
  ·rw [if_neg fun z=>(List.mem_cons.mp z).elim h1 h2,if_neg h2,List.map_cons,List.sum_cons]
   omega
theorem df_b2 {T:Ends3} {b:Bd} {op:List Str} {P:Str -> Int} {d2:D} {v5 v6 v7:Option D} {j m:Nat} {g:Gd} (hb:BdOk b) (hg:b.gs[j]? = some g) (hm:m = j + 1)
  (hT:∀ v6 v7:Option D,T.nx [some (bD b),some (.dic (litD b op)),some d2,some (.dic (drawD b (wv b op P (b.gs.drop j)))),some (gD g),v5,v6,v7]) :
  tDrawsFed_b2_1 T [some (bD b),some (.dic (litD b op)),some d2,some (.dic (drawD b (wv b op P (b.gs.drop m)))),some (gD g),v5,v6,v7]:=by
 subst hm
 have h16:=hb.g16
 have hgm:=List.mem_of_getElem? hg
 have hx:g.nm ∈ gns b:=List.mem_map.mpr ⟨g,hgm,rfl⟩
 have here:=wv_here hb op P hg
 have rec_:=draw_rec hb op P hx
 have lit:valD (litD b op) (.inr g.nm) = some (.bl (fedB b op g.nm)):=named_val (k:=fun g:Gd=>g.nm) (v:=fun g:Gd=>.bl (fedB b op g.nm)) hb.gsk.nd hgm
 walk_at "r"
 refine ⟨imm_uD g.un,rfl,rfl,?_⟩
 have hT:=hT (some (.str g.nm)) (some (uD g.un))
 refine ⟨_,_,rfl,lit,?_⟩
 show Br (!fedB b op g.nm) _ _
 by_cases f:fedB b op g.nm = true
 ·refine Br.no (by rw [f]; rfl) ?_
  rw [if_pos f,<- here] at rec_
  cases hu:g.un with
  | none=>
   refine Br.no rfl ?_
   have:drawD b (wv b op P (b.gs.drop j)) = drawD b (wv b op P (b.gs.drop (j + 1))):=draw_congr fun x _=>by
    rw [wv_next hb op P hg,hu,if_neg (show ¬ (none:Option Str) = some x from fun z=>by cases z),Int.add_zero]
    by_cases z:x = g.nm
    ·rw [if_pos z,z]; exact rec_
    ·rw [if_neg z]
   rw [this,hu] at hT
   exact hT
  | some y=>
   have hy:y ∈ gns b:=by
    obtain ⟨dp,ud⟩:=hb.un
    obtain ⟨_,_,_,up⟩:=ud j g hg
    obtain ⟨k,gk,_,hgk,rfl,_⟩:=up y hu
    exact List.mem_map.mpr ⟨gk,List.mem_of_getElem? hgk,rfl⟩
   refine Br.yes rfl ?_
   refine ⟨_,_,rfl,draw_val hb hy,by rw [draw_len]; exact line_le (by omega),?_⟩
   refine ⟨_,_,rfl,draw_val hb hx,_,rfl,?_⟩
   rw [draw_put hy]
   have:drawD b (wv b op P (b.gs.drop j)) = drawD b (fun z=>if z = y then wv b op P (b.gs.drop (j + 1)) y + wv b op P (b.gs.drop (j + 1)) g.nm else wv b op P (b.gs.drop (j + 1)) z):=draw_congr fun x _=>by
    rw [wv_next hb op P hg,hu]
    by_cases z:x = g.nm
    ·rw [if_pos z]
     have ny:¬ x = y:=fun w=>by
      obtain ⟨dp,ud⟩:=hb.un
      obtain ⟨_,_,_,up⟩:=ud j g hg
      obtain ⟨k,gk,hk,hgk,e2,_⟩:=up y hu
      have:=nm_inj hb hgk hg (by rw [e2,<- w,z])
      omega
     show _ = if x = y then _ else _
     rw [if_neg ny,z]; exact rec_
    ·rw [if_neg z]
     show _ = if x = y then _ else _
     by_cases w:x = y
     ·subst w
      rw [if_pos rfl,if_pos rfl,rec_]
     ·rw [if_neg w,if_neg fun q=>w (Option.some.inj q).symm,Int.add_zero]
   rw [this,hu] at hT
   exact hT
 ·have f0:fedB b op g.nm = false:=by cases h:fedB b op g.nm <;> simp_all
  refine Br.yes (by rw [f0]; rfl) ?_
  rw [if_neg f] at rec_
  refine ⟨rfl,.inr g.nm,rfl,by rw [draw_len]; exact line_le (by omega),?_⟩
  rw [draw_put hx]
  have:drawD b (wv b op P (b.gs.drop j)) = drawD b (fun z=>if z = g.nm then 0 else wv b op P (b.gs.drop (j + 1)) z):=draw_congr fun x _=>by
   rw [wv_next hb op P hg,rec_]
   show _ = if x = g.nm then _ else _
   by_cases z:x = g.nm
   ·rw [if_pos z,if_pos z]
   ·rw [if_neg z,if_neg z]
    split <;> omega
  rw [this] at hT
  exact hT
theorem df3 {Q:D -> Prop} {b:Bd} {op:List Str} {P:Str -> Int} {d2:D} {v4 v5 v6 v7:Option D} (hb:BdOk b) (q:Q (.dic (drawD b (drawV b op P)))) :
  tDrawsFed_3 (EP Q) [some (bD b),some (.dic (litD b op)),some d2,some (.dic (drawD b (ownV b P))),v4,v5,v6,v7]:=by
 have h16:=hb.g16
 refine ⟨_,atI0 _ _,by rw [List.length_map]; exact line_le (by omega),?_⟩
 refine .of ⟨fun i ρ=>∃ v4 v5 v6 v7:Option D,ρ = [some (bD b),some (.dic (litD b op)),some d2,some (.dic (drawD b (wv b op P (b.gs.drop (b.gs.length - i))))),v4,v5,v6,v7],⟨v4,v5,v6,v7,?_⟩,?_,?_⟩
 ·rw [Nat.sub_zero,List.drop_length]
  have:drawD b (wv b op P []) = drawD b (ownV b P):=draw_congr fun x _=>by
   unfold wv
   rw [if_neg (by intro z; cases z)]
   show ownV b P x + 0 = _
   omega
  rw [this]
 ·rintro i e ρ he ⟨v4,v5,v6,v7,rfl⟩
  have hi:i < b.gs.length:=by
   have:=(List.getElem?_eq_some_iff.mp he).1
   rw [List.length_reverse,List.length_map] at this
   exact this
  rw [List.getElem?_reverse (by rw [List.length_map]; exact hi),List.length_map] at he
  obtain ⟨g,hg,rfl⟩:=get_map he
  have ej:b.gs.length - i = b.gs.length - 1 - i + 1:=by omega
  have ej2:b.gs.length - (i + 1) = b.gs.length - 1 - i:=by omega
  refine ⟨rfl,df_b2 hb hg ej fun v6 v7=>⟨some (gD g),v5,v6,v7,?_⟩⟩
  rw [ej2]
 ·rintro ρ ⟨v4,v5,v6,v7,rfl⟩
  rw [List.length_reverse,List.length_map,Nat.sub_self]
  have:drawD b (wv b op P (b.gs.drop 0)) = drawD b (drawV b op P):=draw_congr fun x hx=>if_pos hx
  rw [this]
  exact q
theorem rdDrawsFed (ds:List D) (Q:D -> Prop) (h:cDrawsFed ds Q):tDrawsFed (EP Q) (startD 8 ds):=by
 obtain ⟨b,op,kvs,rfl,hb,hp,q⟩:=h
 have h16:=hb.g16
 have h24:=hb.l24
 refine ⟨_,atI0 _ _,by rw [List.length_map]; exact line_le (by omega),?_⟩
 refine dc_map (k:=fun g:Gd=>.inr g.nm) (v:=fun g:Gd=>.int (Pd kvs g.nm)) b.gs [] (fun g hg K R kk=>?_) ⟨rfl,?_⟩
 ·walk_at "r"
  rw [pull_get hp]
  exact ⟨rfl,_,rfl,rfl,kk⟩
 have e0:=fold_named (k:=fun g:Gd=>g.nm) (v:=fun g:Gd=>.int (Pd kvs g.nm)) (as:=b.gs) (bs:=[]) hb.gsk.nd
 rw [List.nil_append] at e0
 rw [show b.gs.foldl (fun acc a=>putD acc (Sum.inr a.nm) (.int (Pd kvs a.nm))) [] = drawD b (Pd kvs) from e0]
 refine ⟨_,atI1 _ _ _,?_⟩
 refine .of ⟨fun i ρ=>∃ v5:Option D,ρ = [some (bD b),some (.dic (litD b op)),some (.dic kvs),some (.dic (drawD b fun y=>Pd kvs y + ((b.ls.take i).map fun l=>if l.at_ = y then Pd kvs l.nm else 0).sum)),none,v5,none,none],⟨none,?_⟩,?_,?_⟩
 ·have:drawD b (fun y=>Pd kvs y + ((b.ls.take 0).map fun l=>if l.at_ = y then Pd kvs l.nm else 0).sum) = drawD b (Pd kvs):=draw_congr fun x _=>by
   show Pd kvs x + 0 = _
   omega
  rw [this]; rfl
 ·rintro i e ρ he ⟨v5,rfl⟩
  obtain ⟨l,hl,rfl⟩:=get_map he
  have hlm:=List.mem_of_getElem? hl
  have hat:l.at_ ∈ gns b:=by
   obtain ⟨g,hg,e⟩:=hb.at_ l hlm
   rw [<- e]; exact List.mem_map.mpr ⟨g,hg,rfl⟩
  refine ⟨rfl,?_⟩
  walk_at "r"
  refine ⟨.inr l.at_,_,rfl,draw_val hb hat,by rw [draw_len]; exact line_le (by omega),?_⟩
  walk_at "r"
  rw [pull_get hp]
  refine ⟨rfl,_,rfl,?_⟩
  rw [draw_put hat]
  refine ⟨some (lD l),?_⟩
  have:drawD b (fun y=>Pd kvs y + ((b.ls.take (i + 1)).map fun l=>if l.at_ = y then Pd kvs l.nm else 0).sum) = drawD b (fun y=>if y = l.at_ then Pd kvs l.at_ + ((b.ls.take i).map fun m=>if m.at_ = l.at_ then Pd kvs m.nm else 0).sum + Pd kvs l.nm else Pd kvs y + ((b.ls.take i).map fun l=>if l.at_ = y then Pd kvs l.nm else 0).sum):=draw_congr fun x _=>by
   rw [List.take_add_one,hl,List.map_append,List.sum_append]
   show _ + (_ + ((if l.at_ = x then Pd kvs l.nm else 0) + 0)) = if x = l.at_ then _ else _
   by_cases z:x = l.at_
   ·subst z
    rw [if_pos rfl,if_pos rfl]
    omega
   ·rw [if_neg z,if_neg fun w=>z w.symm]
    omega
  rw [this]; rfl
 ·rintro ρ ⟨v5,rfl⟩
  rw [List.length_map,List.take_length]
  exact df3 (P:=Pd kvs) hb q
theorem rdDraws (ds:List D) (Q:D -> Prop) (h:cDraws ds Q):tDraws (EP Q) (startD 3 ds):=by
 obtain ⟨b,o,op,kvs,rfl,hb,hs,hl,hp,q⟩:=h
 exact ⟨b,o,op,rfl,hb,hs,hl,b,op,kvs,rfl,hb,hp,q⟩
end My
namespace My
open PySem L2 L3
end My
namespace My
open PySem L2 L3
local macro_rules | `(tactic| walk_at "w")=>`(tactic| conv=>whnf)
local macro_rules | `(tactic| walk_at "a")=>`(tactic| first | refine ⟨rfl,?_⟩ | refine ⟨_,rfl,?_⟩ | refine ⟨(show (0:Int) < _ from by decide),?_⟩ | refine ⟨(show CDivL _ _ from ⟨by decide,by decide⟩),?_⟩ | refine ⟨(show CPow _ _ from ⟨by decide,by decide,by decide⟩),?_⟩ | refine ⟨(show CMul _ _ from .inr ⟨by decide,by decide⟩),?_⟩ | refine ⟨(show CMul _ _ from .inl ⟨by decide,by decide⟩),?_⟩ | refine ⟨_,_,_,rfl,rfl,rfl,?_⟩ | refine ⟨_,atI0 _ _,?_⟩ | refine ⟨_,_,rfl,rfl,?_⟩)
local macro_rules | `(tactic| walk_at "r")=>`(tactic| ((repeat ((conv=>whnf); (walk_at "a"))); (try (conv=>whnf))))
noncomputable def Up (b:Int) (xs:List Int):Prop:=xs.Pairwise (· < ·) /\ ∀ x ∈ xs,1 <= x /\ x <= b
theorem up_last {xs:List Int} {b:Int} (h:Up b xs) (h0:0 < xs.length):∃ l,l ∈ xs /\ (∀ x ∈ xs,x <= l) /\ atI (xs.map D.int) (-1) = some (.int l):=by
 refine ⟨xs[xs.length - 1],List.getElem_mem (by omega),fun x hx=>?_,?_⟩
 ·obtain ⟨i,hi,rfl⟩:=List.getElem_of_mem hx
  by_cases e:i = xs.length - 1
  ·subst e; exact Int.le_refl _
  ·exact Int.le_of_lt (List.pairwise_iff_getElem.mp h.1 i (xs.length - 1) hi (by omega) (by omega))
 ·unfold atI ixN
  have h1:¬ (0:Int) <= -1:=by decide
  have h2:-((xs.map D.int).length:Int) <= -1:=by rw [List.length_map]; omega
  have h3:((-1:Int) + ((xs.map D.int).length:Int)).toNat = xs.length - 1:=by rw [List.length_map]; omega
  rw [if_neg h1,if_pos h2,h3]
  show (xs.map D.int)[xs.length - 1]? = _
  rw [List.getElem?_map,List.getElem?_eq_getElem (by omega)]
  rfl
theorem Up.mono {xs:List Int} {b b':Int} (h:Up b xs) (hb:b <= b'):Up b' xs:=⟨h.1,fun x hx=>⟨(h.2 x hx).1,by have:=(h.2 x hx).2; omega⟩⟩
theorem Up.snoc {xs:List Int} {b l u:Int} (h:Up b xs) (hm:l ∈ xs) (hl:∀ x ∈ xs,x <= l) (u0:1 <= u) (u1:u < 10 ^ 59):Up (b + 10 ^ 59) (xs ++ [l + u]):=by
 refine ⟨List.pairwise_append.mpr ⟨h.1,List.pairwise_singleton _ _,fun x hx y hy=>?_⟩,fun x hx=>?_⟩
 ·rw [List.mem_singleton.mp hy]
  have:=hl x hx
  omega
 ·have:=h.2 l hm
  rcases List.mem_append.mp hx with w | w
  ·have:=h.2 x w; omega
  ·rw [List.mem_singleton.mp w]; omega
noncomputable def steps (m:Nat) (xs ys:List Int):List Pr:=(List.range m).map fun (k:Nat)=>(xs.getD k 0,ys.getD (m - 1 - k) 0)
theorem steps_ok {m:Nat} {xs ys:List Int} (hx:xs.length = m) (hy:ys.length = m) (h1:1 <= m) (h5:m <= 5) (ux:Up (10 ^ 60 - 1) xs) (uy:Up (10 ^ 60 - 1) ys):CvOk (steps m xs ys):=by
 have gx:∀ k,k < m -> xs.getD k 0 ∈ xs:=fun k hk=>by rw [List.getD_eq_getElem?_getD,List.getElem?_eq_getElem (by omega)]; exact List.getElem_mem _
 have gy:∀ k,k < m -> ys.getD k 0 ∈ ys:=fun k hk=>by rw [List.getD_eq_getElem?_getD,List.getElem?_eq_getElem (by omega)]; exact List.getElem_mem _
 have lx:∀ i j,i < j -> j < m -> xs.getD i 0 < xs.getD j 0:=fun i j hij hj=>by
  rw [List.getD_eq_getElem?_getD,List.getD_eq_getElem?_getD,List.getElem?_eq_getElem (by omega),List.getElem?_eq_getElem (by omega)]
  exact List.pairwise_iff_getElem.mp ux.1 i j (by omega) (by omega) hij
 have ly:∀ i j,i < j -> j < m -> ys.getD i 0 < ys.getD j 0:=fun i j hij hj=>by
  rw [List.getD_eq_getElem?_getD,List.getD_eq_getElem?_getD,List.getElem?_eq_getElem (by omega),List.getElem?_eq_getElem (by omega)]
  exact List.pairwise_iff_getElem.mp uy.1 i j (by omega) (by omega) hij
 unfold steps
 refine ⟨by rw [List.length_map,List.length_range]; exact h1,by rw [List.length_map,List.length_range]; exact h5,fun p hp=>?_,?_⟩
 ·obtain ⟨k,hk,rfl⟩:=List.mem_map.mp hp
  have hk:=List.mem_range.mp hk
  have a:=ux.2 _ (gx k hk)
  have b:=uy.2 _ (gy (m - 1 - k) (by omega))
  exact ⟨a.1,by have:=a.2; omega,b.1,by have:=b.2; omega⟩
 ·rw [List.pairwise_map]
  refine List.Pairwise.imp_of_mem ?_ (List.pairwise_lt_range (n:=m))
  intro i j hi hj hij
  have hi:=List.mem_range.mp hi
  have hj:=List.mem_range.mp hj
  exact ⟨lx i j hij hj,ly _ _ (by omega) (by omega)⟩
end My
namespace My
open PySem L2 L3
end My
namespace My
open PySem L2 L3
local macro_rules | `(tactic| walk_at "w")=>`(tactic| conv=>whnf)
local macro_rules | `(tactic| walk_at "a")=>`(tactic| first | refine ⟨rfl,?_⟩ | refine ⟨_,rfl,?_⟩ | refine ⟨(show (0:Int) < _ from by decide),?_⟩ | refine ⟨(show CDivL _ _ from ⟨by decide,by decide⟩),?_⟩ | refine ⟨(show CPow _ _ from ⟨by decide,by decide,by decide⟩),?_⟩ | refine ⟨(show CMul _ _ from .inr ⟨by decide,by decide⟩),?_⟩ | refine ⟨(show CMul _ _ from .inl ⟨by decide,by decide⟩),?_⟩ | refine ⟨_,_,_,rfl,rfl,rfl,?_⟩ | refine ⟨_,atI0 _ _,?_⟩ | refine ⟨_,_,rfl,rfl,?_⟩)
local macro_rules | `(tactic| walk_at "r")=>`(tactic| ((repeat ((conv=>whnf); (walk_at "a"))); (try (conv=>whnf))))
theorem abc_at {i:Int} (h0:0 <= i) (h1:i < 26):∃ c,atI ABC.cps.toList i = some c:=by
 have hl:ABC.cps.toList.length = 26:=by decide +kernel
 have hi:i.toNat < ABC.cps.toList.length:=by omega
 refine ⟨ABC.cps.toList[i.toNat],?_⟩
 unfold atI ixN
 rw [if_pos h0,hl,if_pos (by omega)]
 exact List.getElem?_eq_getElem hi
theorem abc_len:ABC.length <= sizeLine:=by decide +kernel
end My
namespace My
open PySem L2 L3
local macro_rules | `(tactic| walk_at "w")=>`(tactic| conv=>whnf)
local macro_rules | `(tactic| walk_at "a")=>`(tactic| first | refine ⟨rfl,?_⟩ | refine ⟨_,rfl,?_⟩ | refine Br.yes rfl ?_ | refine Br.no rfl ?_ | refine ⟨(show (0:Int) < _ from by decide),?_⟩ | refine ⟨(show CDivL _ _ from ⟨by decide,by decide⟩),?_⟩ | refine ⟨(show CPow _ _ from ⟨by decide,by decide,by decide⟩),?_⟩ | refine ⟨(show CMul _ _ from .inr ⟨by decide,by decide⟩),?_⟩ | refine ⟨(show CMul _ _ from .inl ⟨by decide,by decide⟩),?_⟩ | refine ⟨_,_,_,rfl,rfl,rfl,?_⟩ | refine ⟨_,atI0 _ _,?_⟩ | refine ⟨_,atI1 _ _ _,?_⟩ | refine ⟨_,_,rfl,rfl,?_⟩)
local macro_rules | `(tactic| walk_at "r")=>`(tactic| ((repeat ((conv=>whnf); (walk_at "a"))); (try (conv=>whnf))))
theorem cut63 (xs:List D):(cutD xs none (some 63)).length <= 63:=by
 unfold cutD
 rw [List.length_take]
 have h2:HT.sIx xs.length xs.length (some 63) <= 63:=by
  show (if (63:Int) < 0 then ((63:Int) + (xs.length:Int)).toNat else min (63:Int).toNat xs.length) <= 63
  rw [if_neg (by decide)]
  show min 63 xs.length <= 63
  omega
 omega
theorem ints_cut (ns:List Int) (a b:Option Int):∃ cs:List Int,cutD (ns.map D.int) a b = cs.map D.int:=by
 unfold cutD
 exact ⟨(ns.drop _).take _,by rw [List.map_take,List.map_drop]⟩
theorem imms_ints:∀ ns:List Int,imms (ns.map D.int) = true
 | []=>rfl
 | _ :: ns=>imms_ints ns
theorem rdStream (ds:List D) (Q:D -> Prop) (h:cStream ds Q):tStream (EP Q) (startD 1 ds):=by
 obtain ⟨d,ns,rfl,hs,q⟩:=h
 obtain ⟨cs,ec⟩:=ints_cut ns none (some 63)
 have hl:cs.length <= 63:=by
  have:=cut63 (ns.map D.int)
  rw [ec,List.length_map] at this
  exact this
 rcases hs with rfl | rfl
 all_goals
  refine ⟨imms_ints _,?_⟩
  rw [ec]
  exact ⟨_,_,rfl,rfl,imms_ints _,q cs hl⟩
theorem flats_int:∀ cs:List Int,(cs.map D.int).all flatD = true
 | []=>rfl
 | c :: cs=>by
  rw [List.map_cons,List.all_cons,flats_int cs]; rfl
theorem cut_tail (x:D) (xs:List D):cutD (x :: xs) (some 1) none = xs:=by
 have h1:HT.sIx (x :: xs).length 0 (some 1) = 1:=by
  show (if (1:Int) < 0 then ((1:Int) + ((x :: xs).length:Int)).toNat else min (1:Int).toNat (x :: xs).length) = 1
  rw [if_neg (by decide),List.length_cons]
  show min 1 (xs.length + 1) = 1
  omega
 have h2:HT.sIx (x :: xs).length (x :: xs).length none = xs.length + 1:=rfl
 unfold cutD
 rw [h1,h2]
 show xs.take (xs.length + 1 - 1) = xs
 rw [Nat.add_sub_cancel,List.take_length]
theorem rdTakeS (ds:List D) (Q:D -> D -> Prop) (h:cTakeS ds Q):tTakeS (EM Q) (startD 4 ds):=by
 obtain ⟨cs,a,st,n,rfl,hs,h2,h3,q⟩:=h
 refine ⟨fun m ρ=>∃ (cs:List Int) (a st:Int) (v2:Option D),ρ = [some (strm cs a st),some (.int n),v2,none] /\ SOk cs a st /\ cs.length = m,⟨cs.length,cs,a,st,none,rfl,hs,rfl⟩,?_⟩
 rintro m ρ ⟨cs,a,st,v2,rfl,⟨a0,s0,s1,cl⟩,rfl⟩
 have rest:tTakeS_2 (EM Q) [some (strm cs a st),some (.int n),v2,none]:=by
  walk_at "r"
  refine ⟨fun e=>?_,fun e=>?_⟩
  ·walk_at "r"
   refine ⟨h2,?_⟩
   walk_at "r"
   refine ⟨⟨h2,log70 h3 h2⟩,?_⟩
   walk_at "r"
   exact q _ cs _ st (Int.emod_nonneg _ (by omega)) (Int.emod_lt_of_pos _ h2) ⟨Int.ediv_nonneg a0 (by omega),s0,s1,cl⟩
  ·walk_at "r"
   refine ⟨h2,?_⟩
   walk_at "r"
   exact q _ cs a _ (Int.emod_nonneg _ (by omega)) (Int.emod_lt_of_pos _ h2) ⟨a0,Int.emod_nonneg _ (by decide),Int.emod_lt_of_pos _ (by decide),cl⟩
 walk_at "r"
 refine ⟨fun e=>?_,fun e=>Br.no rfl rest⟩
 refine ⟨_,atI0 _ _,cs.map D.int,[],rfl,rfl,flats_int cs,rfl,?_⟩
 cases cs with
 | nil=>exact Br.no rfl rest
 | cons c cs=>
  refine Br.yes rfl ?_
  walk_at "r"
  refine ⟨imms_ints (c :: cs),?_⟩
  rw [show cutD (((c :: cs).map D.int)) (some 1) none = cs.map D.int from cut_tail _ _]
  walk_at "r"
  have m0:=Int.emod_nonneg (st * 1000003 + c) (show (2305843009213693951:Int) ≠ 0 by decide)
  have m1:=Int.emod_lt_of_pos (st * 1000003 + c) (show (0:Int) < 2305843009213693951 by decide)
  have cl':cs.length <= 63:=by rw [List.length_cons] at cl; omega
  refine ⟨fun e2=>?_,fun e2=>⟨cs.length,Nat.lt_succ_self _,cs,a,_,_,rfl,⟨a0,m0,m1,cl'⟩,rfl⟩⟩
  have c0:(10 ^ Int.toNat 18:Int) <= c:=of_decide_eq_true e2
  have c1:0 <= c:=Int.le_trans (by decide) c0
  walk_at "r"
  exact ⟨cs.length,Nat.lt_succ_self _,cs,c,_,_,rfl,⟨c1,m0,m1,cl'⟩,rfl⟩
theorem curve5 {Q:D -> D -> Prop} {s0 f0 g0:D} {m:Int} {xs ys:List Int} {v:Option D} (hx:(xs.length:Int) = m) (hy:(ys.length:Int) = m) (h1:1 <= m) (h5:m <= 5) (ux:Up (10 ^ 60 - 1) xs) (uy:Up (10 ^ 60 - 1) ys) (q:∀ ps,CvOk ps -> Q (crs ps) s0) :
  tCurveS_5 (EM Q) [some s0,some f0,some g0,some (.int m),some (.lst (xs.map D.int)),some (.lst (ys.map D.int)),v]:=by
 walk_at "r"
 refine ⟨⟨by omega,by omega⟩,?_⟩
 refine ⟨by rw [rngD_map,List.length_map,List.length_range]; exact line_le (by omega),?_⟩
 refine lc_map (f:=fun (k:Nat)=>.tup [.int (xs.getD k 0),.int (ys.getD (m.toNat - 1 - k) 0)]) (List.range m.toNat) [] (fun k hk K R kk=>?_) ?_
 ·have hk:=List.mem_range.mp hk
  have a1:atI (xs.map D.int) (0 + (k:Int)) = some (.int (xs.getD k 0)):=by
   obtain ⟨x,_,e1,e2⟩:=atI_map (f:=D.int) (xs:=xs) (i:=0 + (k:Int)) (by omega) (by omega)
   rw [e2]
   have e3:(0 + (k:Int)).toNat = k:=by omega
   rw [e3] at e1
   rw [List.getD_eq_getElem?_getD,e1]; rfl
  have a2:atI (ys.map D.int) (m - 1 - (0 + (k:Int))) = some (.int (ys.getD (m.toNat - 1 - k) 0)):=by
   obtain ⟨x,_,e1,e2⟩:=atI_map (f:=D.int) (xs:=ys) (i:=m - 1 - (0 + (k:Int))) (by omega) (by omega)
   rw [e2]
   have e3:(m - 1 - (0 + (k:Int))).toNat = m.toNat - 1 - k:=by omega
   rw [e3] at e1
   rw [List.getD_eq_getElem?_getD,e1]; rfl
  walk_at "r"
  refine ⟨_,a1,?_⟩
  walk_at "r"
  refine ⟨_,a2,?_⟩
  walk_at "r"
  exact kk
 ·walk_at "r"
  have im:∀ l:List Nat,imms (l.map fun (k:Nat)=>D.tup [.int (xs.getD k 0),.int (ys.getD (m.toNat - 1 - k) 0)]) = true:=fun l=>imms_all fun x hx=>by
   obtain ⟨k,_,rfl⟩:=List.mem_map.mp hx
   rfl
  refine ⟨im _,?_⟩
  have e:(List.range m.toNat).map (fun (k:Nat)=>D.tup [.int (xs.getD k 0),.int (ys.getD (m.toNat - 1 - k) 0)]) = (steps m.toNat xs ys).map pr:=by unfold steps; rw [List.map_map]; rfl
  rw [List.nil_append,e]
  exact q _ (steps_ok (by omega) (by omega) (by omega) (by omega) ux uy)
theorem up_ahead {xs:List Int} {b:Int} (h:Up b xs) (hb:0 <= b) (i:Nat) (hi:xs.length = i):∃ l:Int,0 <= l /\ l <= b /\ (∀ x ∈ xs,x <= l) /\ atI (xs.map D.int ++ [.int 0]) (0 + (i:Int) - 1) = some (.int l):=by
 cases xs with
 | nil=>
  subst hi
  exact ⟨0,Int.le_refl _,hb,(fun x hx=>nomatch hx),rfl⟩
 | cons x xs=>
  obtain ⟨l,hm,hl,_⟩:=up_last h (by simp)
  refine ⟨(x :: xs)[i - 1]'(by simp at hi ⊢; omega),?_,?_,fun y hy=>?_,?_⟩
  ·have:=(h.2 _ (List.getElem_mem (l:=x :: xs) (n:=i - 1) (by simp at hi ⊢; omega))).1
   omega
  ·exact (h.2 _ (List.getElem_mem (l:=x :: xs) (n:=i - 1) (by simp at hi ⊢; omega))).2
  ·obtain ⟨j,hj,rfl⟩:=List.getElem_of_mem hy
   by_cases e:j = i - 1
   ·subst e; exact Int.le_refl _
   ·exact Int.le_of_lt (List.pairwise_iff_getElem.mp h.1 j (i - 1) hj (by simp at hi ⊢; omega) (by omega))
  ·have hi1:1 <= i:=by simp at hi; omega
   unfold atI ixN
   rw [if_pos (by omega),if_pos (by rw [List.length_append,List.length_map,hi]; show _ < ((i + 1:Nat):Int); omega)]
   show (((x :: xs).map D.int ++ [.int 0]))[(0 + (i:Int) - 1).toNat]? = _
   have e3:(0 + (i:Int) - 1).toNat = i - 1:=by omega
   rw [e3,List.getElem?_append_left (by rw [List.length_map]; omega),List.getElem?_map,List.getElem?_eq_getElem (by omega)]
   rfl
theorem Up.add {xs:List Int} {b l u:Int} (h:Up b xs) (l0:0 <= l) (lb:l <= b) (hl:∀ x ∈ xs,x <= l) (u0:1 <= u) (u1:u <= 10 ^ 59):Up (b + 10 ^ 59) (xs ++ [l + u]):=by
 refine ⟨List.pairwise_append.mpr ⟨h.1,List.pairwise_singleton _ _,fun x hx y hy=>?_⟩,fun x hx=>?_⟩
 ·rw [List.mem_singleton.mp hy]
  have:=hl x hx
  omega
 ·rcases List.mem_append.mp hx with w | w
  ·have:=h.2 x w; omega
  ·rw [List.mem_singleton.mp w]; omega
theorem rdCurveS (ds:List D) (Q:D -> D -> Prop) (h:cCurveS ds Q):tCurveS (EM Q) (startD 7 ds):=by
 obtain ⟨cs,a,st,far,long,rfl,hs,f0,f1,w0,w1,q⟩:=h
 refine ⟨cs,a,st,5,rfl,hs,by decide,by decide,fun r cs1 a1 st1 r0 r1 hs1=>⟨rfl,rfl,rfl,?_⟩⟩
 refine ⟨⟨by omega,by omega⟩,?_⟩
 refine .of ⟨fun i ρ=>∃ (xs ys cs:List Int) (a st:Int) (v:Option D),ρ = [some (strm cs a st),some (.int far),some (.int long),some (.int (1 + r)),some (.lst (xs.map D.int)),some (.lst (ys.map D.int)),v] /\ xs.length = i /\ ys.length = i /\ SOk cs a st /\ Up ((i:Nat) * 10 ^ 59) xs /\ Up ((i:Nat) * 10 ^ 59) ys,
  ⟨[],[],cs1,a1,st1,none,rfl,rfl,rfl,hs1,⟨List.Pairwise.nil,fun x hx=>nomatch hx⟩,⟨List.Pairwise.nil,fun x hx=>nomatch hx⟩⟩,?_,?_⟩
 ·rintro i e ρ he ⟨xs,ys,cs,a,st,v,rfl,lx,ly,hs,ux,uy⟩
  have hi:i < 5 /\ e = .int (0 + (i:Int)):=by
   rw [rngD_map,List.getElem?_map] at he
   obtain ⟨j,hj,rfl⟩:=Option.map_eq_some_iff.mp he
   have hl:=(List.getElem?_eq_some_iff.mp hj)
   obtain ⟨hl,ej⟩:=hl
   rw [List.length_range] at hl
   rw [List.getElem_range] at ej
   subst ej
   exact ⟨by omega,rfl⟩
  obtain ⟨hi,rfl⟩:=hi
  obtain ⟨l1,l10,l1b,l1m,hl1⟩:=up_ahead ux (by omega) i lx
  obtain ⟨l2,l20,l2b,l2m,hl2⟩:=up_ahead uy (by omega) i ly
  have sz:(100:Nat) <= sizeLine:=by rw [sizeLine_eq]; omega
  refine ⟨rfl,rfl,imms_ints _,rfl,by rw [List.length_map]; show _ + 1 <= _; omega,?_⟩
  refine ⟨_,hl1,?_⟩
  refine ⟨cs,a,st,far,rfl,hs,f0,by omega,fun t cs2 a2 st2 t0 t1 hs2=>?_⟩
  refine ⟨by rw [List.length_map]; exact line_le (by omega),?_⟩
  refine ⟨rfl,imms_ints _,rfl,by rw [List.length_map]; show _ + 1 <= _; omega,?_⟩
  refine ⟨_,hl2,?_⟩
  refine ⟨cs2,a2,st2,long,rfl,hs2,w0,by omega,fun u cs3 a3 st3 u0 u1 hs3=>?_⟩
  refine ⟨by rw [List.length_map]; exact line_le (by omega),?_⟩
  refine ⟨xs ++ [l1 + (1 + t)],ys ++ [l2 + (1 + u)],cs3,a3,st3,some (.int (0 + (i:Int))),?_,by simp [lx],by simp [ly],hs3,(ux.add l10 l1b l1m (by omega) (by omega)).mono (by omega),(uy.add l20 l2b l2m (by omega) (by omega)).mono (by omega)⟩
  rw [List.map_append,List.map_append,<- Int.add_assoc,<- Int.add_assoc]
  rfl
 ·rintro ρ ⟨xs,ys,cs,a,st,v,rfl,lx,ly,hs,ux,uy⟩
  rw [rngD_map,List.length_map,List.length_range] at lx ly ux uy
  exact curve5 (by omega) (by omega) (by omega) (by omega) (ux.mono (by omega)) (uy.mono (by omega)) fun cv hc=>q cv cs a st hc hs
open PySem.Builtin PySem.Builtin.Str in
theorem slice_len2 (z:Str) (lo hi:Option Int):(Txt.slice z lo hi).length <= (strSliceIndices lo hi 1 z.length).length:=by
 unfold Txt.slice
 split
 ·rename_i e
  simp only [Bool.and_eq_true,beq_iff_eq] at e
  rw [e.2]
  exact Nat.le_refl _
 ·show Array.size (List.toArray _) <= _
  rw [List.size_toArray]
  exact List.length_filterMap_le _ _
open PySem.Builtin PySem.Builtin.Str in
theorem slice_hd (z:Str) (j:Int) (h0:0 <= j):(Txt.slice z none (some j)).length <= j.toNat:=by
 refine Nat.le_trans (slice_len2 z none (some j)) ?_
 unfold strSliceIndices sliceRange
 simp only [show (1:Int) > 0 by decide,if_true,List.length_map,List.length_range,if_neg (show ¬ j < 0 by omega)]
 split <;> omega
open PySem.Builtin PySem.Builtin.Str in
theorem slice_tl (z:Str) (i:Int) (h0:0 <= i):(Txt.slice z (some i) none).length <= z.length - i.toNat:=by
 refine Nat.le_trans (slice_len2 z (some i) none) ?_
 unfold strSliceIndices sliceRange
 simp only [show (1:Int) > 0 by decide,if_true,List.length_map,List.length_range,if_neg (show ¬ i < 0 by omega)]
 split <;> omega
theorem slice_in (z:Str) (lo hi:Option Int):∀ c ∈ (Txt.slice z lo hi).cps.toList,c ∈ z.cps.toList:=by
 unfold Txt.slice
 split
 ·exact fun c h=>h
 ·intro c h
  obtain ⟨k,_,hk⟩:=List.mem_filterMap.mp (show c ∈ List.filterMap _ _ from h)
  exact Array.mem_toList_iff.mpr (Array.mem_of_getElem? hk)
noncomputable def words26:List Str:=["guard", "load", "on", "off", "open", "close", "fault", "go", "row", "map", "least", "board", "change", "move", "dark", "draws", "sum", "through", "parted", "not", "awake", "a", "aa", "aaa", "aaaaaaaa", "b"]
theorem words_nd:words26.Nodup:=by decide +kernel
theorem words_nm:∀ x ∈ words26,nm 8 x:=by decide +kernel
theorem names9 {Q:D -> D -> Prop} {cs:List Int} {a st m sz at_ start:Int} {base:Str} (hs:SOk cs a st) (m0:0 <= m) (m1:m <= 26) (hb:∀ c ∈ base.cps.toList,97 <= c /\ c <= 122) (bl:(base.length:Int) = sz) (s1:1 <= sz) (s8:sz <= 8) (a0:0 <= at_) (a1:at_ < sz) (t0:0 <= start) (t1:start < 26)
  (q:∀ (xs:List Str) (cs':List Int) (a' st':Int),(xs.length:Int) = m -> xs.Nodup -> (∀ x ∈ xs,nm 8 x) -> SOk cs' a' st' -> Q (txs xs) (strm cs' a' st')) :
  tNamesS_9 (EM Q) [some (strm cs a st),some (.int m),some (.str ABC),some (.int sz),some (.str base),some (.int at_),some (.int start),some (txs words26)]:=by
 refine ⟨cs,a,st,4,rfl,hs,by decide,by decide,fun r cs1 a1' st1 r0 r1 hs1=>?_⟩
 walk_at "r"
 refine ⟨fun e=>?_,fun e=>?_⟩
 ·have hw:∀ k:Nat,∃ x,x ∈ words26 /\ words26[((start + 5 * (0 + (k:Int))) % 26).toNat]? = some x /\ atI (words26.map D.str) ((start + 5 * (0 + (k:Int))) % 26) = some (.str x):=fun k=>
   atI_map (f:=D.str) (xs:=words26) (Int.emod_nonneg _ (by decide)) (Int.emod_lt_of_pos _ (by decide))
  refine ⟨⟨by omega,by omega⟩,?_⟩
  refine ⟨by rw [rngD_map,List.length_map,List.length_range]; exact line_le (by omega),?_⟩
  refine lc_map (f:=fun (k:Nat)=>.str (Classical.choose (hw k))) (List.range m.toNat) [] (fun k hk K R kk=>?_) ?_
  ·refine ⟨rfl,Br.yes rfl ?_⟩
   refine ⟨.inl ⟨by decide,by decide⟩,(show (0:Int) < 26 by decide),?_⟩
   exact ⟨_,(Classical.choose_spec (hw k)).2.2,rfl,kk⟩
  ·have e2:(List.range m.toNat).map (fun (k:Nat)=>D.str (Classical.choose (hw k))) = ((List.range m.toNat).map fun (k:Nat)=>Classical.choose (hw k)).map D.str:=by rw [List.map_map]; rfl
   rw [List.nil_append,e2]
   refine q _ _ _ _ (by rw [List.length_map,List.length_range]; omega) (nodup_range_map _ _ fun i j hi hj h=>?_) (fun x hx=>?_) hs1
   ·have h1:=(Classical.choose_spec (hw i)).2.1
    have h2:=(Classical.choose_spec (hw j)).2.1
    rw [<- h] at h2
    have l26:words26.length = 26:=rfl
    have p1:=Int.emod_lt_of_pos (start + 5 * (0 + (i:Int))) (show (0:Int) < 26 by decide)
    have p2:=Int.emod_nonneg (start + 5 * (0 + (i:Int))) (show (26:Int) ≠ 0 by decide)
    have p3:=Int.emod_nonneg (start + 5 * (0 + (j:Int))) (show (26:Int) ≠ 0 by decide)
    have h3:=(List.getElem?_inj (by omega) words_nd).mp (h1.trans h2.symm)
    omega
   ·obtain ⟨k,_,rfl⟩:=List.mem_map.mp hx
    exact words_nm _ (Classical.choose_spec (hw k)).1
 ·have sz':(100:Nat) <= sizeLine:=by rw [sizeLine_eq]; omega
  have hA:=slice_hd base at_ a0
  have hB:=slice_tl base (at_ + 1) (by omega)
  generalize eA:Txt.slice base none (some at_) = A at hA
  generalize eB:Txt.slice base (some (at_ + 1)) none = B at hB
  have inA:∀ c ∈ A.cps.toList,c ∈ base.cps.toList:=by rw [<- eA]; exact slice_in _ _ _
  have inB:∀ c ∈ B.cps.toList,c ∈ base.cps.toList:=by rw [<- eB]; exact slice_in _ _ _
  refine ⟨⟨by omega,by omega⟩,?_⟩
  refine ⟨by rw [rngD_map,List.length_map,List.length_range]; exact line_le (by omega),?_⟩
  refine lc_map (f:=fun (k:Nat)=>.str (A ++ ⟨#[ltr ((start + (0 + (k:Int))) % 26)]⟩ ++ B)) (List.range m.toNat) [] (fun k hk K R kk=>?_) ?_
  ·have p1:=Int.emod_lt_of_pos (start + (0 + (k:Int))) (show (0:Int) < 26 by decide)
   have p2:=Int.emod_nonneg (start + (0 + (k:Int))) (show (26:Int) ≠ 0 by decide)
   obtain ⟨ch,hch⟩:=abc_at p2 p1
   have lch:ltr ((start + (0 + (k:Int))) % 26) = ch:=by unfold ltr; rw [hch]; rfl
   rw [lch] at kk
   refine ⟨rfl,Br.yes rfl ?_⟩
   refine ⟨show base.length <= sizeLine by omega,?_⟩
   rw [eA]
   refine ⟨(show (0:Int) < 26 by decide),abc_len,ch,hch,?_⟩
   refine ⟨show A.length + 1 <= sizeLine by omega,?_⟩
   refine ⟨show base.length <= sizeLine by omega,?_⟩
   rw [eB]
   refine ⟨?_,kk⟩
   have la:(A ++ (⟨#[ch]⟩:Str)).length = A.length + 1:=by
    have e:=congrArg List.length (app_cps A ⟨#[ch]⟩)
    rw [List.length_append] at e
    have z:∀ x:Str,x.cps.toList.length = x.length:=fun x=>by show _ = x.cps.size; simp
    rw [z,z,z] at e
    exact e
   rw [la]
   omega
  ·have e2:(List.range m.toNat).map (fun (k:Nat)=>D.str (A ++ ⟨#[ltr ((start + (0 + (k:Int))) % 26)]⟩ ++ B)) = ((List.range m.toNat).map fun (k:Nat)=>A ++ ⟨#[ltr ((start + (0 + (k:Int))) % 26)]⟩ ++ B).map D.str:=by rw [List.map_map]; rfl
   rw [List.nil_append,e2]
   refine q _ _ _ _ (by rw [List.length_map,List.length_range]; omega) (nodup_range_map _ _ fun i j hi hj h=>?_) (fun x hx=>?_) hs1
   ·have p1:=Int.emod_lt_of_pos (start + (0 + (i:Int))) (show (0:Int) < 26 by decide)
    have p2:=Int.emod_nonneg (start + (0 + (i:Int))) (show (26:Int) ≠ 0 by decide)
    have p3:=Int.emod_lt_of_pos (start + (0 + (j:Int))) (show (0:Int) < 26 by decide)
    have p4:=Int.emod_nonneg (start + (0 + (j:Int))) (show (26:Int) ≠ 0 by decide)
    have h1:=congrArg (fun x:Str=>x.cps.toList) h
    simp only [app_cps] at h1
    have h2:=List.append_cancel_left (List.append_cancel_right h1)
    have h3:ltr ((start + (0 + (i:Int))) % 26) = ltr ((start + (0 + (j:Int))) % 26):=by simpa using h2
    have h4:=ltr_inj p2 p1 p4 p3 h3
    omega
   ·obtain ⟨k,_,rfl⟩:=List.mem_map.mp hx
    have p1:=Int.emod_lt_of_pos (start + (0 + (k:Int))) (show (0:Int) < 26 by decide)
    have p2:=Int.emod_nonneg (start + (0 + (k:Int))) (show (26:Int) ≠ 0 by decide)
    have la:A.cps.toList.length = A.length:=by show _ = A.cps.size; simp
    have lb:B.cps.toList.length = B.length:=by show _ = B.cps.size; simp
    unfold nm
    rw [app_cps,app_cps,List.length_append,List.length_append,la,lb]
    refine ⟨by show 1 <= _ + 1 + _; omega,by show _ + 1 + _ <= 8; omega,fun c hc=>?_⟩
    rcases List.mem_append.mp hc with h | h
    ·rcases List.mem_append.mp h with h | h
     ·exact hb c (inA c h)
     ·cases List.mem_singleton.mp (show c ∈ [ltr ((start + (0 + (k:Int))) % 26)] from h)
      exact ltr_ok p2 p1
    ·exact hb c (inB c h)
theorem join_ltr {bs:List Int}:(Txt.join "" (bs.map fun b=>(⟨#[ltr b]⟩:Str))).length = bs.length:=by
 have h:=congrArg List.length (join_cps bs)
 rw [List.length_map] at h
 rw [<- h]
 show Array.size _ = _
 simp
theorem names3 {Q:D -> D -> Prop} {cs:List Int} {a st m sz:Int} (hs:SOk cs a st) (m0:0 <= m) (m1:m <= 26) (s1:1 <= sz) (s8:sz <= 8)
  (q:∀ (xs:List Str) (cs':List Int) (a' st':Int),(xs.length:Int) = m -> xs.Nodup -> (∀ x ∈ xs,nm 8 x) -> SOk cs' a' st' -> Q (txs xs) (strm cs' a' st')) :
  tNamesS_3 (EM Q) [some (strm cs a st),some (.int m),some (.str ABC),some (.int sz),none,none,none,none]:=by
 refine ⟨rfl,?_⟩
 refine ⟨⟨by omega,by omega⟩,?_⟩
 refine ⟨by rw [rngD_map,List.length_map,List.length_range]; exact line_le (by omega),?_⟩
 refine .of ⟨fun n acc ρ=>∃ (cs:List Int) (a st:Int) (bs:List Int),ρ = [some (strm cs a st),some (.int m),some (.str ABC),some (.int sz),none,none,none,none] /\ SOk cs a st /\ acc = (bs.map fun b=>(⟨#[ltr b]⟩:Str)).map D.str /\ bs.length = n /\ ∀ b ∈ bs,0 <= b /\ b < 26,⟨cs,a,st,[],rfl,hs,rfl,rfl,fun b hb=>(by cases hb)⟩,?_,?_⟩
 ·rintro n y acc ρ hy ⟨cs,a,st,bs,rfl,hs,rfl,hbl,hb⟩
  refine ⟨rfl,Br.yes rfl ?_⟩
  refine ⟨cs,a,st,26,rfl,hs,by decide,by decide,fun b cs1 a1 st1 b0 b1 hs1=>?_⟩
  obtain ⟨ch,hch⟩:=abc_at b0 b1
  refine ⟨abc_len,ch,hch,rfl,cs1,a1,st1,bs ++ [b],rfl,hs1,?_,by simp [hbl],fun z hz=>?_⟩
  ·have lch:ltr b = ch:=by unfold ltr; rw [hch]; rfl
   rw [List.map_append,List.map_append,List.map_singleton,lch]
   rfl
  ·rcases List.mem_append.mp hz with w | w
   ·exact hb z w
   ·rw [List.mem_singleton.mp w]; exact ⟨b0,b1⟩
 ·rintro acc ρ ⟨cs,a,st,bs,rfl,hs,rfl,hbl,hb⟩
  rw [rngD_map,List.length_map,List.length_range] at hbl
  have e3:((bs.map fun (b:Int)=>(⟨#[ltr b]⟩:Str)).map (·.length)).sum = bs.length:=by
   clear hbl hb
   induction bs with
   | nil=>rfl
   | cons b B ih=>rw [List.map_cons,List.map_cons,List.sum_cons,ih,List.length_cons]; show 1 + B.length = _; omega
  refine ⟨"",_,bs.map fun (b:Int)=>(⟨#[ltr b]⟩:Str),rfl,rfl,rfl,?_,?_⟩
  ·rw [e3,List.length_map]
   show bs.length + bs.length * 0 <= _
   omega
  ·have hB:∀ c ∈ (Txt.join "" (bs.map fun b=>(⟨#[ltr b]⟩:Str))).cps.toList,97 <= c /\ c <= 122:=fun c hc=>by
    rw [join_cps] at hc
    obtain ⟨b,hb',rfl⟩:=List.mem_map.mp hc
    exact ltr_ok (hb b hb').1 (hb b hb').2
   have hL:((Txt.join "" (bs.map fun b=>(⟨#[ltr b]⟩:Str))).length:Int) = sz:=by rw [join_ltr]; omega
   generalize Txt.join "" (bs.map fun b=>(⟨#[ltr b]⟩:Str)) = base at hB hL
   refine ⟨rfl,cs,a,st,sz,rfl,hs,by omega,by omega,fun at_ cs1 a1 st1 at0 at1 hs1=>⟨rfl,?_⟩⟩
   refine ⟨cs1,a1,st1,26,rfl,hs1,by decide,by decide,fun start cs2 a2 st2 t0 t1 hs2=>⟨rfl,?_⟩⟩
   have sz':(100:Nat) <= sizeLine:=by rw [sizeLine_eq]; omega
   refine ⟨rfl,rfl,rfl,show 13 + 8 <= sizeLine by omega,rfl,rfl,rfl,show 21 + 5 <= sizeLine by omega,rfl,?_⟩
   exact names9 hs2 m0 m1 hB hL s1 s8 at0 at1 t0 t1 q
theorem rdNamesS (ds:List D) (Q:D -> D -> Prop) (h:cNamesS ds Q):tNamesS (EM Q) (startD 8 ds):=by
 obtain ⟨cs,a,st,m,rfl,hs,m0,m1,q⟩:=h
 refine ⟨rfl,cs,a,st,8,rfl,hs,by decide,by decide,fun r cs1 a1 st1 r0 r1 hs1=>⟨rfl,?_⟩⟩
 exact names3 hs1 m0 m1 (by omega) (by omega) q
structure GsK (xs:List Str) (gs:List Gd) (es:List Nat):Prop where
 len:es.length = gs.length
 nms:gs.map (·.nm) = xs.take gs.length
 all:∀ (j:Nat) (g:Gd),gs[j]? = some g -> ∃ e:Nat,es[j]? = some e /\ 1 <= e /\ e <= 8 /\ (g.un = none -> e = 1) /\ ∀ y,g.un = some y -> ∃ (j':Nat) (gj:Gd) (e':Nat),j' < j /\ gs[j']? = some gj /\ gj.nm = y /\ es[j']? = some e' /\ e = e' + 1
 cv:∀ g ∈ gs,CvOk g.cv
 de:∀ g ∈ gs,0 <= g.de /\ g.de < 10 ^ 60
 wa:∀ g ∈ gs,0 <= g.wa /\ g.wa < 10 ^ 60
theorem GsK.snoc {xs:List Str} {gs:List Gd} {es:List Nat} {g:Gd} {e:Nat} (h:GsK xs gs es) (hx:xs[gs.length]? = some g.nm) (e1:1 <= e) (e8:e <= 8) (u0:g.un = none -> e = 1) (u1:∀ y,g.un = some y -> ∃ (j:Nat) (e':Nat),j < gs.length /\ xs[j]? = some y /\ es[j]? = some e' /\ e = e' + 1) (hc:CvOk g.cv) (hd:0 <= g.de /\ g.de < 10 ^ 60) (hw:0 <= g.wa /\ g.wa < 10 ^ 60):GsK xs (gs ++ [g]) (es ++ [e]):=by
 have mem:∀ {P:Gd -> Prop},(∀ g ∈ gs,P g) -> P g -> ∀ z ∈ gs ++ [g],P z:=fun h1 h2 z hz=>by
  rcases List.mem_append.mp hz with w | w
  ·exact h1 z w
  ·rw [List.mem_singleton.mp w]; exact h2
 refine ⟨by rw [List.length_append,List.length_append,h.len]; rfl,?_,fun j z hz=>?_,mem h.cv hc,mem h.de hd,mem h.wa hw⟩
 ·rw [List.map_append,h.nms,List.length_append,List.length_singleton,List.take_add_one,hx]
  rfl
 ·by_cases hj:j < gs.length
  ·rw [List.getElem?_append_left hj] at hz
   obtain ⟨f,f1,f2,f3,f4,f5⟩:=h.all j z hz
   refine ⟨f,by rw [List.getElem?_append_left (by rw [h.len]; exact hj)]; exact f1,f2,f3,f4,fun y hy=>?_⟩
   obtain ⟨j',gj,e',a1,a2,a3,a4,a5⟩:=f5 y hy
   exact ⟨j',gj,e',a1,by rw [List.getElem?_append_left (by omega)]; exact a2,a3,by rw [List.getElem?_append_left (by rw [h.len]; omega)]; exact a4,a5⟩
  ·have hl:=(List.getElem?_eq_some_iff.mp hz).1
   rw [List.length_append,List.length_singleton] at hl
   have ej:j = gs.length:=by omega
   subst ej
   rw [List.getElem?_append_right (Nat.le_refl _),Nat.sub_self] at hz
   cases hz
   refine ⟨e,by rw [<- h.len,List.getElem?_append_right (Nat.le_refl _),Nat.sub_self]; rfl,e1,e8,u0,fun y hy=>?_⟩
   obtain ⟨j,e',a1,a2,a3,a4⟩:=u1 y hy
   obtain ⟨gj,hgj⟩:∃ gj,gs[j]? = some gj:=⟨_,List.getElem?_eq_getElem a1⟩
   have hn:gj.nm = y:=by
    have z1:(gs.map (·.nm))[j]? = some gj.nm:=by rw [List.getElem?_map,hgj]; rfl
    rw [h.nms,List.getElem?_take_of_lt a1,a2] at z1
    exact (Option.some.inj z1).symm
   exact ⟨j,gj,e',a1,by rw [List.getElem?_append_left a1]; exact hgj,hn,by rw [List.getElem?_append_left (by rw [h.len]; exact a1)]; exact a3,a4⟩
theorem GsK.un {xs:List Str} {gs:List Gd} {es:List Nat} (h:GsK xs gs es):UnOk gs:=by
 refine ⟨fun i=>es.getD i 0,fun i g hg=>?_⟩
 obtain ⟨e,a1,a2,a3,a4,a5⟩:=h.all i g hg
 have ee:es.getD i 0 = e:=by rw [List.getD_eq_getElem?_getD,a1]; rfl
 simp only [ee]
 refine ⟨a2,a3,a4,fun y hy=>?_⟩
 obtain ⟨j',gj,e',b1,b2,b3,b4,b5⟩:=a5 y hy
 have ej:es.getD j' 0 = e':=by rw [List.getD_eq_getElem?_getD,b4]; rfl
 exact ⟨j',gj,b1,b2,b3,by rw [ej]; exact b5⟩
noncomputable def natsD (es:List Nat):D:=.lst (es.map fun n:Nat=>D.int (n:Int))
theorem pick2 (x y:Int) {t:Int} (t0:0 <= t) (t1:t < 2):∃ p:Int,atI [D.int x,.int y] t = some (.int p) /\ (p = x \/ p = y):=by
 have h:t = 0 \/ t = 1:=by omega
 rcases h with rfl | rfl
 ·exact ⟨x,rfl,.inl rfl⟩
 ·exact ⟨y,rfl,.inr rfl⟩
theorem guardsS5 {T:Ends3} {cs:List Int} {a st far long z:Int} {xs:List Str} {gs:List Gd} {es:List Nat} {x:Str} {u:Option Str} {e:Nat} {v7 v10:Option D} (hs:SOk cs a st) (f0:0 < far) (f1:far <= 10 ^ 59) (w0:0 < long) (w1:long <= 10 ^ 59) (hxi:atI (xs.map D.str) z = some (.str x)) (gl:gs.length <= 16) (el:es.length <= 16)
  (hT:∀ (cv:List Pr) (n1 n2:Int) (cs:List Int) (a st:Int),CvOk cv -> 0 <= n1 /\ n1 < 10 ^ 60 -> 0 <= n2 /\ n2 < 10 ^ 60 -> SOk cs a st -> T.nx [some (strm cs a st),some (txs xs),some (.int far),some (.int long),some (.lst ((gs ++ [Gd.mk x u cv n1 n2]).map gD)),some (natsD (es ++ [e])),some (.int z),v7,some (uD u),some (.int e),some (crs cv)]) :
  tGuardsS_b1_5 T [some (strm cs a st),some (txs xs),some (.int far),some (.int long),some (.lst (gs.map gD)),some (natsD es),some (.int z),v7,some (uD u),some (.int e),v10]:=by
 have iu:imm (uD u) = true:=by cases u <;> rfl
 have eN:(es.map fun n:Nat=>D.int (n:Int)) ++ [D.int (e:Int)] = (es ++ [e]).map fun n:Nat=>D.int (n:Int):=by rw [List.map_append]; rfl
 refine ⟨rfl,rfl,by rw [List.length_map]; exact line_le (by omega),?_⟩
 rw [eN]
 refine ⟨cs,a,st,far,long,rfl,hs,f0,f1,w0,w1,fun cv cs1 a1 st1 hc hs1=>?_⟩
 refine ⟨rfl,?_⟩
 walk_at "r"
 refine ⟨_,hxi,?_⟩
 walk_at "r"
 refine ⟨iu,?_⟩
 have two:∀ t:Int,0 <= t -> t < 2 -> ∃ p:Int,atI [D.int 1,.int long] t = some (.int p) /\ 0 < p /\ p <= 10 ^ 59:=fun t t0 t1=>by
  obtain ⟨p,h1,h2⟩:=pick2 1 long t0 t1
  exact ⟨p,h1,by omega,by omega⟩
 walk_at "r"
 refine ⟨imm_crs cv,rfl,cs1,a1,st1,2,rfl,hs1,by decide,by decide,fun t cs2 a2 st2 t0 t1 hs2=>?_⟩
 obtain ⟨p,hp,p0,p1⟩:=two t t0 t1
 refine ⟨_,hp,?_⟩
 refine ⟨cs2,a2,st2,p,rfl,hs2,p0,by omega,fun n1 cs3 a3 st3 n10 n11 hs3=>?_⟩
 refine ⟨rfl,cs3,a3,st3,2,rfl,hs3,by decide,by decide,fun t cs4 a4 st4 t0 t1 hs4=>?_⟩
 obtain ⟨p',hp',p0',p1'⟩:=two t t0 t1
 refine ⟨_,hp',?_⟩
 refine ⟨cs4,a4,st4,p',rfl,hs4,p0',by omega,fun n2 cs5 a5 st5 n20 n21 hs5=>?_⟩
 walk_at "r"
 refine ⟨by rw [List.length_map]; exact line_le (by omega),?_⟩
 have key:=hT cv n1 n2 cs5 a5 st5 hc ⟨n10,by omega⟩ ⟨n20,by omega⟩ hs5
 rw [List.map_append] at key
 exact key
theorem rdGuardsS (ds:List D) (Q:D -> D -> Prop) (h:cGuardsS ds Q):tGuardsS (EM Q) (startD 11 ds):=by
 obtain ⟨cs,a,st,far,long,xs,rfl,hs,f0,f1,w0,w1,x1,x16,xn,q⟩:=h
 refine ⟨rfl,rfl,?_⟩
 refine ⟨⟨by rw [List.length_map]; omega,by rw [List.length_map]; omega⟩,?_⟩
 refine .of ⟨fun i ρ=>∃ (gs:List Gd) (es:List Nat) (cs:List Int) (a st:Int) (v6 v7 v8 v9 v10:Option D),ρ = [some (strm cs a st),some (txs xs),some (.int far),some (.int long),some (.lst (gs.map gD)),some (natsD es),v6,v7,v8,v9,v10] /\ gs.length = i /\ GsK xs gs es /\ SOk cs a st,⟨[],[],cs,a,st,none,none,none,none,none,rfl,rfl,⟨rfl,rfl,fun j g hg=>(by simp at hg),(fun g hg=>nomatch hg),(fun g hg=>nomatch hg),(fun g hg=>nomatch hg)⟩,hs⟩,?_,?_⟩
 ·rintro i e ρ he ⟨gs,es,cs,a,st,v6,v7,v8,v9,v10,rfl,hl,gk,hs⟩
  have hi:i < xs.length /\ e = .int (0 + (i:Int)):=by
   rw [rngD_map,List.getElem?_map] at he
   obtain ⟨j,hj,rfl⟩:=Option.map_eq_some_iff.mp he
   obtain ⟨hl,ej⟩:=List.getElem?_eq_some_iff.mp hj
   rw [List.length_range,List.length_map] at hl
   rw [List.getElem_range] at ej
   subst ej
   exact ⟨by omega,rfl⟩
  obtain ⟨hi,rfl⟩:=hi
  obtain ⟨x,_,hxg,hxi⟩:=atI_map (f:=D.str) (xs:=xs) (i:=0 + (i:Int)) (by omega) (by omega)
  have e0:(0 + (i:Int)).toNat = i:=by omega
  rw [e0] at hxg
  have fin:∀ {T:Ends3} (hTT:T.nx = fun ρ=>∃ (gs:List Gd) (es:List Nat) (cs:List Int) (a st:Int) (v6 v7 v8 v9 v10:Option D),ρ = [some (strm cs a st),some (txs xs),some (.int far),some (.int long),some (.lst (gs.map gD)),some (natsD es),v6,v7,v8,v9,v10] /\ gs.length = i + 1 /\ GsK xs gs es /\ SOk cs a st) (u:Option Str) (e:Nat) (cs:List Int) (a st:Int) (v7 v10:Option D),SOk cs a st -> 1 <= e -> e <= 8 -> (u = none -> e = 1) -> (∀ y,u = some y -> ∃ (j:Nat) (e':Nat),j < gs.length /\ xs[j]? = some y /\ es[j]? = some e' /\ e = e' + 1) ->
    tGuardsS_b1_5 T [some (strm cs a st),some (txs xs),some (.int far),some (.int long),some (.lst (gs.map gD)),some (natsD es),some (.int (0 + (i:Int))),v7,some (uD u),some (.int e),v10]:=fun hTT u e cs a st v7 v10 hs e1 e8 u0 u1=>
   guardsS5 hs f0 f1 w0 w1 hxi (by omega) (by rw [gk.len]; omega) fun cv n1 n2 cs a st hc h1 h2 hs=>by
    rw [hTT]
    exact ⟨gs ++ [Gd.mk x u cv n1 n2],es ++ [e],cs,a,st,_,_,_,_,_,rfl,by simp [hl],gk.snoc (g:=Gd.mk x u cv n1 n2) (by rw [hl]; exact hxg) e1 e8 u0 u1 hc h1 h2,hs⟩
  refine ⟨rfl,?_⟩
  have m0:(if (0 + (i:Int)) > 1 then 0 + (i:Int) else 1) = max 1 (i:Int):=by split <;> omega
  have key:∀ {T:Ends3} (hTT:T.nx = fun ρ=>∃ (gs:List Gd) (es:List Nat) (cs:List Int) (a st:Int) (v6 v7 v8 v9 v10:Option D),ρ = [some (strm cs a st),some (txs xs),some (.int far),some (.int long),some (.lst (gs.map gD)),some (natsD es),v6,v7,v8,v9,v10] /\ gs.length = i + 1 /\ GsK xs gs es /\ SOk cs a st) (p:Int) (cs:List Int) (a st:Int),SOk cs a st -> (0 < i -> 0 <= p /\ p < i) -> tGuardsS_b1_2 T [some (strm cs a st),some (txs xs),some (.int far),some (.int long),some (.lst (gs.map gD)),some (natsD es),some (.int (0 + (i:Int))),some (.int p),v8,v9,v10]:=fun hTT p cs a st hs hp=>by
   refine ⟨rfl,rfl,?_⟩
   refine ⟨fun e1=>?_,fun e1=>Br.no rfl (fin hTT none 1 cs a st _ _ hs (Nat.le_refl _) (by decide) (fun _=>rfl) (fun y z=>nomatch z))⟩
   have i0:0 < i:=by have:=of_decide_eq_true e1; omega
   obtain ⟨p0,p1⟩:=hp i0
   refine ⟨cs,a,st,7,rfl,hs,by decide,by decide,fun t cs1 a1 st1 t0 t1 hs1=>?_⟩
   refine ⟨fun e2=>?_,fun e2=>Br.no rfl (fin hTT none 1 cs1 a1 st1 _ _ hs1 (Nat.le_refl _) (by decide) (fun _=>rfl) (fun y z=>nomatch z))⟩
   have ll:=gk.len
   obtain ⟨d,_,hd,hdi⟩:=atI_map (f:=fun n:Nat=>D.int (n:Int)) (xs:=es) (i:=p) p0 (by omega)
   obtain ⟨y,_,hy,hyi⟩:=atI_map (f:=D.str) (xs:=xs) (i:=p) p0 (by omega)
   obtain ⟨gp,hgp⟩:∃ g,gs[p.toNat]? = some g:=⟨_,List.getElem?_eq_getElem (by omega)⟩
   obtain ⟨d',hd',d1,_⟩:=gk.all _ gp hgp
   cases hd.symm.trans hd'
   refine ⟨_,hdi,?_⟩
   refine ⟨fun e3=>?_,fun e3=>fin hTT none 1 cs1 a1 st1 _ _ hs1 (Nat.le_refl _) (by decide) (fun _=>rfl) (fun y z=>nomatch z)⟩
   have d8:d < 8:=by have:=of_decide_eq_true e3; omega
   refine ⟨_,hyi,rfl,_,hdi,rfl,?_⟩
   exact fin hTT (some y) (d + 1) cs1 a1 st1 _ _ hs1 (by omega) (by omega) (fun z=>nomatch z) (fun y' hy'=>by cases hy'; exact ⟨p.toNat,d,by omega,hy,hd,rfl⟩)
  refine ⟨cs,a,st,_,rfl,hs,?_,?_,fun t cs1 a1 st1 t0 t1 hs1=>?_⟩
  ·show (0:Int) < if (0 + (i:Int)) > 1 then 0 + (i:Int) else 1
   split <;> omega
  ·show (if (0 + (i:Int)) > 1 then 0 + (i:Int) else 1) <= (10 ^ 70:Int)
   split <;> omega
  refine ⟨cs1,a1,st1,2,rfl,hs1,by decide,by decide,fun r cs2 a2 st2 r0 r1 hs2=>?_⟩
  obtain ⟨p,hp,hpp⟩:=pick2 (0 + (i:Int) - 1) t r0 r1
  refine ⟨_,hp,rfl,rfl,?_⟩
  refine key rfl p cs2 a2 st2 hs2 fun i0=>?_
  have t2:t < if (0 + (i:Int)) > 1 then 0 + (i:Int) else 1:=t1
  rw [m0] at t2
  omega
 ·rintro ρ ⟨gs,es,cs,a,st,v6,v7,v8,v9,v10,rfl,hl,gk,hs⟩
  rw [rngD_map,List.length_map,List.length_range,List.length_map] at hl
  have hl2:gs.length = xs.length:=by omega
  have im:imms (gs.map gD) = true:=imms_all fun x hx=>by
   obtain ⟨g,_,rfl⟩:=List.mem_map.mp hx
   exact imm_gD g
  walk_at "r"
  refine ⟨im,q gs cs a st ?_ gk.un gk.cv gk.de gk.wa hs⟩
  rw [gk.nms,hl2,List.take_length]
structure LsK (gs:List Gd) (ls:List Ld):Prop where
 c4:∀ l ∈ ls,l.cs.length <= 4
 cs:∀ l ∈ ls,∀ p ∈ l.cs,1 <= p.1 /\ p.1 < 10 ^ 60 /\ 0 <= p.2 /\ p.2 < 10 ^ 60
 la:∀ l ∈ ls,0 <= l.la /\ l.la < 10 ^ 60
 at_:∀ l ∈ ls,∃ g ∈ gs,g.nm = l.at_
theorem LsK.snoc {gs:List Gd} {ls:List Ld} {l:Ld} (h:LsK gs ls) (h1:l.cs.length <= 4) (h2:∀ p ∈ l.cs,1 <= p.1 /\ p.1 < 10 ^ 60 /\ 0 <= p.2 /\ p.2 < 10 ^ 60) (h3:0 <= l.la /\ l.la < 10 ^ 60) (h4:∃ g ∈ gs,g.nm = l.at_):LsK gs (ls ++ [l]):=by
 have mem:∀ {P:Ld -> Prop},(∀ g ∈ ls,P g) -> P l -> ∀ z ∈ ls ++ [l],P z:=fun h1 h2 z hz=>by
  rcases List.mem_append.mp hz with w | w
  ·exact h1 z w
  ·rw [List.mem_singleton.mp w]; exact h2
 exact ⟨mem h.c4 h1,mem h.cs h2,mem h.la h3,mem h.at_ h4⟩
theorem rdLoadsS (ds:List D) (Q:D -> D -> Prop) (h:cLoadsS ds Q):tLoadsS (EM Q) (startD 9 ds):=by
 obtain ⟨cs,a,st,far,long,xs,gs,rfl,hs,f0,f1,w0,w1,g1,g16,x24,q⟩:=h
 refine ⟨rfl,?_⟩
 refine .of ⟨fun i ρ=>∃ (ls:List Ld) (cs:List Int) (a st:Int) (v6 v7 v8:Option D),ρ = [some (strm cs a st),some (txs xs),some (.tup (gs.map gD)),some (.int far),some (.int long),some (.lst (ls.map lD)),v6,v7,v8] /\ ls.length = i /\ ls.map (·.nm) = xs.take i /\ LsK gs ls /\ SOk cs a st,⟨[],cs,a,st,none,none,none,rfl,rfl,rfl,⟨(fun g hg=>nomatch hg),(fun g hg=>nomatch hg),(fun g hg=>nomatch hg),(fun g hg=>nomatch hg)⟩,hs⟩,?_,?_⟩
 ·rintro i e ρ he ⟨ls,cs,a,st,v6,v7,v8,rfl,hl,nl,lk,hs⟩
  obtain ⟨x,hx,rfl⟩:=get_map he
  have hi:=(List.getElem?_eq_some_iff.mp hx).1
  refine ⟨rfl,?_⟩
  refine ⟨cs,a,st,3,rfl,hs,by decide,by decide,fun r cs1 a1 st1 r0 r1 hs1=>?_⟩
  refine ⟨⟨by omega,by omega⟩,?_⟩
  refine ⟨by rw [rngD_map,List.length_map,List.length_range]; exact line_le (by omega),?_⟩
  refine .of ⟨fun n acc ρ=>∃ (cs:List Int) (a st:Int) (ps:List Pr),ρ = [some (strm cs a st),some (txs xs),some (.tup (gs.map gD)),some (.int far),some (.int long),some (.lst (ls.map lD)),some (.str x),v7,v8] /\ SOk cs a st /\ acc = ps.map pr /\ ps.length = n /\ ∀ p ∈ ps,1 <= p.1 /\ p.1 < 10 ^ 60 /\ 0 <= p.2 /\ p.2 < 10 ^ 60,⟨cs1,a1,st1,[],rfl,hs1,rfl,rfl,fun p hp=>(by cases hp)⟩,?_,?_⟩
  ·rintro n y acc ρ hy ⟨cs,a,st,ps,rfl,hs,rfl,hpl,hps⟩
   refine ⟨rfl,Br.yes rfl ?_⟩
   refine ⟨cs,a,st,long,rfl,hs,w0,by omega,fun b cs2 a2 st2 b0 b1 hs2=>?_⟩
   refine ⟨cs2,a2,st2,far,rfl,hs2,f0,by omega,fun b' cs3 a3 st3 b0' b1' hs3=>?_⟩
   refine ⟨cs3,a3,st3,ps ++ [(1 + b,b')],rfl,hs3,by rw [List.map_append]; rfl,by simp [hpl],fun p hp=>?_⟩
   rcases List.mem_append.mp hp with z | z
   ·exact hps p z
   ·rw [List.mem_singleton.mp z]; exact ⟨by omega,by omega,by omega,by omega⟩
  ·rintro acc ρ ⟨cs,a,st,ps,rfl,hs,rfl,hpl,hps⟩
   rw [rngD_map,List.length_map,List.length_range] at hpl
   refine ⟨rfl,?_⟩
   refine ⟨cs,a,st,_,rfl,hs,by rw [List.length_map]; omega,by rw [List.length_map]; omega,fun t cs2 a2 st2 t0 t1 hs2=>?_⟩
   rw [List.length_map] at t1
   obtain ⟨g,hg,_,hgi⟩:=atI_map (f:=gD) (xs:=gs) (i:=t) t0 t1
   walk_at "r"
   refine ⟨_,hgi,?_⟩
   walk_at "r"
   refine ⟨imms_prs ps,?_⟩
   refine ⟨cs2,a2,st2,far,rfl,hs2,f0,by omega,fun n1 cs3 a3 st3 n10 n11 hs3=>?_⟩
   refine ⟨cs3,a3,st3,3,rfl,hs3,by decide,by decide,fun n2 cs4 a4 st4 n20 n21 hs4=>?_⟩
   walk_at "r"
   refine ⟨by rw [List.length_map]; exact line_le (by omega),?_⟩
   refine ⟨ls ++ [Ld.mk x g.nm ps n1 (decide (n2 > 0))],cs4,a4,st4,some (.str x),some (.lst (ps.map pr)),some (.str g.nm),?_,by simp [hl],?_,lk.snoc (by show ps.length <= 4; omega) hps ⟨n10,by show n1 < _; omega⟩ ⟨g,hg,rfl⟩,hs4⟩
   ·rw [List.map_append]; rfl
   ·rw [List.map_append,nl,List.take_add_one,hx]; rfl
 ·rintro ρ ⟨ls,cs,a,st,v6,v7,v8,rfl,hl,nl,lk,hs⟩
  rw [List.length_map] at hl nl
  have im:imms (ls.map lD) = true:=imms_all fun x hx=>by
   obtain ⟨g,_,rfl⟩:=List.mem_map.mp hx
   exact imm_lD g
  walk_at "r"
  refine ⟨im,q ls cs a st (by rw [nl,List.take_length]) lk.c4 lk.cs lk.la lk.at_ hs⟩
theorem cutD_to (xs:List D) (n:Nat):cutD xs none (some (n:Int)) = xs.take n:=by
 unfold cutD
 have h1:HT.sIx xs.length 0 none = 0:=rfl
 have h2:HT.sIx xs.length xs.length (some (n:Int)) = min n xs.length:=by
  show (if ((n:Int)) < 0 then ((n:Int) + (xs.length:Int)).toNat else min (n:Int).toNat xs.length) = _
  rw [if_neg (by omega)]; rfl
 rw [h1,h2]
 show List.take (min n xs.length - 0) xs = _
 rw [Nat.sub_zero,List.take_eq_take_iff]
 omega
theorem cutD_from (xs:List D) (n:Nat) (h:n <= xs.length):cutD xs (some (n:Int)) none = xs.drop n:=by
 unfold cutD
 have h1:HT.sIx xs.length 0 (some (n:Int)) = n:=by
  show (if ((n:Int)) < 0 then ((n:Int) + (xs.length:Int)).toNat else min (n:Int).toNat xs.length) = _
  rw [if_neg (by omega)]
  show min n xs.length = n
  omega
 have h2:HT.sIx xs.length xs.length none = xs.length:=rfl
 rw [h1,h2]
 rw [List.take_of_length_le (by rw [List.length_drop]; omega)]
theorem rdBoardS (ds:List D) (Q:D -> D -> Prop) (h:cBoardS ds Q):tBoardS (EM Q) (startD 8 ds):=by
 obtain ⟨cs,a,st,most,many,far,long,rfl,hs,f0,f1,w0,w1,m0,m16,k0,k10,q⟩:=h
 refine ⟨cs,a,st,most,rfl,hs,m0,by omega,fun r cs1 a1 st1 r0 r1 hs1=>⟨rfl,?_⟩⟩
 refine ⟨cs1,a1,st1,_,rfl,hs1,by omega,by omega,fun xs cs2 a2 st2 xl xn xm hs2=>⟨rfl,?_⟩⟩
 obtain ⟨n,en⟩:∃ n:Nat,1 + r = (n:Int):=⟨(1 + r).toNat,by omega⟩
 have n1:1 <= n:=by omega
 have n16:n <= 16:=by omega
 have nl:n <= xs.length:=by omega
 have im:imms (xs.map D.str) = true:=imms_all fun x hx=>by
  obtain ⟨y,_,rfl⟩:=List.mem_map.mp hx
  rfl
 have z1:cutD (xs.map D.str) none (some (1 + r)) = (xs.take n).map D.str:=by rw [en,cutD_to,List.map_take]
 have z2:cutD (xs.map D.str) (some (1 + r)) none = (xs.drop n).map D.str:=by rw [en,cutD_from _ _ (by rw [List.length_map]; exact nl),List.map_drop]
 refine ⟨im,?_⟩
 rw [z1]
 refine ⟨cs2,a2,st2,far,long,xs.take n,rfl,hs2,f0,f1,w0,w1,by rw [List.length_take]; omega,by rw [List.length_take]; omega,xn.sublist (List.take_sublist _ _),fun gs cs3 a3 st3 gn gu gc gd gw hs3=>⟨rfl,?_⟩⟩
 have gl:gs.length = n:=by
  have:=congrArg List.length gn
  rw [List.length_map,List.length_take] at this
  omega
 have ig:imms (gs.map gD) = true:=imms_all fun x hx=>by
  obtain ⟨g,_,rfl⟩:=List.mem_map.mp hx
  exact imm_gD g
 refine ⟨ig,im,?_⟩
 rw [z2]
 refine ⟨cs3,a3,st3,far,long,xs.drop n,gs,rfl,hs3,f0,f1,w0,w1,by omega,by omega,by rw [List.length_drop]; omega,fun ls cs4 a4 st4 ln lc lcs lla lat hs4=>?_⟩
 refine q ⟨gs,ls⟩ cs4 a4 st4 ⟨by show 1 <= gs.length; omega,by show gs.length <= 16; omega,?_,?_,fun g hg=>?_,fun l hl=>?_,gc,gd,gw,gu,lc,lcs,lla,lat⟩ hs4
 ·have:=congrArg List.length ln
  rw [List.length_map,List.length_drop] at this
  show ls.length <= 24
  omega
 ·show (gs.map (·.nm) ++ ls.map (·.nm)).Nodup
  rw [gn,ln,List.take_append_drop]
  exact xn
 ·exact xm _ (List.mem_of_mem_take (gn ▸ List.mem_map.mpr ⟨g,hg,rfl⟩))
 ·exact xm _ (List.mem_of_mem_drop (ln ▸ List.mem_map.mpr ⟨l,hl,rfl⟩))
theorem pl_put {ps:List (Str × Int)} {x:Str} {n:Int} (h:x ∉ ps.map (·.1)):putD (plD ps) (.inr x) (.int n) = plD (ps ++ [(x,n)]):=by
 have:=named_app (k:=fun p:Str × Int=>p.1) (v:=fun p:Str × Int=>D.int p.2) (as:=ps) (x:=x) (d:=.int n) h
 unfold plD
 rw [this,List.map_append]; rfl
theorem pulls_b1 {T:Ends3} {cs:List Int} {a st far:Int} {b:Bd} {pl:List Str} {ps:List (Str × Int)} {x:Str} {v6:Option D} (hs:SOk cs a st) (f0:0 < far) (f1:far <= 10 ^ 60) (hx:x ∉ ps.map (·.1)) (hl:ps.length <= 64)
  (hT:∀ (cs:List Int) (a st:Int) (ps':List (Str × Int)),SOk cs a st -> (ps' = ps \/ ∃ n,0 <= n /\ ps' = ps ++ [(x,n)]) -> T.nx [some (strm cs a st),some (bD b),some (.int far),some (txs pl),some (.dic (plD ps')),some (.str x),v6]) :
  tPulls_b1_1 T [some (strm cs a st),some (bD b),some (.int far),some (txs pl),some (.dic (plD ps)),some (.str x),v6]:=by
 refine ⟨cs,a,st,3,rfl,hs,by decide,by decide,fun r cs1 a1 st1 r0 r1 hs1=>?_⟩
 show Br (decide (0 < r)) _ _
 by_cases h:0 < r
 ·refine Br.yes (decide_eq_true h) ?_
  refine ⟨rfl,?_⟩
  refine ⟨cs1,a1,st1,2,rfl,hs1,by decide,by decide,fun t cs2 a2 st2 t0 t1 hs2=>?_⟩
  have hm:∃ m:Int,atI [D.int 2,.int far] t = some (.int m) /\ 0 < m /\ m <= 10 ^ 60:=by
   have h:t = 0 \/ t = 1:=by omega
   rcases h with rfl | rfl
   ·exact ⟨2,rfl,by decide,by decide⟩
   ·exact ⟨far,rfl,f0,f1⟩
  obtain ⟨m,hm,m0,m1⟩:=hm
  refine ⟨_,hm,?_⟩
  refine ⟨cs2,a2,st2,m,rfl,hs2,m0,by omega,fun n cs3 a3 st3 n0 n1 hs3=>?_⟩
  refine ⟨rfl,?_⟩
  refine ⟨_,rfl,by show (List.map _ _).length < _; rw [List.length_map]; exact line_le (by omega),?_⟩
  rw [pl_put hx]
  exact hT cs3 a3 st3 _ hs3 (.inr ⟨n,n0,rfl⟩)
 ·refine Br.no (decide_eq_false h) ?_
  exact hT cs1 a1 st1 _ hs1 (.inl rfl)
theorem pulls_4 {Q:D -> D -> Prop} {cs:List Int} {a st far:Int} {b:Bd} {pl:List Str} {kds:List (Key × D)} {v5 v6:Option D} (hb:BdOk b) (hs:SOk cs a st)
  (q:∀ (op:List Str) (cs:List Int) (a st:Int),(∀ x ∈ op,x ∈ gns b) -> op.length <= 32 -> SOk cs a st -> Q (.tup [.dic kds,txs op]) (strm cs a st)) :
  tPulls_4 (EM Q) [some (strm cs a st),some (bD b),some (.int far),some (txs pl),some (.dic kds),v5,v6]:=by
 have h16:=hb.g16
 have sz:(100:Nat) <= sizeLine:=by rw [sizeLine_eq]; omega
 refine ⟨_,atI0 _ _,?_⟩
 refine ⟨by rw [List.length_map]; exact line_le (by omega),?_⟩
 refine .of ⟨fun n acc ρ=>∃ (cs:List Int) (a st:Int) (op:List Str),ρ = [some (strm cs a st),some (bD b),some (.int far),some (txs pl),some (.dic kds),v5,v6] /\ SOk cs a st /\ acc = op.map D.str /\ op.length <= n /\ ∀ x ∈ op,x ∈ gns b,⟨cs,a,st,[],rfl,hs,rfl,Nat.le_refl _,fun x hx=>by cases hx⟩,?_,?_⟩
 ·rintro n y acc ρ hy ⟨cs,a,st,op,rfl,hs,rfl,hl,ho⟩
  rw [List.getElem?_map] at hy
  cases eg:b.gs[n]? with
  | none=>rw [eg] at hy; cases hy
  | some g=>
   rw [eg] at hy
   cases (show some (gD g) = some y from hy)
   refine ⟨rfl,?_⟩
   refine ⟨cs,a,st,6,rfl,hs,by decide,by decide,fun r cs1 a1 st1 r0 r1 hs1=>?_⟩
   show Br (decide (r = 0)) _ _
   by_cases h:r = 0
   ·refine Br.yes (decide_eq_true h) ?_
    walk_at "r"
    exact ⟨cs1,a1,st1,op ++ [g.nm],rfl,hs1,by rw [List.map_append]; rfl,by simp; omega,fun x hx=>(List.mem_append.mp hx).elim (ho x) fun z=>by cases List.mem_singleton.mp z; exact List.mem_map.mpr ⟨g,List.mem_of_getElem? eg,rfl⟩⟩
   ·refine Br.no (decide_eq_false h) ?_
    exact ⟨cs1,a1,st1,op,rfl,hs1,rfl,by omega,ho⟩
 ·rintro acc ρ ⟨cs,a,st,op,rfl,hs,rfl,hl,ho⟩
  rw [List.length_map] at hl
  refine ⟨rfl,?_⟩
  refine ⟨rfl,imms_txs op,?_⟩
  refine ⟨cs,a,st,2,rfl,hs,by decide,by decide,fun t cs1 a1 st1 t0 t1 hs1=>?_⟩
  obtain ⟨n,rfl⟩:∃ n:Nat,t = (n:Int):=⟨t.toNat,by omega⟩
  refine ⟨n,_,rfl,rfl,imms_txs op,?_⟩
  rw [cutD_to,<- List.map_take,<- List.map_reverse]
  refine ⟨imms_txs _,imms_txs _,by rw [List.length_map,List.length_map,List.length_reverse,List.length_take]; omega,?_⟩
  rw [<- List.map_append]
  refine q (op.reverse ++ op.take n) cs1 a1 st1 (fun x hx=>?_) (by rw [List.length_append,List.length_reverse,List.length_take]; omega) hs1
  rcases List.mem_append.mp hx with z | z
  ·exact ho x (List.mem_reverse.mp z)
  ·exact ho x (List.mem_of_mem_take z)
theorem rdPulls (ds:List D) (Q:D -> D -> Prop) (h:cPulls ds Q):tPulls (EM Q) (startD 7 ds):=by
 obtain ⟨cs,a,st,far,b,rfl,hs,hb,f0,f1,q⟩:=h
 have h16:=hb.g16
 have h24:=hb.l24
 have l1:(gns b).length = b.gs.length:=List.length_map _
 have l2:(lns b).length = b.ls.length:=List.length_map _
 have sz:(100:Nat) <= sizeLine:=by rw [sizeLine_eq]; omega
 refine ⟨_,atI0 _ _,_,atI1 _ _ _,imms_gD _,imms_lD _,by rw [List.length_map,List.length_map]; omega,?_⟩
 have eC:b.gs.map gD ++ b.ls.map lD = (b.gs.map Sum.inl ++ b.ls.map Sum.inr).map (Sum.elim gD lD):=by
  rw [List.map_append,List.map_map,List.map_map]; rfl
 rw [eC]
 refine ⟨by rw [List.length_map,List.length_append,List.length_map,List.length_map]; exact line_le (by omega),?_⟩
 refine lc_map (f:=Sum.elim (fun g:Gd=>D.str g.nm) (fun l:Ld=>D.str l.nm)) (b.gs.map Sum.inl ++ b.ls.map Sum.inr) [] (fun z hz K R kk=>?_) ?_
 ·cases z with
  | inl g=>
   walk_at "r"
   exact kk
  | inr g=>
   walk_at "r"
   exact kk
 have eN:(b.gs.map Sum.inl ++ b.ls.map Sum.inr).map (Sum.elim (fun g:Gd=>D.str g.nm) (fun l:Ld=>D.str l.nm)) = (gns b ++ lns b).map D.str:=by
  unfold gns lns
  rw [List.map_append,List.map_map,List.map_map,List.map_append,List.map_map,List.map_map]; rfl
 rw [List.nil_append,eN]
 refine ⟨rfl,?_⟩
 refine ⟨rfl,?_⟩
 refine .of ⟨fun n ρ=>∃ (cs:List Int) (a st:Int) (ps:List (Str × Int)) (v5:Option D),ρ = [some (strm cs a st),some (bD b),some (.int far),some (txs (gns b ++ lns b)),some (.dic (plD ps)),v5,none] /\ SOk cs a st /\ (ps.map (·.1)).Sublist ((gns b ++ lns b).take n) /\ ∀ p ∈ ps,0 <= p.2,⟨cs,a,st,[],none,rfl,hs,List.nil_sublist _,fun p hp=>by cases hp⟩,?_,?_⟩
 ·rintro n y ρ hy ⟨cs,a,st,ps,v5,rfl,hs,sb,ps0⟩
  rw [List.getElem?_map] at hy
  cases eg:(gns b ++ lns b)[n]? with
  | none=>rw [eg] at hy; cases hy
  | some x=>
   rw [eg] at hy
   cases (show some (D.str x) = some y from hy)
   have nd:=hb.nd
   have st1:(gns b ++ lns b).take (n + 1) = (gns b ++ lns b).take n ++ [x]:=by rw [List.take_succ,eg]; rfl
   have hx:x ∉ ps.map (·.1):=fun z=>by
    have n2:=(show (gns b ++ lns b).Nodup from nd).sublist (List.take_sublist (n + 1) _)
    rw [st1] at n2
    exact (List.nodup_append.mp n2).2.2 x (sb.mem z) x (List.mem_singleton.mpr rfl) rfl
   have hl:ps.length <= 64:=by
    have:=sb.length_le
    rw [List.length_map,List.length_take,List.length_append] at this
    omega
   refine ⟨rfl,?_⟩
   refine pulls_b1 hs f0 f1 hx hl fun cs a st ps' hs' h=>?_
   rcases h with rfl | ⟨m,m0,rfl⟩
   ·exact ⟨cs,a,st,ps',_,rfl,hs',by rw [st1]; exact sb.trans (List.sublist_append_left _ _),ps0⟩
   ·refine ⟨cs,a,st,_,_,rfl,hs',?_,fun p hp=>?_⟩
    ·rw [st1,List.map_append]
     exact sb.append (List.Sublist.refl _)
    ·rcases List.mem_append.mp hp with z | z
     ·exact ps0 p z
     ·cases List.mem_singleton.mp z; exact m0
 ·rintro ρ ⟨cs,a,st,ps,v5,rfl,hs,sb,ps0⟩
  refine pulls_4 hb hs fun op cs a st ho hl hs=>q ps op cs a st ⟨?_,fun p hp=>?_,ps0⟩ ho hl hs
  ·exact (show (gns b ++ lns b).Nodup from hb.nd).sublist (sb.trans (List.take_sublist _ _))
  ·exact List.mem_of_mem_take (sb.mem (List.mem_map.mpr ⟨p,hp,rfl⟩))
theorem eq_draw {neg:Bool} {b:Bd} {v:Str -> Int} {Q:D -> Prop} (hb:BdOk b) (q:Q (.bl (!neg))):gEqDI neg (.dic (drawD b v)) (.dic (drawD b v)) Q:=by
 have e:drawD b v = (b.gs.map fun g:Gd=>((.inr g.nm:Key),v g.nm)).map fun p=>(p.1,D.int p.2):=by
  unfold drawD; rw [List.map_map]; rfl
 refine ⟨_,congrArg D.dic e,congrArg D.dic e,?_,q⟩
 rw [List.map_map]
 exact List.Pairwise.map _ (fun a b h z=>h (Sum.inr.inj z)) (show List.Pairwise (fun a b:Gd=>a.nm ≠ b.nm) b.gs from List.pairwise_map.mp hb.gsk.nd)
theorem drawD_keys (b:Bd) (v:Str -> Int):(drawD b v).map (fun kv=>kD kv.1) = (gns b).map D.str:=by
 unfold drawD gns
 rw [List.map_map,List.map_map]; rfl
theorem pd_sum {ps:List (Str × Int)} (nd:(ps.map (·.1)).Nodup) (x:Str):Pd (plD ps) x = (ps.map fun p=>if p.1 = x then p.2 else 0).sum:=by
 unfold Pd
 by_cases h:x ∈ ps.map (·.1)
 ·obtain ⟨p,hp,rfl⟩:=List.mem_map.mp h
  rw [show valD (plD ps) (.inr p.1) = some (.int p.2) from named_val (k:=fun p:Str × Int=>p.1) (v:=fun p:Str × Int=>D.int p.2) nd hp]
  exact (sum_one (nm:=fun p:Str × Int=>p.1) (fun p=>p.2) nd hp).symm
 ·rw [show valD (plD ps) (.inr x) = none from named_none (k:=fun p:Str × Int=>p.1) (v:=fun p:Str × Int=>D.int p.2) h]
  exact (sum_zero _ _ fun p hp=>if_neg fun e:p.1 = x=>h (e ▸ List.mem_map.mpr ⟨p,hp,rfl⟩)).symm
noncomputable def dueA (b:Bd) (op:List Str) (ps:List (Str × Int)) (y:Str):Int:=(ps.map fun p=>if fedB b op p.1 then (((overS b p.1).count y:Nat):Int) * p.2 else 0).sum
theorem due_all {b:Bd} (hb:BdOk b) {ps:List (Str × Int)} (ok:PlOk b ps) (op:List Str) (y:Str):dueA b op ps y = drawV b op (Pd (plD ps)) y:=by
 have e1:drawV b op (Pd (plD ps)) y = ((gns b ++ lns b).map fun x=>(ps.map fun p=>if x = p.1 then (if fedB b op x then (((overS b x).count y:Nat):Int) * p.2 else 0) else 0).sum).sum:=by
  unfold drawV
  refine sum_congr fun x _=>?_
  by_cases fx:fedB b op x = true
  ·rw [if_pos fx,pd_sum ok.nd,Int.mul_comm,sum_mul]
   refine sum_congr fun p _=>?_
   by_cases z:p.1 = x
   ·rw [if_pos z,if_pos z.symm,if_pos fx,Int.mul_comm]
   ·rw [if_neg z,if_neg fun w=>z w.symm,Int.zero_mul]
  ·rw [if_neg fx]
   exact (sum_zero _ _ fun p _=>by rw [if_neg fx]; split <;> rfl).symm
 rw [e1,sum_swap]
 unfold dueA
 refine sum_congr fun p hp=>?_
 exact (sum_one (nm:=fun x:Str=>x) (fun x=>if fedB b op x then (((overS b x).count y:Nat):Int) * p.2 else 0) (l:=gns b ++ lns b) (a:=p.1) (by rw [List.map_id']; exact hb.nd) (ok.sub p hp)).symm
theorem due_fed {b:Bd} {op:List Str} {x:Str}:eqDs (((overS b x).filter fun g=>decide (g ∈ op)).map D.str) [] = fedB b op x:=by
 rw [show ([]:List D) = ([]:List Str).map D.str from rfl,eqDs_txs]
 unfold fedB
 by_cases h:(overS b x).filter (fun g=>decide (g ∈ op)) = []
 ·rw [decide_eq_true h]
  rw [List.filter_eq_nil_iff] at h
  refine Eq.symm (List.all_eq_true.mpr fun g hg=>decide_eq_true fun z=>h g hg (decide_eq_true z))
 ·rw [decide_eq_false h]
  refine Eq.symm (Bool.eq_false_iff.mpr fun z=>h (List.filter_eq_nil_iff.mpr fun g hg e=>?_))
  exact of_decide_eq_true (List.all_eq_true.mp z g hg) (of_decide_eq_true e)
theorem ups_len2 (gs:List Gd):∀ (n:Nat) (o:Option Str),(ups gs n o).length <= n
 | 0,o=>by cases o <;> exact Nat.le_refl _
 | n + 1,none=>Nat.zero_le _
 | n + 1,some y=>by
  show (ups gs n _).length + 1 <= n + 1
  have:=ups_len2 gs n (und gs y)
  omega
theorem over_in {b:Bd} (hb:BdOk b) {x:Str} (hx:x ∈ gns b ++ lns b):∀ y ∈ overS b x,y ∈ gns b:=by
 have go:∀ (n:Nat) (g:Gd),g ∈ b.gs -> ∀ y ∈ ups b.gs n (some g.nm),y ∈ gns b:=by
  intro n
  induction n with
  | zero=>intro g hg y hy; cases hy
  | succ n ih=>
   intro g hg y hy
   have hy:y ∈ g.nm :: ups b.gs n (und b.gs g.nm):=hy
   rcases List.mem_cons.mp hy with e | e
   ·rw [e]; exact List.mem_map.mpr ⟨g,hg,rfl⟩
   ·rw [und_of hb.gsk.nd hg] at e
    cases hu:g.un with
    | none=>
     rw [hu] at e
     cases n <;> cases e
    | some z=>
     rw [hu] at e
     obtain ⟨dp,ud⟩:=hb.gsk.un
     obtain ⟨j,hj⟩:=List.getElem?_of_mem hg
     obtain ⟨_,_,_,a⟩:=ud j g hj
     obtain ⟨k,gk,_,hgk,rfl,_⟩:=a z hu
     exact ih gk (List.mem_of_getElem? hgk) y e
 obtain ⟨g,hg,e⟩:=List.mem_map.mp (at_in hb hx)
 unfold overS
 rw [<- e]
 exact go 8 g hg
theorem draw_zero {b:Bd} (hb:BdOk b):mergeD (b.gs.map fun g:Gd=>((.inr g.nm:Key),D.int 0)) = drawD b fun _=>0:=by
 rw [merge_map]
 have:=fold_named (k:=fun g:Gd=>g.nm) (v:=fun _:Gd=>D.int 0) (as:=b.gs) (bs:=[]) (by rw [List.nil_append]; exact hb.gsk.nd)
 exact this
theorem due_b2 {T:Ends3} {b:Bd} {op:List Str} {ps:List (Str × Int)} {p:Str × Int} {v6:Option D} {f:Str -> Int} (hb:BdOk b) (ok:PlOk b ps) (hp:p ∈ ps)
  (hT:∀ v6,T.nx [some (bD b),some (txs op),some (.dic (plD ps)),some (.dic (drawD b fun y=>f y + (((overS b p.1).count y:Nat):Int) * p.2)),some (.str p.1),some (txs (overS b p.1)),v6]) :
  tDue19_b2_1 T [some (bD b),some (txs op),some (.dic (plD ps)),some (.dic (drawD b f)),some (.str p.1),some (txs (overS b p.1)),v6]:=by
 have h16:=hb.g16
 have hin:=over_in hb (ok.sub p hp)
 generalize overS b p.1 = ov at *
 refine .of ⟨fun n ρ=>∃ v6,ρ = [some (bD b),some (txs op),some (.dic (plD ps)),some (.dic (drawD b fun y=>f y + (((ov.take n).count y:Nat):Int) * p.2)),some (.str p.1),some (txs ov),v6],⟨v6,?_⟩,?_,?_⟩
 ·have e:(drawD b fun y=>f y + ((((ov.take 0).count y:Nat):Int)) * p.2) = drawD b f:=draw_congr fun x _=>by
   rw [List.take_zero,List.count_nil]
   show f x + 0 * p.2 = f x
   rw [Int.zero_mul,Int.add_zero]
  rw [e]
 ·rintro n y ρ hy ⟨v6,rfl⟩
  rw [List.getElem?_map] at hy
  cases eg:ov[n]? with
  | none=>rw [eg] at hy; cases hy
  | some g=>
   rw [eg] at hy
   cases (show some (D.str g) = some y from hy)
   have hg:=hin g (List.mem_of_getElem? eg)
   refine ⟨rfl,?_⟩
   refine ⟨_,_,rfl,draw_val hb hg,_,_,rfl,named_val (k:=fun p:Str × Int=>p.1) (v:=fun p:Str × Int=>D.int p.2) ok.nd hp,?_⟩
   refine ⟨rfl,_,rfl,by rw [draw_len]; exact line_le (by omega),some (.str g),?_⟩
   rw [draw_put hg]
   have e:(drawD b fun z=>if z = g then f g + (((ov.take n).count g:Nat):Int) * p.2 + p.2 else f z + (((ov.take n).count z:Nat):Int) * p.2) = drawD b fun z=>f z + (((ov.take (n + 1)).count z:Nat):Int) * p.2:=draw_congr fun z _=>by
    rw [List.take_succ,eg,show (some g).toList = [g] from rfl,List.count_append,List.count_singleton]
    by_cases h:z = g
    ·subst h
     rw [if_pos rfl]
     simp [Int.add_mul]
     omega
    ·rw [if_neg h]
     have:(g == z) = false:=by rw [beq_eq_false_iff_ne]; exact fun w=>h w.symm
     simp [this]
   rw [e]
   rfl
 ·rintro ρ ⟨v6,rfl⟩
  rw [List.length_map,List.take_length]
  exact hT v6
theorem rdDue19 (ds:List D) (Q:D -> Prop) (h:cDue19 ds Q):tDue19 (EP Q) (startD 7 ds):=by
 obtain ⟨b,op,ps,rfl,hb,ok,q⟩:=h
 have h16:=hb.g16
 refine ⟨_,atI0 _ _,by rw [List.length_map]; exact line_le (by omega),?_⟩
 refine lc_map (f:=fun g:Gd=>.tup [.str g.nm,.int 0]) b.gs [] (fun g hg K R kk=>?_) ?_
 ·walk_at "r"
  exact kk
 rw [List.nil_append]
 refine .inl ⟨_,_,_,rfl,rfl,imms_map (f:=fun g:Gd=>.tup [.str g.nm,.int 0]) (fun g=>rfl) b.gs,pairs_map (fun g:Gd=>g.nm) (fun _:Gd=>.int 0) b.gs,by rw [List.length_map]; exact line_le (by omega),?_⟩
 rw [draw_zero hb]
 refine ⟨rfl,?_⟩
 have ek:(plD ps).map (fun kv=>kD kv.1) = ps.map fun p=>D.str p.1:=by
  unfold plD
  rw [List.map_map]; rfl
 show ForW _ _ ((plD ps).map fun kv=>kD kv.1) _ _
 rw [ek]
 refine .of ⟨fun n ρ=>∃ (v4 v5 v6:Option D),ρ = [some (bD b),some (txs op),some (.dic (plD ps)),some (.dic (drawD b (dueA b op (ps.take n)))),v4,v5,v6],⟨_,_,_,rfl⟩,?_,?_⟩
 ·rintro n y ρ hy ⟨v4,v5,v6,rfl⟩
  rw [List.getElem?_map] at hy
  cases eg:ps[n]? with
  | none=>rw [eg] at hy; cases hy
  | some p=>
   rw [eg] at hy
   cases (show some (D.str p.1) = some y from hy)
   have hp:=List.mem_of_getElem? eg
   have hx:=ok.sub p hp
   have st:∀ y,dueA b op (ps.take (n + 1)) y = dueA b op (ps.take n) y + if fedB b op p.1 then (((overS b p.1).count y:Nat):Int) * p.2 else 0:=fun y=>by
    unfold dueA
    rw [List.take_succ,eg,List.map_append,List.sum_append]
    show _ + ((if fedB b op p.1 then (((overS b p.1).count y:Nat):Int) * p.2 else 0) + 0) = _
    rw [Int.add_zero]
   refine ⟨rfl,?_⟩
   refine ⟨b,p.1,rfl,hb,hx,rfl,?_⟩
   refine ⟨by rw [List.length_map]; exact line_le (Nat.le_trans (ups_len2 _ _ _) (by decide)),?_⟩
   refine lc_filter (f:=fun g:Str=>.str g) (fun g=>decide (g ∈ op)) (overS b p.1) [] (fun g hg K R k1 k2=>?_) ?_
   ·refine ⟨rfl,rfl,_,rfl,flats_str _,?_⟩
    show Br (inD (.str g) (op.map D.str)) _ _
    rw [inD_str]
    exact ⟨fun e=>⟨rfl,k1 e⟩,fun e=>k2 e⟩
   rw [List.nil_append]
   refine ⟨_,_,rfl,rfl,flats_str _,rfl,?_⟩
   rw [due_fed]
   by_cases f:fedB b op p.1 = true
   ·refine Br.yes f ?_
    refine due_b2 hb ok hp fun v6=>?_
    have e:(drawD b fun y=>dueA b op (ps.take n) y + (((overS b p.1).count y:Nat):Int) * p.2) = drawD b (dueA b op (ps.take (n + 1))):=draw_congr fun y _=>by rw [st,if_pos f]
    rw [e]
    exact ⟨_,_,_,rfl⟩
   ·refine Br.no (Bool.eq_false_iff.mpr f) ?_
    have e:drawD b (dueA b op (ps.take n)) = drawD b (dueA b op (ps.take (n + 1))):=draw_congr fun y _=>by rw [st,if_neg f,Int.add_zero]
    rw [e]
    exact ⟨_,_,_,rfl⟩
 ·rintro ρ ⟨v4,v5,v6,rfl⟩
  rw [List.length_map,List.take_length]
  have e:drawD b (dueA b op ps) = drawD b (drawV b op (Pd (plD ps))):=draw_congr fun y _=>due_all hb ok op y
  rw [e]
  exact q
theorem rdRight19 (ds:List D) (Q:D -> Prop) (h:cRight19 ds Q):tRight19 (EP Q) (startD 3 ds):=by
 obtain ⟨b,v,rfl,hb,q⟩:=h
 refine ⟨_,_, "dict",rfl,rfl,rfl,?_⟩
 refine Br.no rfl ?_
 obtain ⟨ps,e1,e2,nd,_⟩:=eq_draw (neg:=true) (v:=v) (Q:=fun _=>True) hb trivial
 refine ⟨ps,e1,e2,nd,?_⟩
 refine Br.no rfl ?_
 show ForW _ _ ((drawD b v).map fun kv=>kD kv.1) _ _
 rw [drawD_keys]
 refine .of ⟨fun n ρ=>∃ v2,ρ = [some (.dic (drawD b v)),some (.dic (drawD b v)),v2],⟨_,rfl⟩,?_,?_⟩
 ·rintro n y ρ hy ⟨v2,rfl⟩
  rw [List.getElem?_map] at hy
  cases eg:(gns b)[n]? with
  | none=>rw [eg] at hy; cases hy
  | some x=>
   rw [eg] at hy
   cases (show some (D.str x) = some y from hy)
   have hx:=List.mem_of_getElem? eg
   refine ⟨rfl,?_⟩
   refine ⟨_,_,rfl,draw_val hb hx,?_⟩
   refine ⟨_,_, "int",rfl,rfl,rfl,?_⟩
   refine Br.no rfl ?_
   refine ⟨_,_,rfl,draw_val hb hx,?_⟩
   refine ⟨_,_, "bool",rfl,rfl,rfl,?_⟩
   refine Br.no rfl ?_
   exact ⟨_,rfl⟩
 ·rintro ρ _
  exact q
theorem plOk_pull (ps:List (Str × Int)):PullOk (plD ps):=fun kv h=>by
 obtain ⟨p,_,rfl⟩:=List.mem_map.mp h
 exact ⟨_,rfl⟩
theorem law19_5 {T:Ends3} {s:D} {cs:List Int} {a st:Int} {b:Bd} {op:List Str} {ps:List (Str × Int)} {v3:Option D} (hb:BdOk b) (ok:PlOk b ps) (hl:op.length <= 32)
  (hT:∀ v8,T.nx [some s,some (strm cs a st),some (bD b),v3,some (.dic (plD ps)),some (txs op),some (.tup [.dic (plD ps),txs op]),some (.dic (drawD b (drawV b op (Pd (plD ps))))),v8]) :
  tLaw19_b1_5 T [some s,some (strm cs a st),some (bD b),v3,some (.dic (plD ps)),some (txs op),some (.tup [.dic (plD ps),txs op]),some (.dic (drawD b (drawV b op (Pd (plD ps))))),some (.dic (drawD b (drawV b op (Pd (plD ps)))))]:=by
 have h1:=hb.g1
 have h16:=hb.g16
 refine ⟨b,_,rfl,hb,?_⟩
 refine Br.no rfl ?_
 have e:plD ps = (ps.map fun p=>((.inr p.1:Key),p.2)).map fun p=>(p.1,D.int p.2):=by
  unfold plD; rw [List.map_map]; rfl
 refine ⟨ps.map fun p=>((.inr p.1:Key),p.2),op,by rw [<- e]; rfl,by rw [<- e]; rfl,?_,?_⟩
 ·rw [List.map_map]
  exact List.Pairwise.map _ (fun a b h z=>h (Sum.inr.inj z)) (show List.Pairwise (fun a b:Str × Int=>a.1 ≠ b.1) ps from List.pairwise_map.mp ok.nd)
 refine Br.no rfl ?_
 obtain ⟨g0,gs,eg⟩:∃ g0 gs,b.gs = g0 :: gs:=by
  cases h:b.gs with
  | nil=>rw [h] at h1; exact absurd h1 (by decide)
  | cons g gs=>exact ⟨g,gs,rfl⟩
 have hg:g0.nm ∈ gns b:=List.mem_map.mpr ⟨g0,by rw [eg]; exact List.mem_cons_self,rfl⟩
 have h0:atI (b.gs.map gD) 0 = some (gD g0):=by rw [eg]; exact atI0 _ _
 refine ⟨rfl,_,atI0 _ _,_,h0,_,atI0 _ _,_,rfl,by rw [draw_len]; exact line_le (by omega),?_⟩
 rw [draw_put hg]
 refine ⟨rfl,_,rfl,by rw [draw_len]; exact line_le (by omega),?_⟩
 refine ⟨_,_,rfl,rfl,imms_txs op,?_⟩
 refine ⟨b,_,op,plD ps,rfl,hb,.inr rfl,by omega,plOk_pull ps,?_⟩
 refine ⟨b,_,rfl,hb,?_⟩
 refine Br.no rfl ?_
 exact hT _
theorem rdLaw19 (ds:List D) (Q:D -> Prop) (h:cLaw19 ds Q):tLaw19 (EP Q) (startD 9 ds):=by
 obtain ⟨d,ns,rfl,hsc,hl,q⟩:=h
 refine ⟨d,ns,rfl,hsc,fun cs hcs=>⟨rfl,?_⟩⟩
 have hs:SOk cs 0 20011:=⟨by decide,by decide,by decide,hcs⟩
 refine ⟨cs,0,20011,3,rfl,hs,by decide,by decide,fun r cs1 a1 st1 r0 r1 hs1=>?_⟩
 have hm:∃ m:Int,atI [D.int 2,.int 8,.int 16] r = some (.int m) /\ 0 < m /\ m <= 16:=by
  have h:r = 0 \/ r = 1 \/ r = 2:=by omega
  rcases h with rfl | rfl | rfl
  ·exact ⟨2,rfl,by decide,by decide⟩
  ·exact ⟨8,rfl,by decide,by decide⟩
  ·exact ⟨16,rfl,by decide,by decide⟩
 obtain ⟨m,hm,m0,m1⟩:=hm
 refine ⟨_,hm,?_⟩
 refine ⟨cs1,a1,st1,11,rfl,hs1,by decide,by decide,fun t cs2 a2 st2 t0 t1 hs2=>?_⟩
 refine ⟨cs2,a2,st2,m,t,9,9,rfl,hs2,by decide,by decide,by decide,by decide,m0,m1,t0,by omega,fun b cs3 a3 st3 hb hs3=>⟨rfl,?_⟩⟩
 have h16:=hb.g16
 have turn:∀ {T:Ends3} {cs:List Int} {a st:Int} {v3 v4 v5 v6 v7 v8:Option D},SOk cs a st -> (∀ (cs:List Int) (a st:Int) (v4 v5 v6 v7 v8:Option D),SOk cs a st -> T.nx [some d,some (strm cs a st),some (bD b),v3,v4,v5,v6,v7,v8]) -> tLaw19_b1_1 T [some d,some (strm cs a st),some (bD b),v3,v4,v5,v6,v7,v8]:=fun {T cs a st v3 v4 v5 v6 v7 v8} hs hT=>by
  refine ⟨⟨by decide,by decide,by decide⟩,cs,a,st,2,rfl,hs,by decide,by decide,fun r cs1 a1 st1 r0 r1 hs1=>?_⟩
  have hm:∃ m:Int,atI [D.int 9,.int (10 ^ Int.toNat 60)] r = some (.int m) /\ 0 < m /\ m <= 10 ^ 60:=by
   have h:r = 0 \/ r = 1:=by omega
   rcases h with rfl | rfl
   ·exact ⟨9,rfl,by decide,by decide⟩
   ·exact ⟨10 ^ Int.toNat 60,rfl,by decide,by decide⟩
  obtain ⟨m,hm,m0,m1⟩:=hm
  refine ⟨_,hm,?_⟩
  refine ⟨cs1,a1,st1,m,b,rfl,hs1,hb,m0,m1,fun ps op cs2 a2 st2 ok ho hl hs2=>?_⟩
  refine ⟨rfl,rfl,?_⟩
  refine .inr ⟨plD ps,rfl,?_,?_⟩
  ·rw [List.all_eq_true]
   intro kv hkv
   obtain ⟨p,_,rfl⟩:=List.mem_map.mp hkv
   rfl
  refine ⟨_,_,rfl,rfl,imms_txs op,rfl,?_⟩
  refine ⟨b,op,ps,rfl,hb,ok,rfl,?_⟩
  refine ⟨b,_,op,plD ps,rfl,hb,.inl rfl,by omega,plOk_pull ps,rfl,?_⟩
  exact law19_5 hb ok hl fun v8=>hT cs2 a2 st2 _ _ _ _ _ hs2
 have fin:∀ (cs:List Int) (a st:Int) (v3 v4 v5 v6 v7 v8:Option D),tLaw19_4 (EP Q) [some d,some (strm cs a st),some (bD b),v3,v4,v5,v6,v7,v8]:=fun cs a st v3 v4 v5 v6 v7 v8=>by
  refine ⟨b,_,[],[],rfl,hb,.inl rfl,by decide,(fun kv h=>nomatch h),?_⟩
  refine ⟨_,atI0 _ _,by rw [List.length_map]; exact line_le (by omega),?_⟩
  refine lc_map (f:=fun g:Gd=>.tup [.str g.nm,.int 0]) b.gs [] (fun g hg K R kk=>?_) ?_
  ·walk_at "r"
   exact kk
  rw [List.nil_append]
  refine .inl ⟨_,_,_,rfl,rfl,imms_map (f:=fun g:Gd=>.tup [.str g.nm,.int 0]) (fun g=>rfl) b.gs,pairs_map (fun g:Gd=>g.nm) (fun _:Gd=>.int 0) b.gs,by rw [List.length_map]; exact line_le (by omega),?_⟩
  rw [draw_zero hb]
  have e:drawD b (drawV b [] (Pd [])) = drawD b fun _=>0:=draw_congr fun y _=>by
   unfold drawV
   refine sum_zero _ _ fun x _=>?_
   split
   ·exact Int.mul_zero _
   ·rfl
  rw [e]
  exact ⟨b,_,rfl,hb,q⟩
 rcases hsc with rfl | rfl
 all_goals
  refine ⟨⟨by dsimp only; split <;> omega,by dsimp only; split <;> omega⟩,?_⟩
  refine .of ⟨fun i ρ=>∃ (cs:List Int) (a st:Int) (v3 v4 v5 v6 v7 v8:Option D),ρ = [some _,some (strm cs a st),some (bD b),v3,v4,v5,v6,v7,v8] /\ SOk cs a st,⟨cs3,a3,st3,none,none,none,none,none,none,rfl,hs3⟩,?_,?_⟩
  ·rintro i e ρ he ⟨cs,a,st,v3,v4,v5,v6,v7,v8,rfl,hs⟩
   refine ⟨rfl,?_⟩
   exact turn hs fun cs a st v4 v5 v6 v7 v8 hs=>⟨cs,a,st,_,v4,v5,v6,v7,v8,rfl,hs⟩
  ·rintro ρ ⟨cs,a,st,v3,v4,v5,v6,v7,v8,rfl,hs⟩
   exact fin cs a st _ _ _ _ _ _
end My
namespace My
open PySem L2 L3
noncomputable def spLaw (K:PySem.W.Frag):Sp:=fun vs H Q _=>∃ (a:Addr) (ns:List Int),vs = [.ref a] /\ SqL K H a (ns.map V.int) /\ ns.length <= 63 /\ ∀ H',Q (.bl true) H'
theorem reps_ints {K:PySem.W.Frag} {H:Hp}:∀ ns:List Int,Reps K H (ns.map V.int) (ns.map D.int) []
 | []=>.nil
 | n :: ns=>Reps.cons (A:=[]) (B:=[]) .int (reps_ints ns)
theorem law_of {K:PySem.W.Frag} (vs:List V) (H:Hp) (Q:VK) (E:XK) (h:spLaw K vs H Q E):spP K cLaw19 vs H Q E:=by
 obtain ⟨a,ns,rfl,hS,hl,k⟩:=h
 have fin:∀ (d:D) (A:List Addr),scr d ns -> Rep K H (.ref a) d A -> spP K cLaw19 [.ref a] H Q E:=fun d A hd r=>
  ⟨[d],A ++ [],fun r=>r = .bl true,.cons r .nil,⟨d,ns,rfl,hd,hl,rfl⟩,fun r v H' B e _ rv _ _=>by
   subst e
   cases rep_bl rv
   exact k H'⟩
 rcases hS with (h | ⟨o,h⟩) | h
 ·exact fin _ _ (.inr rfl) (.lst h (reps_ints ns))
 ·exact fin _ _ (.inl rfl) (.frz (.inl ⟨o,h⟩) (reps_ints ns))
 ·exact fin _ _ (.inl rfl) (.frz (.inr h) (reps_ints ns))
theorem lenFedGuards (ds:List D) (Q:D -> Prop) (h:cFedGuards ds Q):ds.length = 2:=by
 obtain ⟨_,_,_,rfl,_⟩:=h
 rfl
theorem lenDrawsFed (ds:List D) (Q:D -> Prop) (h:cDrawsFed ds Q):ds.length = 3:=by
 obtain ⟨_,_,_,rfl,_⟩:=h
 rfl
theorem lenDraws (ds:List D) (Q:D -> Prop) (h:cDraws ds Q):ds.length = 3:=by
 obtain ⟨_,_,_,_,rfl,_⟩:=h
 rfl
theorem lenStream (ds:List D) (Q:D -> Prop) (h:cStream ds Q):ds.length = 1:=by
 obtain ⟨_,_,rfl,_⟩:=h
 rfl
theorem lenTakeS (ds:List D) (Q:D -> D -> Prop) (h:cTakeS ds Q):ds.length = 2:=by
 obtain ⟨_,_,_,_,rfl,_⟩:=h
 rfl
theorem lenCurveS (ds:List D) (Q:D -> D -> Prop) (h:cCurveS ds Q):ds.length = 3:=by
 obtain ⟨_,_,_,_,_,rfl,_⟩:=h
 rfl
theorem lenNamesS (ds:List D) (Q:D -> D -> Prop) (h:cNamesS ds Q):ds.length = 2:=by
 obtain ⟨_,_,_,_,rfl,_⟩:=h
 rfl
theorem lenGuardsS (ds:List D) (Q:D -> D -> Prop) (h:cGuardsS ds Q):ds.length = 4:=by
 obtain ⟨_,_,_,_,_,_,rfl,_⟩:=h
 rfl
theorem lenLoadsS (ds:List D) (Q:D -> D -> Prop) (h:cLoadsS ds Q):ds.length = 5:=by
 obtain ⟨_,_,_,_,_,_,_,rfl,_⟩:=h
 rfl
theorem lenBoardS (ds:List D) (Q:D -> D -> Prop) (h:cBoardS ds Q):ds.length = 5:=by
 obtain ⟨_,_,_,_,_,_,_,rfl,_⟩:=h
 rfl
theorem lenOverS (ds:List D) (Q:D -> Prop) (h:cOverS ds Q):ds.length = 2:=by
 obtain ⟨_,_,rfl,_⟩:=h
 rfl
theorem lenPulls (ds:List D) (Q:D -> D -> Prop) (h:cPulls ds Q):ds.length = 3:=by
 obtain ⟨_,_,_,_,_,rfl,_⟩:=h
 rfl
theorem lenDue19 (ds:List D) (Q:D -> Prop) (h:cDue19 ds Q):ds.length = 3:=by
 obtain ⟨_,_,_,rfl,_⟩:=h
 rfl
theorem lenRight19 (ds:List D) (Q:D -> Prop) (h:cRight19 ds Q):ds.length = 2:=by
 obtain ⟨_,_,rfl,_⟩:=h
 rfl
theorem lenLaw19 (ds:List D) (Q:D -> Prop) (h:cLaw19 ds Q):ds.length = 1:=by
 obtain ⟨_,_,rfl,_⟩:=h
 rfl
theorem all_mk {l:PySem.W.OpenLaw} {w:World} {K:PySem.W.Frag} {h:Heap} {mg:Str -> Option Value} {fa f1 f2 f3 f4 f5 f6 f7 f8 f9 f10 f11 f12 f13 f14 f15:Addr} (X:K.In h) (G:h.Ns mainGlobals mg) (hfa:mg "law" = some (.ref fa))
  {od1 an1 od2 an2 od3 an3 od4 an4 od5 an5 od6 an6 od7 an7 od8 an8 od9 an9 od10 an10 od11 an11 od12 an12 od13 an13 od14 an14 od15 an15:Option Addr} {sl1 sl2 sl3 sl4 sl5 sl6 sl7 sl8 sl9 sl10 sl11 sl12 sl13 sl14 sl15:Array (Option Value)} {oc1 kV1 dc1 pm1 cd1 ct1 oc2 kV2 dc2 pm2 cd2 ct2 oc3 kV3 dc3 pm3 cd3 ct3 oc4 kV4 dc4 pm4 cd4 ct4 oc5 kV5 dc5 pm5 cd5 ct5 oc6 kV6 dc6 pm6 cd6 ct6 oc7 kV7 dc7 pm7 cd7 ct7 oc8 kV8 dc8 pm8 cd8 ct8 oc9 kV9 dc9 pm9 cd9 ct9 oc10 kV10 dc10 pm10 cd10 ct10 oc11 kV11 dc11 pm11 cd11 ct11 oc12 kV12 dc12 pm12 cd12 ct12 oc13 kV13 dc13 pm13 cd13 ct13 oc14 kV14 dc14 pm14 cd14 ct14 oc15 kV15 dc15 pm15 cd15 ct15:Value}
  (a1:PySem.W.nsIn K mainGlobals "fed_guards" = some (some (.ref f1)))
  (l1:K.lookup f1 = some ⟨oc1,od1,.func (PySem.W.fnOf "fed_guards" "fed_guards" (defArgs sFedGuards) (defBody sFedGuards) (defScope sFedGuards) .none kV1 dc1 pm1 an1 cd1 ct1),sl1⟩) (c1:PySem.W.codeIn K cd1 "fed_guards" = true) (k1:PySem.W.keepIn K (.ref f1) = true)
  (a2:PySem.W.nsIn K mainGlobals "draws_fed" = some (some (.ref f2)))
  (l2:K.lookup f2 = some ⟨oc2,od2,.func (PySem.W.fnOf "draws_fed" "draws_fed" (defArgs sDrawsFed) (defBody sDrawsFed) (defScope sDrawsFed) .none kV2 dc2 pm2 an2 cd2 ct2),sl2⟩) (c2:PySem.W.codeIn K cd2 "draws_fed" = true) (k2:PySem.W.keepIn K (.ref f2) = true)
  (a3:PySem.W.nsIn K mainGlobals "draws" = some (some (.ref f3)))
  (l3:K.lookup f3 = some ⟨oc3,od3,.func (PySem.W.fnOf "draws" "draws" (defArgs sDraws) (defBody sDraws) (defScope sDraws) .none kV3 dc3 pm3 an3 cd3 ct3),sl3⟩) (c3:PySem.W.codeIn K cd3 "draws" = true) (k3:PySem.W.keepIn K (.ref f3) = true)
  (a4:PySem.W.nsIn K mainGlobals "_law_stream" = some (some (.ref f4)))
  (l4:K.lookup f4 = some ⟨oc4,od4,.func (PySem.W.fnOf "_law_stream" "_law_stream" (defArgs sStream) (defBody sStream) (defScope sStream) .none kV4 dc4 pm4 an4 cd4 ct4),sl4⟩) (c4:PySem.W.codeIn K cd4 "_law_stream" = true) (k4:PySem.W.keepIn K (.ref f4) = true)
  (a5:PySem.W.nsIn K mainGlobals "_law_take" = some (some (.ref f5)))
  (l5:K.lookup f5 = some ⟨oc5,od5,.func (PySem.W.fnOf "_law_take" "_law_take" (defArgs sTakeS) (defBody sTakeS) (defScope sTakeS) .none kV5 dc5 pm5 an5 cd5 ct5),sl5⟩) (c5:PySem.W.codeIn K cd5 "_law_take" = true) (k5:PySem.W.keepIn K (.ref f5) = true)
  (a6:PySem.W.nsIn K mainGlobals "_law_curve" = some (some (.ref f6)))
  (l6:K.lookup f6 = some ⟨oc6,od6,.func (PySem.W.fnOf "_law_curve" "_law_curve" (defArgs sCurveS) (defBody sCurveS) (defScope sCurveS) .none kV6 dc6 pm6 an6 cd6 ct6),sl6⟩) (c6:PySem.W.codeIn K cd6 "_law_curve" = true) (k6:PySem.W.keepIn K (.ref f6) = true)
  (a7:PySem.W.nsIn K mainGlobals "_law_names" = some (some (.ref f7)))
  (l7:K.lookup f7 = some ⟨oc7,od7,.func (PySem.W.fnOf "_law_names" "_law_names" (defArgs sNamesS) (defBody sNamesS) (defScope sNamesS) .none kV7 dc7 pm7 an7 cd7 ct7),sl7⟩) (c7:PySem.W.codeIn K cd7 "_law_names" = true) (k7:PySem.W.keepIn K (.ref f7) = true)
  (a8:PySem.W.nsIn K mainGlobals "_law_guards" = some (some (.ref f8)))
  (l8:K.lookup f8 = some ⟨oc8,od8,.func (PySem.W.fnOf "_law_guards" "_law_guards" (defArgs sGuardsS) (defBody sGuardsS) (defScope sGuardsS) .none kV8 dc8 pm8 an8 cd8 ct8),sl8⟩) (c8:PySem.W.codeIn K cd8 "_law_guards" = true) (k8:PySem.W.keepIn K (.ref f8) = true)
  (a9:PySem.W.nsIn K mainGlobals "_law_loads" = some (some (.ref f9)))
  (l9:K.lookup f9 = some ⟨oc9,od9,.func (PySem.W.fnOf "_law_loads" "_law_loads" (defArgs sLoadsS) (defBody sLoadsS) (defScope sLoadsS) .none kV9 dc9 pm9 an9 cd9 ct9),sl9⟩) (c9:PySem.W.codeIn K cd9 "_law_loads" = true) (k9:PySem.W.keepIn K (.ref f9) = true)
  (a10:PySem.W.nsIn K mainGlobals "_law_board" = some (some (.ref f10)))
  (l10:K.lookup f10 = some ⟨oc10,od10,.func (PySem.W.fnOf "_law_board" "_law_board" (defArgs sBoardS) (defBody sBoardS) (defScope sBoardS) .none kV10 dc10 pm10 an10 cd10 ct10),sl10⟩) (c10:PySem.W.codeIn K cd10 "_law_board" = true) (k10:PySem.W.keepIn K (.ref f10) = true)
  (a11:PySem.W.nsIn K mainGlobals "_law_over" = some (some (.ref f11)))
  (l11:K.lookup f11 = some ⟨oc11,od11,.func (PySem.W.fnOf "_law_over" "_law_over" (defArgs sOverS) (defBody sOverS) (defScope sOverS) .none kV11 dc11 pm11 an11 cd11 ct11),sl11⟩) (c11:PySem.W.codeIn K cd11 "_law_over" = true) (k11:PySem.W.keepIn K (.ref f11) = true)
  (a12:PySem.W.nsIn K mainGlobals "_law_pulls" = some (some (.ref f12)))
  (l12:K.lookup f12 = some ⟨oc12,od12,.func (PySem.W.fnOf "_law_pulls" "_law_pulls" (defArgs sPulls) (defBody sPulls) (defScope sPulls) .none kV12 dc12 pm12 an12 cd12 ct12),sl12⟩) (c12:PySem.W.codeIn K cd12 "_law_pulls" = true) (k12:PySem.W.keepIn K (.ref f12) = true)
  (a13:PySem.W.nsIn K mainGlobals "_law_due" = some (some (.ref f13)))
  (l13:K.lookup f13 = some ⟨oc13,od13,.func (PySem.W.fnOf "_law_due" "_law_due" (defArgs sDue19) (defBody sDue19) (defScope sDue19) .none kV13 dc13 pm13 an13 cd13 ct13),sl13⟩) (c13:PySem.W.codeIn K cd13 "_law_due" = true) (k13:PySem.W.keepIn K (.ref f13) = true)
  (a14:PySem.W.nsIn K mainGlobals "_law_right" = some (some (.ref f14)))
  (l14:K.lookup f14 = some ⟨oc14,od14,.func (PySem.W.fnOf "_law_right" "_law_right" (defArgs sRight19) (defBody sRight19) (defScope sRight19) .none kV14 dc14 pm14 an14 cd14 ct14),sl14⟩) (c14:PySem.W.codeIn K cd14 "_law_right" = true) (k14:PySem.W.keepIn K (.ref f14) = true)
  (a15:PySem.W.nsIn K mainGlobals "law" = some (some (.ref f15)))
  (l15:K.lookup f15 = some ⟨oc15,od15,.func (PySem.W.fnOf "law" "law" (defArgs sLaw19) (defBody sLaw19) (defScope sLaw19) .none kV15 dc15 pm15 an15 cd15 ct15),sl15⟩) (c15:PySem.W.codeIn K cd15 "law" = true) (k15:PySem.W.keepIn K (.ref f15) = true)
  (z1:PySem.W.nsIn K mainGlobals "set" = some none)
  (z2:PySem.W.nsIn K mainGlobals "reversed" = some none)
  (z3:PySem.W.nsIn K mainGlobals "list" = some none)
  (z4:PySem.W.nsIn K mainGlobals "range" = some none)
  (z5:PySem.W.nsIn K mainGlobals "tuple" = some none)
  (z6:PySem.W.nsIn K mainGlobals "len" = some none)
  (z7:PySem.W.nsIn K mainGlobals "max" = some none)
  (z8:PySem.W.nsIn K mainGlobals "dict" = some none)
  (z9:PySem.W.nsIn K mainGlobals "bool" = some none)
  (z10:PySem.W.nsIn K mainGlobals "int" = some none)
  (z11:PySem.W.nsIn K mainGlobals "isinstance" = some none)
  (z12:PySem.W.nsIn K mainGlobals "min" = some none) :
  ∃ fd:FuncData,(∀ (s:Shared) (v:Value),BindsTo s fd ⟨[v],[]⟩ [("_law_script",v)]) /\ ∀ base:Heap,K.In base -> base.Ns mainGlobals mg -> FnOk l.prog w K mg base CX0 5 fa fd ["_law_script"] (spLaw K):=by
 have e:=hfa.symm.trans (PySem.W.mg_of X G a15)
 cases e
 have F1:=fun_mk (st:=sFedGuards) l1 c1 k1
 have b1:=F1.binds (ps:=["board", "opened"]) fun _ _ _ _ _ _ us hl=>match us,hl with | [_,_],_=>rfl
 have m1:=PySem.W.mg_of X G a1
 have F2:=fun_mk (st:=sDrawsFed) l2 c2 k2
 have b2:=F2.binds (ps:=["board", "lit", "pulls"]) fun _ _ _ _ _ _ us hl=>match us,hl with | [_,_,_],_=>rfl
 have m2:=PySem.W.mg_of X G a2
 have F3:=fun_mk (st:=sDraws) l3 c3 k3
 have b3:=F3.binds (ps:=["board", "opened", "pulls"]) fun _ _ _ _ _ _ us hl=>match us,hl with | [_,_,_],_=>rfl
 have m3:=PySem.W.mg_of X G a3
 have F4:=fun_mk (st:=sStream) l4 c4 k4
 have b4:=F4.binds (ps:=["_law_script"]) fun _ _ _ _ _ _ us hl=>match us,hl with | [_],_=>rfl
 have m4:=PySem.W.mg_of X G a4
 have F5:=fun_mk (st:=sTakeS) l5 c5 k5
 have b5:=F5.binds (ps:=["_law_stream_here", "_law_many"]) fun _ _ _ _ _ _ us hl=>match us,hl with | [_,_],_=>rfl
 have m5:=PySem.W.mg_of X G a5
 have F6:=fun_mk (st:=sCurveS) l6 c6 k6
 have b6:=F6.binds (ps:=["_law_stream_here", "_law_far", "_law_long"]) fun _ _ _ _ _ _ us hl=>match us,hl with | [_,_,_],_=>rfl
 have m6:=PySem.W.mg_of X G a6
 have F7:=fun_mk (st:=sNamesS) l7 c7 k7
 have b7:=F7.binds (ps:=["_law_stream_here", "_law_many"]) fun _ _ _ _ _ _ us hl=>match us,hl with | [_,_],_=>rfl
 have m7:=PySem.W.mg_of X G a7
 have F8:=fun_mk (st:=sGuardsS) l8 c8 k8
 have b8:=F8.binds (ps:=["_law_stream_here", "_law_names_here", "_law_far", "_law_long"]) fun _ _ _ _ _ _ us hl=>match us,hl with | [_,_,_,_],_=>rfl
 have m8:=PySem.W.mg_of X G a8
 have F9:=fun_mk (st:=sLoadsS) l9 c9 k9
 have b9:=F9.binds (ps:=["_law_stream_here", "_law_names_here", "_law_guards_here", "_law_far", "_law_long"]) fun _ _ _ _ _ _ us hl=>match us,hl with | [_,_,_,_,_],_=>rfl
 have m9:=PySem.W.mg_of X G a9
 have F10:=fun_mk (st:=sBoardS) l10 c10 k10
 have b10:=F10.binds (ps:=["_law_stream_here", "_law_most", "_law_many", "_law_far", "_law_long"]) fun _ _ _ _ _ _ us hl=>match us,hl with | [_,_,_,_,_],_=>rfl
 have m10:=PySem.W.mg_of X G a10
 have F11:=fun_mk (st:=sOverS) l11 c11 k11
 have b11:=F11.binds (ps:=["_law_board_here", "_law_place"]) fun _ _ _ _ _ _ us hl=>match us,hl with | [_,_],_=>rfl
 have m11:=PySem.W.mg_of X G a11
 have F12:=fun_mk (st:=sPulls) l12 c12 k12
 have b12:=F12.binds (ps:=["_law_stream_here", "_law_board_here", "_law_far"]) fun _ _ _ _ _ _ us hl=>match us,hl with | [_,_,_],_=>rfl
 have m12:=PySem.W.mg_of X G a12
 have F13:=fun_mk (st:=sDue19) l13 c13 k13
 have b13:=F13.binds (ps:=["_law_board_here", "_law_opened", "_law_pulls_here"]) fun _ _ _ _ _ _ us hl=>match us,hl with | [_,_,_],_=>rfl
 have m13:=PySem.W.mg_of X G a13
 have F14:=fun_mk (st:=sRight19) l14 c14 k14
 have b14:=F14.binds (ps:=["_law_found", "_law_due_here"]) fun _ _ _ _ _ _ us hl=>match us,hl with | [_,_],_=>rfl
 have m14:=PySem.W.mg_of X G a14
 have F15:=fun_mk (st:=sLaw19) l15 c15 k15
 have q1:=PySem.W.mg_none_of X G z1
 have q2:=PySem.W.mg_none_of X G z2
 have q3:=PySem.W.mg_none_of X G z3
 have q4:=PySem.W.mg_none_of X G z4
 have q5:=PySem.W.mg_none_of X G z5
 have q6:=PySem.W.mg_none_of X G z6
 have q7:=PySem.W.mg_none_of X G z7
 have q8:=PySem.W.mg_none_of X G z8
 have q9:=PySem.W.mg_none_of X G z9
 have q10:=PySem.W.mg_none_of X G z10
 have q11:=PySem.W.mg_none_of X G z11
 have q12:=PySem.W.mg_none_of X G z12
 refine ⟨PySem.W.fnOf "law" "law" (defArgs sLaw19) (defBody sLaw19) (defScope sLaw19) .none kV15 dc15 pm15 an15 cd15 ct15,fun s v=>.of_eq rfl,fun base KB GB=>?_⟩
 have CFedGuards:Cle l.prog w K mg base "fed_guards" 1 ["board", "opened"] (spP K cFedGuards) f1 _:=⟨okFedGuards F1  q1   lenFedGuards rdFedGuards,m1,k1,b1⟩
 have CDrawsFed:Cle l.prog w K mg base "draws_fed" 1 ["board", "lit", "pulls"] (spP K cDrawsFed) f2 _:=⟨okDrawsFed F2  q2   lenDrawsFed rdDrawsFed,m2,k2,b2⟩
 have CDraws:Cle l.prog w K mg base "draws" 2 ["board", "opened", "pulls"] (spP K cDraws) f3 _:=⟨okDraws F3 CFedGuards CDrawsFed    lenDraws rdDraws,m3,k3,b3⟩
 have CStream:Cle l.prog w K mg base "_law_stream" 1 ["_law_script"] (spP K cStream) f4 _:=⟨okStream F4  q3   lenStream rdStream,m4,k4,b4⟩
 have CTakeS:Cle l.prog w K mg base "_law_take" 1 ["_law_stream_here", "_law_many"] (spM K cTakeS) f5 _:=⟨okTakeS F5     lenTakeS rdTakeS,m5,k5,b5⟩
 have CCurveS:Cle l.prog w K mg base "_law_curve" 2 ["_law_stream_here", "_law_far", "_law_long"] (spM K cCurveS) f6 _:=⟨okCurveS F6 CTakeS q4 q5   lenCurveS rdCurveS,m6,k6,b6⟩
 have CNamesS:Cle l.prog w K mg base "_law_names" 2 ["_law_stream_here", "_law_many"] (spM K cNamesS) f7 _:=⟨okNamesS F7 CTakeS q4   lenNamesS rdNamesS,m7,k7,b7⟩
 have CGuardsS:Cle l.prog w K mg base "_law_guards" 3 ["_law_stream_here", "_law_names_here", "_law_far", "_law_long"] (spM K cGuardsS) f8 _:=⟨okGuardsS F8 CTakeS CCurveS q6 q7 q4 q5   lenGuardsS rdGuardsS,m8,k8,b8⟩
 have CLoadsS:Cle l.prog w K mg base "_law_loads" 2 ["_law_stream_here", "_law_names_here", "_law_guards_here", "_law_far", "_law_long"] (spM K cLoadsS) f9 _:=⟨okLoadsS F9 CTakeS q6 q4 q5   lenLoadsS rdLoadsS,m9,k9,b9⟩
 have CBoardS:Cle l.prog w K mg base "_law_board" 4 ["_law_stream_here", "_law_most", "_law_many", "_law_far", "_law_long"] (spM K cBoardS) f10 _:=⟨okBoardS F10 CTakeS CNamesS CGuardsS CLoadsS    lenBoardS rdBoardS,m10,k10,b10⟩
 have COverS:Cle l.prog w K mg base "_law_over" 1 ["_law_board_here", "_law_place"] (spP K cOverS) f11 _:=⟨okOverS F11  q8   lenOverS rdOverS,m11,k11,b11⟩
 have CPulls:Cle l.prog w K mg base "_law_pulls" 2 ["_law_stream_here", "_law_board_here", "_law_far"] (spM K cPulls) f12 _:=⟨okPulls F12 CTakeS    lenPulls rdPulls,m12,k12,b12⟩
 have CDue19:Cle l.prog w K mg base "_law_due" 2 ["_law_board_here", "_law_opened", "_law_pulls_here"] (spP K cDue19) f13 _:=⟨okDue19 F13 COverS q8   lenDue19 rdDue19,m13,k13,b13⟩
 have CRight19:Cle l.prog w K mg base "_law_right" 1 ["_law_found", "_law_due_here"] (spP K cRight19) f14 _:=⟨okRight19 F14  q9 q8 q10 q11   lenRight19 rdRight19,m14,k14,b14⟩
 exact (okLaw19 F15 CDraws CStream CTakeS CBoardS CPulls CDue19 CRight19 q8 q6 q3 q12 q4 q5   lenLaw19 rdLaw19).imp law_of
theorem walk {l:PySem.W.OpenLaw} {q:Program} {loose:List Str} {XP:(Str -> Option Value) -> Heap -> Prop} {YP:World -> Heap -> Prop} {d:DefRec} {K:Params -> PySem.W.Frag} (hn:l.most = some 63) (hdf:d.params.defaults = [])
  (hY:∀ (w:World) (h:Heap),YP w h -> (K w.params).In h)
  (F:∀ (w:World) (mg:Str -> Option Value) (fa:Addr) (h:Heap),(K w.params).In h -> h.Ns mainGlobals mg -> mg d.name = some (.ref fa) ->
   ∃ fd:FuncData,(∀ (s:Shared) (u:Value),BindsTo s fd ⟨[u],[]⟩ [("_law_script",u)]) /\ ∀ base:Heap,(K w.params).In base -> base.Ns mainGlobals mg -> FnOk l.prog w (K w.params) mg base CX0 5 fa fd ["_law_script"] (spLaw (K w.params))) :
  PySem.W.WalkO q loose XP YP l.row.toRowW d [] (fun f vs=>PySem.call f vs):=
 L2.walk_of (n:=63) (k:=5) (x := "_law_script") (CX:=fun _=>CX0) (sp:=fun w=>spLaw (K w.params)) hn (by decide) hdf ⟨rfl,by decide,by decide,rfl⟩ hY F (fun _ _ a ns hl _ hS=>⟨a,ns,rfl,hS,hl,fun _=>rfl⟩) fun _ _ _ _ _ z=>z
end My
open PySem PySem.W PyProof.Rows
set_option maxRecDepth 100000 in
set_option maxHeartbeats 0 in
theorem PySem.Challenge.cw_fuseboard_k19_draws_summed_holds : PySem.Challenge.rw_fuseboard_k19_draws_summed.Holds := by
 w_on; o_law; k_head; (case hw=>w_witness2)
 k_fill
 refine My.walk (l:=PySem.Challenge.rw_fuseboard_k19_draws_summed) rfl rfl (fun w h Y=>PySem.W.kIn_of Y) ?F
 case F=>
  intro w mg fa h KX G hmg
  refine' My.all_mk KX G hmg ?a1 ?l1 ?c1 ?k1 ?a2 ?l2 ?c2 ?k2 ?a3 ?l3 ?c3 ?k3 ?a4 ?l4 ?c4 ?k4 ?a5 ?l5 ?c5 ?k5 ?a6 ?l6 ?c6 ?k6 ?a7 ?l7 ?c7 ?k7 ?a8 ?l8 ?c8 ?k8 ?a9 ?l9 ?c9 ?k9 ?a10 ?l10 ?c10 ?k10 ?a11 ?l11 ?c11 ?k11 ?a12 ?l12 ?c12 ?k12 ?a13 ?l13 ?c13 ?k13 ?a14 ?l14 ?c14 ?k14 ?a15 ?l15 ?c15 ?k15 ?z1 ?z2 ?z3 ?z4 ?z5 ?z6 ?z7 ?z8 ?z9 ?z10 ?z11 ?z12
  (case a1=>k_is)
  (case l1=>k_is)
  (case c1=>k_is)
  (case k1=>k_is)
  (case a2=>k_is)
  (case l2=>k_is)
  (case c2=>k_is)
  (case k2=>k_is)
  (case a3=>k_is)
  (case l3=>k_is)
  (case c3=>k_is)
  (case k3=>k_is)
  (case a4=>k_is)
  (case l4=>k_is)
  (case c4=>k_is)
  (case k4=>k_is)
  (case a5=>k_is)
  (case l5=>k_is)
  (case c5=>k_is)
  (case k5=>k_is)
  (case a6=>k_is)
  (case l6=>k_is)
  (case c6=>k_is)
  (case k6=>k_is)
  (case a7=>k_is)
  (case l7=>k_is)
  (case c7=>k_is)
  (case k7=>k_is)
  (case a8=>k_is)
  (case l8=>k_is)
  (case c8=>k_is)
  (case k8=>k_is)
  (case a9=>k_is)
  (case l9=>k_is)
  (case c9=>k_is)
  (case k9=>k_is)
  (case a10=>k_is)
  (case l10=>k_is)
  (case c10=>k_is)
  (case k10=>k_is)
  (case a11=>k_is)
  (case l11=>k_is)
  (case c11=>k_is)
  (case k11=>k_is)
  (case a12=>k_is)
  (case l12=>k_is)
  (case c12=>k_is)
  (case k12=>k_is)
  (case a13=>k_is)
  (case l13=>k_is)
  (case c13=>k_is)
  (case k13=>k_is)
  (case a14=>k_is)
  (case l14=>k_is)
  (case c14=>k_is)
  (case k14=>k_is)
  (case a15=>k_is)
  (case l15=>k_is)
  (case c15=>k_is)
  (case k15=>k_is)
  (case z1=>k_is)
  (case z2=>k_is)
  (case z3=>k_is)
  (case z4=>k_is)
  (case z5=>k_is)
  (case z6=>k_is)
  (case z7=>k_is)
  (case z8=>k_is)
  (case z9=>k_is)
  (case z10=>k_is)
  (case z11=>k_is)
  (case z12=>k_is)
#print axioms PySem.Challenge.cw_fuseboard_k19_draws_summed_holds
