import PyProof.Rows.All
import Wide.All
import OpenK.AllK
import Wide.FinOn
import Lean
import PyProof.EqAt
import PyProof.EqKinds
import PyProof.TupleCall
import KE.KDictOf
import KE.KDictSum
import KE.KIntText
import KE.KLam
import KE.KNestM
import KE.KPairComp
import KE.KSortKey
import KE.KSortTup
import KE.LcSums
import PyProof.AttrMissHeap
import PyProof.Conv_int_bool
import PyProof.Draws
import PyProof.EnumFor
import PyProof.EnumMake
import PyProof.EnumStmt
import PyProof.FactsAll.list_1
import PyProof.ListStr
import PyProof.NeKinds
import PyProof.ReprLen
import PyProof.ReprRoads
import PyProof.Rows.EnumRows
import PyProof.Rows.SetFrom
import PyProof.Rows.SortRev
import PyProof.Rows.StrBin
import PyProof.Rows.TupAdd
import PyProof.StrBlockG
import PyProof.StrBlockI
import PyProof.StrLawsChain
import PyProof.StrLawsIn
import PyProof.StrLawsRepr
import PyProof.StrLawsTight
import PyProof.StrWalks
import PyProof.WalksMore
import PyProof.ZipIter
import PySem.Challenge.RW_cheaptree_k21_ways
set_option compiler.extract_closed false
set_option Elab.async false
set_option linter.all false
set_option maxRecDepth 100000
theorem Z0 (h:0=0:=by first | exact .inl rfl | exact .inr rfl | assumption):True:=trivial
theorem Z1 (h:0=0:=by decide):True:=trivial
theorem Z2 (h:0=0:=by rfl):True:=trivial
theorem Z3 (h:0=0:=by intro _; rfl):True:=trivial
theorem Z4 (h:0=0:=by first | exact Or.inl rfl | exact Or.inr (Or.inl rfl) | exact Or.inr (Or.inr rfl)):True:=trivial
theorem Z5 (h:0=0:=by simp):True:=trivial
theorem Z6 (h:0=0:=by exact fun _ _=>rfl):True:=trivial
namespace L2
open PySem PySem.Spec PyProof.Rows
noncomputable abbrev Key:=Sum Int Str
noncomputable def keyIs:Key->Value->Bool
 | .inl k,v=>Value.isInt k v
 | .inr x,v=>Value.isStrOf x v
noncomputable def keyH (w:World):Key->Int
 | .inl k=>hashInt k
 | .inr x=>hashStr w x
theorem aX:∀ {k:Key} {v:Value},keyIs k v=true->(∃ i t,k=Sum.inl i/\v=Value.int i t)\/(∃ x t,k=Sum.inr x/\v=Value.str x t)
 | .inl i,v,h=>by
  obtain ⟨t,e⟩:=Value.isInt_shape (k:=i) (v:=v) h
  exact .inl ⟨i,t,rfl,e⟩
 | .inr x,v,h=>by
  obtain ⟨t,e⟩:=Value.isStrOf_shape (x:=x) (v:=v) h
  exact .inr ⟨x,t,rfl,e⟩
theorem qA (i:Int) (t:Tok):keyIs (.inl i) (.int i t)=true:=by simp [keyIs,Value.isInt]
theorem qz (x:Str) (t:Tok):keyIs (.inr x) (.str x t)=true:=by simp [keyIs,Value.isStrOf]
theorem vE (a b:Int):decide ((Sum.inl a:Key)=Sum.inl b)=(a==b):=by
 by_cases e:a=b
 ·subst e; simp
 ·have h:¬ (Sum.inl a:Key)=Sum.inl b:=fun q=>e (Sum.inl.inj q)
  rw [decide_eq_false h]
  exact (beq_eq_false_iff_ne.mpr e).symm
theorem vA (a b:Str):decide ((Sum.inr a:Key)=Sum.inr b)=decide (a=b):=by
 by_cases e:a=b
 ·subst e; simp
 ·have h:¬ (Sum.inr a:Key)=Sum.inr b:=fun q=>e (Sum.inr.inj q)
  rw [decide_eq_false h,decide_eq_false e]
theorem vD (a:Int) (b:Str):decide ((Sum.inl a:Key)=Sum.inr b)=false:=decide_eq_false (fun q=>nomatch q)
theorem vB (a:Str) (b:Int):decide ((Sum.inr a:Key)=Sum.inl b)=false:=decide_eq_false (fun q=>nomatch q)
noncomputable def aI (prog:Program) (w:World):PySem.KeyKind prog w Key where
 is:=keyIs
 hash:=keyH w
 inj:=fun v a b ha hb=>by
  rcases aX ha with ⟨i,t,rfl,rfl⟩ | ⟨x,t,rfl,rfl⟩
  ·rcases aX hb with ⟨j,u,rfl,e⟩ | ⟨y,u,rfl,e⟩
   ·injection e with e1 _; rw [e1]
   ·exact nomatch e
  ·rcases aX hb with ⟨j,u,rfl,e⟩ | ⟨y,u,rfl,e⟩
   ·exact nomatch e
   ·injection e with e1 _; rw [e1]
 byValue:=fun k v h=>by
  rcases aX h with ⟨i,t,rfl,rfl⟩ | ⟨x,t,rfl,rfl⟩ <;> rfl
 pyHash:=fun hv h=>by
  rcases aX hv with ⟨i,t,rfl,rfl⟩ | ⟨x,t,rfl,rfl⟩
  ·exact wpAny_pyHash_int h
  ·exact wpAny_pyHash_str h
 eqBool:=fun hu hv h=>by
  rcases aX hu with ⟨i,t,rfl,rfl⟩ | ⟨x,t,rfl,rfl⟩
  ·rcases aX hv with ⟨j,u,rfl,rfl⟩ | ⟨y,u,rfl,rfl⟩
   ·rw [vE] at h; exact wpAny_eqBool_int h
   ·rw [vD] at h; exact SeqAt.EqAt.int_str i t y u _ _ _ _ h
  ·rcases aX hv with ⟨j,u,rfl,rfl⟩ | ⟨y,u,rfl,rfl⟩
   ·rw [vB] at h; exact SeqAt.EqAt.str_int x t j u _ _ _ _ h
   ·rw [vA] at h; exact wpAny_eqBool_str h
 «strs»:=fun k x t v h=>by
  rcases aX h with ⟨i,u,rfl,e⟩ | ⟨y,u,rfl,e⟩
  ·exact nomatch e
  ·injection e with e1 _
   subst e1
   cases v <;> rfl
theorem m9 (prog:Program) (w:World) (i:Int) (t:Tok):(aI prog w).is (.inl i) (.int i t)=true:=qA i t
theorem hV (prog:Program) (w:World) (x:Str) (t:Tok):(aI prog w).is (.inr x) (.str x t)=true:=qz x t
end L2
namespace L2
open PySem PySem.Spec PyProof.Rows
inductive V where
 | non | bl (b:Bool) | int (i:Int) | str (x:Str) | byt (b:Array UInt8) | flt (b:UInt64) | ref (a:Addr) | ty (n:String)
 deriving DecidableEq
noncomputable def RelV:V->Value->Prop
 | .non,u=>u=Value.none
 | .bl b,u=>u=Value.bool b
 | .int i,u=>∃ t,u=Value.int i t
 | .str x,u=>∃ t,u=Value.str x t
 | .byt b,u=>∃ t,u=Value.bytes b t
 | .flt b,u=>∃ t,u=Value.float b t
 | .ref a,u=>u=Value.ref a
 | .ty n,u=>u=Value.type n
noncomputable abbrev Vals:List V->List Value->Prop:=Paired RelV
theorem Vals.length {xs:List V} {us:List Value} (r:Vals xs us):xs.length=us.length:=Paired.length r
theorem Vals.get:∀ {xs:List V} {us:List Value} {i:Nat} {x:V},Vals xs us->xs[i]?=some x->∃ u,us[i]?=some u/\RelV x u
 | _,_,_,_,.nil,e=>by simp at e
 | _,_,0,_,.cons r _,e=>by simp at e; subst e; exact ⟨_,rfl,r⟩
 | _,_,i+1,x,.cons _ t,e=>by
  obtain ⟨u,h1,h2⟩:=Vals.get (i:=i) (x:=x) t (by simpa using e)
  exact ⟨u,by simpa using h1,h2⟩
theorem Vals.set {x:V} {u:Value} (r:RelV x u):∀ {xs:List V} {us:List Value} (i:Nat),Vals xs us->Vals (xs.set i x) (us.set i u)
 | _,_,_,.nil=>.nil
 | _,_,0,.cons _ t=>.cons r t
 | _,_,i+1,.cons q t=>.cons q (Vals.set r i t)
theorem Vals.append:∀ {xs ys:List V} {us ws:List Value},Vals xs us->Vals ys ws->Vals (xs++ys) (us++ws)
 | _,_,_,_,.nil,s=>s
 | _,_,_,_,.cons r t,s=>.cons r (Vals.append t s)
theorem Vals.take:∀ {xs:List V} {us:List Value} (n:Nat),Vals xs us->Vals (xs.take n) (us.take n)
 | _,_,0,_=>.nil
 | _,_,_+1,.nil=>.nil
 | _,_,n+1,.cons r t=>.cons r (Vals.take n t)
theorem Vals.drop:∀ {xs:List V} {us:List Value} (n:Nat),Vals xs us->Vals (xs.drop n) (us.drop n)
 | _,_,0,r=>r
 | _,_,_+1,.nil=>.nil
 | _,_,n+1,.cons _ t=>Vals.drop n t
noncomputable def RelO:Option V->Option Value->Prop
 | some v,some u=>RelV v u
 | none,none=>True
 | _,_=>False
noncomputable def KV {κ:Type}:List (κ×V)->List (κ×Value)->Prop:=Paired fun (p:κ×V) (q:κ×Value)=>p.1=q.1/\RelV p.2 q.2
noncomputable def kV:Key->V
 | .inl i=>.int i
 | .inr x=>.str x
inductive HO where
 | lst (xs:List V)
 | tup (xs:List V)
 | dK (kvs:List (Key×V)) | dT (kvs:List (List Key×V))
 | set (S:Int->Bool) (n:Nat)
 | ins (C dx:Addr) (fs:List (Str×V))
 | own (x:Addr)
 | xd (fs:List (Str×V))
 | met (f x:Addr)
 | rng (lo hi:Int)
 | frz (o:Obj) (u:HO)
 | tbl (ps:Array Value)
 | ext (φ:Heap->Prop)
noncomputable abbrev Hp:=Addr->Option HO
noncomputable def upd (H:Hp) (a:Addr) (o:HO):Hp:=fun b=>if b=a then some o else H b
theorem am {H:Hp} {a:Addr} {o:HO}:upd H a o a=some o:=by unfold upd; rw [if_pos rfl]
theorem ah {H:Hp} {a b:Addr} {o:HO} (h:b≠a):upd H a o b=H b:=by unfold upd; rw [if_neg h]
theorem tj {H:Hp} {a:Addr} {o u:HO}:upd (upd H a o) a u=upd H a u:=by
 funext b; unfold upd; split <;> rfl
theorem sU {H:Hp} {a b:Addr} {o u:HO} (h:H a=some o) (h':H b=some u) (d:o≠u):a≠b:=by
 intro e; subst e; rw [h] at h'; exact d (Option.some.inj h')
theorem ay {H:Hp} {a b:Addr} {o:HO} (h:H a=some o) (h':H b=none):a≠b:=by
 intro e; subst e; rw [h] at h'; cases h'
section
variable (P:Program) (w:World)
noncomputable def ObjOk (H:Hp) (h:Heap) (a:Addr):HO->Prop
 | .lst xs=>xs.length<=sizeLine/\∃ (its:List Value) (n:Nat),Vals xs its/\h.get? a=some { cls:=.type "list",data:=.seq its.toArray n }
 | .tup xs=>xs.length<=sizeLine/\∃ its:List Value,Vals xs its/\IsTup h a its.toArray
 | .dK kvs=>kvs.length<=sizeLine/\(a==sysModules)=false/\∃ vs,KV kvs vs/\h.DictOf (aI P w) a vs
 | .dT kvs=>kvs.length<=sizeLine/\(a==sysModules)=false/\∃ xs:List (List Key×Addr×Value),
   Paired (fun (p:List Key×V) (q:List Key×Addr×Value)=>p.1=q.1/\H q.2.1=some (.tup (p.1.map kV))/\RelV p.2 q.2.2) kvs xs /\
   ∃ o es ep,h.get? a=some o/\o.ExactDict/\o.data=.dict es ep/\es.toList=xs.map (entryOfKey (tupleKind (aI P w)))/\(xs.map (·.1)).Nodup
 | .set S n=>h.SetOf (intKind P w) a S n
 | .ins C dx fs=>H dx=some (.own a)/\fs.length<=1000/\dx≠a/\h.get? a=some (PySem.W.instObj C dx) /\
   ∃ mA,h.Ns1 dx mA/\(∀ f,RelO (fs.lookup f) (mA f))/\PySem.Within mA (fs.map (·.1))
 | .own _=>∃ o,h.get? a=some o
 | .xd fs=>∃ mA,h.Ns1 a mA/\∀ f,RelO (fs.lookup f) (mA f)
 | .rng lo hi=>∃ t u v,h.get? a=some { cls:=.type "range",data:=.fields #[.int lo t,.int hi u,.int 1 v] }
 | .frz o u=>h.get? a=some o/\ObjOk H h a u
 | .tbl ps=>h.get? a=some { cls:=.none,data:=.fields ps }
 | .met f x=>h.get? a=some (PySem.W.methodObj (.ref f) (.ref x))
 | .ext φ=>φ h/\(∃ o,h.get? a=some o)/\∀ h1 h2:Heap,φ h1->(∀ o,h1.get? a=some o->h2.get? a=some o)->φ h2
noncomputable def HOk (H:Hp) (h:Heap):Prop:=∀ a o,H a=some o->ObjOk P w H h a o
end
section
variable {P:Program} {w:World} {H H':Hp} {h h':Heap} {a:Addr} {o:HO}
theorem ObjOk.lt (x:ObjOk P w H h a o):a<h.objs.size:=by
 cases o with
 | lst xs=>obtain ⟨_,_,_,_,e⟩:=x; exact Heap.lt_size e
 | tup xs=>obtain ⟨_,_,_,p⟩:=x; exact p.lt
 | dK kvs=>obtain ⟨_,_,_,_,o,_,_,e,_⟩:=x; exact Heap.lt_size e
 | dT kvs=>obtain ⟨_,_,_,_,o,_,_,e,_⟩:=x; exact Heap.lt_size e
 | set S n=>obtain ⟨o,_,_,_,e,_⟩:=x; exact Heap.lt_size e
 | ins C dx fs=>obtain ⟨_,_,_,e,_⟩:=x; exact Heap.lt_size e
 | own y=>obtain ⟨_,e⟩:=x; exact Heap.lt_size e
 | xd fs=>obtain ⟨_,⟨_,_,_,e,_⟩,_⟩:=x; exact Heap.lt_size e
 | rng lo hi=>obtain ⟨_,_,_,e⟩:=x; exact Heap.lt_size e
 | frz ob u=>obtain ⟨e,_⟩:=x; exact Heap.lt_size e
 | tbl ps=>exact Heap.lt_size (show h.get? a=some _ from x)
 | met f y=>exact Heap.lt_size (show h.get? a=some _ from x)
 | ext φ=>obtain ⟨_,⟨_,e⟩,_⟩:=x; exact Heap.lt_size e
theorem Paired.mapP {α β:Type} {F G:α->β->Prop}:∀ {l₁:List α} {l₂:List β},Paired F l₁ l₂->(∀ a b,F a b->G a b)->Paired G l₁ l₂
 | _,_,.nil,_=>.nil
 | _,_,.cons r t,f=>.cons (f _ _ r) (Paired.mapP t f)
theorem ObjOk.stay (x:ObjOk P w H h a o) (k:∀ b u,(b=a\/H b=some (.own a))->h.get? b=some u->h'.get? b=some u)
  (ho:∀ b,H b=some (.own a)->H' b=some (.own a)) (ht:∀ b xs,H b=some (.tup xs)->H' b=some (.tup xs)):ObjOk P w H' h' a o:=by
 induction o with
 | lst xs=>obtain ⟨z,its,n,r,e⟩:=x; exact ⟨z,its,n,r,k _ _ (.inl rfl) e⟩
 | tup xs=>obtain ⟨z,its,r,ob,e,c⟩:=x; exact ⟨z,its,r,ob,k _ _ (.inl rfl) e,c⟩
 | dK kvs=>obtain ⟨z,y,vs,r,ob,es,ep,e,c⟩:=x; exact ⟨z,y,vs,r,ob,es,ep,k _ _ (.inl rfl) e,c⟩
 | dT kvs =>
  obtain ⟨z,y,xs,r,ob,es,ep,e,c⟩:=x
  exact ⟨z,y,xs,Paired.mapP r fun p q z=>⟨z.1,ht _ _ z.2.1,z.2.2⟩,ob,es,ep,k _ _ (.inl rfl) e,c⟩
 | set S n=>obtain ⟨ob,es,ep,t,e,c⟩:=x; exact ⟨ob,es,ep,t,k _ _ (.inl rfl) e,c⟩
 | ins C dx fs =>
  obtain ⟨d,z,ne,e,mA,⟨od,es,ep,e2,c⟩,r⟩:=x
  exact ⟨ho _ d,z,ne,k _ _ (.inl rfl) e,mA,⟨od,es,ep,k _ _ (.inr d) e2,c⟩,r⟩
 | own y=>obtain ⟨ob,e⟩:=x; exact ⟨ob,k _ _ (.inl rfl) e⟩
 | xd fs=>obtain ⟨mA,⟨od,es,ep,e,c⟩,r⟩:=x; exact ⟨mA,⟨od,es,ep,k _ _ (.inl rfl) e,c⟩,r⟩
 | rng lo hi=>obtain ⟨t,u,v,e⟩:=x; exact ⟨t,u,v,k _ _ (.inl rfl) e⟩
 | frz ob u ih=>obtain ⟨e,q⟩:=x; exact ⟨k _ _ (.inl rfl) e,ih q⟩
 | tbl ps =>
  have e:h.get? a=some { cls:=.none,data:=.fields ps }:=x
  show h'.get? a=some { cls:=.none,data:=.fields ps }
  exact k a _ (.inl rfl) e
 | met f y =>
  have e:h.get? a=some (PySem.W.methodObj (.ref f) (.ref y)):=x
  show h'.get? a=some (PySem.W.methodObj (.ref f) (.ref y))
  exact k a _ (.inl rfl) e
 | ext φ=>obtain ⟨p,⟨o,e⟩,st⟩:=x; exact ⟨st _ _ p fun o q=>k _ _ (.inl rfl) q,⟨o,k _ _ (.inl rfl) e⟩,st⟩
theorem HOk.lt (x:HOk P w H h) (e:H a=some o):a<h.objs.size:=(x a o e).lt
theorem HOk.fresh (x:HOk P w H h) (e:h.objs.size<=a):H a=none:=by
 cases q:H a with
 | none=>rfl
 | some u=>exact absurd (Nat.lt_of_lt_of_le (x.lt q) e) (Nat.lt_irrefl _)
theorem HOk.kept (x:HOk P w H h) (k:∀ b u,h.get? b=some u->h'.get? b=some u):HOk P w H h':=fun a o e =>
 (x a o e).stay (fun b u _ q=>k b u q) (fun _ q=>q) fun _ _ q=>q
theorem HOk.laid (x:HOk P w H h) (k:∀ b u,h.get? b=some u->h'.get? b=some u) (hp:h.objs.size<=a) (new:ObjOk P w (upd H a o) h' a o):HOk P w (upd H a o) h':=fun b u e=>by
 have hn:=x.fresh hp
 by_cases hb:b=a
 ·subst hb; rw [am] at e; cases e; exact new
 ·rw [ah hb] at e
  exact (x b u e).stay (fun c v _ q=>k c v q) (fun c q=>by rw [ah (ay q hn)]; exact q) fun c xs q=>by rw [ah (ay q hn)]; exact q
end
noncomputable def Rd (H:Hp) (a:Addr) (u:HO):Prop:=H a=some u\/∃ o,H a=some (.frz o u)
theorem Rd.ok {P:Program} {w:World} {H:Hp} {h:Heap} {a:Addr} {u:HO} (r:Rd H a u) (x:HOk P w H h):ObjOk P w H h a u:=by
 rcases r with r | ⟨o,r⟩
 ·exact x a u r
 ·obtain ⟨_,q⟩:=x a _ r
  exact q
noncomputable def Mut:Option HO->Prop
 | some (.lst _)=>True
 | some (.dK _)=>True
 | some (.dT _)=>True
 | some (.set _ _)=>True
 | some (.ins _ _ _)=>True
 | some (.ext _)=>True
 | _=>False
section
variable {P:Program} {w:World} {H:Hp} {h h':Heap} {x e:Addr} {o':HO}
theorem HOk.write (ok:HOk P w H h) (mu:Mut (H x)) (he:e=x\/H e=some (.own x)) (k:∀ b u,b≠e->h.get? b=some u->h'.get? b=some u) (heo:∃ u,h'.get? e=some u)
  (new:ObjOk P w (upd H x o') h' x o'):HOk P w (upd H x o') h':=fun b u q=>by
 have nown:∀ c y,H c=some (.own y)->c≠x:=fun c y r z=>by subst z; rw [r] at mu; exact mu
 have ntup:∀ c xs,H c=some (.tup xs)->c≠x:=fun c xs r z=>by subst z; rw [r] at mu; exact mu
 by_cases hb:b=x
 ·subst hb; rw [am] at q; cases q; exact new
 ·rw [ah hb] at q
  by_cases hbe:b=e
  ·have q':H b=some (.own x):=by
    rcases he with z | z
    ·exact absurd (hbe.trans z) hb
    ·rw [hbe]; exact z
   rw [q] at q'; cases q'
   obtain ⟨v,hv⟩:=heo
   exact ⟨v,by rw [hbe]; exact hv⟩
  ·refine (ok b u q).stay (fun c v hc r=>k c v ?_ r) (fun c r=>by rw [ah (nown c b r)]; exact r) fun c xs r=>by rw [ah (ntup c xs r)]; exact r
   rcases hc with rfl | hc
   ·exact hbe
   ·rintro rfl
    rcases he with z | z
    ·exact nown c b hc z
    ·rw [hc] at z; cases z; exact hb rfl
end
structure Un (fs ex:List Addr) (H H':Hp) (h h':Heap):Prop where
 keep:∀ b o,h.get? b=some o->H b=none->b∉fs->b∉ex->h'.get? b=some o
 slot:∀ b o,h.get? b=some o->H b=none->b∈fs->b∉ex->∃ sl,h'.get? b=some { o with slots:=sl }
 free:∀ b o,h.get? b=some o->H b=none->b∉ex->H' b=none
 there:∀ b o,h.get? b=some o->b∉ex->∃ o',h'.get? b=some o'
 tups:∀ b xs,H b=some (.tup xs)->H' b=some (.tup xs)
 frzs:∀ b o u,H b=some (.frz o u)->H' b=some (.frz o u)
 tbls:∀ b ps,H b=some (.tbl ps)->∃ more,H' b=some (.tbl (ps++more))
section
variable {fs fs' ex ex':List Addr} {H H1 H2:Hp} {h h1 h2 h':Heap} {a x e:Addr} {o:HO}
theorem Un.any (u:Un fs ex H H1 h h1) {b:Addr} {ob:Obj} (q:h.get? b=some ob) (n:H b=none) (hx:b∉ex):∃ sl,h1.get? b=some { ob with slots:=sl }:=by
 by_cases hb:b∈fs
 ·exact u.slot b ob q n hb hx
 ·exact ⟨ob.slots,u.keep b ob q n hb hx⟩
theorem Un.kept (k:∀ b u,h.get? b=some u->h'.get? b=some u):Un fs ex H H h h' :=
 ⟨fun b ob q _ _ _=>k b ob q,fun b ob q _ _ _=>⟨ob.slots,k b ob q⟩,fun _ _ _ n _=>n,fun b ob q _=>⟨ob,k b ob q⟩,fun _ _ q=>q,fun _ _ _ q=>q,fun _ ps q=>⟨#[],by rw [q]; simp⟩⟩
theorem Un.refl:Un fs ex H H h h:=Un.kept fun _ _ q=>q
theorem Un.laid (k:∀ b u,h.get? b=some u->h'.get? b=some u) (hp:h.objs.size<=a) (hn:H a=none):Un fs ex H (upd H a o) h h' where
 keep:=fun b u q _ _ _=>k b u q
 slot:=fun b u q _ _ _=>⟨u.slots,k b u q⟩
 free:=fun b u q n _=>by rw [ah (Nat.ne_of_lt (Nat.lt_of_lt_of_le (Heap.lt_size q) hp))]; exact n
 there:=fun b u q _=>⟨u,k b u q⟩
 tups:=fun b xs q=>by rw [ah (ay q hn)]; exact q
 frzs:=fun b u xs q=>by rw [ah (ay q hn)]; exact q
 tbls:=fun b ps q=>⟨#[],by rw [ah (ay q hn),q]; simp⟩
theorem Un.write (mu:Mut (H x)) (he:e=x\/H e=some (.own x)) (k:∀ b u,b≠e->h.get? b=some u->h'.get? b=some u) (heo:∃ u,h'.get? e=some u):Un fs ex H (upd H x o) h h':=by
 have hx:∀ b,H b=none->b≠x:=fun b n z=>by subst z; rw [n] at mu; exact mu
 have hb:∀ b,H b=none->b≠e:=fun b n z=>by
  subst z
  rcases he with r | r
  ·exact hx b n r
  ·rw [n] at r; cases r
 have hm:∀ b u,H b=some u->¬ Mut (some u)->b≠x:=fun b u q nm z=>by subst z; rw [q] at mu; exact nm mu
 refine ⟨fun b u q n _ _=>k b u (hb b n) q,fun b u q n _ _=>⟨u.slots,k b u (hb b n) q⟩,fun b u q n _=>by rw [ah (hx b n)]; exact n,fun b u q _=>?_,
  fun b xs q=>by rw [ah (hm b _ q fun z=>z)]; exact q,fun b u xs q=>by rw [ah (hm b _ q fun z=>z)]; exact q,fun b ps q=>⟨#[],by rw [ah (hm b _ q fun z=>z),q]; simp⟩⟩
 by_cases hbe:b=e
 ·subst hbe; exact heo
 ·exact ⟨u,k b u hbe q⟩
end
noncomputable def trk (h:Heap) (H:Hp):List Addr:=(List.range h.objs.size).filter fun a=>(H a).isSome
noncomputable def hidT (h:Heap) (H:Hp):Heap:=PySem.W.hideAll h (trk h H)
theorem qE (h:Heap) (H:Hp):(hidT h H).objs.size=h.objs.size:=PySem.W.hideAll_size _ _
theorem so {h:Heap} {H:Hp} {b:Addr} {o:Obj} (e:h.get? b=some o) (n:H b=none):(hidT h H).get? b=some o :=
 PySem.W.hideAll_get _ e fun hm=>by
  have q:(H b).isSome=true:=(List.mem_filter.mp hm).2
  rw [n] at q; simp at q
theorem t8 {h:Heap} {H:Hp} {b:Addr} {o:Obj} (e:(hidT h H).get? b=some o):h.get? b=some o/\H b=none:=by
 have e':h.get? b=some o:=PySem.W.of_hideAll (trk h H) e
 refine ⟨e',?_⟩
 cases q:H b with
 | none=>rfl
 | some x =>
  have hm:b∈trk h H:=List.mem_filter.mpr ⟨List.mem_range.mpr (Heap.lt_size e'),by simp [q]⟩
  have z:(hidT h H).get? b=none:=PySem.W.hideAll_none (trk h H) hm
  rw [z] at e; cases e
noncomputable def j5 (g h:Heap) (L:Addr):List (Addr×Obj):=(List.range h.objs.size).filterMap fun a=>if a=L\/(g.get? a).isSome=true then none else (h.get? a).map fun o=>(a,o)
theorem dL {g h:Heap} {L a:Addr} {o:Obj} (h1:a≠L) (h2:g.get? a=none) (h3:h.get? a=some o):(a,o)∈j5 g h L :=
 List.mem_filterMap.mpr ⟨a,List.mem_range.mpr (Heap.lt_size h3),by simp [h1,h2,h3]⟩
theorem jL {g h:Heap} {L:Addr} {p:Addr×Obj} (hp:p∈j5 g h L):p.1≠L/\g.get? p.1=none/\h.get? p.1=some p.2:=by
 obtain ⟨b,_,e⟩:=List.mem_filterMap.mp hp
 split at e
 ·cases e
 ·rename_i hn
  cases q:h.get? b with
  | none=>rw [q] at e; simp at e
  | some u =>
   rw [q] at e
   simp only [Option.map_some,Option.some.injEq] at e
   subst e
   refine ⟨fun z=>hn (.inl z),?_,q⟩
   show g.get? b=none
   cases r:g.get? b with
   | none=>rfl
   | some v=>exact (hn (.inr (by simp [r]))).elim
theorem sh {g h:Heap} {L:Addr}:News g L h (j5 g h L):=fun p hp=>let ⟨a,b,c⟩:=jL hp; ⟨c,a,b⟩
end L2
namespace L2
open PySem PySem.Spec PyProof.Rows
structure Mod (K:PySem.W.Frag) (mg:Str->Option Value) (base:Heap):Prop where
 kin:K.In base
 glob:base.Ns mainGlobals mg
 blt:∃ mb,base.Ns builtinsNs mb/\∀ x:Str,x ≠ "__name__" -> mb x=bootBuiltins x
 nolimit:base.NoLimit
structure Cx where
 prog:Program
 w:World
 K:PySem.W.Frag
 mg:Str->Option Value
 base:Heap
 A:Around
 N:List Str
 s₀:Shared
 H₀:Hp
 env:Env
 outer:List Env
 stack:List Env
 ex:List Addr
 fn:Str->Bool
 calm:Bool
 pn:List (Addr×Obj)
 xe:Value->Shared->Prop
noncomputable def frs (l:List Env):List Addr:=l.filterMap (·.frame)
noncomputable abbrev Cx.fs (X:Cx):List Addr:=frs X.outer
noncomputable def Vis (sc:Scope) (x:Str):Prop:=sc.names.lookup x=some .local\/sc.names.lookup x=some .cell\/sc.names.lookup x=some .free
noncomputable def Loc (sc:Scope) (x:Str):Prop:=sc.names.lookup x=some .local\/sc.names.lookup x=some .cell
noncomputable def Look (env:Env) (h:Heap) (m:Str->Option Value) (x:Str) (u:Value):Prop :=
 (env.kindOf x=some .local/\m x=some u)\/((env.kindOf x=some .cell\/env.kindOf x=some .free)/\∃ c,env.cells.lookup x=some c/\h.IsCell c (some u))
structure Cx.Ok (X:Cx):Prop where
 mod:Mod X.K X.mg X.base
 kind:X.env.scope.kind=.function
 glob:X.env.globals=mainGlobals
 blt:X.env.builtins=builtinsNs
 above:X.s₀.heap.objs.size<=X.env.locals
 inj:∀ x y c,X.env.cells.lookup x=some c->X.env.cells.lookup y=some c->x=y
 has:∀ x,(X.env.kindOf x=some .cell\/X.env.kindOf x=some .free)->∃ c,X.env.cells.lookup x=some c
 cab:∀ x c,X.fn x=true->X.env.cells.lookup x=some c->X.s₀.heap.objs.size<=c
 hd:X.calm=true->X.A.handled=none
 frames:X.A.frames=some X.stack
 stk:X.stack=X.outer\/(X.stack=X.env::X.outer/\X.env.frame=some X.env.locals)
 exf:∀ b∈X.ex,b≠X.env.locals/\∀ x c,X.env.cells.lookup x=some c->c≠b
 bs:∀ b o,X.base.get? b=some o->X.s₀.heap.get? b=some o/\X.H₀ b=none
 bsz:X.base.objs.size<=X.s₀.heap.objs.size
 noex:∀ b o,X.base.get? b=some o->b∉X.ex
 exfs:∀ b∈X.ex,b∉X.fs
 funs:X.s₀.heap.FunFrames X.base X.outer
 frf:∀ b∈X.fs,X.H₀ b=none
structure Inv (X:Cx) (pins:List (Addr×Obj)) (σ:List (Option V)) (H:Hp) (s:Shared):Prop where
 ok:X.Ok
 os:s.os=X.s₀.os
 bare:AllBare s.gens
 base:Un X.fs X.ex X.H₀ H X.s₀.heap s.heap
 loc:∃ m,s.heap.Ns X.env.locals m/\∀ (i:Nat) (x:Str) (v:V),X.N[i]?=some x->σ[i]?=some (some v)->Vis X.env.scope x->∃ u,RelV v u/\Look X.env s.heap m x u
 cell:∀ x c,X.env.cells.lookup x=some c->∃ v,s.heap.IsCell c v
 free:H X.env.locals=none
 freeC:∀ x c,X.env.cells.lookup x=some c->H c=none
 pin:∀ p∈X.pn++pins,s.heap.get? p.1=some p.2/\H p.1=none/\p.1≠X.env.locals/\p.1∉X.fs/\∀ v,p.2.data≠.cell v
 hok:HOk X.prog X.w H s.heap
 len:σ.length=X.N.length
section
variable {X:Cx} {pins:List (Addr×Obj)} {σ:List (Option V)} {H H':Hp} {s:Shared} {h':Heap}
theorem Cx.Ok.nofr (ok:X.Ok) {b:Addr} {o:Obj} (e:X.base.get? b=some o):b∉X.fs:=fun hb=>by
 have:=(ok.funs.mem hb).1
 rw [e] at this; cases this
theorem Inv.bs (I:Inv X pins σ H s):∀ b o,X.base.get? b=some o->s.heap.get? b=some o/\H b=none:=fun b o e =>
 ⟨I.base.keep b o (I.ok.bs b o e).1 (I.ok.bs b o e).2 (I.ok.nofr e) (I.ok.noex b o e),I.base.free b o (I.ok.bs b o e).1 (I.ok.bs b o e).2 (I.ok.noex b o e)⟩
theorem Inv.bk (I:Inv X pins σ H s):∀ b o,X.base.get? b=some o->s.heap.get? b=some o:=fun b o e=>(I.bs b o e).1
theorem Inv.mod (I:Inv X pins σ H s):Mod X.K X.mg X.base:=I.ok.mod
theorem Inv.kIn (I:Inv X pins σ H s):X.K.In s.heap:=I.ok.mod.kin.keeps I.bk
theorem Inv.fr (I:Inv X pins σ H s):∃ m,Fr X.base X.env.locals s.heap m :=
 let ⟨m,hn,_⟩:=I.loc
 ⟨m,hn,I.bk,Nat.le_trans I.ok.bsz I.ok.above⟩
theorem Inv.lt (I:Inv X pins σ H s):X.env.locals<s.heap.objs.size:=let ⟨_,hn,_⟩:=I.loc; hn.lt
theorem Inv.sz (I:Inv X pins σ H s):X.s₀.heap.objs.size<=s.heap.objs.size:=Nat.le_trans I.ok.above (Nat.le_of_lt I.lt)
theorem Inv.nofs (I:Inv X pins σ H s) {a:Addr} (h:s.heap.objs.size<=a):a∉X.fs:=fun hb=>by
 obtain ⟨_,o,ho,_⟩:=I.ok.funs.mem hb
 exact absurd (Nat.lt_of_lt_of_le (Heap.lt_size ho) (Nat.le_trans I.sz h)) (Nat.lt_irrefl _)
theorem Inv.cne (I:Inv X pins σ H s):∀ x c,X.env.cells.lookup x=some c->c≠X.env.locals:=fun x c e z=>by
 obtain ⟨v,o,ho,hd⟩:=I.cell x c e
 obtain ⟨m,⟨o',es,ep,ho',hd',_⟩,_⟩:=I.loc
 rw [z,ho'] at ho; cases ho; rw [hd'] at hd; cases hd
theorem Inv.funs (I:Inv X pins σ H s):s.heap.FunFrames X.base X.outer:=by
 have all:∀ (l:List Env),(∀ b∈frs l,b∈X.fs)->X.s₀.heap.FunFrames X.base l->s.heap.FunFrames X.base l:=by
  intro l
  induction l with
  | nil=>intro _ _; trivial
  | cons env r ih =>
   intro hs hl
   obtain ⟨hk,⟨L,o,hf,hn,ho,hd⟩,hr⟩:=hl
   have hL:L∈X.fs:=hs L (by unfold frs; rw [List.filterMap_cons,hf]; exact List.mem_cons_self)
   obtain ⟨sl,e⟩:=I.base.slot L o ho (I.ok.frf L hL) hL fun z=>I.ok.exfs L z hL
   exact ⟨hk,⟨L,_,hf,hn,e,hd⟩,ih (fun b hb=>hs b (by unfold frs; rw [List.filterMap_cons,hf]; exact List.mem_cons_of_mem _ hb)) hr⟩
 exact all X.outer (fun _ hb=>hb) I.ok.funs
theorem Inv.stack (I:Inv X pins σ H s):s.heap.FunFrames X.base X.stack:=by
 rcases I.ok.stk with e | ⟨e,hf⟩
 ·rw [e]; exact I.funs
 ·rw [e]
  obtain ⟨m,hn,_⟩:=I.loc
  refine .cons (by rw [I.ok.kind]; decide) hf hn ?_ I.funs
  exact Heap.get?_none_of_le (Nat.le_trans I.ok.bsz I.ok.above)
theorem Inv.stkSub (I:Inv X pins σ H s):∀ b∈frs X.stack,b∈X.env.locals::X.fs:=fun b hb=>by
 rcases I.ok.stk with e | ⟨e,hf⟩
 ·rw [e] at hb; exact List.mem_cons_of_mem _ hb
 ·rw [e] at hb
  unfold frs at hb
  rw [List.filterMap_cons,hf] at hb
  exact hb
theorem Inv.stkFree (I:Inv X pins σ H s):∀ b∈frs X.stack,H b=none:=fun b hb=>by
 rcases List.mem_cons.mp (I.stkSub b hb) with e | hb
 ·rw [e]; exact I.free
 ·obtain ⟨_,o,ho,_⟩:=I.ok.funs.mem hb
  exact I.base.free b o ho (I.ok.frf b hb) fun z=>I.ok.exfs b z hb
theorem Inv.step {g':Array GenState} {t':Nat} {d':Drawn} {ch:List Addr} (I:Inv X pins σ H s)
  (hch:∀ b∈ch,(b∈X.ex\/X.s₀.heap.objs.size<=b)/\b≠X.env.locals/\(∀ x c,X.env.cells.lookup x=some c->c≠b)/\∀ p∈X.pn++pins,p.1≠b)
  (keep:∀ b o,b≠X.env.locals->b∉X.fs->b∉ch->s.heap.get? b=some o->H b=none->h'.get? b=some o)
  (slot:∀ b o,b≠X.env.locals->b∈X.fs->b∉ch->s.heap.get? b=some o->H b=none->∃ sl,h'.get? b=some { o with slots:=sl }) (free:∀ b o,b∉ch->s.heap.get? b=some o->H b=none->H' b=none)
  (there:∀ b o,b∉ch->s.heap.get? b=some o->∃ o',h'.get? b=some o')
  (tups:∀ b xs,H b=some (.tup xs)->H' b=some (.tup xs)) (frzs:∀ b o u,H b=some (.frz o u)->H' b=some (.frz o u)) (tbls:∀ b ps,H b=some (.tbl ps)->∃ more,H' b=some (.tbl (ps++more)))
  (ns:∀ m,s.heap.Ns X.env.locals m->h'.Ns X.env.locals m) (hok:HOk X.prog X.w H' h') (hg:AllBare g') :
  Inv X pins σ H' { s with heap:=h',gens:=g',drawn:=d',toks:=t' }:=by
 have neL:∀ b o,X.s₀.heap.get? b=some o->b≠X.env.locals:=fun b o e=>Nat.ne_of_lt (Nat.lt_of_lt_of_le (Heap.lt_size e) I.ok.above)
 have neC:∀ b o,X.s₀.heap.get? b=some o->b∉X.ex->b∉ch:=fun b o e hx hb=>by
  rcases (hch b hb).1 with z | z
  ·exact hx z
  ·exact absurd (Nat.lt_of_lt_of_le (Heap.lt_size e) z) (Nat.lt_irrefl _)
 have cellK:∀ x c,X.env.cells.lookup x=some c->∀ v,s.heap.IsCell c v->h'.IsCell c v:=fun x c e v ⟨o,ho,hd⟩=>by
  have nch:c∉ch:=fun z=>(hch c z).2.2.1 x c e rfl
  by_cases hc:c∈X.fs
  ·obtain ⟨sl,q⟩:=slot c o (I.cne x c e) hc nch ho (I.freeC x c e)
   exact ⟨_,q,hd⟩
  ·exact ⟨o,keep c o (I.cne x c e) hc nch ho (I.freeC x c e),hd⟩
 refine ⟨I.ok,I.os,hg,⟨fun b o e n hb hx=>?_,fun b o e n hb hx=>?_,fun b o e n hx=>?_,fun b o e hx=>?_,fun b xs e=>tups b xs (I.base.tups b xs e),fun b o xs e=>frzs b o xs (I.base.frzs b o xs e),fun b ps e=>?_⟩,?_,fun x c e=>?_,?_,fun x c e=>?_,fun p hp=>?_,hok,I.len⟩
 ·exact keep b o (neL b o e) hb (neC b o e hx) (I.base.keep b o e n hb hx) (I.base.free b o e n hx)
 ·obtain ⟨sl,e1⟩:=I.base.slot b o e n hb hx
  obtain ⟨sl',e2⟩:=slot b _ (neL b o e) hb (neC b o e hx) e1 (I.base.free b o e n hx)
  exact ⟨sl',e2⟩
 ·obtain ⟨o',e1⟩:=I.base.there b o e hx
  exact free b o' (neC b o e hx) e1 (I.base.free b o e n hx)
 ·obtain ⟨o',e1⟩:=I.base.there b o e hx
  exact there b o' (neC b o e hx) e1
 ·obtain ⟨m1,e1⟩:=I.base.tbls b ps e
  obtain ⟨m2,e2⟩:=tbls b _ e1
  exact ⟨m1++m2,by rw [e2,Array.append_assoc]⟩
 ·obtain ⟨m,hn,hl⟩:=I.loc
  refine ⟨m,ns m hn,fun i x v e1 e2 e3=>?_⟩
  obtain ⟨u,r,l⟩:=hl i x v e1 e2 e3
  refine ⟨u,r,?_⟩
  rcases l with l | ⟨k,c,e,z⟩
  ·exact .inl l
  ·exact .inr ⟨k,c,e,cellK x c e _ z⟩
 ·obtain ⟨v,z⟩:=I.cell x c e
  exact ⟨v,cellK x c e v z⟩
 ·obtain ⟨m,⟨o,_,_,ho,_⟩,_⟩:=I.loc
  exact free _ o (fun z=>(hch _ z).2.1 rfl) ho I.free
 ·obtain ⟨v,o,ho,hd⟩:=I.cell x c e
  exact free c o (fun z=>(hch c z).2.2.1 x c e rfl) ho (I.freeC x c e)
 ·obtain ⟨e,n,ne,nf,d⟩:=I.pin p hp
  have nch:p.1∉ch:=fun z=>(hch p.1 z).2.2.2 p hp rfl
  exact ⟨keep p.1 p.2 ne nf nch e n,free p.1 p.2 nch e n,ne,nf,d⟩
theorem Inv.un {t':Nat} (I:Inv X pins σ H s) (u:Un X.fs [] H H' s.heap h') (hok:HOk X.prog X.w H' h'):Inv X pins σ H' { s with heap:=h',toks:=t' }:=by
 obtain ⟨m,⟨o,es,ep,ho,r⟩,_⟩:=id I.loc
 obtain ⟨sl,hL⟩:=u.any ho I.free (by simp)
 exact I.step (g':=s.gens) (d':=s.drawn) (ch:=[]) (fun _ z=>nomatch z) (fun b o _ hb _ e n=>u.keep b o e n hb (by simp)) (fun b o _ hb _ e n=>u.slot b o e n hb (by simp)) (fun b o _ e n=>u.free b o e n (by simp)) (fun b o _ e=>u.there b o e (by simp)) u.tups u.frzs u.tbls (fun m' hm=>by
  obtain ⟨o',es',ep',ho',r'⟩:=hm
  rw [ho] at ho'; cases ho'
  exact ⟨_,es',ep',hL,r'⟩) hok I.bare
theorem Inv.call {g':Array GenState} {t':Nat} {d':Drawn} {ch:List Addr} (I:Inv X pins σ H s) (u:Un (frs X.stack) ch H H' s.heap h') (hok:HOk X.prog X.w H' h') (hg:AllBare g')
  (hch:∀ b∈ch,(b∈X.ex\/X.s₀.heap.objs.size<=b)/\b≠X.env.locals/\(∀ x c,X.env.cells.lookup x=some c->c≠b)/\∀ p∈X.pn++pins,p.1≠b) :
  Inv X pins σ H' { s with heap:=h',gens:=g',drawn:=d',toks:=t' }:=by
 obtain ⟨m,⟨o,es,ep,ho,r⟩,_⟩:=id I.loc
 obtain ⟨sl,hL⟩:=u.any ho I.free fun z=>(hch _ z).2.1 rfl
 exact I.step (ch:=ch) hch (fun b o hL hb hc e n=>u.keep b o e n (fun z=>(List.mem_cons.mp (I.stkSub b z)).elim hL hb) hc) (fun b o _ _ hc e n=>u.any e n hc) (fun b o hc e n=>u.free b o e n hc) (fun b o hc e=>u.there b o e hc) u.tups u.frzs u.tbls (fun m' hm=>by
  obtain ⟨o',es',ep',ho',r'⟩:=hm
  rw [ho] at ho'; cases ho'
  exact ⟨_,es',ep',hL,r'⟩) hok hg
theorem Inv.turned {t':Nat} {it:Addr} (I:Inv X pins σ H s) (k:∀ b o,b≠it->s.heap.get? b=some o->h'.get? b=some o) (hn:H it=none) (hL:it≠X.env.locals)
  (h1:it∈X.ex\/X.s₀.heap.objs.size<=it) (h2:∀ x c,X.env.cells.lookup x=some c->c≠it) (h3:∀ p∈X.pn++pins,p.1≠it):Inv X pins σ H { s with heap:=h',toks:=t' }:=by
 have nit:∀ b u,H b=some u->b≠it:=fun b u e z=>by rw [z,hn] at e; cases e
 refine I.step (g':=s.gens) (d':=s.drawn) (ch:=[it]) (fun b hb=>?_) (fun b o _ _ hc e _=>k b o (fun z=>hc (by simp [z])) e) (fun b o _ _ hc e _=>⟨o.slots,k b o (fun z=>hc (by simp [z])) e⟩) (fun _ _ _ _ n=>n)
  (fun b o hc e=>⟨o,k b o (fun z=>hc (by simp [z])) e⟩) (fun _ _ e=>e) (fun _ _ _ e=>e) (fun b ps e=>⟨#[],by rw [e]; simp⟩) (fun m hm=>?_) (fun b u e=>?_) I.bare
 ·have e:b=it:=by simpa using hb
  subst e
  exact ⟨h1,hL,h2,h3⟩
 ·obtain ⟨o,es,ep,ho,r⟩:=hm
  exact ⟨o,es,ep,k _ o (Ne.symm hL) ho,r⟩
 ·refine (I.hok b u e).stay (fun c v hc q=>k c v ?_ q) (fun _ q=>q) fun _ _ q=>q
  rcases hc with z | z
  ·rw [z]; exact nit b u e
  ·exact nit c _ z
theorem Inv.tok (I:Inv X pins σ H s) (t:Nat):Inv X pins σ H { s with toks:=t }:=I.un (h':=s.heap) (t':=t) Un.refl I.hok
theorem Inv.kept {t':Nat} (I:Inv X pins σ H s) (k:∀ b u,s.heap.get? b=some u->h'.get? b=some u):Inv X pins σ H { s with heap:=h',toks:=t' }:=I.un (Un.kept k) (I.hok.kept k)
theorem Inv.laid {a:Addr} {o:HO} {t':Nat} (I:Inv X pins σ H s) (k:∀ b u,s.heap.get? b=some u->h'.get? b=some u) (hp:s.heap.objs.size<=a) (new:ObjOk X.prog X.w (upd H a o) h' a o) :
  Inv X pins σ (upd H a o) { s with heap:=h',toks:=t' }:=I.un (Un.laid k hp (I.hok.fresh hp)) (I.hok.laid k hp new)
theorem Inv.write {x e:Addr} {o:HO} {t':Nat} (I:Inv X pins σ H s) (mu:Mut (H x)) (he:e=x\/H e=some (.own x)) (k:∀ b u,b≠e->s.heap.get? b=some u->h'.get? b=some u) (heo:∃ u,h'.get? e=some u)
  (new:ObjOk X.prog X.w (upd H x o) h' x o):Inv X pins σ (upd H x o) { s with heap:=h',toks:=t' }:=I.un (Un.write mu he k heo) (I.hok.write mu he k heo new)
theorem Inv.weak {σ':List (Option V)} (I:Inv X pins σ H s) (hl:σ'.length=σ.length) (w:∀ (i:Nat) v,σ'[i]?=some (some v)->σ[i]?=some (some v)):Inv X pins σ' H s :=
 ⟨I.ok,I.os,I.bare,I.base,let ⟨m,hn,hl'⟩:=I.loc; ⟨m,hn,fun i x v e1 e2 e3=>hl' i x v e1 (w i v e2) e3⟩,I.cell,I.free,I.freeC,I.pin,I.hok,hl.trans I.len⟩
theorem Inv.pins_of {pins':List (Addr×Obj)} (I:Inv X pins σ H s) (h:∀ p∈pins',s.heap.get? p.1=some p.2/\H p.1=none/\p.1≠X.env.locals/\p.1∉X.fs/\∀ v,p.2.data≠.cell v):Inv X pins' σ H s :=
 ⟨I.ok,I.os,I.bare,I.base,I.loc,I.cell,I.free,I.freeC,fun p hp=>(List.mem_append.mp hp).elim (fun z=>I.pin p (List.mem_append_left _ z)) (h p),I.hok,I.len⟩
theorem lY {N:List Str} (hN:N.Nodup) {i j:Nat} {x:Str} (a:N[i]?=some x) (b:N[j]?=some x):i=j:=by
 obtain ⟨h1,e1⟩:=List.getElem?_eq_some_iff.mp a
 obtain ⟨h2,e2⟩:=List.getElem?_eq_some_iff.mp b
 exact (List.getElem_inj hN).mp (e1.trans e2.symm)
theorem fR {M:Model} {A:Around} {E:Value->Shared->Prop} {i:Nat} {x:Str} {v:V} {u:Value} {Q:Unit->Shared->Prop} (I:Inv X pins σ H s) (hN:X.N.Nodup) (hi:X.N[i]?=some x) (hx:Loc X.env.scope x) (r:RelV v u)
  (h:∀ s',Inv X pins (σ.set i (some v)) H s'->(∃ a,Heap.SameBut a s.heap s'.heap/\(a=X.env.locals\/X.env.cells.lookup x=some a))->Q () s') (hf:autoParam (X.fn x=true\/X.env.scope.names.lookup x=some .local) Z0._auto_1):wpAny M A (storeName X.env x u) Q E s:=by
 obtain ⟨m,hn,hl⟩:=id I.loc
 have hcls:(X.env.scope.kind==.class || (X.env.scope.kind==.module && X.env.locals != X.env.globals))=false:=by rw [I.ok.kind]; rfl
 have hiσ:i<σ.length:=by rw [I.len]; exact (List.getElem?_eq_some_iff.mp hi).1
 have cne:=I.cne
 have tracked:∀ {a:Addr} {h':Heap},(∃ o,s.heap.get? a=some o/\H a=none)->Heap.SameBut a s.heap h'->HOk X.prog X.w H h':=fun {a h'} ha hs b ob e=>by
  obtain ⟨_,_,hfree⟩:=ha
  refine (I.hok b ob e).stay (fun c w' hc q=>(hs.2 c ?_).trans q) (fun _ q=>q) fun _ _ q=>q
  rintro rfl
  rcases hc with rfl | hc
  ·rw [hfree] at e; cases e
  ·rw [hfree] at hc; cases hc
 rcases hx with hk | hk
 ·refine wpAny_storeName_local hk hn (fun h' hn' hs=>?_) hcls
  obtain ⟨oL,_,_,hoL,_⟩:=id hn
  refine h _ ⟨I.ok,I.os,I.bare,⟨fun b o e n hb hx=>?_,fun b o e n hb hx=>?_,I.base.free,fun b o e hx=>?_,I.base.tups,I.base.frzs,I.base.tbls⟩,⟨_,hn',fun j y v' e1 e2 e3=>?_⟩,fun y c e=>?_,I.free,I.freeC,fun p hp=>?_,tracked ⟨oL,hoL,I.free⟩ hs,by simpa using I.len⟩ ⟨_,hs,.inl rfl⟩
  ·exact (hs.2 b (Nat.ne_of_lt (Nat.lt_of_lt_of_le (Heap.lt_size e) I.ok.above))).trans (I.base.keep b o e n hb hx)
  ·obtain ⟨sl,e1⟩:=I.base.slot b o e n hb hx
   exact ⟨sl,(hs.2 b (Nat.ne_of_lt (Nat.lt_of_lt_of_le (Heap.lt_size e) I.ok.above))).trans e1⟩
  ·obtain ⟨o',e1⟩:=I.base.there b o e hx
   exact ⟨o',(hs.2 b (Nat.ne_of_lt (Nat.lt_of_lt_of_le (Heap.lt_size e) I.ok.above))).trans e1⟩
  ·by_cases hj:j=i
   ·subst hj
    rw [hi] at e1; cases e1
    rw [List.getElem?_set_self hiσ] at e2
    cases e2
    exact ⟨u,r,.inl ⟨hk,by simp⟩⟩
   ·rw [List.getElem?_set_ne (Ne.symm hj)] at e2
    obtain ⟨u',r',q⟩:=hl j y v' e1 e2 e3
    refine ⟨u',r',?_⟩
    rcases q with ⟨k,e⟩ | ⟨k,c,e,z⟩
    ·refine .inl ⟨k,?_⟩
     have:y≠x:=fun e=>hj (lY hN e1 (e ▸ hi))
     simp [this,e]
    ·exact .inr ⟨k,c,e,z.sameBut hs (cne y c e)⟩
  ·obtain ⟨w',z⟩:=I.cell y c e
   exact ⟨w',z.sameBut hs (cne y c e)⟩
  ·obtain ⟨e,n,ne,nf,d⟩:=I.pin p hp
   exact ⟨(hs.2 p.1 ne).trans e,n,ne,nf,d⟩
 ·have hfn:X.fn x=true:=by
   rcases hf with z | z
   ·exact z
   ·rw [z] at hk; cases hk
  obtain ⟨c,hc⟩:=I.ok.has x (.inl hk)
  obtain ⟨w',z⟩:=I.cell x c hc
  refine wpAny_storeName_cell I.ok.kind hk hc z (fun h' hc' hs=>?_)
  obtain ⟨oc,hoc,hocd⟩:=id z
  refine h { s with heap:=h' } ⟨I.ok,I.os,I.bare,⟨fun b o e n hb hx=>?_,fun b o e n hb hx=>?_,I.base.free,fun b o e hx=>?_,I.base.tups,I.base.frzs,I.base.tbls⟩,⟨m,hn.sameBut hs (Ne.symm (cne x c hc)),fun j y v' e1 e2 e3=>?_⟩,fun y c' e=>?_,I.free,I.freeC,fun p hp=>?_,tracked ⟨oc,hoc,I.freeC x c hc⟩ hs,by simpa using I.len⟩ ⟨c,hs,.inr hc⟩
  ·exact (hs.2 b (Nat.ne_of_lt (Nat.lt_of_lt_of_le (Heap.lt_size e) (I.ok.cab x c hfn hc)))).trans (I.base.keep b o e n hb hx)
  ·obtain ⟨sl,e1⟩:=I.base.slot b o e n hb hx
   exact ⟨sl,(hs.2 b (Nat.ne_of_lt (Nat.lt_of_lt_of_le (Heap.lt_size e) (I.ok.cab x c hfn hc)))).trans e1⟩
  ·obtain ⟨o',e1⟩:=I.base.there b o e hx
   exact ⟨o',(hs.2 b (Nat.ne_of_lt (Nat.lt_of_lt_of_le (Heap.lt_size e) (I.ok.cab x c hfn hc)))).trans e1⟩
  ·by_cases hj:j=i
   ·subst hj
    rw [hi] at e1; cases e1
    rw [List.getElem?_set_self hiσ] at e2
    cases e2
    exact ⟨u,r,.inr ⟨.inl hk,c,hc,hc'⟩⟩
   ·rw [List.getElem?_set_ne (Ne.symm hj)] at e2
    obtain ⟨u',r',q⟩:=hl j y v' e1 e2 e3
    refine ⟨u',r',?_⟩
    rcases q with q | ⟨k,c',e,z'⟩
    ·exact .inl q
    ·refine .inr ⟨k,c',e,z'.sameBut hs ?_⟩
     rintro rfl
     exact hj (lY hN e1 (I.ok.inj _ _ _ e hc ▸ hi))
  ·by_cases hcc:c'=c
   ·subst hcc; exact ⟨_,hc'⟩
   ·obtain ⟨w2,z2⟩:=I.cell y c' e
    exact ⟨w2,z2.sameBut hs hcc⟩
  ·obtain ⟨e,n,ne,nf,d⟩:=I.pin p hp
   refine ⟨(hs.2 p.1 ?_).trans e,n,ne,nf,d⟩
   intro q
   rw [q,hoc] at e
   have q':oc=p.2:=Option.some.inj e
   exact d w' (by rw [<- q']; exact hocd)
theorem fg {M:Model} {A:Around} {E:Value->Shared->Prop} {i:Nat} {x:Str} {v:V} {u:Value} {Q:Unit->Shared->Prop} (I:Inv X pins σ H s) (hN:X.N.Nodup) (hi:X.N[i]?=some x) (hx:Loc X.env.scope x) (r:RelV v u)
  (h:∀ s',Inv X pins (σ.set i (some v)) H s'->Q () s') (hf:autoParam (X.fn x=true\/X.env.scope.names.lookup x=some .local) Z0._auto_1):wpAny M A (storeName X.env x u) Q E s :=
 fR I hN hi hx r (fun s' I' _=>h s' I') hf
theorem Inv.call' {s':Shared} {ch:List Addr} (I:Inv X pins σ H s) (ho:s'.os=s.os) (u:Un (frs X.stack) ch H H' s.heap s'.heap) (hok:HOk X.prog X.w H' s'.heap) (hg:AllBare s'.gens)
  (hch:∀ b∈ch,(b∈X.ex\/X.s₀.heap.objs.size<=b)/\b≠X.env.locals/\(∀ x c,X.env.cells.lookup x=some c->c≠b)/\∀ p∈X.pn++pins,p.1≠b):Inv X pins σ H' s':=by
 obtain ⟨h',g',d',t',o'⟩:=s'
 have e:o'=s.os:=ho
 subst e
 exact I.call (g':=g') (t':=t') (d':=d') u hok hg hch
end
noncomputable abbrev XK:=Value->Option Addr->Hp->Prop
noncomputable abbrev St:=List (Option V)
noncomputable abbrev VK:=V->Hp->Prop
noncomputable abbrev TE:=St->Hp->VK->Prop
noncomputable abbrev TT:=St->Hp->(Bool->Hp->Prop)->Prop
noncomputable abbrev TA:=St->Hp->(List V->Hp->Prop)->Prop
structure Ends where
 nx:St->Hp->Prop
 rt:VK
 bk:St->Hp->Prop:=fun _ _=>False
 ct:St->Hp->Prop:=fun _ _=>False
noncomputable abbrev TS:=Ends->St->Hp->Prop
noncomputable def EP (X:Cx) (pins:List (Addr×Obj)) (σ:St) (Q:VK) (u:Value) (s':Shared):Prop:=∃ v H',Inv X pins σ H' s'/\RelV v u/\Q v H'
noncomputable def TP (X:Cx) (pins:List (Addr×Obj)) (σ:St) (Q:Bool->Hp->Prop) (b:Bool) (s':Shared):Prop:=∃ H',Inv X pins σ H' s'/\Q b H'
noncomputable def AP (X:Cx) (pins:List (Addr×Obj)) (σ:St) (Q:List V->Hp->Prop) (us:List Value) (s':Shared):Prop:=∃ vs H',Inv X pins σ H' s'/\Vals vs us/\Q vs H'
noncomputable def SP (X:Cx) (pins:List (Addr×Obj)) (D:Ends) (f:Flow) (s':Shared):Prop :=
 match f with
 | .next=>∃ σ' H',Inv X pins σ' H' s'/\D.nx σ' H'
 | .brk=>∃ σ' H',Inv X pins σ' H' s'/\D.bk σ' H'
 | .cont=>∃ σ' H',Inv X pins σ' H' s'/\D.ct σ' H'
 | .ret u=>∃ v σ' H',Inv X pins σ' H' s'/\RelV v u/\D.rt v H'
noncomputable def PE (X:Cx) (e:Expr) (t:TE):Prop :=
 ∀ (pins:List (Addr×Obj)) (s:Shared) (σ:St) (H:Hp) (Q:VK),Inv X pins σ H s->t σ H Q->wpAny (model X.prog X.w) X.A (eval e X.env) (EP X pins σ Q) X.xe s
noncomputable def PT (X:Cx) (e:Expr) (t:TT):Prop :=
 ∀ (pins:List (Addr×Obj)) (s:Shared) (σ:St) (H:Hp) (Q:Bool->Hp->Prop),Inv X pins σ H s->t σ H Q->wpAny (model X.prog X.w) X.A (isTrue e X.env (eval e X.env)) (TP X pins σ Q) X.xe s
noncomputable def PW (X:Cx) (e:Expr) (t:TT):Prop :=
 ∀ (whole:Sem Value) (pins:List (Addr×Obj)) (s:Shared) (σ:St) (H:Hp) (Q:Bool->Hp->Prop),Inv X pins σ H s->t σ H Q->wpAny (model X.prog X.w) X.A (isTrue e X.env whole) (TP X pins σ Q) X.xe s
theorem PW.pt {X:Cx} {e:Expr} {t:TT} (h:PW X e t):PT X e t:=h _
noncomputable def PA (X:Cx) (es:List Expr) (t:TA):Prop :=
 ∀ (pos:Pos) (pins:List (Addr×Obj)) (s:Shared) (σ:St) (H:Hp) (Q:List V->Hp->Prop),Inv X pins σ H s->t σ H Q->wpAny (model X.prog X.w) X.A (spliced (backTo pos (starEach es X.env))) (AP X pins σ Q) X.xe s
noncomputable def PS (X:Cx) (st:Stmt) (t:TS):Prop :=
 ∀ (pins:List (Addr×Obj)) (s:Shared) (σ:St) (H:Hp) (D:Ends),Inv X pins σ H s->t D σ H->wpAny (model X.prog X.w) X.A (exec st X.env) (SP X pins D) X.xe s
noncomputable def PSs (X:Cx) (st:List Stmt) (t:TS):Prop :=
 ∀ (pins:List (Addr×Obj)) (s:Shared) (σ:St) (H:Hp) (D:Ends),Inv X pins σ H s->t D σ H->wpAny (model X.prog X.w) X.A (execs st X.env) (SP X pins D) X.xe s
theorem thn {α:Type} {t:Sem α} {Q Q':α->Shared->Prop} {M:Model} {A:Around} {E:Value->Shared->Prop} {s:Shared} (h:wpAny M A t Q E s) (hQ:∀ a s,Q a s->Q' a s):wpAny M A t Q' E s:=wpAny_mono h hQ fun _ _ x=>x
end L2
namespace L2
open PySem PySem.Spec PyProof.Rows
section
variable {X:Cx}
noncomputable def tVar (i:Nat):TE:=fun σ H Q=>∃ v,σ[i]?=some (some v)/\Q v H
noncomputable def tC (v:V):TE:=fun _ H Q=>Q v H
theorem u6 {i:Nat} {x:Str} {pos:Pos} (hN:X.N[i]?=some x) (hv:Vis X.env.scope x) (hd:autoParam ((x==("__debug__" : Str))=false) Z1._auto_1) (hcd:autoParam ((x==("__classdict__" : Str))=false) Z1._auto_1):PE X (.Name x pos) (tVar i):=by
 intro pins s σ H Q I h
 obtain ⟨v,e,h⟩:=h
 obtain ⟨m,hn,hl⟩:=I.loc
 obtain ⟨u,r,l⟩:=hl i x v hN e hv
 have fin:EP X pins σ Q u s:=⟨v,H,I,r,h⟩
 rcases l with ⟨hk,hm⟩ | ⟨hk,c,hc,hcell⟩
 ·exact wpAny_Name (wpAny_loadName_local I.ok.kind hk hn hm fin) hd
 ·rcases hk with hk | hk
  ·exact wpAny_Name (wpAny_loadName_cell I.ok.kind hk hc hcell fin) hd
  ·exact wpAny_Name (wpAny_loadName_free I.ok.kind hk hc hcell fin hcd) hd
theorem aQ {i j pos}:PE X (.Constant (.int i) j pos) (tC (.int i)):=fun _ _ _ H _ I h=>wpAny_Constant_int ⟨.int i,H,I.tok _,⟨_,rfl⟩,h⟩
theorem u9 {j pos}:PE X (.Constant .none j pos) (tC .non):=fun _ _ _ H _ I h=>Constant_none ⟨.non,H,I,rfl,h⟩
theorem be {x j pos}:PE X (.Constant (.str x) j pos) (tC (.str x)):=fun _ _ _ H _ I h=>Calls.Constant_str ⟨.str x,H,I.tok _,⟨_,rfl⟩,h⟩
noncomputable def Gl (X:Cx) (x:Str):Prop:=X.env.kindOf x=some .globalImplicit
theorem uf {E:Value->Shared->Prop} {pins:List (Addr×Obj)} {s:Shared} {σ:St} {H:Hp} {x:Str} {u:Value} {pos:Pos} {Q:Value->Shared->Prop} (I:Inv X pins σ H s) (hg:Gl X x) (hm:X.mg x=some u) (h:Q u s)
  (hd:autoParam ((x==("__debug__" : Str))=false) Z1._auto_1):wpAny (model X.prog X.w) X.A (eval (.Name x pos) X.env) Q E s :=
 Calls.Name_function_global I.ok.kind hg (Calls.loadGlobal_global (by rw [I.ok.glob]; exact I.mod.glob.keeps I.bk) hm h) hd
theorem ed {E:Value->Shared->Prop} {pins:List (Addr×Obj)} {s:Shared} {σ:St} {H:Hp} {x:Str} {u:Value} {pos:Pos} {Q:Value->Shared->Prop} (I:Inv X pins σ H s) (hg:Gl X x) (hm:X.mg x=none) (hv:bootBuiltins x=some u) (h:Q u s)
  (hn:autoParam (x ≠ "__name__") Z1._auto_1) (hd:autoParam ((x==("__debug__" : Str))=false) Z1._auto_1):wpAny (model X.prog X.w) X.A (eval (.Name x pos) X.env) Q E s:=by
 obtain ⟨mb,h1,h2⟩:=I.mod.blt
 exact Calls.Name_function_global I.ok.kind hg (Calls.loadGlobal_builtin (by rw [I.ok.glob]; exact I.mod.glob.keeps I.bk) hm (by rw [I.ok.blt]; exact h1.keeps I.bk) ((h2 x hn).trans hv) h) hd
variable {a b:Expr} {ta tb:TE} {pos:Pos}
variable {tA tB':TT} {rest:List Expr}
noncomputable def tAnd (t u:TT):TT:=fun σ H Q=>t σ H fun c H1=>if c=true then u σ H1 Q else Q false H1
noncomputable def tOr (t u:TT):TT:=fun σ H Q=>t σ H fun c H1=>if c=true then Q true H1 else u σ H1 Q
noncomputable def tNot (t:TT):TT:=fun σ H Q=>t σ H fun c H1=>Q (!c) H1
theorem pw_and1 (ha:PT X a tA):PW X (.BoolOp .And [a] pos) tA:=by
 intro wh pins s σ H Q I h
 refine isTrue_and (thn (ha pins s σ H Q I h) fun c s1 e=>?_)
 cases c with
 | true=>exact isTrue_and_nil e
 | false=>exact e
theorem pw_and (ha:PT X a tA) (hb:PW X (.BoolOp .And (b::rest) pos) tB'):PW X (.BoolOp .And (a::b::rest) pos) (tAnd tA tB'):=by
 intro wh pins s σ H Q I h
 refine isTrue_and (thn (ha pins s σ H _ I h) fun c s1 ⟨H1,I1,q1⟩=>?_)
 cases c with
 | true=>exact hb wh pins s1 σ H1 Q I1 q1
 | false=>exact ⟨H1,I1,q1⟩
noncomputable def tAndV (ta tb:TE):TE:=fun σ H Q=>ta σ H fun x H1=>∃ c,x=.bl c/\if c=true then tb σ H1 Q else Q (.bl false) H1
theorem u8 {op} {t:TE} (h:PE X a t):PE X (.BoolOp op [a] pos) t:=fun pins s σ H Q I hw=>BoolOp_one (h pins s σ H Q I hw)
theorem vd (ha:PE X a ta) (hb:PE X (.BoolOp .And (b::rest) pos) tb):PE X (.BoolOp .And (a::b::rest) pos) (tAndV ta tb):=by
 intro pins s σ H Q I h
 refine BoolOp_and (thn (ha pins s σ H _ I h) fun v s1 ⟨x,H1,I1,r1,q1⟩=>?_)
 obtain ⟨c,rfl,q1⟩:=q1
 cases r1
 refine wpAny_truthy_bool ?_
 cases c with
 | true=>exact hb pins s1 σ H1 Q I1 q1
 | false=>exact ⟨.bl false,H1,I1,rfl,q1⟩
noncomputable def tIf (t:TT) (ta tb:TE):TE:=fun σ H Q=>t σ H fun c H1=>if c=true then ta σ H1 Q else tb σ H1 Q
theorem rR {c:Expr} (hc:PT X c tA) (ha:PE X a ta) (hb:PE X b tb):PE X (.IfExp c a b pos) (tIf tA ta tb):=by
 intro pins s σ H Q I h
 refine wpAny_IfExp (thn (hc pins s σ H _ I h) fun d s1 ⟨H1,I1,q1⟩=>?_)
 cases d with
 | true=>exact ha pins s1 σ H1 Q I1 q1
 | false=>exact hb pins s1 σ H1 Q I1 q1
end
end L2
namespace L2
open PySem PySem.Spec PyProof.Rows
noncomputable def SqL (K:PySem.W.Frag) (H:Hp) (a:Addr) (xs:List V):Prop :=
 Rd H a (.lst xs) \/
  ∃ (o:Obj) (its:Array Value) (n:Nat),K.lookup a=some o/\o.cls=.type "list" /\ o.dict=none/\o.data=.seq its n/\its.size<=sizeLine/\Vals xs its.toList
noncomputable def SqT (K:PySem.W.Frag) (H:Hp) (a:Addr) (xs:List V):Prop :=
 Rd H a (.tup xs) \/
  ∃ (o:Obj) (its:Array Value) (n:Nat),K.lookup a=some o/\o.cls=.type "tuple" /\ o.data=.seq its n/\its.size<=sizeLine/\Vals xs its.toList
noncomputable def absV:Value->Option V
 | .none=>some .non
 | .bool b=>some (.bl b)
 | .int i _=>some (.int i)
 | .str x _=>some (.str x)
 | .bytes b _=>some (.byt b)
 | .float b _=>some (.flt b)
 | .ref a=>some (.ref a)
 | .type n=>some (.ty n)
 | _=>none
theorem RelV.abs {x:V} {u:Value} (r:RelV x u):absV u=some x:=by
 cases x with
 | non=>cases r; rfl
 | bl _=>cases r; rfl
 | int _=>obtain ⟨t,rfl⟩:=r; rfl
 | str _=>obtain ⟨t,rfl⟩:=r; rfl
 | byt _=>obtain ⟨t,rfl⟩:=r; rfl
 | flt _=>obtain ⟨t,rfl⟩:=r; rfl
 | ref _=>cases r; rfl
 | ty _=>cases r; rfl
theorem RelV.inj {x y:V} {u:Value} (r:RelV x u) (q:RelV y u):x=y:=Option.some.inj (r.abs.symm.trans q.abs)
theorem Vals.inj:∀ {xs ys:List V} {us:List Value},Vals xs us->Vals ys us->xs=ys
 | _,_,_,.nil,.nil=>rfl
 | _,_,_,.cons r t,.cons r' t'=>by rw [r.inj r',Vals.inj t t']
section
variable {X:Cx} {pins:List (Addr×Obj)} {σ:St} {H:Hp} {s:Shared} {a:Addr} {xs ys:List V}
theorem SqL.of {K:PySem.W.Frag} (h:H a=some (.lst xs)):SqL K H a xs:=.inl (.inl h)
theorem Inv.list (I:Inv X pins σ H s) (h:SqL X.K H a xs):∃ its:List Value,Vals xs its/\PlainL s.heap a its.toArray/\xs.length<=sizeLine:=by
 rcases h with h | ⟨o,its,n,hk,hc,hd,hs,hz,r⟩
 ·obtain ⟨z,its,n,r,e⟩:=h.ok I.hok
  exact ⟨its,r,⟨_,n,e,rfl,rfl,rfl⟩,z⟩
 ·refine ⟨its.toList,r,⟨o,n,I.kIn a o hk,hc,hd,by simpa using hs⟩,?_⟩
  have e:=r.length
  simp only [Array.length_toList] at e
  omega
theorem Inv.tuple (I:Inv X pins σ H s) (h:SqT X.K H a xs):∃ its:List Value,Vals xs its/\IsTup s.heap a its.toArray/\xs.length<=sizeLine:=by
 rcases h with h | ⟨o,its,n,hk,hc,hs,hz,r⟩
 ·obtain ⟨z,its,r,p⟩:=h.ok I.hok
  exact ⟨its,r,p,z⟩
 ·refine ⟨its.toList,r,⟨o,I.kIn a o hk,hc,n,by simpa using hs⟩,?_⟩
  have e:=r.length
  simp only [Array.length_toList] at e
  omega
theorem Inv.list_inj (I:Inv X pins σ H s) (h:SqL X.K H a xs) (h':SqL X.K H a ys):xs=ys:=by
 obtain ⟨its,r,⟨o,n,e,_,_,d⟩,_⟩:=I.list h
 obtain ⟨its',r',⟨o',n',e',_,_,d'⟩,_⟩:=I.list h'
 rw [e] at e'; cases e'
 rw [d] at d'
 injection d' with d1 _
 have:its=its':=by simpa using congrArg Array.toList d1
 subst this
 exact r.inj r'
theorem Inv.tuple_inj (I:Inv X pins σ H s) (h:SqT X.K H a xs) (h':SqT X.K H a ys):xs=ys:=by
 obtain ⟨its,r,⟨o,e,_,n,d⟩,_⟩:=I.tuple h
 obtain ⟨its',r',⟨o',e',_,n',d'⟩,_⟩:=I.tuple h'
 rw [e] at e'; cases e'
 rw [d] at d'
 injection d' with d1 _
 have:its=its':=by simpa using congrArg Array.toList d1
 subst this
 exact r.inj r'
end
noncomputable abbrev Cx.wish (X:Cx) (E:Value->Shared->Prop):Cx:={ X with xe:=E }
noncomputable abbrev Cx.nox (X:Cx):Cx:=X.wish fun _ _=>False
theorem Cx.Ok.wish {X:Cx} (ok:X.Ok) (E:Value->Shared->Prop):(X.wish E).Ok :=
 ⟨ok.mod,ok.kind,ok.glob,ok.blt,ok.above,ok.inj,ok.has,ok.cab,ok.hd,ok.frames,ok.stk,ok.exf,ok.bs,ok.bsz,ok.noex,ok.exfs,ok.funs,ok.frf⟩
theorem Cx.Ok.unwish {X:Cx} {E:Value->Shared->Prop} (ok:(X.wish E).Ok):X.Ok :=
 ⟨ok.mod,ok.kind,ok.glob,ok.blt,ok.above,ok.inj,ok.has,ok.cab,ok.hd,ok.frames,ok.stk,ok.exf,ok.bs,ok.bsz,ok.noex,ok.exfs,ok.funs,ok.frf⟩
section
variable {X:Cx} {pins:List (Addr×Obj)} {σ:St} {H:Hp} {s:Shared} {E:Value->Shared->Prop}
theorem Inv.wish (I:Inv X pins σ H s) (E:Value->Shared->Prop):Inv (X.wish E) pins σ H s:=⟨I.ok.wish E,I.os,I.bare,I.base,I.loc,I.cell,I.free,I.freeC,I.pin,I.hok,I.len⟩
theorem Inv.unwish (I:Inv (X.wish E) pins σ H s):Inv X pins σ H s:=⟨I.ok.unwish,I.os,I.bare,I.base,I.loc,I.cell,I.free,I.freeC,I.pin,I.hok,I.len⟩
theorem SP.unwish {D:Ends} {f:Flow} {s':Shared} (h:SP (X.wish E) pins D f s'):SP X pins D f s':=by
 cases f with
 | next=>obtain ⟨σ',H',I,q⟩:=h; exact ⟨σ',H',I.unwish,q⟩
 | brk=>obtain ⟨σ',H',I,q⟩:=h; exact ⟨σ',H',I.unwish,q⟩
 | cont=>obtain ⟨σ',H',I,q⟩:=h; exact ⟨σ',H',I.unwish,q⟩
 | ret u=>obtain ⟨v,σ',H',I,r,q⟩:=h; exact ⟨v,σ',H',I.unwish,r,q⟩
theorem PSs.nox {st:List Stmt} {t:TS} (h:PSs X.nox st t):PSs X st t:=fun pins s σ H D I hw =>
 wpAny_mono (h pins s σ H D (I.wish _) hw) (fun _ _ q=>q.unwish) fun _ _ z=>False.elim z
end
section
variable {X:Cx} {st:Stmt} {rest:List Stmt} {t u:TS} {e:Expr} {te:TE} {pos:Pos}
noncomputable def tNext:TS:=fun D σ H=>D.nx σ H
noncomputable def tSeq (t u:TS):TS:=fun D σ H=>t { D with nx:=u D } σ H
theorem jH:PSs X [] tNext:=fun _ _ σ H _ I h=>wpAny_execs_nil ⟨σ,H,I,h⟩
theorem aZ (h1:PS X st t) (h2:PSs X rest u):PSs X (st::rest) (tSeq t u):=by
 intro pins s σ H D I h
 refine wpAny_execs_cons (thn (h1 pins s σ H { D with nx:=u D } I h) fun f s1 q=>?_)
 cases f with
 | next =>
  obtain ⟨σ',H',I',q⟩:=q
  exact h2 pins s1 σ' H' D I' q
 | ret v=>exact q
 | brk=>exact q
 | cont=>exact q
theorem cX (h1:PS X st t):PSs X [st] t:=by
 intro pins s σ H D I h
 refine wpAny_execs_cons (thn (h1 pins s σ H D I h) fun f s1 q=>?_)
 cases f with
 | next=>exact wpAny_execs_nil q
 | ret v=>exact q
 | brk=>exact q
 | cont=>exact q
theorem Inv.quiet {pins:List (Addr×Obj)} {σ:St} {H:Hp} {s:Shared} (I:Inv X pins σ H s):interactive X.env=false:=by simp [interactive,I.ok.kind]
noncomputable def tDrop (te:TE):TS:=fun D σ H=>te σ H fun _ H1=>D.nx σ H1
theorem nL (he:PE X e te) (hs:autoParam (swapsWith e none pos.line X.env=pure false) Z2._auto_1):PS X (.Expr e pos) (tDrop te):=by
 intro pins s σ H D I h
 exact wpAny_Expr_any (thn (he pins s σ H _ I h) fun v s1 ⟨x,H1,I1,r1,q1⟩=>⟨σ,H1,I1,q1⟩) I.quiet hs
noncomputable def tRet (te:TE):TS:=fun D σ H=>te σ H D.rt
theorem dU (he:PE X e te):PS X (.Return (some e) pos) (tRet te):=by
 intro pins s σ H D I h
 exact wpAny_Return_some (thn (he pins s σ H _ I h) fun v s1 ⟨x,H1,I1,r1,q1⟩=>⟨x,σ,H1,I1,r1,q1⟩)
noncomputable def tIfS (c:TT) (t u:TS):TS:=fun D σ H=>c σ H fun b H1=>if b=true then t D σ H1 else u D σ H1
theorem oY {c:Expr} {a b:List Stmt} {tc:TT} (hc:PT X c tc) (ha:PSs X a t) (hb:PSs X b u):PS X (.If c a b pos) (tIfS tc t u):=by
 intro pins s σ H D I h
 refine wpAny_If (thn (hc pins s σ H _ I h) fun d s1 ⟨H1,I1,q1⟩=>?_)
 cases d with
 | true=>exact ha pins s1 σ H1 D I1 q1
 | false=>exact hb pins s1 σ H1 D I1 q1
end
noncomputable abbrev TG:=V->St->Hp->(St->Hp->Prop)->Prop
noncomputable abbrev TGs:=List V->St->Hp->(St->Hp->Prop)->Prop
noncomputable def PG (X:Cx) (target:Expr) (t:TG):Prop :=
 ∀ (pins:List (Addr×Obj)) (s:Shared) (σ:St) (H:Hp) (v:V) (u:Value) (Q:St->Hp->Prop),Inv X pins σ H s->RelV v u->t v σ H Q ->
  wpAny (model X.prog X.w) X.A (assign target X.env u) (fun _ s'=>∃ σ' H',Inv X pins σ' H' s'/\Q σ' H') X.xe s
noncomputable def PGs (X:Cx) (ts:List Expr) (t:TGs):Prop :=
 ∀ (pins:List (Addr×Obj)) (s:Shared) (σ:St) (H:Hp) (vs:List V) (us:List Value) (Q:St->Hp->Prop),Inv X pins σ H s->Vals vs us->t vs σ H Q ->
  wpAny (model X.prog X.w) X.A (assignInOrder ((assignEach ts X.env).map (·.2)) us) (fun _ s'=>∃ σ' H',Inv X pins σ' H' s'/\Q σ' H') X.xe s
noncomputable abbrev TSet:=V->V->V->Hp->(Hp->Prop)->Prop
noncomputable def PSet (X:Cx) (t:TSet):Prop :=
 ∀ (pins:List (Addr×Obj)) (s:Shared) (σ:St) (H:Hp) (o i v:V) (ov iv u:Value) (Q:Hp->Prop),Inv X pins σ H s->RelV o ov->RelV i iv->RelV v u->t o i v H Q ->
  wpAny (model X.prog X.w) X.A (setItem ov iv u) (fun _ s'=>∃ H',Inv X pins σ H' s'/\Q H') X.xe s
section
variable {X:Cx} {pos:Pos}
noncomputable def gName (i:Nat):TG:=fun v σ H Q=>Q (σ.set i (some v)) H
theorem aK {i:Nat} {x:Str} (hN:X.N.Nodup) (hi:X.N[i]?=some x) (hx:Loc X.env.scope x) (hf:autoParam (X.fn x=true\/X.env.scope.names.lookup x=some .local) Z0._auto_1):PG X (.Name x pos) (gName i):=by
 intro pins s σ H v u Q I r h
 exact wpAny_assign_Name (fg I hN hi hx r (fun s' I'=>⟨_,H,I',h⟩) hf)
noncomputable def gNil:TGs:=fun vs σ H Q=>vs=[]/\Q σ H
noncomputable def gCons (t:TG) (u:TGs):TGs:=fun vs σ H Q=>∃ v r,vs=v::r/\t v σ H fun σ' H'=>u r σ' H' Q
theorem gG:PGs X [] gNil:=by
 intro pins s σ H vs us Q I r h
 obtain ⟨e,h⟩:=h
 subst e
 cases r
 exact assignInOrder_nil ⟨σ,H,I,h⟩
theorem b7 {e:Expr} {es:List Expr} {t:TG} {u:TGs} (h1:PG X e t) (h2:PGs X es u)
  (hs:autoParam ((assignEach (e::es) X.env).map (·.2)=assign e X.env::(assignEach es X.env).map (·.2)) Z2._auto_1):PGs X (e::es) (gCons t u):=by
 intro pins s σ H vs us Q I r h
 obtain ⟨v,vr,e1,h⟩:=h
 subst e1
 cases r with
 | cons r rr =>
  rw [hs]
  refine assignInOrder_cons (thn (h1 pins s σ H _ _ _ I r h) fun _ s1 ⟨σ1,H1,I1,q1⟩=>?_)
  exact h2 pins s1 σ1 H1 _ _ Q I1 rr q1
noncomputable def gTup (K:PySem.W.Frag) (n:Nat) (t:TGs):TG:=fun v σ H Q=>∃ a xs,v=.ref a/\SqT K H a xs/\xs.length=n/\t xs σ H Q
theorem iW {es:List Expr} {k:Nat} {t:TGs} {n:Nat} (hc:X.calm=true) (h:PGs X es t)
  (hn:autoParam ((assignEach es X.env).length=n) Z2._auto_1) (hst:autoParam ((assignEach es X.env).findIdx? (·.1)=none) Z2._auto_1):PG X (.Tuple es k pos) (gTup X.K n t):=by
 intro pins s σ H v u Q I r hw
 obtain ⟨a,xs,e1,hq,hl,hw⟩:=hw
 subst e1
 cases r
 obtain ⟨its,rv,ht,hz⟩:=I.tuple hq
 refine assign_Tuple_tuple (I.ok.hd hc) ht (by simp [hn,<- hl,rv.length]) hst fun h' hx=>?_
 have I1:Inv X pins σ H { s with heap:=h' }:=I.kept (t':=s.toks) fun b o e=>hx b o (Nat.ne_of_lt (Heap.lt_size e)) e
 exact h pins _ σ H xs _ Q I1 (by simpa using rv) hw
noncomputable def gSub (to ti:TE) (t:TSet):TG:=fun v σ H Q=>to σ H fun o H1=>ti σ H1 fun i H2=>t o i v H2 fun H3=>Q σ H3
theorem iX {o i:Expr} {to ti:TE} {t:TSet} (ho:PE X o to) (hi:PE X i ti) (hs:PSet X t)
  (ha:autoParam (∀ v,assign (.Subscript o i pos) X.env v=(do
   let ov <- holding [v] (eval o X.env)
   let iv <- holding [v,ov] (eval i X.env)
   standAt pos
   holding [v,ov,iv] (setItem ov iv v)
   release [v,ov,iv] [])) Z3._auto_1):PG X (.Subscript o i pos) (gSub to ti t):=by
 intro pins s σ H v u Q I r h
 rw [ha]
 refine wpAny_bind (wpAny_holding (thn (ho pins s σ H _ I h) fun ov s1 ⟨x,H1,I1,r1,q1⟩=>?_))
 refine wpAny_bind (wpAny_holding (thn (hi pins s1 σ H1 _ I1 q1) fun iv s2 ⟨y,H2,I2,r2,q2⟩=>?_))
 refine wpAny_bind (wpAny_standAt (wpAny_bind (wpAny_holding (thn (hs pins s2 σ H2 x y v ov iv u _ I2 r1 r2 r q2) fun _ s3 ⟨H3,I3,q3⟩=>?_))))
 exact wpAny_release ⟨σ,H3,I3,q3⟩
noncomputable def tAsg (te:TE) (g:TG):TS:=fun D σ H=>te σ H fun x H1=>g x σ H1 D.nx
theorem gf {tg e:Expr} {te:TE} {g:TG} (he:PE X e te) (hg:PG X tg g) (hs:autoParam (swapsWithSole [tg] e pos.line X.env=pure false) Z2._auto_1) (hw:autoParam (swappedStores [tg] e X.env=pure none) Z2._auto_1)
  (h1:autoParam ((assignEach [tg] X.env).map (·.2)=[assign tg X.env]) Z2._auto_1):PS X (.Assign [tg] e pos) (tAsg te g):=by
 intro pins s σ H D I h
 refine wpAny_Assign_stores (thn (he pins s σ H _ I h) fun v s1 ⟨x,H1,I1,r1,q1⟩=>?_) hs hw
 rw [h1]
 exact thn (hg pins s1 σ H1 x v _ I1 r1 q1) fun _ s2 q=>q
theorem bO {i:Nat} {x:Str} {e:Expr} {te:TE} {pos':Pos} (hN:X.N.Nodup) (hi:X.N[i]?=some x) (hx:Loc X.env.scope x) (he:PE X e te) (hs:autoParam (swapsWith e (some (.Name x pos')) pos.line X.env=pure false) Z2._auto_1) (hf:autoParam (X.fn x=true\/X.env.scope.names.lookup x=some .local) Z0._auto_1) :
  PS X (.Assign [.Name x pos'] e pos) (tAsg te (gName i)):=by
 intro pins s σ H D I h
 refine wpAny_Assign_Name (thn (he pins s σ H _ I h) fun v s1 ⟨y,H1,I1,r1,q1⟩=>?_) hs
 exact fg I1 hN hi hx r1 (fun s2 I2=>⟨_,H1,I2,q1⟩) hf
noncomputable def tPar (i j:Nat) (ta:TA):TS:=fun D σ H=>ta σ H fun vs H1=>∃ v w,vs=[v,w]/\D.nx ((σ.set i (some v)).set j (some w)) H1
theorem uY {i j:Nat} {x y:Str} {a b:Expr} {ta:TA} {px py pt:Pos} {kt k2 pt2} (hc:X.calm=true) (hN:X.N.Nodup) (hi:X.N[i]?=some x) (hj:X.N[j]?=some y) (hij:i≠j)
  (hx:X.env.scope.names.lookup x=some .local) (hy:X.env.scope.names.lookup y=some .local) (ha:PA X [a,b] ta)
  (hw:swappedStores [.Tuple [.Name x px,.Name y py] kt pt] (.Tuple [a,b] k2 pt2) X.env=pure (some [x,y]))
  (hs:autoParam (swapsWithSole [.Tuple [.Name x px,.Name y py] kt pt] (.Tuple [a,b] k2 pt2) pos.line X.env=pure false) Z2._auto_1) :
  PS X (.Assign [.Tuple [.Name x px,.Name y py] kt pt] (.Tuple [a,b] k2 pt2) pos) (tPar i j ta):=by
 intro pins s σ H D I h
 rw [exec_Assign_arm]
 refine wpAny_bind (wpAny_standAt ?_)
 rw [hs]
 refine wpAny_bind (wpAny_pure ?_)
 rw [if_neg (by decide)]
 refine wpAny_bind (Tuple_ (thn (ha _ pins s σ H _ I h) fun us s1 ⟨vs,H1,I1,r1,q1⟩=>?_))
 obtain ⟨v,w,e1,q1⟩:=q1
 subst e1
 obtain ⟨u1,u2,rfl,rv,rw'⟩:∃ u1 u2,us=[u1,u2]/\RelV v u1/\RelV w u2:=by
  cases r1 with
  | cons p q =>
   cases q with
   | cons p' q' =>
    cases q'
    exact ⟨_,_,rfl,p,p'⟩
 refine wpAny_newObj_type ?_ (by show 2<=sizeLine; decide)
 have I2:Inv X pins σ H1 { s1 with heap:=s1.heap.push { cls:=.type "tuple",data:=.seq [u1,u2].toArray } }:=I1.kept (t':=s1.toks) fun b o e=>Heap.get?_push_of_some _ e
 rw [hw]
 refine wpAny_bind (wpAny_pure ?_)
 show wpAny (model X.prog X.w) X.A (do rule "assign.swapped-stores"; let items <- unpackItems (.ref s1.heap.objs.size) 2 none; assignInOrder [fun v=>bindName X.env y v,fun v=>bindName X.env x v] items.reverse; pure Flow.next) _ _ _
 refine wpAny_bind (wpAny_rule (wpAny_bind (unpackItems_tuple (items:=#[u1,u2]) (I.ok.hd hc) (IsTup.new s1.heap _) fun h' hx'=>?_)))
 have I3:=I2.kept (h':=h') (t':=s1.toks) fun b o e=>hx' b o (Nat.ne_of_lt (Heap.lt_size e)) e
 show wpAny _ _ (assignInOrder [fun v=>bindName X.env y v,fun v=>bindName X.env x v] [u2,u1] >>= fun _=>pure Flow.next) _ _ _
 refine wpAny_bind (assignInOrder_cons (wpAny_bindName (fg I3 hN hj (.inl hy) rw' (fun s2 I4=>?_) (.inr hy))))
 refine assignInOrder_cons (wpAny_bindName (fg I4 hN hi (.inl hx) rv (fun s3 I5=>assignInOrder_nil (wpAny_pure ?_)) (.inr hx)))
 rw [List.set_comm _ _ (Ne.symm hij)] at I5
 exact ⟨_,H1,I5,q1⟩
end
section
variable {X:Cx} {pos:Pos}
noncomputable def tWhile (c:TT) (tb:TS):TS:=fun D σ H=>∃ W:Nat->St->Hp->Prop,(∃ m,W m σ H)/\∀ m σ H,W m σ H ->
 c σ H fun b H1=>if b=true then ∃ N:St->Hp->Prop,(∀ σ' H',N σ' H'->∃ m',m'<m/\W m' σ' H')/\tb { D with nx:=N,ct:=N,bk:=D.nx } σ H1 else D.nx σ H1
theorem rL {c:Expr} {body:List Stmt} {tc:TT} {tb:TS} (hp:PassesOwn (model X.prog X.w) X.A X.env X.xe) (hc:PT X c tc) (hb:PSs X body tb):PS X (.While c body [] pos) (tWhile tc tb):=by
 intro pins s σ H D I h
 obtain ⟨W,⟨m0,w0⟩,turn⟩:=h
 refine wpAny_While (codeAny_whileLoop (fun n s'=>∃ σ' H',Inv X pins σ' H' s'/\W n σ' H') ?_ m0 ⟨σ,H,I,w0⟩)
 rintro n s1 ⟨σ1,H1,I1,w1⟩
 refine wpAny_passesOwn hp (thn (hc pins s1 σ1 H1 _ I1 (turn n σ1 H1 w1)) fun b s2 ⟨H2,I2,q2⟩=>?_)
 cases b with
 | true =>
  obtain ⟨N,hN,q2⟩:=q2
  rw [if_pos rfl]
  refine wpAny_passesOwn hp (thn (hb pins s2 σ1 H2 _ I2 q2) fun f s3 q3=>?_)
  cases f with
  | next =>
   obtain ⟨σ3,H3,I3,n3⟩:=q3
   obtain ⟨m',hm,w3⟩:=hN σ3 H3 n3
   exact ⟨m',hm,σ3,H3,I3,w3⟩
  | cont =>
   obtain ⟨σ3,H3,I3,n3⟩:=q3
   obtain ⟨m',hm,w3⟩:=hN σ3 H3 n3
   exact ⟨m',hm,σ3,H3,I3,w3⟩
  | brk=>exact q3
  | ret v=>exact q3
 | false =>
  rw [if_neg Bool.false_ne_true]
  exact wpAny_execs_nil ⟨σ1,H2,I2,q2⟩
end
structure It where
 go:Nat->Hp->Prop
 yld:Nat->Hp->V->Hp->Prop
 stop:Nat->Hp->Prop
noncomputable def FpOk (X:Cx) (pins:List (Addr×Obj)) (H:Hp) (b:Addr):Prop :=
 H b=none/\b≠X.env.locals/\b∉X.fs/\(b∈X.ex\/X.s₀.heap.objs.size<=b)/\(∀ x c,X.env.cells.lookup x=some c->c≠b)/\∀ p∈X.pn++pins,p.1≠b
theorem Inv.fpOk {X:Cx} {pins:List (Addr×Obj)} {σ:St} {H H':Hp} {s:Shared} {b:Addr} (I:Inv X pins σ H s) (hb:s.heap.objs.size<=b) (hn:H' b=none):FpOk X pins H' b:=by
 refine ⟨hn,Nat.ne_of_gt (Nat.lt_of_lt_of_le I.lt hb),I.nofs hb,.inr (Nat.le_trans I.sz hb),fun x c e z=>?_,fun p hp z=>?_⟩
 ·obtain ⟨v,q⟩:=I.cell x c e
  exact absurd (Nat.lt_of_lt_of_le q.lt (by rw [z]; exact hb)) (Nat.lt_irrefl _)
 ·exact absurd (Nat.lt_of_lt_of_le (Heap.lt_size (I.pin p hp).1) (by rw [z]; exact hb)) (Nat.lt_irrefl _)
structure Turn (P:Program) (w:World) (K:PySem.W.Frag) (tg:Expr) (J:It) (fp:List Addr) (it:Addr) (tn:Nat->Heap->Prop):Prop where
 mem:it∈fp
 obj:∀ i h,tn i h->∀ b∈fp,∃ o,h.get? b=some o/\∀ v,o.data≠.cell v
 keep:∀ i h h',tn i h->(∀ b∈fp,∀ o,h.get? b=some o->h'.get? b=some o)->tn i h'
 item:∀ (X:Cx),X.prog=P->X.w=w->X.K=K->X.calm=true->∀ (i:Nat) (pins:List (Addr×Obj)) (s:Shared) (σ:St) (H:Hp) (E:Value->Shared->Prop),Inv X pins σ H s->(∀ b∈fp,FpOk X pins H b)->tn i s.heap->J.go i H ->
  wpAny (model P w) X.A (pyNext (.ref it)) (fun r s1=>∃ u,r=some u /\
   wpAny (model P w) X.A (letOwnedTupleGo tg (.ref it) u) (fun _ s2=>∃ x H',Inv X pins σ H' s2/\RelV x u/\J.yld i H x H'/\tn (i+1) s2.heap/\∀ b∈fp,H' b=none) E s1) E s
 done:∀ (X:Cx),X.prog=P->X.w=w->X.K=K->X.calm=true->∀ (i:Nat) (pins:List (Addr×Obj)) (s:Shared) (σ:St) (H:Hp) (E:Value->Shared->Prop),Inv X pins σ H s->(∀ b∈fp,FpOk X pins H b)->tn i s.heap->J.stop i H ->
  wpAny (model P w) X.A (pyNext (.ref it)) (fun r s1=>r=none/\Inv X pins σ H s1) E s
 self:∀ (A:Around) (i:Nat) (s:Shared) (Q:Value->Shared->Prop) (E:Value->Shared->Prop),tn i s.heap->Q (.ref it) s->wpAny (model P w) A (pyIter (.ref it)) Q E s
noncomputable abbrev TI:=St->Hp->(It->Hp->Prop)->Prop
noncomputable def PIE (X:Cx) (pins:List (Addr×Obj)) (σ:St) (tg:Expr) (R:It->Hp->Prop) (itv:Value) (s2:Shared):Prop :=
 ∃ (it:Addr) (fp:List Addr) (tn:Nat->Heap->Prop) (J:It) (H':Hp),itv=.ref it/\Inv X pins σ H' s2/\Turn X.prog X.w X.K tg J fp it tn/\tn 0 s2.heap/\(∀ b∈fp,FpOk X pins H' b)/\R J H'
noncomputable def PI (X:Cx) (tg iter:Expr) (wi:TI):Prop :=
 ∀ (pins:List (Addr×Obj)) (s:Shared) (σ:St) (H:Hp) (R:It->Hp->Prop),Inv X pins σ H s->wi σ H R ->
  wpAny (model X.prog X.w) X.A (eval iter X.env) (fun v s1=>wpAny (model X.prog X.w) X.A (pyIter v) (PIE X pins σ tg R) X.xe s1) X.xe s
theorem pi {M:Model} {A:Around} {E:Value->Shared->Prop} {s:Shared} {tg:Expr} {it:Addr} {u:Value} {o:Obj} {n:String} {vs:Array Value} {Q:Unit->Shared->Prop} (ho:s.heap.get? it=some o) (hc:o.cls=.type n) (hd:o.data=.fields vs)
  (hn:["enumerate", "zip", "dict_itemiterator", "dict_reverseitemiterator", "odict_iterator", "itertools.zip_longest", "itertools.pairwise"].contains n=false) (hQ:Q () s):wpAny M A (letOwnedTupleGo tg (.ref it) u) Q E s:=by
 unfold letOwnedTupleGo
 cases tg <;> first
  | exact wpAny_pure hQ
  | (cases u <;> first
    | exact wpAny_pure hQ
    | (
      refine wpAny_bind (wpAny_load ho ?_)
      rw [hc,hd]
      show wpAny M A (if (["enumerate", "zip", "dict_itemiterator", "dict_reverseitemiterator", "odict_iterator", "itertools.zip_longest", "itertools.pairwise"].contains n && vs[0]?==some (rawInt _))=true then _ else _) Q E s
      rw [if_neg (by intro h; rw [hn,Bool.false_and] at h; cases h)]
      exact wpAny_pure hQ))
noncomputable def Itl (K:PySem.W.Frag) (a:Addr):It :=
 ⟨fun i H=>∃ xs x,SqL K H a xs/\xs[i]?=some x,fun i H x H'=>H'=H/\∀ xs,SqL K H a xs->xs[i]?=some x,fun i H=>∃ xs,SqL K H a xs/\xs.length<=i⟩
noncomputable def Itt (K:PySem.W.Frag) (a:Addr):It :=
 ⟨fun i H=>∃ xs x,SqT K H a xs/\xs[i]?=some x,fun i H x H'=>H'=H/\∀ xs,SqT K H a xs->xs[i]?=some x,fun i H=>∃ xs,SqT K H a xs/\xs.length<=i⟩
noncomputable def Itr (lo:Int) (n:Nat):It:=⟨fun i _=>i<n,fun i H x H'=>H'=H/\x=.int (lo+i),fun i _=>n<=i⟩
theorem kn {P:Program} {w:World} {K:PySem.W.Frag} {tg:Expr} (a it:Addr):Turn P w K tg (Itl K a) [it] it (fun i h=>h.IsListIter it a i) where
 mem:=by simp
 obj:=fun i h st b hb=>by
  have e:b=it:=by simpa using hb
  subst e
  obtain ⟨o,e,c,d⟩:=st
  exact ⟨o,e,fun v z=>by rw [d] at z; cases z⟩
 keep:=fun i h h' st k=>st.at fun o e=>k it (by simp) o e
 item:=by
  intro X hP hw hK hc i pins s σ H E I hf st hg
  subst hP hw hK
  obtain ⟨xs,x,hq,hx⟩:=hg
  obtain ⟨its,rv,p,hz⟩:=I.list hq
  obtain ⟨u,hu,ru⟩:=rv.get hx
  obtain ⟨f0,f1,f2,f3,f4,f5⟩:=hf it (by simp)
  refine wpAny_pyNext_list_item st p.isList (x:=u) (by simpa using hu) fun h' st' sb=>?_
  have I1:Inv X pins σ H { s with heap:=h' }:=I.turned (t':=s.toks) (fun b o hb e=>(sb.2 b hb).trans e) f0 f1 f3 f4 f5
  obtain ⟨o,e,c,d⟩:=id st'
  exact ⟨u,rfl,pi (s:={ s with heap:=h' }) e c d (by decide) ⟨x,H,I1,ru,⟨rfl,fun ys hy=>by rw [I.list_inj hy hq]; exact hx⟩,st',fun b hb=>(hf b hb).1⟩⟩
 done:=by
  intro X hP hw hK hc i pins s σ H E I hf st hg
  subst hP hw hK
  obtain ⟨xs,hq,hx⟩:=hg
  obtain ⟨its,rv,p,hz⟩:=I.list hq
  obtain ⟨f0,f1,f2,f3,f4,f5⟩:=hf it (by simp)
  have hl:=rv.length
  exact wpAny_pyNext_list_end (I.ok.hd hc) st p.isList (by simp; omega) fun h' eb=>⟨rfl,I.turned (t':=s.toks) (fun b o hb e=>eb b o hb e) f0 f1 f3 f4 f5⟩
 self:=fun _ _ _ _ _ st h=>wpAny_pyIter_listiter st h
theorem oN {P:Program} {w:World} {K:PySem.W.Frag} {tg:Expr} (a it:Addr):Turn P w K tg (Itt K a) [it] it (fun i h=>h.IsTupleIter it a i) where
 mem:=by simp
 obj:=fun i h st b hb=>by
  have e:b=it:=by simpa using hb
  subst e
  obtain ⟨o,e,c,d⟩:=st
  exact ⟨o,e,fun v z=>by rw [d] at z; cases z⟩
 keep:=fun i h h' st k=>st.at fun o e=>k it (by simp) o e
 item:=by
  intro X hP hw hK hc i pins s σ H E I hf st hg
  subst hP hw hK
  obtain ⟨xs,x,hq,hx⟩:=hg
  obtain ⟨its,rv,p,hz⟩:=I.tuple hq
  obtain ⟨u,hu,ru⟩:=rv.get hx
  obtain ⟨f0,f1,f2,f3,f4,f5⟩:=hf it (by simp)
  refine wpAny_pyNext_tuple_item st (show s.heap.IsTuple a its.toArray from p) (x:=u) (by simpa using hu) fun h' st' sb=>?_
  have I1:Inv X pins σ H { s with heap:=h' }:=I.turned (t':=s.toks) (fun b o hb e=>(sb.2 b hb).trans e) f0 f1 f3 f4 f5
  obtain ⟨o,e,c,d⟩:=id st'
  exact ⟨u,rfl,pi (s:={ s with heap:=h' }) e c d (by decide) ⟨x,H,I1,ru,⟨rfl,fun ys hy=>by rw [I.tuple_inj hy hq]; exact hx⟩,st',fun b hb=>(hf b hb).1⟩⟩
 done:=by
  intro X hP hw hK hc i pins s σ H E I hf st hg
  subst hP hw hK
  obtain ⟨xs,hq,hx⟩:=hg
  obtain ⟨its,rv,p,hz⟩:=I.tuple hq
  obtain ⟨f0,f1,f2,f3,f4,f5⟩:=hf it (by simp)
  have hl:=rv.length
  exact wpAny_pyNext_tuple_end (I.ok.hd hc) st (show s.heap.IsTuple a its.toArray from p) (by simp; omega) fun h' eb=>⟨rfl,I.turned (t':=s.toks) (fun b o hb e=>eb b o hb e) f0 f1 f3 f4 f5⟩
 self:=fun _ _ _ _ _ st h=>wpAny_pyIter_tupleiter st h
theorem oO {P:Program} {w:World} {K:PySem.W.Frag} {tg:Expr} (it:Addr) (lo:Int) (n:Nat):Turn P w K tg (Itr lo n) [it] it (fun i h=>IsRangeIter h it (lo+(i:Nat)*1) ((n:Int) - (i:Nat)) 1) where
 mem:=by simp
 obj:=fun i h st b hb=>by
  have e:b=it:=by simpa using hb
  subst e
  exact ⟨_,st,fun v z=>by
   have z':Data.fields _=Data.cell v:=z
   cases z'⟩
 keep:=fun i h h' st k=>k it (by simp) _ st
 item:=by
  intro X hP hw hK hc i pins s σ H E I hf st hg
  subst hP hw hK
  obtain ⟨f0,f1,f2,f3,f4,f5⟩:=hf it (by simp)
  have W:=Walks.range (prog:=X.prog) (w:=X.w) (I.ok.hd hc) it lo 1 n
  refine W.item i s _ _ hg st fun v h' tk hv st' kk=>?_
  obtain ⟨t,rfl⟩:=hv
  have I1:Inv X pins σ H { s with heap:=h',toks:=tk }:=I.turned (fun b o hb e=>kk b o (by simpa using hb) e) f0 f1 f3 f4 f5
  refine ⟨_,rfl,pi (s:={ s with heap:=h',toks:=tk }) (n := "range_iterator") st' rfl rfl (by decide) ⟨.int (lo+i),H,I1,⟨t,?_⟩,⟨rfl,rfl⟩,st',fun b hb=>(hf b hb).1⟩⟩
  rw [Int.mul_one]
 done:=by
  intro X hP hw hK hc i pins s σ H E I hf st hg
  subst hP hw hK
  obtain ⟨f0,f1,f2,f3,f4,f5⟩:=hf it (by simp)
  exact wpAny_pyNext_range_end (I.ok.hd hc) st (by have:n<=i:=hg; omega) fun h' eb=>⟨rfl,I.turned (t':=s.toks) (fun b o hb e=>eb b o hb e) f0 f1 f3 f4 f5⟩
 self:=fun _ _ _ _ _ st h=>wpAny_pyIter_rangeiter st h
end L2
namespace L2
open PySem PySem.Spec PyProof.Rows
section
variable {X:Cx} {tg:Expr}
noncomputable def iList (K:PySem.W.Frag) (tl:TE):TI:=fun σ H R=>tl σ H fun x H1=>∃ a,x=.ref a/\(∃ xs,SqL K H1 a xs)/\R (Itl K a) H1
theorem tP {l:Expr} {tl:TE} (hl:PE X l tl):PI X tg l (iList X.K tl):=by
 intro pins s σ H R I h
 refine thn (hl pins s σ H _ I h) fun v s1 ⟨x,H1,I1,r1,q1⟩=>?_
 obtain ⟨a,e,⟨xs,hq⟩,q⟩:=q1
 subst e
 cases r1
 obtain ⟨its,rv,p,hz⟩:=I1.list hq
 refine wpAny_pyIter_list p.isList ?_
 refine ⟨s1.heap.objs.size,[s1.heap.objs.size],_,_,H1,rfl,I1.kept (t':=s1.toks) fun b o e=>Heap.get?_push_of_some _ e,kn a _,⟨_,Heap.get?_push_size _ rfl,rfl,rfl⟩,fun b hb=>?_,q⟩
 have e:b=s1.heap.objs.size:=by simpa using hb
 subst e
 exact I1.fpOk (Nat.le_refl _) (I1.hok.fresh (Nat.le_refl _))
theorem rB {pins:List (Addr×Obj)} {σ:St} {H:Hp} {s:Shared} {R:It->Hp->Prop} {E:Value->Shared->Prop} {lo hi:Int} {t u v:Tok} {tk:Nat} (I:Inv X pins σ H s) (h1 : -(2 ^ 62)<=lo) (h2:lo<2 ^ 62) (h3 : -(2 ^ 62)<=hi) (h4:hi<2 ^ 62)
  (q:R (Itr lo (hi - lo).toNat) H):wpAny (model X.prog X.w) X.A (pyIter (.ref s.heap.objs.size)) (PIE X pins σ tg R) E { s with heap:=s.heap.push { cls:=.type "range",data:=.fields #[.int lo t,.int hi u,.int 1 v] },toks:=tk }:=by
 refine wpAny_pyIter_range (IsRange.new ..) (small_one h1 h2 h3 h4) ?_
 have I1:Inv X pins σ H { s with heap:=s.heap.push { cls:=.type "range",data:=.fields #[.int lo t,.int hi u,.int 1 v] },toks:=tk }:=I.kept fun b o e=>Heap.get?_push_of_some _ e
 refine ⟨(s.heap.push { cls:=.type "range",data:=.fields #[.int lo t,.int hi u,.int 1 v] }).objs.size,[(s.heap.push { cls:=.type "range",data:=.fields #[.int lo t,.int hi u,.int 1 v] }).objs.size],_,_,H,rfl,
  I1.kept (t':=tk) fun b o e=>Heap.get?_push_of_some _ e,oO _ lo (hi - lo).toNat,?_,fun b hb=>?_,q⟩
 ·have e1:lo+((0:Nat):Int)*1=lo:=by simp
  have e2:(((hi - lo).toNat:Nat):Int) - ((0:Nat):Int)=Builtin.Range.rangeSize lo hi 1:=by rw [rangeSize_one]; split <;> omega
  show IsRangeIter _ _ (lo+((0:Nat):Int)*1) ((((hi - lo).toNat:Nat):Int) - ((0:Nat):Int)) 1
  rw [e1,e2]
  exact Heap.get?_push_size _ rfl
 ·have e:b=(s.heap.push { cls:=.type "range",data:=.fields #[.int lo t,.int hi u,.int 1 v] }).objs.size:=by simpa using hb
  subst e
  exact I1.fpOk (Nat.le_refl _) (I1.hok.fresh (Nat.le_refl _))
noncomputable def iRng1 (ta:TA):TI:=fun σ H R=>ta σ H fun vs H1=>∃ j:Int,vs=[.int j] /\ -(2 ^ 62)<=j/\j<2 ^ 62/\R (Itr 0 j.toNat) H1
theorem qe {a:Expr} {ta:TA} {p pos:Pos} (hg:Gl X "range") (hm:X.mg "range" = none) (ha:PA X [a] ta) (hs:autoParam (starEach [a] X.env=[(false,eval a X.env)]) Z2._auto_1):PI X tg (.Call (.Name "range" p) [a] [] pos) (iRng1 ta):=by
 intro pins s σ H R I h
 refine Call_ (ed I hg hm boot_range (PyProof.Rows.callWith_type1 (thn (ha pos pins s σ H _ I h) fun us s1 ⟨vs,H1,I1,r1,q1⟩=>?_) hs rfl))
 obtain ⟨j,e,q1,q2,q⟩:=q1
 subst e
 cases r1 with
 | cons r rr =>
  cases rr
  obtain ⟨t,rfl⟩:=r
  exact call_range_1 (rB I1 (by omega) (by omega) q1 q2 (by simpa using q))
noncomputable def tFor (wi:TI) (g:TG) (tb:TS):TS:=fun D σ H=>wi σ H fun J H1=>∃ W:Nat->Nat->St->Hp->Prop,(∃ m,W 0 m σ H1)/\∀ i m σ H,W i m σ H ->
 (J.stop i H/\D.nx σ H)\/(J.go i H/\∃ N:St->Hp->Prop,(∀ σ' H',N σ' H'->∃ m',m'<m/\W (i+1) m' σ' H')/\∀ x H',J.yld i H x H'->g x σ H' fun σ2 H2=>tb { D with nx:=N,ct:=N,bk:=D.nx } σ2 H2)
noncomputable def pinsAt (fp:List Addr) (h:Heap):List (Addr×Obj):=fp.filterMap fun b=>(h.get? b).map fun o=>(b,o)
theorem bR {fp:List Addr} {h:Heap} {b:Addr} {o:Obj} (hb:b∈fp) (e:h.get? b=some o):(b,o)∈pinsAt fp h:=List.mem_filterMap.mpr ⟨b,hb,by rw [e]; rfl⟩
theorem qp {fp:List Addr} {h:Heap} {p:Addr×Obj} (hp:p∈pinsAt fp h):p.1∈fp/\h.get? p.1=some p.2:=by
 obtain ⟨b,hb,e⟩:=List.mem_filterMap.mp hp
 cases q:h.get? b with
 | none=>rw [q] at e; cases e
 | some o =>
  rw [q] at e
  have e':(b,o)=p:=Option.some.inj e
  subst e'
  exact ⟨hb,q⟩
theorem Inv.pinned {pins:List (Addr×Obj)} {σ:St} {H:Hp} {s:Shared} {fp:List Addr} (I:Inv X pins σ H s) (hf:∀ b∈fp,FpOk X pins H b) (ho:∀ b∈fp,∃ o,s.heap.get? b=some o/\∀ v,o.data≠.cell v):Inv X (pins++pinsAt fp s.heap) σ H s :=
 I.pins_of fun p hp=>(List.mem_append.mp hp).elim (fun z=>I.pin p (List.mem_append_right _ z)) fun z=>by
  obtain ⟨hb,e⟩:=qp z
  obtain ⟨f0,f1,f2,_⟩:=hf p.1 hb
  obtain ⟨o,e',d⟩:=ho p.1 hb
  rw [e] at e'; cases e'
  exact ⟨e,f0,f1,f2,d⟩
theorem Inv.unpinned {pins pl:List (Addr×Obj)} {σ:St} {H:Hp} {s:Shared} (I:Inv X (pins++pl) σ H s):Inv X pins σ H s:=I.pins_of fun p hp=>I.pin p (List.mem_append_right _ (List.mem_append_left _ hp))
theorem qb {iter:Expr} {body:List Stmt} {wi:TI} {g:TG} {tb:TS} {pos:Pos} (hp:PassesOwn (model X.prog X.w) X.A X.env X.xe) (hc:X.calm=true) (hi:PI X tg iter wi) (hg:PG X tg g) (hb:PSs X body tb)
  (hs:autoParam (∀ x,foldedSetIterable iter X.env x=pure x) Z3._auto_1):PS X (.For tg iter body [] pos) (tFor wi g tb):=by
 intro pins s σ H D I h
 refine wpAny_For (thn (hi pins s σ H _ I h) fun v s1 h1=>thn h1 fun itv s2 h2=>?_) hs
 obtain ⟨it,fp,tn,J,H2,e,I2,T,st2,f2,W,⟨m0,w0⟩,turn⟩:=h2
 subst e
 have stat:∀ {H':Hp},(∀ b∈fp,H' b=none)->∀ b∈fp,FpOk X pins H' b:=fun hn b hb=>⟨hn b hb,(f2 b hb).2⟩
 refine codeAny_forLoop_any (fun n s'=>∃ i σ' H',Inv X pins σ' H' s'/\tn i s'.heap/\(∀ b∈fp,H' b=none)/\W i n σ' H') ?_ m0 ⟨0,σ,H2,I2,st2,fun b hb=>(f2 b hb).1,w0⟩
 rintro n s3 ⟨i,σ3,H3,I3,st3,fr3,w3⟩
 rcases turn i n σ3 H3 w3 with ⟨stop,qn⟩ | ⟨go,N,hN,step⟩
 ·refine wpAny_passesOwn hp (thn (T.done X rfl rfl rfl hc i pins s3 σ3 H3 X.xe I3 (stat fr3) st3 stop) fun r s4 ⟨hr,I4⟩=>?_)
  subst hr
  exact wpAny_execs_nil ⟨σ3,H3,I4,qn⟩
 ·refine wpAny_passesOwn hp (thn (T.item X rfl rfl rfl hc i pins s3 σ3 H3 X.xe I3 (stat fr3) st3 go) fun r s4 ⟨u,hr,h4⟩=>?_)
  subst hr
  refine wpAny_passesOwn hp (thn h4 fun _ s5 ⟨x,H5,I5,r5,y5,st5,fr5⟩=>?_)
  have I5':=I5.pinned (stat fr5) (T.obj _ _ st5)
  refine wpAny_passesOwn hp (thn (hg _ s5 σ3 H5 x u _ I5' r5 (step x H5 y5)) fun _ s6 ⟨σ6,H6,I6,q6⟩=>?_)
  refine wpAny_passesOwn hp (thn (hb _ s6 σ6 H6 _ I6 q6) fun f s7 q7=>?_)
  have again:∀ {σ7:St} {H7:Hp},Inv X (pins++pinsAt fp s5.heap) σ7 H7 s7->N σ7 H7->∃ m,m<n/\∃ i σ' H',Inv X pins σ' H' s7/\tn i s7.heap/\(∀ b∈fp,H' b=none)/\W i m σ' H':=fun {σ7 H7} I7 n7=>by
   obtain ⟨m',hm,w7⟩:=hN σ7 H7 n7
   refine ⟨m',hm,i+1,σ7,H7,I7.unpinned,T.keep _ _ _ st5 fun b hb o e=>(I7.pin (b,o) (List.mem_append_right _ (List.mem_append_right _ (bR hb e)))).1,fun b hb=>?_,w7⟩
   obtain ⟨o,e,d⟩:=T.obj _ _ st5 b hb
   exact (I7.pin (b,o) (List.mem_append_right _ (List.mem_append_right _ (bR hb e)))).2.1
  cases f with
  | next=>obtain ⟨σ7,H7,I7,n7⟩:=q7; exact again I7 n7
  | cont=>obtain ⟨σ7,H7,I7,n7⟩:=q7; exact again I7 n7
  | brk=>obtain ⟨σ7,H7,I7,q7⟩:=q7; exact ⟨σ7,H7,I7.unpinned,q7⟩
  | ret v=>obtain ⟨x7,σ7,H7,I7,r7,q7⟩:=q7; exact ⟨x7,σ7,H7,I7.unpinned,r7,q7⟩
end
theorem sA {K:PySem.W.Frag} {a:Addr} {xs:List V} {g:TG} {tb:TS} {D:Ends} {σ:St} {H:Hp} (Pv:Nat->St->Hp->Prop) (h0:Pv 0 σ H) (hl:∀ i σ H,i<=xs.length->Pv i σ H->SqL K H a xs)
  (hs:∀ i x σ H,xs[i]?=some x->Pv i σ H->g x σ H fun σ2 H2=>tb { D with nx:=Pv (i+1),ct:=Pv (i+1),bk:=D.nx } σ2 H2) (hd:∀ σ H,Pv xs.length σ H->D.nx σ H) :
  ∃ W:Nat->Nat->St->Hp->Prop,(∃ m,W 0 m σ H)/\∀ i m σ H,W i m σ H ->
   ((Itl K a).stop i H/\D.nx σ H)\/((Itl K a).go i H/\∃ N:St->Hp->Prop,(∀ σ' H',N σ' H'->∃ m',m'<m/\W (i+1) m' σ' H')/\∀ x H',(Itl K a).yld i H x H'->g x σ H' fun σ2 H2=>tb { D with nx:=N,ct:=N,bk:=D.nx } σ2 H2):=by
 refine ⟨fun i m σ H=>m=xs.length - i/\i<=xs.length/\Pv i σ H,⟨xs.length,by simp,Nat.zero_le _,h0⟩,?_⟩
 rintro i m σ H ⟨rfl,hi,p⟩
 have q:=hl i σ H hi p
 by_cases hlt:i<xs.length
 ·refine .inr ⟨⟨xs,xs[i],q,by simp [hlt]⟩,Pv (i+1),fun σ' H' p'=>⟨xs.length - (i+1),by omega,rfl,hlt,p'⟩,fun x H' y=>?_⟩
  obtain ⟨e,y⟩:=y
  subst e
  exact hs i x σ _ (y xs q) p
 ·have e:i=xs.length:=by omega
  subst e
  exact .inl ⟨⟨xs,q,Nat.le_refl _⟩,hd σ H p⟩
end L2
namespace L2
open PySem PySem.Spec PyProof.Rows
noncomputable abbrev R2:=V->V->Hp->VK->Prop
noncomputable def OpR (X:Cx) (f:Value->Value->Sem Value) (r:R2):Prop :=
 ∀ (pins:List (Addr×Obj)) (s:Shared) (σ:St) (H:Hp) (x y:V) (v u:Value) (Q:VK),Inv X pins σ H s->RelV x v->RelV y u->r x y H Q ->
  wpAny (model X.prog X.w) X.A (f v u) (EP X pins σ Q) X.xe s
noncomputable def CallR (X:Cx) (f:Value) (r:List V->Hp->VK->Prop):Prop :=
 ∀ (pins:List (Addr×Obj)) (s:Shared) (σ:St) (H:Hp) (xs:List V) (us:List Value) (Q:VK),Inv X pins σ H s->Vals xs us->r xs H Q ->
  wpAny (model X.prog X.w) X.A (call f us) (EP X pins σ Q) X.xe s
noncomputable def TruR (X:Cx) (r:V->Hp->(Bool->Hp->Prop)->Prop):Prop :=
 ∀ (pins:List (Addr×Obj)) (s:Shared) (σ:St) (H:Hp) (x:V) (v:Value) (Q:Bool->Hp->Prop),Inv X pins σ H s->RelV x v->r x H Q ->
  wpAny (model X.prog X.w) X.A (truthy v) (TP X pins σ Q) X.xe s
noncomputable def tOp (r:R2) (ta tb:TE):TE:=fun σ H Q=>ta σ H fun x H1=>tb σ H1 fun y H2=>r x y H2 Q
noncomputable def rI (C:Int->Int->Prop) (g:Int->Int->V):R2:=fun x y H Q=>∃ i j,x=.int i/\y=.int j/\C i j/\Q (g i j) H
noncomputable def rI0 (g:Int->Int->V):R2:=fun x y H Q=>∃ i j,x=.int i/\y=.int j/\Q (g i j) H
section
variable {X:Cx} {a b c:Expr} {ta tb tc:TE} {pos:Pos}
theorem binT (ha:PE X a ta) (hb:PE X b tb) {pins:List (Addr×Obj)} {s:Shared} {σ:St} {H:Hp} {R:V->V->Hp->Prop} (I:Inv X pins σ H s)
  (h:ta σ H fun x H1=>tb σ H1 fun y H2=>R x y H2) {Q:Value->Shared->Prop} {f:Value->Value->Sem Value}
  (hf:∀ v u s2 x y H2,Inv X pins σ H2 s2->RelV x v->RelV y u->R x y H2->wpAny (model X.prog X.w) X.A (f v u) Q X.xe s2) :
  wpAny (model X.prog X.w) X.A (eval a X.env) (fun v s₁=>wpAny (model X.prog X.w) X.A (eval b X.env) (fun u s₂=>wpAny (model X.prog X.w) X.A (f v u) Q X.xe s₂) X.xe s₁) X.xe s:=by
 refine thn (ha pins s σ H _ I h) fun v s1 ⟨x,H1,I1,r1,q1⟩=>?_
 refine thn (hb pins s1 σ H1 _ I1 q1) fun u s2 ⟨y,H2,I2,r2,q2⟩=>?_
 exact hf v u s2 x y H2 I2 r1 r2 q2
theorem aV {op:Operator} {r:R2} (ho:OpR X (binaryOp op) r) (ha:PE X a ta) (hb:PE X b tb):PE X (.BinOp a op b pos) (tOp r ta tb):=by
 intro pins s σ H Q I h
 exact wpAny_BinOp (binT ha hb I h fun v u s2 x y H2 I2 rx ry q=>ho pins s2 σ H2 x y v u Q I2 rx ry q)
theorem opI {f:Value->Value->Sem Value} {C:Int->Int->Prop} {g:Int->Int->Int}
  (rule:∀ (i j:Int) (t u:Tok) (s:Shared) (Q:Value->Shared->Prop) (E:Value->Shared->Prop),C i j->Q (.int (g i j) s.toks) { s with toks:=s.toks+1 }->wpAny (model X.prog X.w) X.A (f (.int i t) (.int j u)) Q E s) :
  OpR X f (rI C fun i j=>.int (g i j)):=by
 intro pins s σ H x y v u Q I rx ry h
 obtain ⟨i,j,rfl,rfl,hc,q⟩:=h
 obtain ⟨t,rfl⟩:=rx
 obtain ⟨t',rfl⟩:=ry
 exact rule i j t t' s _ _ hc ⟨.int (g i j),H,I.tok _,⟨_,rfl⟩,q⟩
theorem opI0 {f:Value->Value->Sem Value} {g:Int->Int->Int}
  (rule:∀ (i j:Int) (t u:Tok) (s:Shared) (Q:Value->Shared->Prop) (E:Value->Shared->Prop),Q (.int (g i j) s.toks) { s with toks:=s.toks+1 }->wpAny (model X.prog X.w) X.A (f (.int i t) (.int j u)) Q E s) :
  OpR X f (rI0 fun i j=>.int (g i j)):=by
 intro pins s σ H x y v u Q I rx ry h
 obtain ⟨i,j,rfl,rfl,q⟩:=h
 obtain ⟨t,rfl⟩:=rx
 obtain ⟨t',rfl⟩:=ry
 exact rule i j t t' s _ _ ⟨.int (g i j),H,I.tok _,⟨_,rfl⟩,q⟩
theorem opB0 {f:Value->Value->Sem Value} {g:Int->Int->Bool}
  (rule:∀ (i j:Int) (t u:Tok) (s:Shared) (Q:Value->Shared->Prop) (E:Value->Shared->Prop),Q (.bool (g i j)) s->wpAny (model X.prog X.w) X.A (f (.int i t) (.int j u)) Q E s) :
  OpR X f (rI0 fun i j=>.bl (g i j)):=by
 intro pins s σ H x y v u Q I rx ry h
 obtain ⟨i,j,rfl,rfl,q⟩:=h
 obtain ⟨t,rfl⟩:=rx
 obtain ⟨t',rfl⟩:=ry
 exact rule i j t t' s _ _ ⟨.bl (g i j),H,I,rfl,q⟩
noncomputable def CDiv (i j:Int):Prop:=0<j/\j<1073741824
noncomputable def CPow (i j:Int):Prop:=0<=j/\j<=1000000/\i.natAbs<2 ^ 64
noncomputable def CMul (i j:Int):Prop:=(-(2 ^ 64)<i/\i<2 ^ 64)\/(-(2 ^ 64)<j/\j<2 ^ 64)
theorem CMul.ok {i j:Int} (h:CMul i j):IntMulOk i j:=by
 rcases h with ⟨h1,h2⟩ | ⟨h1,h2⟩
 ·exact .of_left (intBits_le_64 h1 h2)
 ·exact .of_right (intBits_le_64 h1 h2)
theorem dh:OpR X (binaryOp .Add) (rI0 fun i j=>.int (i+j)):=opI0 fun _ _ _ _ _ _ _ q=>add_int q
theorem vg:OpR X (binaryOp .Sub) (rI0 fun i j=>.int (i - j)):=opI0 fun _ _ _ _ _ _ _ q=>sub_int q
theorem cG:OpR X (binaryOp .Mult) (rI CMul fun i j=>.int (i*j)):=opI fun _ _ _ _ _ _ _ hc q=>mul_int q hc.ok
theorem jK:OpR X (binaryOp .FloorDiv) (rI CDiv fun i j=>.int (i / j)):=opI fun i j _ _ _ _ _ hc q=>by
 have h1:(0:Int)<j:=hc.1
 have h2:j<1073741824:=hc.2
 exact floordiv_int (by omega) (by rw [Int.fdiv_eq_ediv_of_nonneg i (by omega)]; exact q) (.inl (PyProof.noPylong_small (by omega)))
theorem cH:OpR X (binaryOp .Mod) (rI (fun _ j=>0<j) fun i j=>.int (i % j)):=opI fun i j _ _ _ _ _ hc q=>by
 have h1:(0:Int)<j:=hc
 exact mod_int' (by omega) (by rw [Int.fmod_eq_emod_of_nonneg i (by omega)]; exact q)
theorem qj:OpR X (binaryOp .Pow) (rI CPow fun i j=>.int (i ^ j.toNat)):=opI fun _ _ _ _ _ _ _ hc q=>pow_int_small hc.1 hc.2.1 hc.2.2 q
end
noncomputable def scal:V->V->Bool
 | .non,.non=>true | .non,.int _=>true | .int _,.non=>true | .non,.bl _=>true | .bl _,.non=>true | .non,.str _=>true | .str _,.non=>true
 | .int _,.int _=>true | .bl _,.bl _=>true | .str _,.str _=>true | .byt _,.byt _=>true
 | .int _,.str _=>true | .str _,.int _=>true | .bl _,.str _=>true | .str _,.bl _=>true
 | _,_=>false
noncomputable def rEq:R2:=fun x y H Q=>scal x y=true/\Q (.bl (decide (x=y))) H
noncomputable def rNe:R2:=fun x y H Q=>scal x y=true/\Q (.bl (!decide (x=y))) H
theorem oi {i j:Int}:decide (V.int i=V.int j)=(i==j):=by
 rw [Bool.eq_iff_iff]
 simp
theorem qR {i j:Bool}:decide (V.bl i=V.bl j)=(i==j):=by
 rw [Bool.eq_iff_iff]
 simp
theorem oh {i j:Str}:decide (V.str i=V.str j)=(i==j):=by
 rw [Bool.eq_iff_iff]
 simp
theorem om {i j:Array UInt8}:decide (V.byt i=V.byt j)=(i.toList==j.toList):=by
 rw [Bool.eq_iff_iff]
 cases i
 cases j
 simp
section
variable {X:Cx} {a b c:Expr} {ta tb tc:TE} {pos:Pos}
theorem aH {pins:List (Addr×Obj)} {σ:St} {H:Hp} {s:Shared} {Q:VK} {k k':Bool} (I:Inv X pins σ H s) (q:Q (.bl k) H) (e:k=k'):EP X pins σ Q (.bool k') s:=by
 subst e
 exact ⟨.bl k,H,I,rfl,q⟩
theorem wC:OpR X (compareOp .Eq) rEq:=by
 intro pins s σ H x y v u Q I rx ry h
 obtain ⟨hs,q⟩:=h
 cases x with
 | non =>
  cases rx
  cases y with
  | non=>cases ry; exact PySem.EqNone.eq_none_none (aH I q (by simp))
  | bl j=>cases ry; exact PySem.EqNone.eq_none_bool (aH I q (by simp))
  | int j=>obtain ⟨t',rfl⟩:=ry; exact PySem.EqNone.eq_none_int (aH I q (by simp))
  | str j=>obtain ⟨t',rfl⟩:=ry; exact PySem.EqNone.eq_none_str (aH I q (by simp))
  | _=>exact absurd (show false=true from hs) Bool.false_ne_true
 | bl i =>
  cases rx
  cases y with
  | non=>cases ry; exact PySem.EqNone.eq_bool_none (aH I q (by simp))
  | bl j=>cases ry; exact eq_bool (aH I q qR)
  | str j=>obtain ⟨t',rfl⟩:=ry; exact PySem.EqMixed.eq_bool_str (aH I q (by simp))
  | _=>exact absurd (show false=true from hs) Bool.false_ne_true
 | int i =>
  obtain ⟨t,rfl⟩:=rx
  cases y with
  | non=>cases ry; exact PySem.EqNone.eq_int_none (aH I q (by simp))
  | int j=>obtain ⟨t',rfl⟩:=ry; exact eq_int (aH I q oi)
  | str j=>obtain ⟨t',rfl⟩:=ry; exact PySem.EqMixed.eq_int_str (aH I q (by simp))
  | _=>exact absurd (show false=true from hs) Bool.false_ne_true
 | str i =>
  obtain ⟨t,rfl⟩:=rx
  cases y with
  | non=>cases ry; exact PySem.EqNone.eq_str_none (aH I q (by simp))
  | bl j=>cases ry; exact PySem.EqMixed.eq_str_bool (aH I q (by simp))
  | int j=>obtain ⟨t',rfl⟩:=ry; exact PySem.EqMixed.eq_str_int (aH I q (by simp))
  | str j=>obtain ⟨t',rfl⟩:=ry; exact eq_str (aH I q oh)
  | _=>exact absurd (show false=true from hs) Bool.false_ne_true
 | byt i =>
  obtain ⟨t,rfl⟩:=rx
  cases y with
  | byt j=>obtain ⟨t',rfl⟩:=ry; exact PySem.W.eq_bytes (aH I q om)
  | _=>exact absurd (show false=true from hs) Bool.false_ne_true
 | _=>cases y <;> exact absurd (show false=true from hs) Bool.false_ne_true
theorem wz:OpR X (compareOp .NotEq) rNe:=by
 intro pins s σ H x y v u Q I rx ry h
 obtain ⟨hs,q⟩:=h
 cases x with
 | non =>
  cases rx
  cases y with
  | non=>cases ry; exact PySem.EqNone.ne_none_none (aH I q (by simp))
  | bl j=>cases ry; exact PySem.EqNone.ne_none_bool (aH I q (by simp))
  | int j=>obtain ⟨t',rfl⟩:=ry; exact PySem.EqNone.ne_none_int (aH I q (by simp))
  | str j=>obtain ⟨t',rfl⟩:=ry; exact PySem.EqNone.ne_none_str (aH I q (by simp))
  | _=>exact absurd (show false=true from hs) Bool.false_ne_true
 | bl i =>
  cases rx
  cases y with
  | non=>cases ry; exact PySem.EqNone.ne_bool_none (aH I q (by simp))
  | bl j=>cases ry; exact ne_bool (aH I q (congrArg not qR))
  | str j=>obtain ⟨t',rfl⟩:=ry; exact PySem.EqMixed.ne_bool_str (aH I q (by simp))
  | _=>exact absurd (show false=true from hs) Bool.false_ne_true
 | int i =>
  obtain ⟨t,rfl⟩:=rx
  cases y with
  | non=>cases ry; exact PySem.EqNone.ne_int_none (aH I q (by simp))
  | int j=>obtain ⟨t',rfl⟩:=ry; exact ne_int (aH I q (congrArg not oi))
  | str j=>obtain ⟨t',rfl⟩:=ry; exact PySem.EqMixed.ne_int_str (aH I q (by simp))
  | _=>exact absurd (show false=true from hs) Bool.false_ne_true
 | str i =>
  obtain ⟨t,rfl⟩:=rx
  cases y with
  | non=>cases ry; exact PySem.EqNone.ne_str_none (aH I q (by simp))
  | bl j=>cases ry; exact PySem.EqMixed.ne_str_bool (aH I q (by simp))
  | int j=>obtain ⟨t',rfl⟩:=ry; exact PySem.EqMixed.ne_str_int (aH I q (by simp))
  | str j=>obtain ⟨t',rfl⟩:=ry; exact ne_str (aH I q (congrArg not oh))
  | _=>exact absurd (show false=true from hs) Bool.false_ne_true
 | byt i =>
  obtain ⟨t,rfl⟩:=rx
  cases y with
  | byt j=>obtain ⟨t',rfl⟩:=ry; exact PySem.W.ne_bytes (aH I q (congrArg not om))
  | _=>exact absurd (show false=true from hs) Bool.false_ne_true
 | _=>cases y <;> exact absurd (show false=true from hs) Bool.false_ne_true
theorem wA:OpR X (compareOp .Lt) (rI0 fun i j=>.bl (decide (i<j))):=opB0 fun _ _ _ _ _ _ _ q=>lt_int q
theorem o5:OpR X (compareOp .Gt) (rI0 fun i j=>.bl (decide (j<i))):=opB0 fun _ _ _ _ _ _ _ q=>gt_int q
theorem wB:OpR X (compareOp .GtE) (rI0 fun i j=>.bl (decide (j<=i))):=opB0 fun _ _ _ _ _ _ _ q=>ge_int q
theorem ql:OpR X (compareOp .Lt) (fun x y H Q=>∃ i j,x=.str i/\y=.str j/\Q (.bl (decide (i.cps.toList<j.cps.toList))) H):=by
 intro pins s σ H x y v u Q I rx ry h
 obtain ⟨i,j,rfl,rfl,q⟩:=h
 obtain ⟨t,rfl⟩:=rx
 obtain ⟨t',rfl⟩:=ry
 exact lt_str (aH I q rfl)
theorem qm:OpR X (compareOp .In) (fun x y H Q=>∃ i j,x=.str i/\y=.str j/\Q (.bl (!(Builtin.Str.occurrences j i 0 j.length 1).isEmpty)) H):=by
 intro pins s σ H x y v u Q I rx ry h
 obtain ⟨i,j,rfl,rfl,q⟩:=h
 obtain ⟨t,rfl⟩:=rx
 obtain ⟨t',rfl⟩:=ry
 exact in_str (aH I q rfl)
theorem nomark (b:Expr) {op:CmpOp} (h:autoParam (op≠.In) Z1._auto_1) (h2:autoParam (op≠.NotIn) Z1._auto_1):behindInMarks op b=false:=by
 have e1:(op==CmpOp.In)=false:=by cases op <;> first | rfl | exact absurd rfl h
 have e2:(op==CmpOp.NotIn)=false:=by cases op <;> first | rfl | exact absurd rfl h2
 cases b <;> simp [behindInMarks,e1,e2]
theorem jI {op:CmpOp} {r:R2} (ho:OpR X (compareOp op) r) (ha:PE X a ta) (hb:PE X b tb) (hm:behindInMarks op b=false):PE X (.Compare a [op] [b] pos) (tOp r ta tb):=by
 intro pins s σ H Q I h
 exact wpAny_Compare1 (binT ha hb I h fun v u s2 x y H2 I2 rx ry q=>ho pins s2 σ H2 x y v u Q I2 rx ry q) hm
noncomputable def tTest (t:TE):TT:=fun σ H Q=>t σ H fun x H'=>∃ k,x=.bl k/\Q k H'
theorem gF {op:CmpOp} {r:R2} (ho:OpR X (compareOp op) r) (ha:PE X a ta) (hb:PE X b tb) (hm:behindInMarks op b=false):PT X (.Compare a [op] [b] pos) (tTest (tOp r ta tb)):=by
 intro pins s σ H Q I h
 refine wpAny_isTrue_Compare1 (thn (ha pins s σ H _ I h) fun v s1 ⟨x,H1,I1,r1,q1⟩=>thn (hb pins s1 σ H1 _ I1 q1) fun u s2 ⟨y,H2,I2,r2,q2⟩ =>
  thn (ho pins s2 σ H2 x y v u _ I2 r1 r2 q2) fun c s3 ⟨z,H3,I3,r3,k,e,q3⟩=>?_) hm
 subst e
 cases r3
 exact wpAny_truthy_bool ⟨H3,I3,q3⟩
noncomputable def TruV (K:PySem.W.Frag) (x:V) (H:Hp) (k:Bool):Prop :=
 match x with
 | .non=>k=false
 | .bl b=>k=b
 | .int i=>k=(i != 0)
 | .str y=>y.length<=sizeLine/\k=((y.length:Int) != 0)
 | .byt y=>y.size<=sizeLine/\k=((y.size:Int) != 0)
 | .ref p=>(∃ xs,SqL K H p xs/\k=!xs.isEmpty)\/(∃ xs,SqT K H p xs/\k=!xs.isEmpty)\/∃ kvs,H p=some (.dK kvs)/\k=!kvs.isEmpty
 | _=>False
theorem pg {κ:Type} {kvs:List (κ×V)} {vs:List (κ×Value)} (r:KV kvs vs):(!vs.isEmpty)=!kvs.isEmpty:=by
 cases r <;> rfl
theorem i9 {xs:List V} {its:List Value} (r:Vals xs its):(!its.toArray.isEmpty)=!xs.isEmpty:=by
 cases r <;> simp
theorem line63:(sizeLine:Nat)<2 ^ 63:=by rw [sizeLine_eq]; decide
theorem uS:TruR X (fun x H Q=>∃ k,TruV X.K x H k/\Q k H):=by
 intro pins s σ H x v Q I rx h
 obtain ⟨k,e,q⟩:=h
 have hl:=line63
 have hs:sizeLine=16777216:=sizeLine_eq
 cases x with
 | non =>
  cases rx
  have e':k=false:=e
  subst e'
  exact truthy_none ⟨H,I,q⟩
 | bl b =>
  cases rx
  have e':k=b:=e
  subst e'
  exact wpAny_truthy_bool ⟨H,I,q⟩
 | int i =>
  obtain ⟨t,rfl⟩:=rx
  have e':k=(i != 0):=e
  subst e'
  exact PySem.P.truthy_int ⟨H,I,q⟩
 | str y =>
  obtain ⟨t,rfl⟩:=rx
  obtain ⟨hy,e'⟩:y.length<=sizeLine/\k=((y.length:Int) != 0):=e
  subst e'
  exact PySem.P.truthy_str (by omega) ⟨H,I.tok _,q⟩
 | byt y =>
  obtain ⟨t,rfl⟩:=rx
  obtain ⟨hy,e'⟩:y.size<=sizeLine/\k=((y.size:Int) != 0):=e
  subst e'
  exact PySem.W.truthy_bytes (by omega) ⟨H,I.tok _,q⟩
 | ref p =>
  cases rx
  have e':(∃ xs,SqL X.K H p xs/\k=!xs.isEmpty)\/(∃ xs,SqT X.K H p xs/\k=!xs.isEmpty)\/∃ kvs,H p=some (.dK kvs)/\k=!kvs.isEmpty:=e
  rcases e' with ⟨xs,hx,e'⟩ | ⟨xs,hx,e'⟩ | ⟨kvs,hx,e'⟩
  ·subst e'
   obtain ⟨its,r,pl,hz⟩:=I.list hx
   have hlen:=r.length
   exact wpAny_truthy_list pl.isList (by simp only [List.size_toArray]; omega) ⟨H,I.tok _,by rw [i9 r]; exact q⟩
  ·subst e'
   obtain ⟨its,r,pl,hz⟩:=I.tuple hx
   have hlen:=r.length
   exact truthy_tuple pl (by simp only [List.size_toArray]; omega) ⟨H,I.tok _,by rw [i9 r]; exact q⟩
  ·subst e'
   obtain ⟨hz,hS,vs,r,m⟩:kvs.length<=sizeLine/\(p==sysModules)=false/\∃ vs,KV kvs vs/\s.heap.DictOf (aI X.prog X.w) p vs:=I.hok p _ hx
   have hlen:kvs.length=vs.length:=Paired.length r
   exact wpAny_truthy_dict hS m (by omega) ⟨H,I.tok _,by rw [pg r]; exact q⟩
 | _=>exact (show False from e).elim
theorem rK (ha:PE X a ta) (he:∀ whole,isTrue a X.env whole=(do let v <- whole; standAt a.pos; holding [v] (truthy v))) :
  PT X a (fun σ H Q=>ta σ H fun x H'=>∃ k,TruV X.K x H' k/\Q k H'):=by
 intro pins s σ H Q I h
 exact isTrue_plain (thn (ha pins s σ H _ I h) fun v s1 ⟨x,H1,I1,r1,q1⟩=>uS pins s1 σ H1 x v Q I1 r1 q1) (he _)
theorem o6:OpR X (binaryOp .Add) (fun x y H Q=>∃ i j,x=.str i/\y=.str j/\i.length+j.length<=sizeLine/\Q (.str (i++j)) H):=by
 intro pins s σ H x y v u Q I rx ry h
 obtain ⟨i,j,rfl,rfl,hz,q⟩:=h
 obtain ⟨t,rfl⟩:=rx
 obtain ⟨t',rfl⟩:=ry
 exact add_str (fun t' tk=>⟨.str (i++j),H,I.tok _,⟨_,rfl⟩,q⟩) hz
theorem vals1 {x:V} {us:List Value} (r:Vals [x] us):∃ u,us=[u]/\RelV x u:=by
 cases r with
 | cons r1 r2=>cases r2; exact ⟨_,rfl,r1⟩
theorem mR:CallR X (.builtin "abs") (fun xs H Q=>∃ i,xs=[.int i]/\Q (.int (if i<0 then -i else i)) H):=by
 intro pins s σ H xs us Q I r h
 obtain ⟨i,rfl,q⟩:=h
 obtain ⟨u,rfl,t,rfl⟩:=vals1 r
 exact call_abs_int fun u tk=>⟨.int (if i<0 then -i else i),H,I.tok _,⟨_,rfl⟩,q⟩
end
end L2
namespace L2
open PySem PySem.Spec PyProof.Rows
section
variable {prog:Program} {w:World} {A:Around} {E:Value->Shared->Prop} {s:Shared} {K:PySem.W.Frag} {x dx C f:Addr} {mA:Str->Option Value} {name:Str} {v:Value}
end
theorem RelO.some_of {v:V} {o:Option Value} (r:RelO (some v) o):∃ u,o=some u/\RelV v u:=by
 cases o with
 | none=>exact (show False from r).elim
 | some u=>exact ⟨u,rfl,r⟩
section
variable {P:Program} {w:World} {H H':Hp} {h h':Heap} {a C dx:Addr} {fs fs':List (Str×V)}
end
section
variable {X:Cx} {pins:List (Addr×Obj)} {σ:St} {H:Hp} {s:Shared} {a C dx:Addr} {fs:List (Str×V)} {f:Str} {v:V} {A:Around} {E:Value->Shared->Prop}
end
section
variable {X:Cx} {o e value:Expr} {f:Str} {pos pos' tpos:Pos} {ta tv:TE}
end
section
variable {X:Cx} {pins:List (Addr×Obj)} {σ:St} {H:Hp} {s:Shared} {A:Around} {E:Value->Shared->Prop} {Q:Value->Shared->Prop} {c:Value} {b:Bool}
end
end L2
namespace L2
open PySem PySem.Spec PyProof.Rows
structure Room (k:Nat) (A:Around):Prop where
 hd:A.handled=none
 dp:A.depth+3*k+5<recursionLimit
 un:A.units+16*k+200<cLine
 gd:A.guards=some []
theorem Room.mono {j k:Nat} {A:Around} (r:Room k A) (h:j<=k):Room j A:=⟨r.hd,by have:=r.dp; omega,by have:=r.un; omega,r.gd⟩
theorem Room.deeper {k:Nat} {A:Around} (r:Room (k+1) A) (env:Env):Room k (A.deeper env) :=
 ⟨r.hd,by have:=r.dp; show A.depth+1+3*k+5<_; omega,by have:=r.un; show A.units+3+16*k+200<_; omega,r.gd⟩
theorem Room.depth {k:Nat} {A:Around} (r:Room k A):A.depth<recursionLimit:=by have:=r.dp; omega
theorem Room.units0 {k:Nat} {A:Around} (r:Room k A):A.units<cLine:=by have:=r.un; omega
noncomputable def tNil:TA:=fun _ H Q=>Q [] H
noncomputable def tCons (ta:TE) (tr:TA):TA:=fun σ H Q=>ta σ H fun x H1=>tr σ H1 fun xs H2=>Q (x::xs) H2
section
variable {X:Cx} {e:Expr} {es:List Expr} {te:TE} {t:TA} {pos:Pos}
theorem bu:PA X [] tNil:=fun _ _ _ _ H Q I h=>Calls.spliced_nil ⟨[],H,I,.nil,h⟩
theorem bh (ha:PE X e te) (hr:PA X es t) (hs:autoParam (starEach (e::es) X.env=(false,eval e X.env)::starEach es X.env) Z2._auto_1):PA X (e::es) (tCons te t):=by
 intro pos pins s σ H Q I h
 rw [hs]
 show wpAny _ _ (spliced ((false,eval e X.env)::backTo pos (starEach es X.env))) _ _ s
 refine Calls.spliced_cons (thn (ha pins s σ H _ I h) fun u s1 ⟨x,H1,I1,r1,q1⟩=>?_)
 exact thn (hr pos pins s1 σ H1 _ I1 q1) fun us s2 ⟨xs,H2,I2,r2,q2⟩=>⟨x::xs,H2,I2,.cons r1 r2,q2⟩
noncomputable def tTup (t:TA):TE:=fun σ H Q=>t σ H fun xs H1=>xs.length<=sizeLine/\∀ p,H1 p=none->Q (.ref p) (upd H1 p (.tup xs))
noncomputable def tLst (t:TA):TE:=fun σ H Q=>t σ H fun xs H1=>xs.length<=sizeLine/\∀ p,H1 p=none->Q (.ref p) (upd H1 p (.lst xs))
theorem u7 {x1} (h:PA X es t):PE X (.Tuple es x1 pos) (tTup t):=by
 intro pins s σ H Q I hq
 refine wpAny_Tuple_spliced (thn (h pos pins s σ H _ I hq) fun us s1 ⟨xs,H1,I1,r,z,q⟩=>⟨by rw [<- r.length]; exact z,?_⟩)
 have hf:H1 s1.heap.objs.size=none:=I1.hok.fresh (Nat.le_refl _)
 refine ⟨.ref s1.heap.objs.size,upd H1 s1.heap.objs.size (.tup xs),I1.laid (t':=s1.toks) (fun b u e=>Heap.get?_push_of_some _ e) (Nat.le_refl _) ?_,rfl,q _ hf⟩
 exact ⟨z,us,r,⟨_,Heap.get?_push_size _ rfl,rfl,_,rfl⟩⟩
theorem lP (h:PA X es t):PE X (.List es pos) (tLst t):=by
 intro pins s σ H Q I hq
 refine wpAny_List_spliced (thn (h pos pins s σ H _ I hq) fun us s1 ⟨xs,H1,I1,r,z,q⟩=>⟨by rw [<- r.length]; exact z,?_⟩)
 have hf:H1 s1.heap.objs.size=none:=I1.hok.fresh (Nat.le_refl _)
 refine ⟨.ref s1.heap.objs.size,upd H1 s1.heap.objs.size (.lst xs),I1.laid (t':=s1.toks) (fun b u e=>Heap.get?_push_of_some _ e) (Nat.le_refl _) ?_,rfl,q _ hf⟩
 exact ⟨z,us,0,r,Heap.get?_push_size _ rfl⟩
end
noncomputable abbrev Sp:=List V->Hp->VK->XK->Prop
noncomputable abbrev CXT:=List Env->Hp->Shared->XK->Value->Shared->Prop
structure Env0 (P:Program) (w:World) (K:PySem.W.Frag) (mg:Str->Option Value) (base:Heap) (A:Around) (outer:List Env) (s:Shared) (H:Hp):Prop where
 frames:A.frames=some outer
 mod:Mod K mg base
 bs:∀ b o,base.get? b=some o->s.heap.get? b=some o/\H b=none
 bsz:base.objs.size<=s.heap.objs.size
 funs:s.heap.FunFrames base outer
 frf:∀ b∈frs outer,H b=none
 hok:HOk P w H s.heap
 bare:AllBare s.gens
noncomputable def CE (outer:List Env) (P:Program) (w:World) (H:Hp) (s:Shared) (Q:VK) (u:Value) (s':Shared):Prop :=
 ∃ v H',s'.os=s.os/\AllBare s'.gens/\Un (frs outer) [] H H' s.heap s'.heap/\HOk P w H' s'.heap/\RelV v u/\Q v H'
noncomputable def CR (CX:CXT) (outer:List Env) (P:Program) (w:World) (H:Hp) (s:Shared) (Q:VK) (E:XK) (r:Result) (s':Shared):Prop :=
 match r with
 | .ok (.ret u)=>CE outer P w H s Q u s'
 | .ok _=>False
 | .error e=>CX outer H s E e s'
structure FnOk (P:Program) (w:World) (K:PySem.W.Frag) (mg:Str->Option Value) (base:Heap) (CX:CXT) (k:Nat) (f:Addr) (fd:FuncData) (ps:List Str) (sp:Sp):Prop where
 len:∀ vs H Q E,sp vs H Q E->vs.length=ps.length
 run:∀ (A:Around) (outer:List Env) (s:Shared) (H:Hp) (args:Args) (us:List Value) (vs:List V) (Q:VK) (E:XK),Room k A->Env0 P w K mg base A outer s H->BindsTo s fd args (ps.zip us)->Vals vs us->sp vs H Q E ->
  codeAny (model P w) A (.call (.ref f) args) (CR CX outer P w H s Q E) s
theorem FnOk.imp {P:Program} {w:World} {K:PySem.W.Frag} {mg:Str->Option Value} {base:Heap} {CX:CXT} {k:Nat} {f:Addr} {fd:FuncData} {ps:List Str} {sp sp':Sp} (F:FnOk P w K mg base CX k f fd ps sp)
  (h:∀ vs H Q E,sp' vs H Q E->sp vs H Q E):FnOk P w K mg base CX k f fd ps sp' :=
 ⟨fun vs H Q E q=>F.len vs H Q E (h _ _ _ _ q),fun A outer s H args us vs Q E hr he hb hv hs=>F.run A outer s H args us vs Q E hr he hb hv (h _ _ _ _ hs)⟩
section
variable {X:Cx} {pins:List (Addr×Obj)} {σ:St} {H:Hp} {s s':Shared}
theorem Inv.env0 (I:Inv X pins σ H s):Env0 X.prog X.w X.K X.mg X.base X.A X.stack s H :=
 ⟨I.ok.frames,I.ok.mod,I.bs,Nat.le_trans I.ok.bsz I.sz,I.stack,I.stkFree,I.hok,I.bare⟩
theorem Inv.after {Q:VK} {u:Value} (I:Inv X pins σ H s) (h:CE X.stack X.prog X.w H s Q u s'):EP X pins σ Q u s':=by
 obtain ⟨v,H',os,bare,un,hok,r,q⟩:=h
 obtain ⟨hh,g,d,t,os'⟩:=s'
 obtain rfl:os'=s.os:=os
 exact ⟨v,H',I.call (h':=hh) (g':=g) (d':=d) (t':=t) (ch:=[]) un hok bare (fun b z=>absurd z (by simp)),r,q⟩
end
noncomputable def tCall (sp:Sp) (dvs:List V) (E:XK) (t:TA):TE:=fun σ H Q=>t σ H fun vs H1=>sp (vs++dvs) H1 Q E
noncomputable def Binds (K:PySem.W.Frag) (fd:FuncData) (ps:List Str) (ds:List Value):Prop :=
 ∀ (s:Shared) (us:List Value),K.In s.heap->(us++ds).length=ps.length->BindsTo s fd ⟨us,[]⟩ (ps.zip (us++ds))
theorem Binds.all {K:PySem.W.Frag} {fd:FuncData} {ps:List Str} (h:∀ us:List Value,us.length=ps.length->bindArgs fd ⟨us,[]⟩=pure (ps.zip us)):Binds K fd ps []:=fun s us _ hl=>by
 rw [List.append_nil] at hl ⊢
 exact .of_eq (h us hl)
noncomputable def Passes (CX:CXT) (X:Cx) (E:XK):Prop:=∀ (pins:List (Addr×Obj)) (σ:St) (H:Hp) (s:Shared) (e:Value) (s':Shared),Inv X pins σ H s->CX X.stack H s E e s'->X.xe e s'
section
variable {X:Cx} {CX:CXT} {k:Nat} {f C:Addr} {fd:FuncData} {ps:List Str} {sp:Sp} {dvs:List V} {ds:List Value} {E:XK} {x m:Str} {p pos apos:Pos} {e o:Expr} {es:List Expr} {ta:TE} {t:TA}
theorem uW {pins:List (Addr×Obj)} {σ:St} {H:Hp} {s:Shared} {Q:VK} {us:List Value} {vs:List V} (F:FnOk X.prog X.w X.K X.mg X.base CX k f fd ps sp) (hr:Room k X.A) (hb:Binds X.K fd ps ds) (hd:Vals dvs ds) (hx:Passes CX X E)
  (I:Inv X pins σ H s) (r:Vals vs us) (h:sp (vs++dvs) H Q E):wpAny (model X.prog X.w) X.A (call (.ref f) us) (EP X pins σ Q) X.xe s:=by
 have r2:Vals (vs++dvs) (us++ds):=r.append hd
 have hl:(us++ds).length=ps.length:=by rw [<- r2.length]; exact F.len _ _ _ _ h
 refine wpAny_call (codeAny_mono (F.run X.A X.stack s H ⟨us,[]⟩ (us++ds) (vs++dvs) Q E hr I.env0 (hb s us I.kIn hl) r2 h) fun r s' hq=>?_)
 cases r with
 | error e=>exact hx pins σ H s e s' I hq
 | ok fl =>
  cases fl with
  | ret u=>exact I.after hq
  | next=>exact False.elim hq
  | brk=>exact False.elim hq
  | cont=>exact False.elim hq
theorem cY (F:FnOk X.prog X.w X.K X.mg X.base CX k f fd ps sp) (hr:Room k X.A) (hg:Gl X x) (hm:X.mg x=some (.ref f)) (hk:PySem.W.keepIn X.K (.ref f)=true) (hb:Binds X.K fd ps ds) (hd:Vals dvs ds) (hx:Passes CX X E)
  (ha:PA X (e::es) t) (hdb:autoParam ((x==("__debug__" : Str))=false) Z1._auto_1) (he:autoParam (starEach (e::es) X.env=(false,eval e X.env)::starEach es X.env) Z2._auto_1) (hpl:autoParam ((backTo pos (starEach es X.env)).any (·.1)=false) Z2._auto_1) :
  PE X (.Call (.Name x p) (e::es) [] pos) (tCall sp dvs E t):=by
 intro pins s σ H Q I h
 refine wpAny_Call_Name_kw (uf I hg hm ?_ hdb)
 refine PySem.W.callWith_K (h₀:=X.base) I.ok.mod.kin hk (thn (ha pos pins s σ H _ I h) fun us s1 ⟨vs,H1,I1,r,q⟩=>⟨I1.kIn,?_⟩) he hpl
 exact uW F hr hb hd hx I1 r q
end
noncomputable def PK (X:Cx) (kws:List Keyword) (t:TA):Prop :=
 ∀ (pos:Pos) (pins:List (Addr×Obj)) (s:Shared) (σ:St) (H:Hp) (Q:List V->Hp->Prop),Inv X pins σ H s->t σ H Q->wpAny (model X.prog X.w) X.A (evalAll ((backToKw pos (keywordEach kws X.env)).map (·.2))) (AP X pins σ Q) X.xe s
section
variable {X:Cx} {CX:CXT} {k:Nat} {f C:Addr} {fd:FuncData} {ps ks:List Str} {sp:Sp} {E:XK} {x m:Str} {p pos apos kpos:Pos} {e o:Expr} {es:List Expr} {kws:List Keyword} {te ta:TE} {t tk:TA} {nm:Option Str}
theorem uZ:PK X [] tNil:=fun _ _ _ _ H Q I h=>wpAny_evalAll_nil ⟨[],H,I,.nil,h⟩
theorem tN (ha:PE X e te) (hr:PK X kws t):PK X (⟨nm,e,kpos⟩::kws) (tCons te t):=by
 intro pos pins s σ H Q I h
 show wpAny _ _ (evalAll ((do let v <- eval e X.env; standAt pos; pure v)::(backToKw pos (keywordEach kws X.env)).map (·.2))) _ _ s
 refine wpAny_evalAll_cons (wpAny_bind (thn (ha pins s σ H _ I h) fun u s1 ⟨x,H1,I1,r1,q1⟩=>wpAny_bind (wpAny_standAt (wpAny_pure ?_))))
 exact thn (hr pos pins s1 σ H1 _ I1 q1) fun us s2 ⟨xs,H2,I2,r2,q2⟩=>⟨x::xs,H2,I2,.cons r1 r2,q2⟩
variable {g:List Value->List Value->List Value} {gV:List V->List V->List V}
end
structure aD (N P:List Str) (sc:Scope):Prop where
 kind:sc.kind=.function
 co:sc.isCoroutine=false
 gen:sc.isGenerator=false
 nd:N.Nodup
 pre:N.take P.length=P
 par:∀ x∈P,sc.names.lookup x=some .local\/sc.names.lookup x=some .cell
 nofree:∀ y∈sc.names,y.2≠.free
theorem kW {kindOf:Str->Option NameKind} {x:Str}:∀ {binds:List (Str×Value)} {m:Str->Option Value},(∀ v,(x,v)∉binds)->bindL kindOf binds m x=m x
 | [],_,_=>rfl
 | (n,v)::r,m,h=>by
  unfold bindL
  rw [kW fun w hw=>h w (List.mem_cons_of_mem _ hw)]
  split
  ·have:x≠n:=by rintro rfl; exact h v List.mem_cons_self
   simp [this]
  ·rfl
theorem kY {kindOf:Str->Option NameKind} {x:Str}:∀ {binds:List (Str×Value)} {m:Str->Option Value},(∀ v,(x,v)∉binds)->bindC kindOf binds m x=m x
 | [],_,_=>rfl
 | (n,v)::r,m,h=>by
  unfold bindC
  rw [kY fun w hw=>h w (List.mem_cons_of_mem _ hw)]
  split
  ·rfl
  ·have:x≠n:=by rintro rfl; exact h v List.mem_cons_self
   simp [this]
theorem kX {kindOf:Str->Option NameKind} {x:Str} {v:Value}:∀ {P:List Str} {vs:List Value} {i:Nat} {m:Str->Option Value},P.Nodup->P[i]?=some x->vs[i]?=some v->kindOf x=some .local ->
  bindL kindOf (P.zip vs) m x=some v
 | [],_,_,_,_,h,_,_=>by simp at h
 | _::_,[],_,_,_,_,h,_=>by simp at h
 | p::P,w::vs,0,m,nd,h1,h2,hk=>by
  simp at h1 h2; subst h1; subst h2
  show bindL kindOf ((p,w)::P.zip vs) m p=_
  unfold bindL
  rw [kW fun v hv=>(List.nodup_cons.mp nd).1 (List.of_mem_zip hv).1,if_pos hk]
  simp
 | p::P,w::vs,i+1,m,nd,h1,h2,hk=>by
  show bindL kindOf ((p,w)::P.zip vs) m x=_
  unfold bindL
  exact kX (i:=i) (List.nodup_cons.mp nd).2 (by simpa using h1) (by simpa using h2) hk
theorem kZ {kindOf:Str->Option NameKind} {x:Str} {v:Value}:∀ {P:List Str} {vs:List Value} {i:Nat} {m:Str->Option Value},P.Nodup->P[i]?=some x->vs[i]?=some v->kindOf x≠some .local ->
  bindC kindOf (P.zip vs) m x=some v
 | [],_,_,_,_,h,_,_=>by simp at h
 | _::_,[],_,_,_,_,h,_=>by simp at h
 | p::P,w::vs,0,m,nd,h1,h2,hk=>by
  simp at h1 h2; subst h1; subst h2
  show bindC kindOf ((p,w)::P.zip vs) m p=_
  unfold bindC
  rw [kY fun v hv=>(List.nodup_cons.mp nd).1 (List.of_mem_zip hv).1,if_neg hk]
  simp
 | p::P,w::vs,i+1,m,nd,h1,h2,hk=>by
  show bindC kindOf ((p,w)::P.zip vs) m x=_
  unfold bindC
  exact kZ (i:=i) (List.nodup_cons.mp nd).2 (by simpa using h1) (by simpa using h2) hk
noncomputable def start (N:List Str) (vs:List V):St:=vs.map some++List.replicate (N.length - vs.length) none
noncomputable def cxOf (CX:CXT) (P:Program) (w:World) (K:PySem.W.Frag) (mg:Str->Option Value) (base:Heap) (N:List Str) (qual:Str) (scope:Scope) (f:Addr) (cd:Value) (A:Around) (outer:List Env) (s:Shared) (H:Hp) (E:XK):Cx where
 prog:=P
 w:=w
 K:=K
 mg:=mg
 base:=base
 A:=A.deeper (envOfC qual scope s.heap.objs.size f cd)
 N:=N
 s₀:=s
 H₀:=H
 env:=envOfC qual scope s.heap.objs.size f cd
 outer:=outer
 stack:=envOfC qual scope s.heap.objs.size f cd::outer
 ex:=[]
 calm:=true
 fn:=fun _=>true
 pn:=[]
 xe:=fun e s'=>wpAny (model P w) (A.deeper (envOfC qual scope s.heap.objs.size f cd)) (leaving (envOfC qual scope s.heap.objs.size f cd) e) (fun _ s''=>CX outer H s E e s'') (fun e' s''=>CX outer H s E e' s'') s'
theorem mM {sc:Scope} {n:Nat} {x:Str} (h:sc.names.lookup x=some .cell):∃ c,(cellsFrom n sc.names []).lookup x=some c:=by
 have q:=PySem.W.cellsFrom_some sc.names n [] (.inl h)
 exact Option.isSome_iff_exists.mp q
theorem qC {CX:CXT} {P:Program} {w:World} {K:PySem.W.Frag} {mg:Str->Option Value} {base:Heap} {N ps:List Str} {qual:Str} {scope:Scope} {f:Addr} {cd:Value} {A:Around} {outer:List Env} {s s1:Shared} {H:Hp} {E:XK} {us:List Value} {vs:List V}
  (S:aD N ps scope) (hd:A.handled=none) (e0:Env0 P w K mg base A outer s H) (hl:vs.length=ps.length) (r:Vals vs us)
  (x:InCallC s s.heap.objs.size (bindL (envOfC qual scope s.heap.objs.size f cd).kindOf (ps.zip us) fun _=>none) (cellsFrom (s.heap.objs.size+1) scope.names []) (bindC (envOfC qual scope s.heap.objs.size f cd).kindOf (ps.zip us) fun _=>none) s1) :
  Inv (cxOf CX P w K mg base N qual scope f cd A outer s H E) [] (start N vs) H s1:=by
 have hpl:ps.length<=N.length:=by have:=congrArg List.length S.pre; rw [List.length_take] at this; omega
 obtain ⟨h1,tk,rfl,hk⟩:=x.done
 have noA:∀ b:Addr,b∉(cxOf CX P w K mg base N qual scope f cd A outer s H E).ex:=fun b z=>absurd (show b∈([]:List Addr) from z) (by simp)
 refine ⟨⟨e0.mod,S.kind,rfl,rfl,Nat.le_refl _,fun y z c h1 h2=>?_,fun y hy=>?_,fun y c _ h=>?_,fun _=>hd,Around.frames_deeper e0.frames,.inr ⟨rfl,rfl⟩,fun b z=>absurd z (noA b),e0.bs,e0.bsz,fun b _ _=>noA b,fun b z=>absurd z (noA b),e0.funs,e0.frf⟩,
  rfl,e0.bare,Un.kept hk,⟨_,x.toInCall.ns,fun i y v h1 h2 h3=>?_⟩,fun y c h=>⟨_,x.cell y c h⟩,e0.hok.fresh (Nat.le_refl _),fun y c h=>?_,fun p hp=>absurd (show p∈([]:List (Addr×Obj)) from hp) (by simp),e0.hok.kept hk,?_⟩
 ·exact name_of_addr x.apart (PySem.mem_of_lookup h1) (PySem.mem_of_lookup h2)
 ·have hy:scope.names.lookup y=some .cell\/scope.names.lookup y=some .free:=hy
  rcases hy with hy | hy
  ·exact mM hy
  ·exact absurd rfl (S.nofree _ (PySem.mem_of_lookup hy))
 ·exact Nat.le_of_lt (x.above y c (PySem.mem_of_lookup h))
 ·have hi:i<vs.length:=by
   unfold start at h2
   by_cases hi:i<vs.length
   ·exact hi
   ·rw [List.getElem?_append_right (by simpa using hi)] at h2
    rw [List.getElem?_replicate] at h2
    split at h2 <;> cases h2
  have ha:vs[i]?=some v:=by
   unfold start at h2
   rw [List.getElem?_append_left (by simpa using hi),List.getElem?_map] at h2
   cases e:vs[i]? with
   | none=>rw [e] at h2; cases h2
   | some a=>rw [e] at h2; cases h2; rfl
  obtain ⟨u,hu,rv⟩:=r.get ha
  have hp:ps[i]?=some y:=by
   rw [<- S.pre,List.getElem?_take_of_lt (by omega)]; exact h1
  have ndP:ps.Nodup:=by rw [<- S.pre]; exact S.nd.sublist (List.take_sublist _ _)
  refine ⟨u,rv,?_⟩
  rcases S.par y (List.mem_of_getElem? hp) with k | k
  ·exact .inl ⟨k,kX ndP hp hu k⟩
  ·obtain ⟨c,e⟩:=mM (n:=s.heap.objs.size+1) k
   refine .inr ⟨.inl k,c,e,?_⟩
   have q:=x.cell y c e
   rw [kZ ndP hp hu (by show scope.names.lookup y≠_; rw [k]; decide)] at q
   exact q
 ·exact e0.hok.fresh (Nat.le_of_lt (x.above y c (PySem.mem_of_lookup h)))
 ·unfold start
  show _=N.length
  rw [List.length_append,List.length_map,List.length_replicate]
  omega
theorem sV {CX:CXT} {P:Program} {w:World} {K:PySem.W.Frag} {mg:Str->Option Value} {base:Heap} {k:Nat} {f:Addr} {name qual:Str} {params:Arguments} {body:List Stmt} {scope:Scope} {dV kV doc pm cdv ct oc:Value} {an od:Option Addr}
  {osl:Array (Option Value)} {N ps:List Str} {sp:Sp} (lk:K.lookup f=some ⟨oc,od,.func (PySem.W.fnOf name qual params body scope dV kV doc pm an cdv ct),osl⟩) (hcd:PySem.W.codeIn K cdv qual=true) (S:aD N ps scope)
  (len:∀ vs H Q E,sp vs H Q E->vs.length=ps.length)
  (hbody:∀ (A:Around) (outer:List Env) (s:Shared) (H:Hp) (vs:List V) (Q:VK) (E:XK),Room k (A.deeper (envOfC qual scope s.heap.objs.size f cdv))->sp vs H Q E ->
   ∃ t,PSs (cxOf CX P w K mg base N qual scope f cdv A outer s H E) body t/\t { nx:=fun _ H'=>Q .non H',rt:=Q } (start N vs) H) :
  FnOk P w K mg base CX (k+1) f (PySem.W.fnOf name qual params body scope dV kV doc pm an cdv ct) ps sp:=by
 refine ⟨len,fun A outer s H args us vs Q E hr e0 hb r hsp=>?_⟩
 have hl:=len _ _ _ _ hsp
 have KX:K.In s.heap:=e0.mod.kin.keeps fun b o e=>(e0.bs b o e).1
 have lim:s.heap.NoLimit:=e0.mod.nolimit.keeps fun b o e=>(e0.bs b o e).1
 have hkind:∀ y∈ps.zip us,scope.names.lookup y.1=some .local\/(scope.names.lookup y.1=some .cell/\((cellsFrom (s.heap.objs.size+1) scope.names []).lookup y.1).isSome=true):=fun ⟨n,v⟩ hy=>by
  rcases S.par n (List.of_mem_zip hy).1 with q | q
  ·exact .inl q
  ·exact .inr ⟨q,PySem.W.cellsFrom_some _ _ _ (.inl q)⟩
 refine codeAny_call_function hr.depth (KX _ _ lk) rfl S.co S.gen rfl (PySem.W.codeRec_of KX hcd) (hb _ _ _ _ ?_)
 refine wpAny_newFunctionEnv_cells S.kind hkind fun env he s1 x=>?_
 subst he
 refine ⟨lim.keeps x.toInCall.keep,codeAny_func ?_⟩
 obtain ⟨t,ht,hq⟩:=hbody A outer s H vs Q E (hr.deeper _) hsp
 have I:Inv (cxOf CX P w K mg base N qual scope f cdv A outer s H E) [] (start N vs) H s1:=qC S hr.hd e0 hl r x
 refine wpAny_mono (ht [] s1 (start N vs) H _ I hq) (fun fl s' hs=>?_) fun e s' hs=>hs
 have fin:∀ {σ':St} {H':Hp} {v:V} {u:Value},Inv (cxOf CX P w K mg base N qual scope f cdv A outer s H E) [] σ' H' s'->RelV v u->Q v H'->CE outer P w H s Q u s' :=
  fun {σ' H' v u} J rv q=>⟨v,H',J.os,J.bare,J.base,J.hok,rv,q⟩
 cases fl with
 | ret u =>
  obtain ⟨v,σ',H',J,rv,q⟩:=hs
  exact fin J rv q
 | next =>
  obtain ⟨σ',H',J,q⟩:=hs
  exact fin (v:=V.non) (u:=Value.none) J rfl q
 | brk =>
  obtain ⟨_,_,_,q⟩:=hs
  exact False.elim q
 | cont =>
  obtain ⟨_,_,_,q⟩:=hs
  exact False.elim q
end L2
namespace L2
open PySem PySem.Spec PyProof.Rows
section
variable {X:Cx} {x:Str} {p pos:Pos} {e:Expr} {es:List Expr} {t:TA} {id T:String} {r:List V->Hp->VK->Prop}
noncomputable def tCB (r:List V->Hp->VK->Prop) (t:TA):TE:=fun σ H Q=>t σ H fun vs H1=>r vs H1 Q
theorem b8 (hc:CallR X (.builtin id) r) (hg:Gl X x) (hm:X.mg x=none) (hv:bootBuiltins x=some (.builtin id)) (ha:PA X (e::es) t) (hn:autoParam (x ≠ "__name__") Z1._auto_1) (hdb:autoParam ((x==("__debug__" : Str))=false) Z1._auto_1)
  (he:autoParam (starEach (e::es) X.env=(false,eval e X.env)::starEach es X.env) Z2._auto_1) (hpl:autoParam ((backTo pos (starEach es X.env)).any (·.1)=false) Z2._auto_1):PE X (.Call (.Name x p) (e::es) [] pos) (tCB r t):=by
 intro pins s σ H Q I h
 refine wpAny_Call_Name_kw (ed I hg hm hv ?_ hn hdb)
 exact PyProof.Rows.callWith_builtin1 (thn (ha pos pins s σ H _ I h) fun us s1 ⟨vs,H1,I1,r1,q1⟩=>hc pins s1 σ H1 vs us Q I1 r1 q1) he hpl
theorem dy (hc:CallR X (.type T) r) (hg:Gl X x) (hm:X.mg x=none) (hv:bootBuiltins x=some (.type T)) (ha:PA X (e::es) t) (hn:autoParam (x ≠ "__name__") Z1._auto_1) (hdb:autoParam ((x==("__debug__" : Str))=false) Z1._auto_1)
  (he:autoParam (starEach (e::es) X.env=(false,eval e X.env)::starEach es X.env) Z2._auto_1) (hpl:autoParam ((backTo pos (starEach es X.env)).any (·.1)=false) Z2._auto_1):PE X (.Call (.Name x p) (e::es) [] pos) (tCB r t):=by
 intro pins s σ H Q I h
 refine wpAny_Call_Name_kw (ed I hg hm hv ?_ hn hdb)
 exact PyProof.Rows.callWith_type1 (thn (ha pos pins s σ H _ I h) fun us s1 ⟨vs,H1,I1,r1,q1⟩=>hc pins s1 σ H1 vs us Q I1 r1 q1) he hpl
end
end L2
namespace HT
open PySem PyProof.Rows
section
open PySem.SeqAt
open PySem.AutoSeq1 (wpAny_loadPart')
open PySem.MeetsSeq PySem.MeetsSeq2 PySem.MeetsSeq3
end
section
variable {prog:Program} {w:World} {A:Around} {E:Value->Shared->Prop} {s:Shared}
theorem cat_tup {t b:Addr} {vs ws:List Value} {Q:Value->Shared->Prop} (ht:IsTup s.heap t vs.toArray) (hb:IsTup s.heap b ws.toArray) (hv:vs≠[])
  (h1:ws=[]->Q (.ref t) s) (h2:ws≠[]->Q (.ref s.heap.objs.size) { s with heap:=s.heap.push { cls:=.type "tuple",data:=.seq (vs++ws).toArray } })
  (hsz:vs.length+ws.length<=sizeLine):wpAny (model prog w) A (binaryOp .Add (.ref t) (.ref b)) Q E s:=by
 obtain ⟨⟨cls,dd,data,sl⟩,ho,hc,n,hd⟩:=id ht
 obtain ⟨⟨cls2,dd2,data2,sl2⟩,ho2,hc2,n2,hd2⟩:=id hb
 simp only at hc hd hc2 hd2
 subst hc hd hc2 hd2
 have e:vs.toArray++ws.toArray=(vs++ws).toArray:=by simp
 by_cases hw:ws=[]
 ·exact concat_meets ⟨_,ho,rfl⟩ ⟨_,ho2,rfl⟩ noFill_tuple_add seq_tuple_add PySem.F.slot_tuple_add PySem.F.entry_tuple_add (PySem.F.args_tuple_add_2 _ _)
   (tuple_addW1 t b vs.toArray ws.toArray n n2 dd dd2 sl sl2 (by simpa using hv) (by simp [hw])) ⟨ho,ho2,h1 hw⟩
 ·refine concat_meets ⟨_,ho,rfl⟩ ⟨_,ho2,rfl⟩ noFill_tuple_add seq_tuple_add PySem.F.slot_tuple_add PySem.F.entry_tuple_add (PySem.F.args_tuple_add_2 _ _)
   (tuple_addW2 t b vs.toArray ws.toArray n n2 dd dd2 sl sl2 (by simpa using hv) (by simpa using hw) (by rw [List.size_toArray,List.size_toArray]; exact hsz)) ⟨ho,ho2,?_⟩
  rw [e]
  exact h2 hw
noncomputable def sIx (n d:Nat):Option Int->Nat
 | none=>d
 | some v=>if v<0 then (v+(n:Int)).toNat else min v.toNat n
theorem sIx_none (n d:Nat):sIx n d none=d:=rfl
theorem sIx_nat (n d k:Nat):sIx n d (some (k:Int))=min k n:=by
 show (if (k:Int)<0 then ((k:Int)+(n:Int)).toNat else min (k:Int).toNat n)=min k n
 rw [if_neg (by omega),Int.toNat_natCast]
theorem uV (n d:Nat) (hd:d<=n) (o:Option Int):sIx n d o<=n:=by
 cases o with
 | none=>exact hd
 | some v =>
  show (if v<0 then (v+(n:Int)).toNat else min v.toNat n)<=n
  by_cases hv:v<0
  ·rw [if_pos hv]; omega
  ·rw [if_neg hv]; exact Nat.min_le_right _ _
theorem oE (v:Int) (n d:Nat):(if v<0 then max (v+(n:Int)) 0 else min v (n:Int))=((sIx n d (some v):Nat):Int):=by
 show (if v<0 then max (v+(n:Int)) 0 else min v (n:Int))=(((if v<0 then (v+(n:Int)).toNat else min v.toNat n):Nat):Int)
 by_cases hv:v<0
 ·simp only [if_pos hv]; omega
 ·simp only [if_neg hv]; omega
theorem pE (lo hi:Option Int) (n:Nat):Builtin.Slice.sliceAdjust lo hi 1 (n:Int)=(((sIx n 0 lo:Nat):Int),((sIx n n hi:Nat):Int)):=by
 have h1:¬ ((1:Int)<0):=by omega
 unfold Builtin.Slice.sliceAdjust
 simp only [h1,if_false]
 refine Prod.ext ?_ ?_
 ·cases lo with
  | none=>rfl
  | some v=>exact oE v n 0
 ·cases hi with
  | none=>rfl
  | some v=>exact oE v n n
theorem oZ (i j:Nat):Builtin.Slice.slicePlaces (i:Int) (j:Int) 1=j - i:=by
 unfold Builtin.Slice.slicePlaces
 have h1:(1:Int) > 0:=by omega
 simp only [h1,if_true,Int.ediv_one]
 split <;> omega
theorem iT {v:Value} {o:Option Int} {Q:Option Int->Shared->Prop} (p:IsPart v o) (h:Q o s):wpAny (model prog w) A (Builtin.Slice.slicePartIndex v) Q E s:=by
 cases p with
 | none=>exact slicePart_none h
 | int i t=>exact slicePart_int h
theorem sliceApplied_gen {sl:Addr} {vl vu:Value} {lo hi:Option Int} {n:Nat} {Q:Int×Int×Nat->Shared->Prop} (hs:s.heap.IsSliceOf sl vl vu .none) (pl:IsPart vl lo) (pu:IsPart vu hi)
  (h:Q (((sIx n 0 lo:Nat):Int),1,sIx n n hi - sIx n 0 lo) s):wpAny (model prog w) A (Builtin.Slice.sliceApplied (.ref sl) (pure (n:Int))) Q E s:=by
 obtain ⟨os,hos,hcs,hds⟩:=id hs
 unfold Builtin.Slice.sliceApplied Builtin.Slice.sliceFields
 refine wpAny_bind (wpAny_bind (wpAny_field hos hds (x:=vl) rfl (wpAny_bind (wpAny_field hos hds (x:=vu) rfl (wpAny_bind (wpAny_field hos hds (x:=.none) rfl (wpAny_pure ?_)))))))
 refine wpAny_bind (slicePart_none ?_)
 show wpAny _ _ (if ((1:Int)==0)=true then _ else _) _ _ s
 rw [if_neg (by decide)]
 refine wpAny_bind (iT pl (wpAny_bind (iT pu (wpAny_bind (wpAny_pure ?_)))))
 show wpAny _ _ (match Builtin.Slice.sliceAdjust lo hi 1 (n:Int) with | (lo,hi)=>pure (lo,(1:Int),Builtin.Slice.slicePlaces lo hi 1)) _ _ s
 rw [pE lo hi n]
 show wpAny _ _ (pure (((sIx n 0 lo:Nat):Int),(1:Int),Builtin.Slice.slicePlaces ((sIx n 0 lo:Nat):Int) ((sIx n n hi:Nat):Int) 1)) _ _ s
 rw [oZ]
 exact wpAny_pure h
theorem rN (xs:Array Value) (i k:Nat):((List.range k).filterMap fun (m:Nat)=>xs[((i:Int)+(m:Int)*1).toNat]?).toArray=((xs.toList.drop i).take k).toArray:=by
 have e:(fun (m:Nat)=>xs[((i:Int)+(m:Int)*1).toNat]?)=fun m=>xs[i+m]?:=by
  funext m
  have:((i:Int)+(m:Int)*1).toNat=i+m:=by omega
  rw [this]
 rw [e]
 have:=pick_run xs i k
 rw [List.filterMap_map] at this
 have e2:((fun x=>xs[x]?) ∘ fun x=>i+x)=fun m=>xs[i+m]?:=rfl
 rw [e2] at this
 rw [this]
theorem getItem_tuple_cut {t sl:Addr} {items:Array Value} {vl vu:Value} {lo hi:Option Int} {Q:Value->Shared->Prop} (ht:IsTup s.heap t items) (hs:s.heap.IsSliceOf sl vl vu .none) (pl:IsPart vl lo) (pu:IsPart vu hi)
  (hw:¬ (sIx items.size 0 lo=0/\sIx items.size items.size hi=items.size))
  (h:Q (.ref s.heap.objs.size) { s with heap:=s.heap.push { cls:=.type "tuple",data:=.seq ((items.toList.drop (sIx items.size 0 lo)).take (sIx items.size items.size hi - sIx items.size 0 lo)).toArray } })
  (hsz:items.size<=sizeLine):wpAny (model prog w) A (getItem (.ref t) (.ref sl)) Q E s:=by
 have htake:sizeOk (.seq ((items.toList.drop (sIx items.size 0 lo)).take (sIx items.size items.size hi - sIx items.size 0 lo)).toArray):=by
  show ((items.toList.drop (sIx items.size 0 lo)).take (sIx items.size items.size hi - sIx items.size 0 lo)).toArray.size<=sizeLine
  rw [List.size_toArray,List.length_take,List.length_drop,Array.length_toList]
  omega
 have hj:sIx items.size items.size hi<=items.size:=uV _ _ (Nat.le_refl _) hi
 obtain ⟨os,hos,hcs,hds⟩:=id hs
 have hTs:s.TypeIs (.ref sl) "slice" := ⟨os,hos,hcs⟩
 unfold getItem
 try with_reducible refine wpAny_holding ?_
 first | refine wpAny_bind (wpAny_pure ?_) | skip
 refine wpAny_bind (wpAny_sequenceKey ht.typeIs (by decide) ?_)
 refine wpAny_bind (wpAny_callSpecial?_slot (name:=Str.ofString "__getitem__") ht.typeIs PyProof.Rows.slot_tuple_getitem
  (wpAny_call_entry PyProof.Rows.slot_tuple_getitem ht.typeIs entry_tuple_getitem ?_ (args_tuple_getitem _ _)))
 show wpAny _ _ (Builtin.Tuple.tupleItemsOf (.ref t) >>= _) _ _ s
 refine wpAny_bind (tupleItemsOf_ ht ?_)
 refine wpAny_bind (wpAny_typeOf hTs ?_)
 rw [if_pos (by decide)]
 refine wpAny_bind (sliceApplied_gen hs pl pu ?_)
 have hno:¬ ((((sIx items.size 0 lo:Nat):Int)==0 && (1:Int)==1 && (sIx items.size items.size hi - sIx items.size 0 lo)==items.size)=true):=by
  intro q
  rw [Bool.and_eq_true,Bool.and_eq_true] at q
  have q1:((sIx items.size 0 lo:Nat):Int)=0:=eq_of_beq q.1.1
  have q2:sIx items.size items.size hi - sIx items.size 0 lo=items.size:=eq_of_beq q.2
  exact hw ⟨by omega,by omega⟩
 show wpAny _ _ (if (((sIx items.size 0 lo:Nat):Int)==0 && (1:Int)==1 && (sIx items.size items.size hi - sIx items.size 0 lo)==items.size)=true then _ else _) _ _ s
 rw [if_neg hno,rN]
 first
  | exact wpAny_bind (m:=Builtin.Tuple.tupleExact _) (wpAny_newObj_type (wpAny_pure ⟨_,rfl,wpAny_pure h⟩) htake)
  | exact wpAny_bind (m:=Builtin.Tuple.tupleExact _) (wpAny_newObj_type (wpAny_bind (wpAny_pure (wpAny_pure ⟨_,rfl,wpAny_pure h⟩))) htake)
  | exact wpAny_bind (wpAny_bind (m:=Builtin.Tuple.tupleExact _) (wpAny_newObj_type (wpAny_pure (wpAny_pure ⟨_,rfl,wpAny_pure h⟩)) htake))
  | exact wpAny_bind (wpAny_bind (m:=Builtin.Tuple.tupleExact _) (wpAny_newObj_type (wpAny_pure ⟨_,rfl,wpAny_pure h⟩) htake))
end
end HT
namespace L2
open PySem PySem.Spec PyProof.Rows
noncomputable abbrev TO:=St->Hp->(Option Int->Hp->Prop)->Prop
noncomputable def PO (X:Cx) (e:Option Expr) (t:TO):Prop :=
 ∀ (pins:List (Addr×Obj)) (s:Shared) (σ:St) (H:Hp) (Q:Option Int->Hp->Prop),Inv X pins σ H s->t σ H Q ->
  wpAny (model X.prog X.w) X.A (evalPart e X.env) (fun u s'=>∃ o H',Inv X pins σ H' s'/\IsPart u o/\Q o H') X.xe s
noncomputable def tB:TO:=fun _ H Q=>Q none H
noncomputable def tPart (t:TE):TO:=fun σ H Q=>t σ H fun x H1=>∃ i,x=.int i/\Q (some i) H1
section
variable {X:Cx} {e:Expr} {te:TE} {lo hi:Option Expr} {tl th:TO} {pos p2:Pos}
theorem nO:PO X none tB:=by
 intro pins s σ H Q I h
 rw [evalPart_none]
 exact wpAny_pure ⟨none,H,I,.none,h⟩
theorem nN (h:PE X e te):PO X (some e) (tPart te):=by
 intro pins s σ H Q I hw
 rw [evalPart_some]
 refine thn (h pins s σ H _ I hw) fun u s1 ⟨x,H1,I1,r1,q1⟩=>?_
 obtain ⟨i,rfl,q⟩:=q1
 obtain ⟨t,rfl⟩:=r1
 exact ⟨some i,H1,I1,.int i t,q⟩
noncomputable def SlR (X:Cx) (r:V->Option Int->Option Int->Hp->VK->Prop):Prop :=
 ∀ (pins:List (Addr×Obj)) (s:Shared) (σ:St) (H:Hp) (x:V) (v vl vu:Value) (lo hi:Option Int) (sl:Addr) (Q:VK),Inv X pins σ H s->RelV x v->s.heap.IsSliceOf sl vl vu .none->IsPart vl lo->IsPart vu hi->r x lo hi H Q ->
  ∃ T id,typeLookup (.type T) "__getitem__" = pure (some (.builtin id))/\s.TypeIs v T/\wpAny (model X.prog X.w) X.A (getItem v (.ref sl)) (EP X pins σ Q) X.xe s
theorem SlR.or {r r':V->Option Int->Option Int->Hp->VK->Prop} (h:SlR X r) (h':SlR X r'):SlR X (fun x lo hi H Q=>r x lo hi H Q\/r' x lo hi H Q):=by
 intro pins s σ H x v vl vu lo hi sl Q I rx hs pl pu q
 rcases q with q | q
 ·exact h pins s σ H x v vl vu lo hi sl Q I rx hs pl pu q
 ·exact h' pins s σ H x v vl vu lo hi sl Q I rx hs pl pu q
noncomputable def tSl (r:V->Option Int->Option Int->Hp->VK->Prop) (te:TE) (tl th:TO):TE:=fun σ H Q=>te σ H fun x H1=>tl σ H1 fun l H2=>th σ H2 fun u H3=>r x l u H3 Q
theorem ir {r:V->Option Int->Option Int->Hp->VK->Prop} (hr:SlR X r) (he:PE X e te) (hl:PO X lo tl) (hu:PO X hi th):PE X (.Subscript e (.Slice lo hi none p2) pos) (tSl r te tl th):=by
 intro pins s σ H Q I h
 refine Subscript_ (thn (he pins s σ H _ I h) fun v s1 ⟨x,H1,I1,r1,q1⟩=>?_)
 refine wpAny_Slice (thn (hl pins s1 σ H1 _ I1 q1) fun vl s2 ⟨l,H2,I2,pl,q2⟩=>thn (hu pins s2 σ H2 _ I2 q2) fun vu s3 ⟨u,H3,I3,pu,q3⟩=>?_)
 rw [evalPart_none]
 refine wpAny_pure ?_
 have I4:Inv X pins σ H3 { s3 with heap:=s3.heap.push { cls:=.type "slice",data:=.fields #[vl,vu,.none] } }:=I3.kept (t':=s3.toks) fun b ob q=>Heap.get?_push_of_some _ q
 obtain ⟨T,id,hT,ht,hg⟩:=hr pins { s3 with heap:=s3.heap.push { cls:=.type "slice",data:=.fields #[vl,vu,.none] } } σ H3 x v vl vu l u s3.heap.objs.size Q I4 r1 (Heap.IsSliceOf.new ..) pl pu q3
 show wpAny (model X.prog X.w) X.A (subscriptTail e (.Slice lo hi none p2) v (.ref s3.heap.objs.size)) (EP X pins σ Q) X.xe { s3 with heap:=s3.heap.push { cls:=.type "slice",data:=.fields #[vl,vu,.none] } }
 exact tail_any (ops:=[.ref s3.heap.objs.size,v]) ht hT hg (by with_unfolding_all rfl)
noncomputable def cutV (xs:List V) (lo hi:Option Int):List V:=(xs.drop (HT.sIx xs.length 0 lo)).take (HT.sIx xs.length xs.length hi - HT.sIx xs.length 0 lo)
theorem ia (xs:List V) (lo hi:Option Int):(cutV xs lo hi).length<=xs.length:=by
 unfold cutV
 rw [List.length_take,List.length_drop]
 omega
noncomputable def rSlT (K:PySem.W.Frag):V->Option Int->Option Int->Hp->VK->Prop:=fun x lo hi H Q=>∃ a xs,x=.ref a/\SqT K H a xs /\
 ¬ (HT.sIx xs.length 0 lo=0/\HT.sIx xs.length xs.length hi=xs.length)/\∀ p,H p=none->Q (.ref p) (upd H p (.tup (cutV xs lo hi)))
theorem uT:SlR X (rSlT X.K):=by
 intro pins s σ H x v vl vu lo hi sl Q I rx hs pl pu h
 obtain ⟨a,xs,rfl,hx,hw,q⟩:=h
 cases rx
 obtain ⟨its,r,ht,hz⟩:=I.tuple hx
 have hlen:its.toArray.size=xs.length:=by rw [List.size_toArray]; exact r.length.symm
 refine ⟨"tuple",_,PyProof.Rows.slot_tuple_getitem.lookup,ht.typeIs,?_⟩
 refine HT.getItem_tuple_cut ht hs pl pu (by rw [hlen]; exact hw) ?_ (by rw [hlen]; exact hz)
 rw [hlen]
 refine ⟨.ref s.heap.objs.size,_,I.laid (t':=s.toks) (o:=.tup (cutV xs lo hi)) (fun b ob q=>Heap.get?_push_of_some _ q) (Nat.le_refl _) ?_,rfl,q _ (I.hok.fresh (Nat.le_refl _))⟩
 exact ⟨Nat.le_trans (ia xs lo hi) hz,_,(r.drop (HT.sIx xs.length 0 lo)).take (HT.sIx xs.length xs.length hi - HT.sIx xs.length 0 lo),IsTup.new _ _⟩
noncomputable def rCatT (K:PySem.W.Frag):R2:=fun x y H Q=>∃ a b xs ys,x=.ref a/\y=.ref b/\SqT K H a xs/\SqT K H b ys/\xs≠[]/\xs.length+ys.length<=sizeLine /\
 (ys=[]->Q (.ref a) H)/\(ys≠[]->∀ p,H p=none->Q (.ref p) (upd H p (.tup (xs++ys))))
theorem Vals.nil_iff {xs:List V} {us:List Value} (r:Vals xs us):us=[]↔xs=[]:=by
 cases r with
 | nil=>simp
 | cons _ _=>simp
theorem t7:OpR X (binaryOp .Add) (rCatT X.K):=by
 intro pins s σ H x y v u Q I rx ry h
 obtain ⟨a,b,xs,ys,rfl,rfl,ha,hb,hx,hz,q1,q2⟩:=h
 cases rx
 cases ry
 obtain ⟨its,r1,p1,_⟩:=I.tuple ha
 obtain ⟨its2,r2,p2,_⟩:=I.tuple hb
 refine HT.cat_tup p1 p2 (fun z=>hx (r1.nil_iff.mp z)) (fun z=>⟨.ref a,H,I,rfl,q1 (r2.nil_iff.mp z)⟩) (fun z=>?_) (by rw [<- r1.length,<- r2.length]; exact hz)
 refine ⟨.ref s.heap.objs.size,_,I.laid (t':=s.toks) (o:=.tup (xs++ys)) (fun b ob q=>Heap.get?_push_of_some _ q) (Nat.le_refl _) ?_,rfl,q2 (fun w=>z (r2.nil_iff.mpr w)) _ (I.hok.fresh (Nat.le_refl _))⟩
 exact ⟨by rw [List.length_append]; exact hz,_,r1.append r2,IsTup.new _ _⟩
end
end L2
namespace L2
open PySem PySem.Spec PyProof.Rows
noncomputable def ixN (n:Nat) (i:Int):Option Nat:=if 0<=i then (if i<n then some i.toNat else none) else if -(n:Int)<=i then some (i+n).toNat else none
noncomputable def atI {α:Type} (xs:List α) (i:Int):Option α:=(ixN xs.length i).bind fun j=>xs[j]?
theorem jR {n:Nat} {i:Int} {j:Nat} (h:ixN n i=some j):seqIndex? i n=some j/\j<n /\ -(n:Int)<=i/\i<n:=by
 unfold ixN at h
 by_cases h0:0<=i
 ·rw [if_pos h0] at h
  by_cases h1:i<n
  ·rw [if_pos h1] at h
   have e:i.toNat=j:=Option.some.inj h
   exact ⟨by rw [seqIndex_of h0 h1,e],by omega,by omega,h1⟩
  ·rw [if_neg h1] at h; cases h
 ·rw [if_neg h0] at h
  by_cases h1 : -(n:Int)<=i
  ·rw [if_pos h1] at h
   have e:(i+n).toNat=j:=Option.some.inj h
   exact ⟨by rw [seqIndex_neg (by omega) h1,e],by omega,h1,by omega⟩
  ·rw [if_neg h1] at h; cases h
theorem j4 {α:Type} {xs:List α} {i:Int} {v:α} (h:atI xs i=some v):∃ j,seqIndex? i xs.length=some j/\xs[j]?=some v/\j<xs.length /\ -(xs.length:Int)<=i/\i<xs.length:=by
 unfold atI at h
 cases e:ixN xs.length i with
 | none=>rw [e] at h; cases h
 | some j =>
  rw [e] at h
  obtain ⟨h1,h2,h3,h4⟩:=jR e
  exact ⟨j,h1,h,h2,h3,h4⟩
theorem av {α:Type} {xs:List α} {j:Nat} {v:α} (h:xs[j]?=some v):atI xs (j:Int)=some v:=by
 have hj:j<xs.length:=(List.getElem?_eq_some_iff.mp h).1
 have e:ixN xs.length (j:Int)=some j:=by
  unfold ixN
  rw [if_pos (by omega),if_pos (by omega)]; simp
 unfold atI; rw [e]; exact h
noncomputable def j6 (b:Expr):Prop:=∀ o i,subscripted b false o i=operate [o,i] (getItem o i)
noncomputable def IxR (X:Cx) (r:R2):Prop :=
 ∀ (value slice:Expr) (pins:List (Addr×Obj)) (s:Shared) (σ:St) (H:Hp) (x y:V) (v u:Value) (Q:VK),Inv X pins σ H s->RelV x v->RelV y u->r x y H Q ->
  subscripted slice false v u=operate [v,u] (getItem v u)->wpAny (model X.prog X.w) X.A (subscriptTail value slice v u) (EP X pins σ Q) X.xe s
noncomputable def MtR (X:Cx) (id:String) (r:V->List V->Hp->VK->Prop):Prop :=
 ∀ (pins:List (Addr×Obj)) (s:Shared) (σ:St) (H:Hp) (x:V) (xs:List V) (v:Value) (us:List Value) (Q:VK),Inv X pins σ H s->RelV x v->Vals xs us->r x xs H Q ->
  wpAny (model X.prog X.w) X.A (call (.builtin id) (v::us)) (EP X pins σ Q) X.xe s
section
variable {X:Cx} {a b:Expr} {ta tb:TE} {pos:Pos}
theorem IxR.or {r r':R2} (h:IxR X r) (h':IxR X r'):IxR X (fun x y H Q=>r x y H Q\/r' x y H Q):=by
 intro value slice pins s σ H x y v u Q I rx ry q hs
 rcases q with q | q
 ·exact h value slice pins s σ H x y v u Q I rx ry q hs
 ·exact h' value slice pins s σ H x y v u Q I rx ry q hs
theorem cC {r:R2} (hr:IxR X r) (ha:PE X a ta) (hb:PE X b tb) (hs:j6 b):PE X (.Subscript a b pos) (tOp r ta tb):=by
 intro pins s σ H Q I h
 exact Subscript_ (binT ha hb I h fun v u s2 x y H2 I2 rx ry q=>hr a b pins s2 σ H2 x y v u Q I2 rx ry q (hs _ _))
noncomputable def rIxL (K:PySem.W.Frag):R2:=fun x y H Q=>∃ p xs i v,x=.ref p/\y=.int i/\SqL K H p xs/\atI xs i=some v/\Q v H
noncomputable def rIxT (K:PySem.W.Frag):R2:=fun x y H Q=>∃ p xs i v,x=.ref p/\y=.int i/\SqT K H p xs/\atI xs i=some v/\Q v H
noncomputable def rIxS:R2:=fun x y H Q=>∃ z i c,x=.str z/\y=.int i/\z.length<=sizeLine/\atI z.cps.toList i=some c/\Q (.str ⟨#[c]⟩) H
theorem ix_list:IxR X (rIxL X.K):=by
 intro value slice pins s σ H x y v u Q I rx ry h hs
 obtain ⟨p,xs,i,z,rfl,rfl,hq,he,q⟩:=h
 cases rx
 obtain ⟨t,rfl⟩:=ry
 obtain ⟨its,r,pl,hz⟩:=I.list hq
 obtain ⟨j,h1,h2,h3,h4,h5⟩:=j4 he
 obtain ⟨w,ew,rw'⟩:=r.get h2
 have hl:=r.length
 have hn:=line63
 have fin:EP X pins σ Q w s:=⟨z,H,I,rw',q⟩
 by_cases h0:0<=i
 ·have hj:i.toNat=j:=by
   rw [seqIndex_of h0 h5] at h1
   exact Option.some.inj h1
  exact item_listR pl.isList h0 (by omega) (by rw [hj]; simpa using ew) fin hs
 ·have hj:(i+(its.toArray.size:Int)).toNat=j:=by
   rw [seqIndex_neg (by omega) h4] at h1
   rw [List.size_toArray,<- hl]
   exact Option.some.inj h1
  exact subscriptTail_builtinR (x:=w) pl.isList.typeIs slot_list_getitem.lookup
   (wpAny_getItem_list_neg (Q:=fun r s'=>r=w/\EP X pins σ Q r s') pl.isList (by omega) (by rw [List.size_toArray] <;> omega) (by omega) (by rw [hj]; simpa using ew) ⟨rfl,fin⟩) hs
theorem ix_tup:IxR X (rIxT X.K):=by
 intro value slice pins s σ H x y v u Q I rx ry h hs
 obtain ⟨p,xs,i,z,rfl,rfl,hq,he,q⟩:=h
 cases rx
 obtain ⟨t,rfl⟩:=ry
 obtain ⟨its,r,pl,hz⟩:=I.tuple hq
 obtain ⟨j,h1,h2,h3,h4,h5⟩:=j4 he
 obtain ⟨w,ew,rw'⟩:=r.get h2
 have hl:=r.length
 have hn:=line63
 have fin:EP X pins σ Q w s:=⟨z,H,I,rw',q⟩
 exact subscriptTail_builtinR (x:=w) pl.typeIs slot_tuple_getitem.lookup
  (getItem_tuple (j:=j) (Q:=fun r s'=>r=w/\EP X pins σ Q r s') pl (by omega) (by omega) (by rw [List.size_toArray,<- hl]; exact h1) (by simpa using ew) ⟨rfl,fin⟩) hs
theorem vH:IxR X rIxS:=by
 intro value slice pins s σ H x y v u Q I rx ry h hs
 obtain ⟨z,i,c,rfl,rfl,hz,he,q⟩:=h
 obtain ⟨t,rfl⟩:=rx
 obtain ⟨t',rfl⟩:=ry
 obtain ⟨j,h1,h2,h3,h4,h5⟩:=j4 he
 have hl:z.cps.toList.length=z.length:=by simp [Str.length]
 rw [hl] at h1 h4 h5
 have hn:=line63
 exact tail_any (typeIs_str s z t) slot_str_getitem.lookup (getItem_str (c:=c) (by
  have e1:decide (i < -(2 ^ 63:Int))=false:=decide_eq_false (by omega)
  have e2:decide (i ≥ 2 ^ 63)=false:=decide_eq_false (by omega)
  rw [e1,e2,Bool.or_false]) (by rw [h1]; simpa using h2) ⟨.str ⟨#[c]⟩,H,I.tok _,⟨_,rfl⟩,q⟩) hs
noncomputable def rIx (K:PySem.W.Frag):R2:=fun x y H Q=>rIxL K x y H Q\/rIxT K x y H Q\/rIxS x y H Q
theorem ix_seq:IxR X (rIx X.K):=ix_list.or (ix_tup.or vH)
theorem pc (its:List Value) (n j:Nat) (u:Value):Obj.mapSeq (·.setIfInBounds j u) { cls:=.type "list",data:=.seq its.toArray n }={ cls:=.type "list",data:=.seq (its.set j u).toArray n }:=by
 simp [Obj.mapSeq]
theorem Inv.lst {pins:List (Addr×Obj)} {σ:St} {H:Hp} {s:Shared} {p:Addr} {xs:List V} (I:Inv X pins σ H s) (h:H p=some (.lst xs)) :
  ∃ (its:List Value) (n:Nat),Vals xs its/\s.heap.get? p=some { cls:=.type "list",data:=.seq its.toArray n }/\xs.length<=sizeLine:=by
 obtain ⟨z,its,n,r,e⟩:=I.hok p _ h
 exact ⟨its,n,r,e,z⟩
theorem Inv.lstUpd {pins:List (Addr×Obj)} {σ:St} {H:Hp} {s:Shared} {p:Addr} {xs ys:List V} {its its':List Value} {n n':Nat} {f:Obj->Obj} (I:Inv X pins σ H s) (h:H p=some (.lst xs))
  (ho:s.heap.get? p=some { cls:=.type "list",data:=.seq its.toArray n }) (hf:f { cls:=.type "list",data:=.seq its.toArray n }={ cls:=.type "list",data:=.seq its'.toArray n' }) (r:Vals ys its') (hz:ys.length<=sizeLine) (t:Nat) :
  Inv X pins σ (upd H p (.lst ys)) { s with heap:=s.heap.update p f,toks:=t }:=by
 have e:(s.heap.update p f).get? p=some { cls:=.type "list",data:=.seq its'.toArray n' }:=by
  rw [Heap.get?_update_self f ho (by rw [hf] <;> rfl),hf]
 refine I.write (x:=p) (e:=p) (by rw [h]; trivial) (.inl rfl) (fun b u hb q=>(Heap.get?_update_other _ _ (Ne.symm hb)).trans q) ⟨_,e⟩ ?_
 exact ⟨hz,its',n',r,e⟩
noncomputable def rSetL:V->V->V->Hp->(Hp->Prop)->Prop:=fun o i v H Q=>∃ p xs k j,o=.ref p/\i=.int k/\H p=some (.lst xs)/\ixN xs.length k=some j/\Q (upd H p (.lst (xs.set j v)))
theorem rn:PSet X rSetL:=by
 intro pins s σ H o i v ov iv u Q I ro ri rv h
 obtain ⟨p,xs,k,j,rfl,rfl,hp,hj,q⟩:=h
 cases ro
 obtain ⟨t,rfl⟩:=ri
 obtain ⟨its,n,r,ho,hz⟩:=I.lst hp
 obtain ⟨h1,h2,h3,h4⟩:=jR hj
 have hl:=r.length
 have hn:=line63
 have I':Inv X pins σ (upd H p (.lst (xs.set j v))) { s with heap:=s.heap.update p (Obj.mapSeq (·.setIfInBounds j u)) } :=
  I.lstUpd hp ho (pc its n j u) (r.set rv j) (by rw [List.length_set]; exact hz) s.toks
 by_cases h0:0<=k
 ·have hk:k.toNat=j:=by
   rw [seqIndex_of h0 h4] at h1
   exact Option.some.inj h1
  exact PySem.W.ki_setAt ho h0 (by omega) (by rw [List.size_toArray,<- hl]; exact h4) (by rw [hk]; exact ⟨_,I',q⟩)
 ·have hk:(k+(its.toArray.size:Int)).toNat=j:=by
   rw [seqIndex_neg (by omega) h3] at h1
   rw [List.size_toArray,<- hl]
   exact Option.some.inj h1
  exact PySem.W.ki_setBack ho (by omega) (by rw [List.size_toArray,<- hl]; exact h3) (by omega) (by rw [hk]; exact ⟨_,I',q⟩)
theorem lD (lo hi:Option Int) (n:Nat):(sliceBounds lo hi none n).1=((HT.sIx n 0 lo:Nat):Int)/\(sliceBounds lo hi none n).2.1=((HT.sIx n n hi:Nat):Int)/\(sliceBounds lo hi none n).2.2=1:=by
 refine ⟨?_,?_,rfl⟩
 ·cases lo with
  | none=>simp [sliceBounds,HT.sIx]
  | some i =>
   simp only [sliceBounds,HT.sIx,Option.getD_none,show (1:Int) > 0 by decide,if_true]
   by_cases h:i<0
   ·simp only [h,if_true] <;> omega
   ·simp only [h,if_false] <;> omega
 ·cases hi with
  | none=>simp [sliceBounds,HT.sIx]
  | some i =>
   simp only [sliceBounds,HT.sIx,Option.getD_none,show (1:Int) > 0 by decide,if_true]
   by_cases h:i<0
   ·simp only [h,if_true] <;> omega
   ·simp only [h,if_false] <;> omega
theorem lb (its:List Value) (lo hi:Option Int):slicePick its.toArray lo hi none=((its.drop (HT.sIx its.length 0 lo)).take (HT.sIx its.length its.length hi - HT.sIx its.length 0 lo)).toArray:=by
 obtain ⟨h1,h2,h3⟩:=lD lo hi its.toArray.size
 unfold slicePick
 rw [h1,h2,h3]
 simp only [sliceRange_one,pick_run,List.size_toArray] <;> rfl
noncomputable def rSlL (K:PySem.W.Frag):V->Option Int->Option Int->Hp->VK->Prop:=fun x lo hi H Q=>∃ a xs,x=.ref a/\SqL K H a xs/\∀ p,H p=none->Q (.ref p) (upd H p (.lst (cutV xs lo hi)))
theorem nC:SlR X (rSlL X.K):=by
 intro pins s σ H x v vl vu lo hi sl Q I rx hs pl pu h
 obtain ⟨a,xs,rfl,hx,q⟩:=h
 cases rx
 obtain ⟨its,r,ht,hz⟩:=I.list hx
 have hlen:=r.length
 refine ⟨"list",_,slot_list_getitem.lookup,ht.isList.typeIs,?_⟩
 refine wpAny_getItem_list_slice ht.isList hs pl pu .none (by simp) ?_ (by rw [List.size_toArray] <;> omega)
 rw [lb,<- hlen]
 refine ⟨.ref s.heap.objs.size,_,I.laid (t':=s.toks) (o:=.lst (cutV xs lo hi)) (fun b ob q=>Heap.get?_push_of_some _ q) (Nat.le_refl _) ?_,rfl,q _ (I.hok.fresh (Nat.le_refl _))⟩
 exact ⟨Nat.le_trans (ia xs lo hi) hz,_,0,(r.drop (HT.sIx xs.length 0 lo)).take (HT.sIx xs.length xs.length hi - HT.sIx xs.length 0 lo),Heap.get?_push_size _ rfl⟩
theorem lW:OpR X (compareOp .NotIn) (fun x y H Q=>∃ i j,x=.str i/\y=.str j/\Q (.bl (!(!(Builtin.Str.occurrences j i 0 j.length 1).isEmpty))) H):=by
 intro pins s σ H x y v u Q I rx ry h
 obtain ⟨i,j,rfl,rfl,q⟩:=h
 obtain ⟨t,rfl⟩:=rx
 obtain ⟨t',rfl⟩:=ry
 exact notIn_str ⟨.bl _,H,I,rfl,q⟩
theorem gq:CallR X (.builtin "len") (fun xs H Q=>∃ p ys,xs=[.ref p]/\(SqL X.K H p ys\/SqT X.K H p ys)/\Q (.int ys.length) H):=by
 intro pins s σ H xs us Q I r h
 obtain ⟨p,ys,rfl,hq,q⟩:=h
 obtain ⟨u,rfl,rx⟩:=vals1 r
 cases rx
 have hn:=line63
 rcases hq with hq | hq
 ·obtain ⟨its,r',pl,hz⟩:=I.list hq
  have hlen:=r'.length
  exact Calls.call_len_list pl.isList (by simp only [List.size_toArray] <;> omega) ⟨.int ys.length,H,I.tok _,⟨s.toks+1,by rw [List.size_toArray,hlen]⟩,q⟩
 ·obtain ⟨its,r',pl,hz⟩:=I.tuple hq
  have hlen:=r'.length
  exact len_tuple pl (by simp only [List.size_toArray] <;> omega) ⟨.int ys.length,H,I.tok _,⟨s.toks+1,by rw [List.size_toArray,hlen]⟩,q⟩
theorem mQ:CallR X (.builtin "len") (fun xs H Q=>∃ z,xs=[.str z]/\z.length<=sizeLine/\Q (.int z.length) H):=by
 intro pins s σ H xs us Q I r h
 obtain ⟨z,rfl,hz,q⟩:=h
 obtain ⟨u,rfl,t,rfl⟩:=vals1 r
 have hn:=line63
 exact len_str (by omega) ⟨.int z.length,H,I.tok _,⟨_,rfl⟩,q⟩
theorem CallR.or {f:Value} {r r':List V->Hp->VK->Prop} (h:CallR X f r) (h':CallR X f r'):CallR X f (fun xs H Q=>r xs H Q\/r' xs H Q):=by
 intro pins s σ H xs us Q I rs q
 rcases q with q | q
 ·exact h pins s σ H xs us Q I rs q
 ·exact h' pins s σ H xs us Q I rs q
theorem mP:CallR X (.type "list") (fun xs H Q=>∃ p ys,xs=[.ref p]/\(SqL X.K H p ys\/SqT X.K H p ys)/\∀ l,H l=none->Q (.ref l) (upd H l (.lst ys))):=by
 intro pins s σ H xs us Q I r h
 obtain ⟨p,ys,rfl,hq,q⟩:=h
 obtain ⟨u,rfl,rx⟩:=vals1 r
 cases rx
 have fin:∀ (its:List Value),Vals ys its->ys.length<=sizeLine->∀ (h':Heap) (c':Nat),(∀ b o',s.heap.get? b=some o'->h'.get? b=some o') ->
   h'.get? s.heap.objs.size=some { cls:=.type "list",dict:=none,data:=.seq its.toArray c',slots:=#[] }->EP X pins σ Q (.ref s.heap.objs.size) { s with heap:=h' }:=fun its r' hz h' c' kp e =>
  ⟨.ref s.heap.objs.size,_,I.laid (t':=s.toks) kp (Nat.le_refl _) (show ObjOk X.prog X.w _ h' _ (.lst ys) from ⟨hz,its,c',r',e⟩),rfl,q _ (I.hok.fresh (Nat.le_refl _))⟩
 rcases hq with hq | hq
 ·obtain ⟨its,r',pl,hz⟩:=I.list hq
  have hlen:=r'.length
  obtain ⟨o,ho,hc,n,hd⟩:=pl.isList
  exact call_list_seq p (.inl rfl) ho hc hd (fun h' c' kp e=>fin its r' hz h' c' kp e) (by simp only [List.size_toArray] <;> omega)
 ·obtain ⟨its,r',pl,hz⟩:=I.tuple hq
  have hlen:=r'.length
  obtain ⟨o,ho,hc,n,hd⟩:=pl
  exact call_list_seq p (.inr rfl) ho hc hd (fun h' c' kp e=>fin its r' hz h' c' kp e) (by simp only [List.size_toArray] <;> omega)
theorem ll:CallR X (.type "tuple") (fun xs H Q=>∃ p ys,xs=[.ref p]/\((SqL X.K H p ys/\∀ l,H l=none->Q (.ref l) (upd H l (.tup ys)))\/(SqT X.K H p ys/\Q (.ref p) H))):=by
 intro pins s σ H xs us Q I r h
 obtain ⟨p,ys,rfl,h⟩:=h
 obtain ⟨u,rfl,rx⟩:=vals1 r
 cases rx
 rcases h with ⟨hq,q⟩ | ⟨hq,q⟩
 ·obtain ⟨its,r',pl,hz⟩:=I.list hq
  have hlen:=r'.length
  refine call_tuple_list pl.isList (fun h' kp=>?_) (by simp only [List.size_toArray] <;> omega)
  have I1:Inv X pins σ H { s with heap:=h' }:=I.kept (t':=s.toks) kp
  have I2:Inv X pins σ (upd H h'.objs.size (.tup ys)) { s with heap:=h'.push { cls:=.type "tuple",data:=.seq its.toArray } } :=
   I1.laid (t':=s.toks) (fun b o e=>Heap.get?_push_of_some _ e) (Nat.le_refl _) (show ObjOk X.prog X.w _ _ _ (.tup ys) from ⟨hz,its,r',IsTup.new _ _⟩)
  exact ⟨.ref h'.objs.size,_,I2,rfl,q _ (I1.hok.fresh (Nat.le_refl _))⟩
 ·obtain ⟨its,r',pl,hz⟩:=I.tuple hq
  exact call_tuple_same pl ⟨.ref p,H,I,rfl,q⟩
noncomputable def tyV (K:PySem.W.Frag) (T:String) (x:V) (H:Hp):Prop:=match x with
 | .str _=>T = "str"
 | .int _=>T = "int"
 | .ref p=>(T = "list" /\ ∃ xs,SqL K H p xs)\/(T = "tuple" /\ ∃ o,K.lookup p=some o/\o.cls=.type "tuple" /\ o.dict=none) \/
   (T = "dict" /\ ((∃ kvs,H p=some (.dK kvs))\/∃ kvs,H p=some (.dT kvs)))\/(T = "set" /\ ∃ S n,H p=some (.set S n))
 | _=>False
theorem pI {pins:List (Addr×Obj)} {σ:St} {H:Hp} {s:Shared} {T:String} {x:V} {v:Value} (I:Inv X pins σ H s) (r:RelV x v) (ty:tyV X.K T x H) :
  s.TypeIs v T/\∀ a,v=.ref a->∃ ob,s.heap.get? a=some ob/\ob.dict=none:=by
 cases x with
 | str z =>
  obtain ⟨t,rfl⟩:=r
  cases (show T = "str" from ty)
  exact ⟨typeIs_str s z t,fun _ e=>nomatch e⟩
 | int i =>
  obtain ⟨t,rfl⟩:=r
  cases (show T = "int" from ty)
  exact ⟨typeIs_int s i t,fun _ e=>nomatch e⟩
 | ref p =>
  cases r
  rcases ty with ⟨rfl,xs,hq⟩ | ⟨rfl,o,hk,hc,hd⟩ | ⟨rfl,hk⟩ | ⟨rfl,S,n,hk⟩
  ·obtain ⟨its,_,pl,_⟩:=I.list hq
   refine ⟨pl.isList.typeIs,fun a e=>?_⟩
   cases e
   obtain ⟨o,n,e,c,hd,_⟩:=pl
   exact ⟨o,e,hd⟩
  ·refine ⟨⟨o,I.kIn p o hk,hc⟩,fun a e=>?_⟩
   cases e
   exact ⟨o,I.kIn _ o hk,hd⟩
  ·have z:∃ o,s.heap.get? p=some o/\o.ExactDict:=by
    rcases hk with ⟨kvs,hk⟩ | ⟨kvs,hk⟩
    ·obtain ⟨_,_,_,_,o,_,_,e,ex,_⟩:=I.hok p _ hk
     exact ⟨o,e,ex⟩
    ·obtain ⟨_,_,_,_,o,_,_,e,ex,_⟩:=I.hok p _ hk
     exact ⟨o,e,ex⟩
   obtain ⟨o,e,ex⟩:=z
   refine ⟨⟨o,e,ex.1⟩,fun a e2=>?_⟩
   cases e2
   exact ⟨o,e,ex.2.1⟩
  ·obtain ⟨o,_,_,_,e,ex,_⟩:=I.hok p _ hk
   refine ⟨⟨o,e,ex.1⟩,fun a e2=>?_⟩
   cases e2
   exact ⟨o,e,ex.2.1⟩
 | _=>exact False.elim ty
noncomputable def tBM0 (K:PySem.W.Frag) (T:String) (r:V->List V->Hp->VK->Prop) (to:TE):TE:=fun σ H Q=>to σ H fun x H1=>tyV K T x H1/\r x [] H1 Q
noncomputable def tBM (K:PySem.W.Frag) (T:String) (r:V->List V->Hp->VK->Prop) (to:TE) (t:TA):TE:=fun σ H Q=>to σ H fun x H1=>tyV K T x H1/\t σ H1 fun xs H2=>r x xs H2 Q
variable {o e:Expr} {es:List Expr} {to:TE} {t:TA} {name:Str} {apos cpos:Pos} {T id:String} {r:V->List V->Hp->VK->Prop}
theorem vc (pa:PlainAttrs T) (slot:Slot T name id) (hty:typeOf (.builtin id)=pure (.type "method_descriptor")) (hm:MtR X id r) (ho:PE X o to)
  (hbase:autoParam (attributeBase o name X.env (eval o X.env)=eval o X.env) Z2._auto_1) (hline:autoParam ((apos.endLine==cpos.line)=true) Z2._auto_1):PE X (.Call (.Attribute o name apos) [] [] cpos) (tBM0 X.K T r to):=by
 intro pins s σ H Q I h
 refine wpAny_Call_method0_late hbase hline (thn (ho pins s σ H _ I h) fun v s1 ⟨x,H1,I1,r1,ty,q1⟩=>?_)
 obtain ⟨h1,h2⟩:=pI I1 r1 ty
 exact ⟨T,id,pa,slot,hty,h1,h2,Calls.callWith_builtin rfl (PySem.evalArgs_none (hm pins s1 σ H1 x [] v [] Q I1 r1 .nil q1))⟩
theorem o0 (pa:PlainAttrs T) (slot:Slot T name id) (hty:typeOf (.builtin id)=pure (.type "method_descriptor")) (hm:MtR X id r) (ho:PE X o to) (ha:PA X (e::es) t)
  (hbase:autoParam (attributeBase o name X.env (eval o X.env)=eval o X.env) Z2._auto_1)
  (hfew:autoParam (((backTo cpos (starEach (e::es) X.env)).all (fun x=>!x.1) && (backToKw cpos (keywordEach [] X.env)).all (fun x=>x.1.isSome)
   && decide ((e::es).length+([]:List Keyword).length+(if ([]:List Keyword).isEmpty then 0 else 1)<30))=true) Z2._auto_1)
  (hline:autoParam ((apos.endLine==cpos.line)=true) Z2._auto_1) (hs:autoParam (starEach (e::es) X.env=(false,eval e X.env)::starEach es X.env) Z2._auto_1) (hplain:autoParam ((backTo cpos (starEach es X.env)).any (·.1)=false) Z2._auto_1) :
  PE X (.Call (.Attribute o name apos) (e::es) [] cpos) (tBM X.K T r to t):=by
 intro pins s σ H Q I h
 refine wpAny_Call_method_late hbase hfew hline rfl (thn (ho pins s σ H _ I h) fun v s1 ⟨x,H1,I1,r1,ty,q1⟩=>?_)
 obtain ⟨h1,h2⟩:=pI I1 r1 ty
 refine ⟨T,id,pa,slot,hty,h1,h2,?_⟩
 have hA:=ha cpos pins s1 σ H1 _ I1 q1
 rw [hs] at hA ⊢
 refine Calls.callWith_builtin (by show (false || (backTo cpos (starEach es X.env)).any (·.1))=false; rw [hplain] <;> rfl) (Calls.evalArgs_plain ?_)
 exact thn hA fun us s2 ⟨vs,H2,I2,r2,q2⟩=>hm pins s2 σ H2 x vs v us Q I2 r1 r2 q2
/- xs.append(e),list.index on a module's tuple .. are MtR facts of 06m -/
end
end L2
namespace L2
open PySem PySem.Spec PyProof.Rows
noncomputable def MtM (X:Cx) (id:String) (r:V->List V->Hp->VK->Prop):Prop :=
 ∀ (pins:List (Addr×Obj)) (s:Shared) (σ:St) (H:Hp) (x:V) (xs:List V) (v:Value) (us:List Value) (Q:VK),Inv X pins σ H s->RelV x v->Vals xs us->r x xs H Q ->
  wpAny (model X.prog X.w) X.A (call (.builtin id) (v::us)) (EP X pins σ Q) X.xe s
theorem Vals.one:∀ {x:V} {us:List Value},Vals [x] us->∃ u,us=[u]/\RelV x u
 | _,_,.cons r .nil=>⟨_,rfl,r⟩
theorem Vals.zero:∀ {us:List Value},Vals [] us->us=[]
 | _,.nil=>rfl
theorem Vals.dropLast {xs:List V} {us:List Value} (h:Vals xs us):Vals xs.dropLast us.dropLast:=by
 induction h with
 | nil=>exact .nil
 | cons r t ih =>
  cases t with
  | nil=>exact .nil
  | cons q t'=>exact .cons r ih
theorem Vals.eraseIdx:∀ {xs:List V} {us:List Value} (i:Nat),Vals xs us->Vals (xs.eraseIdx i) (us.eraseIdx i)
 | _,_,_,.nil=>.nil
 | _,_,0,.cons _ t=>t
 | _,_,i+1,.cons r t=>.cons r (Vals.eraseIdx i t)
theorem Vals.rep {xs:List V} {us:List Value} (h:Vals xs us):∀ k:Nat,Vals (List.replicate k xs).flatten (List.replicate k us).flatten
 | 0=>.nil
 | k+1=>by
  rw [List.replicate_succ,List.replicate_succ,List.flatten_cons,List.flatten_cons]
  exact Vals.append h (Vals.rep h k)
theorem pq {α:Type} (l:List α):l.eraseIdx (l.length - 1)=l.dropLast:=by
 induction l with
 | nil=>rfl
 | cons a r ih =>
  cases r with
  | nil=>rfl
  | cons b r =>
   have e:(a::b::r).length - 1=((b::r).length - 1)+1:=by
    have h1:(a::b::r).length=r.length+2:=rfl
    have h2:(b::r).length=r.length+1:=rfl
    omega
   rw [e,List.eraseIdx_cons_succ,ih]
   all_goals rfl
theorem kE {α:Type}:∀ (l:List α) (i:Nat),(l.eraseIdx i).length<=l.length
 | [],_=>Nat.le_refl _
 | _::_,0=>Nat.le_succ _
 | _::r,i+1=>Nat.succ_le_succ (kE r i)
theorem kI (its:List Value):∀ (k:Nat) (acc:List Value),
  List.foldl (fun x1 x2=>x1++x2) acc.toArray (List.replicate k its.toArray)=(acc++(List.replicate k its).flatten).toArray
 | 0,acc=>by simp
 | k+1,acc=>by
  have e:acc.toArray++its.toArray=(acc++its).toArray:=by simp
  have e2:(acc++its)++(List.replicate k its).flatten=acc++(List.replicate (k+1) its).flatten:=by
   rw [List.replicate_succ,List.flatten_cons,List.append_assoc]
  rw [<- e2,<- kI its k (acc++its),<- e,List.replicate_succ,List.foldl_cons]
section
variable {X:Cx} {pins:List (Addr×Obj)} {σ:St} {H:Hp} {s:Shared} {l b:Addr} {xs ys zs:List V}
theorem Inv.lset {its its':List Value} {n:Nat} {f:Array Value->Array Value} {t':Nat} (I:Inv X pins σ H s) (hH:H l=some (.lst xs))
  (e:s.heap.get? l=some { cls:=.type "list",data:=.seq its.toArray n }) (hf:f its.toArray=its'.toArray) (hv:Vals ys its') (hz:ys.length<=sizeLine) :
  Inv X pins σ (upd H l (.lst ys)) { s with heap:=s.heap.update l (Obj.mapSeq f),toks:=t' }:=by
 have q:=PySem.IsL.update e f
 rw [hf] at q
 refine I.write (x:=l) (e:=l) (by rw [hH]; exact trivial) (.inl rfl) (fun b' u hb hu=>(Heap.get?_update_other s.heap (Obj.mapSeq f) (Ne.symm hb)).trans hu) ⟨_,q⟩ ?_
 exact ⟨hz,its',_,hv,q⟩
theorem Inv.lnew {its:List Value} {t':Nat} (I:Inv X pins σ H s) (hv:Vals ys its) (hz:ys.length<=sizeLine) :
  Inv X pins σ (upd H s.heap.objs.size (.lst ys)) { s with heap:=s.heap.push { cls:=.type "list",data:=.seq its.toArray },toks:=t' } :=
 I.laid (fun _ _ q=>Heap.get?_push_of_some _ q) (Nat.le_refl _) ⟨hz,its,0,hv,Heap.get?_push_size _ rfl⟩
theorem Inv.fresh (I:Inv X pins σ H s):H s.heap.objs.size=none:=I.hok.fresh (Nat.le_refl _)
theorem Inv.lstM (I:Inv X pins σ H s) (hH:H l=some (.lst xs)):xs.length<=sizeLine/\∃ (its:List Value) (n:Nat),Vals xs its/\xs.length=its.length/\s.heap.get? l=some { cls:=.type "list",data:=.seq its.toArray n }:=by
 obtain ⟨z,its,n,r,e⟩:=I.hok l _ hH
 exact ⟨z,its,n,r,r.length,e⟩
theorem sf {n:Nat} (h:n<=sizeLine):Builtin.List.listTooLong n=false:=by
 unfold Builtin.List.listTooLong
 exact decide_eq_false (by omega)
end
section
variable {X:Cx}
noncomputable def nK:V->List V->Hp->VK->Prop:=fun x vs H Q=>∃ l xs y,x=.ref l/\vs=[y]/\H l=some (.lst xs)/\xs.length<sizeLine/\Q .non (upd H l (.lst (xs++[y])))
theorem bg:MtM X "list.append" nK:=by
 intro pins s σ H x vs v us Q I rx rv h
 obtain ⟨l,xs,y,rfl,rfl,hH,hz,q⟩:=h
 cases rx
 obtain ⟨u,rfl,ru⟩:=rv.one
 obtain ⟨z,its,n,r,hl,e⟩:=I.lstM hH
 refine call_meets F.slot_list_append ⟨_,e,rfl⟩ F.entry_list_append (F.args_list_append_2 _ _) (PySem.list_append l its.toArray n u (by rw [List.size_toArray]; omega)) ⟨e,?_⟩
 refine ⟨.non,_,I.lset (its':=its++[u]) hH e (by simp) (r.append (.cons ru .nil)) ?_,rfl,q⟩
 rw [List.length_append,List.length_singleton]
 omega
noncomputable def rPop:V->List V->Hp->VK->Prop:=fun x vs H Q=>∃ l xs y,x=.ref l/\vs=[]/\H l=some (.lst xs)/\xs[xs.length - 1]?=some y/\Q y (upd H l (.lst xs.dropLast))
theorem vp:MtM X "list.pop" rPop:=by
 intro pins s σ H x vs v us Q I rx rv h
 obtain ⟨l,xs,y,rfl,rfl,hH,hy,q⟩:=h
 cases rx
 have hus:=rv.zero
 subst hus
 obtain ⟨z,its,n,r,hl,e⟩:=I.lstM hH
 obtain ⟨u,hu,ru⟩:=r.get hy
 have hy':its.toArray[its.toArray.size - 1]?=some u:=by
  show its.toArray[its.length - 1]?=some u
  rw [<- Array.getElem?_toList,<- hl]
  exact hu
 refine call_meets F.slot_list_pop ⟨_,e,rfl⟩ F.entry_list_pop (F.args_list_pop_1 _) (MeetsSeq.list_pop_last l its.toArray n u hy' (by rw [List.size_toArray]; omega)) ⟨e,?_⟩
 refine ⟨y,_,I.lset (its':=its.dropLast) hH e ?_ r.dropLast ?_,ru,q⟩
 ·show its.toArray.eraseIdxIfInBounds (its.toArray.size - 1)=its.dropLast.toArray
  rw [List.size_toArray,List.eraseIdxIfInBounds_toArray,pq]
 ·rw [List.length_dropLast]
  omega
noncomputable def rPopAt:V->List V->Hp->VK->Prop:=fun x vs H Q=>∃ l xs i k y,x=.ref l/\vs=[.int i]/\H l=some (.lst xs) /\ -(2 ^ 63)<=i/\i<2 ^ 63/\seqIndex? i xs.length=some k/\xs[k]?=some y/\Q y (upd H l (.lst (xs.eraseIdx k)))
theorem mi:MtM X "list.pop" rPopAt:=by
 intro pins s σ H x vs v us Q I rx rv h
 obtain ⟨l,xs,i,k,y,rfl,rfl,hH,h1,h2,hk,hy,q⟩:=h
 cases rx
 obtain ⟨u,rfl,ru⟩:=rv.one
 obtain ⟨t,rfl⟩:=ru
 obtain ⟨z,its,n,r,hl,e⟩:=I.lstM hH
 obtain ⟨w,hw,rw'⟩:=r.get hy
 refine call_meets F.slot_list_pop ⟨_,e,rfl⟩ F.entry_list_pop (F.args_list_pop_2 _ _)
  (MeetsSeq.list_pop_at l its.toArray n i t k w (fitsIndex_both h1 h2) (by rw [List.size_toArray,<- hl]; exact hk) (by rw [<- Array.getElem?_toList]; exact hw) (by rw [List.size_toArray]; omega)) ⟨e,?_⟩
 refine ⟨y,_,I.lset (its':=its.eraseIdx k) hH e ?_ (r.eraseIdx k) ?_,rw',q⟩
 ·show its.toArray.eraseIdxIfInBounds k=(its.eraseIdx k).toArray
  rw [List.eraseIdxIfInBounds_toArray]
 ·have:=kE xs k
  omega
noncomputable def rCat:R2:=fun x y H Q=>∃ l b xs zs,x=.ref l/\y=.ref b/\H l=some (.lst xs)/\H b=some (.lst zs)/\xs.length+zs.length<=sizeLine/\∀ p,H p=none->Q (.ref p) (upd H p (.lst (xs++zs)))
theorem vi:OpR X (binaryOp .Add) rCat:=by
 intro pins s σ H x y v u Q I rx ry h
 obtain ⟨l,b,xs,zs,rfl,rfl,hH,hB,hz,q⟩:=h
 cases rx
 cases ry
 obtain ⟨z,its,n,r,hl,e⟩:=I.lstM hH
 obtain ⟨z2,its2,n2,r2,hl2,e2⟩:=I.lstM hB
 refine PySem.P.add_list e e2 ?_ (by rw [List.size_toArray,List.size_toArray]; omega)
 have ea:its.toArray++its2.toArray=(its++its2).toArray:=by simp
 rw [ea]
 exact ⟨.ref _,_,I.lnew (t':=s.toks) (r.append r2) (by rw [List.length_append]; omega),rfl,q _ I.fresh⟩
noncomputable def rRep:R2:=fun x y H Q=>∃ l k xs,x=.ref l/\y=.int k/\H l=some (.lst xs) /\ -(2 ^ 63)<=k/\k<2 ^ 63/\xs.length*k.toNat<=sizeLine /\
 ∀ p,H p=none->Q (.ref p) (upd H p (.lst (List.replicate k.toNat xs).flatten))
theorem ud {α:Type} (xs:List α) (k:Nat):(List.replicate k xs).flatten.length=k*xs.length:=by
 induction k with
 | zero=>simp
 | succ k ih=>rw [List.replicate_succ,List.flatten_cons,List.length_append,ih,Nat.succ_mul,Nat.add_comm]
theorem vh:OpR X (binaryOp .Mult) rRep:=by
 intro pins s σ H x y v u Q I rx ry h
 obtain ⟨l,k,xs,rfl,rfl,hH,h1,h2,hz,q⟩:=h
 cases rx
 obtain ⟨t,rfl⟩:=ry
 obtain ⟨z,its,n,r,hl,e⟩:=I.lstM hH
 have hlen:its.toArray.size*k.toNat<=sizeLine:=by rw [List.size_toArray,<- hl]; exact hz
 have hcap:¬ its.toArray.size*k.toNat > (2 ^ 63 - 1) / 8:=by
  have:(sizeLine:Nat)<=(2 ^ 63 - 1) / 8:=by decide
  omega
 have hfit:¬ (!Builtin.List.listFitsIndex k)=true:=by
  rw [fitsIndex_both h1 h2]
  exact Bool.false_ne_true
 have hlong:¬ Builtin.List.listTooLong (its.toArray.size*k.toNat)=true:=by
  rw [sf hlen]
  exact Bool.false_ne_true
 have hnew:List.foldl (fun x1 x2=>x1++x2) #[] (List.replicate (if its.toArray.isEmpty=true then 0 else k.toNat) its.toArray)=(List.replicate k.toNat its).flatten.toArray:=by
  have f0:∀ m:Nat,List.foldl (fun x1 x2=>x1++x2) #[] (List.replicate m its.toArray)=(List.replicate m its).flatten.toArray:=fun m=>by
   have:=kI its m []
   rw [List.nil_append] at this
   exact this
  rw [f0]
  cases its with
  | nil=>simp
  | cons a r'=>rw [if_neg (by simp)]
 refine wpAny_binaryOp_repeat_ref (T := "list") (U := "int") (by decide) ⟨_,e,rfl⟩ (fun s'=>typeIs_int s' k t) noFill_list_mul F.fills_int_mul F.slot_int_rmul repeat_list F.slot_int_index.lookup
  (call_meets F.slot_int_rmul (typeIs_int s k t) F.entry_int_rmul (F.args_int_rmul_2 _ _) (int___rmul___int_list k t l its.toArray n)
   ⟨e,rfl,⟨_,e,rfl⟩,call_meets F.slot_list_mul ⟨_,e,rfl⟩ F.entry_list_mul (F.args_list_mul_2 _ _) (AutoListH.list___mul___list_int_3 l its.toArray n k t hfit hcap hlong) ⟨e,?_⟩⟩)
 rw [hnew]
 exact ⟨.ref _,_,I.lnew (t':=s.toks) (r.rep k.toNat) (by rw [ud,Nat.mul_comm]; exact hz),rfl,q _ I.fresh⟩
end
section
variable {prog:Program} {w:World} {A:Around} {E:Value->Shared->Prop} {s:Shared}
set_option maxRecDepth 100000 in
end
section
variable {X:Cx}
end
end L2
namespace Att
open PySem PySem.W PySem.Calls PyProof.Rows
theorem ja {P:Params} {h:Heap}:∀ (ns:List Int) (vs:List Value),WellAll P h vs (ns.map WData.int)->IntsAre vs ns:=by
 intro ns
 induction ns with
 | nil =>
  intro vs w
  rw [List.map_nil] at w
  cases w
  exact .nil
 | cons n ns ih =>
  intro vs w
  rw [List.map_cons] at w
  cases w with
  | cons a b =>
   cases a
   exact .cons _ _ (ih _ b)
theorem pU {l:OpenLaw} {n:Nat} (hn:l.most=some n) {P:Params} {h:Heap} {args:List WData} {vals:List Value}
  (hpre:l.row.toRowW.claim.pre args=true) (hwl:WellAll P h vals args) :
  ∃ a vs ns,vals=[Value.ref a]/\args=[WData.list (ns.map WData.int)]/\h.get? a=some { cls:=.type "list",data:=.seq vs.toArray }/\IntsAre vs ns/\ns.length<=n:=by
 have hsh:WShape.hasAll [] args [.list .int]=true:=(pre_splitW hpre).1
 have hc:l.pre.holds [] { args:=args }=true:=(pre_splitW hpre).2
 obtain ⟨d,r,rfl,h1,h2⟩:=hasAllW_cons hsh
 obtain rfl:=hasAllW_nil h2
 obtain ⟨xs,rfl,h3⟩:=hasW_list h1
 obtain ⟨ns,rfl⟩:=items_int h3
 have hlen:ns.length<=n:=by
  unfold OpenLaw.pre at hc
  have h4:(WTm.not (.lt (.lit (.int (n:Int))) (.len (.arg 0)))).holds [] { args:=[.list (ns.map .int)] }=true:=by
   have h4:=(holds_andW hc).1
   rw [hn] at h4
   exact h4
  have h5:=condW_of h4 (w_not (w_lt w_lit (w_len_list (w_arg rfl))))
  rw [List.length_map] at h5
  refine Nat.le_of_not_lt fun q=>?_
  have q':(n:Int)<((ns.length:Nat):Int):=by omega
  first
   | (rw [decide_eq_true q'] at h5; exact absurd h5 (by decide))
   | (simp at h5; omega)
 cases hwl with
 | cons w1 w2 =>
  cases w2
  cases w1 with
  | list ho hall=>exact ⟨_,_,ns,rfl,rfl,ho,ja ns _ hall,hlen⟩
theorem qd (l:OpenLaw) (args:List WData):l.row.toRowW.claim.post args (.bool true) args=true :=
 postW_of (r:=l.row.toRowW) (X:=(true==true))
  (show WShape.has [] (.bool true) .bool=true by first | rfl | decide | simp [WShape.has,WShape.arms,WShape.armsAll])
  (show (WTm.eq .res (.lit (.bool true))).value [] { args:=args,res:=some (.bool true),after:=args }=some (.bool (true==true)) from w_eq_bool (w_res rfl) w_lit) rfl
theorem attach_call {l:OpenLaw} {n:Nat} {q:Program} {loose:List Str} {XP:(Str->Option Value)->Heap->Prop} {YP:World->Heap->Prop} {d:DefRec}
  (hn:l.most=some n) (hdf:d.params.defaults=[])
  (call:∀ (w:World) (s₀ s₁:Shared) (mg mb:Str->Option Value) (fa:Addr) (o:Obj) (pm cd doc:Value) (a:Addr) (vs:List Value) (ns:List Int),
   Ground q loose [] XP w s₀ mg mb s₁.heap->YP w s₁.heap ->
   s₁.heap.get? fa=some o->o.data=.func (docDef d.name d.params d.body d.scope pm cd doc)->s₁.heap.CodeRec cd d.name->mg d.name=some (.ref fa) ->
   s₁.heap.get? a=some { cls:=.type "list",data:=.seq vs.toArray }->IntsAre vs ns->ns.length<=n->s₁.gens=#[] ->
   codeAny (model l.prog w) callerA (.call (.ref fa) ⟨[.ref a],[]⟩) (fun r s'=>r=.ok (.ret (.bool true))/\OldK s₁.heap s'.heap/\s'.os=s₁.os/\AllBare s'.gens) s₁) :
  WalkO q loose XP YP l.row.toRowW d [] (fun f vs=>PySem.call f vs):=by
 intro w s₀ s₁ mg mb G Y fa o pm cd doc dV kV ho hd hcd hD hmg hg args vals as hpre hlay hrd hwl hlo
 obtain rfl:dV=.none:=Dflts.none hD hdf
 obtain rfl:kV=.none:=Dflts.noKw hD
 obtain ⟨a,vs,ns,rfl,rfl,hobj,hints,hlen⟩:=pU hn hpre hwl
 refine enter_call (codeAny_mono (call w s₀ s₁ mg mb fa o pm cd doc a vs ns G Y ho (fd_plain hd) hcd hmg hobj hints hlen hg) fun r s' hq=>?_)
 obtain ⟨rfl,h2,h3,h4⟩:=hq
 exact ⟨.inl ⟨.bool true,.bool true,[],rfl,fun _=>rfl,.bool true,qd l _,fun _=>⟨List.Pairwise.nil,fun _ hm=>(nomatch hm)⟩⟩,h2,h3,h4⟩
section
variable {prog:Program} {w:World} {A:Around} {E:Value->Shared->Prop} {s:Shared} {K:Frag}
end
end Att
namespace L2
open PySem PySem.Spec PyProof.Rows
theorem kh:∀ {vs:List Value} {ns:List Int},IntsAre vs ns->Vals (ns.map V.int) vs
 | _,_,.nil=>.nil
 | _,_,.cons n t h=>.cons ⟨t,rfl⟩ (kh h)
end L2
namespace L2
open PySem PySem.Spec PyProof.Rows
end L2
/- THE LAST THEOREM (shape; LID,My.* are yours):
  My.Adr: a structure of the addresses that your layer names (classes,functions); My.Txt K t: a structure (Prop) of the equations over K;
  My.txt_mk:{K} {implicit addresses ..} (e1:nsIn K mainGlobals "law" = some (some (.ref f))) (e2:K.lookup f=some ⟨oc,od,.func (fnOf "law" "law" params body scope dV kV doc pm an cdv ct),sl⟩) (e3:codeIn K cdv "law" = true) ..:∃ t,My.Txt K t
set_option maxRecDepth 100000 in
set_option maxHeartbeats 0 in
theorem PySem.Challenge.cw_LID_holds : PySem.Challenge.rw_LID.Holds := by
 w_on; o_law; k_head; (case hw=>w_witness2)
 k_fill
 refine L2.walk_of (l:=PySem.Challenge.rw_LID) (n:=63) (k:=40) (x := "script") (CX:=fun w=>..) (sp:=fun _=>My.sp_law) rfl (by decide) rfl ⟨rfl,by decide,by decide⟩ (fun w h Y=>PySem.W.kIn_of Y) ?F ?S ?C
 case F =>
  intro w mg fa h KX G hmg
  have T:∃ t,My.Txt (L2.KOf KX) t:=by
   dsimp only [L2.KOf]                          -- K must stand as «<heap const> w.params» for k_is
   refine' My.txt_mk ?e1 ?e2 ?e3 ..
   (case e1=>PySem.W.k_is)                    -- in the order: a name->its address->its object->its parts
   (case e2=>PySem.W.k_is)
   ..
  obtain ⟨t,T⟩:=T
  have e0:=hmg.symm.trans (PySem.W.mg_of KX G T.law)
  cases e0                                       -- fa is the law's own address
  exact ⟨_,fun s u=>.of_eq rfl,fun base kb nb=>My.law_fn T kb nb⟩     -- if «.of_eq rfl» comes too early: refine' ⟨_,?b,fun base kb nb=>My.law_fn T kb nb⟩; exact fun s u=>.of_eq rfl
 case S=>exact fun w H a ns hl hO hS=>..
 case C=>exact ..
(the tactic k_is has no namespace: write k_is) -/
namespace L2
open PySem PySem.Spec PyProof.Rows
noncomputable def cZ (s:Stmt):Arguments:=match s with
 | .FunctionDef _ a _ _ _ _ _ _ _ _=>a
 | _=>{ posonlyargs:=[],args:=[],vararg:=none,kwonlyargs:=[],kw_defaults:=[],kwarg:=none,defaults:=[] }
noncomputable def bc (s:Stmt):List Stmt:=match s with
 | .FunctionDef _ _ b _ _ _ _ _ _ _=>b
 | _=>[]
noncomputable def aq (s:Stmt):Scope:=match s with
 | .FunctionDef _ _ _ _ _ _ sc _ _ _=>sc
 | _=>{ kind:=.function,names:=[],isGenerator:=false,isCoroutine:=false }
noncomputable abbrev CX0:CXT:=fun _ _ _ _ _ _=>False
noncomputable abbrev E0:XK:=fun _ _ _=>False
theorem pass0 {X:Cx}:Passes CX0 X E0:=fun _ _ _ _ _ _ _ h=>h.elim
structure Fun (K:PySem.W.Frag) (x qual:Str) (st:Stmt) (f:Addr) (fd:FuncData):Prop where
 ex:∃ (oc:Value) (od:Option Addr) (kV doc pm:Value) (an:Option Addr) (cdv ct:Value) (osl:Array (Option Value)),
  fd=PySem.W.fnOf x qual (cZ st) (bc st) (aq st) .none kV doc pm an cdv ct/\K.lookup f=some ⟨oc,od,.func fd,osl⟩/\PySem.W.codeIn K cdv qual=true
 kp:PySem.W.keepIn K (.ref f)=true
section
variable {P:Program} {w:World} {K:PySem.W.Frag} {mg:Str->Option Value} {base:Heap}
theorem Fun.ok {x qual:Str} {st:Stmt} {f:Addr} {fd:FuncData} {N ps:List Str} {k:Nat} {sp:Sp} (F:Fun K x qual st f fd) (S:aD N ps (aq st)) (len:∀ vs H Q E,sp vs H Q E->vs.length=ps.length)
  (hbody:∀ (cdv:Value) (A:Around) (outer:List Env) (s:Shared) (H:Hp) (vs:List V) (Q:VK) (E:XK),Room k (A.deeper (envOfC qual (aq st) s.heap.objs.size f cdv))->sp vs H Q E ->
   ∃ t,PSs (cxOf CX0 P w K mg base N qual (aq st) f cdv A outer s H E).nox (bc st) t/\t { nx:=fun _ H'=>Q .non H',rt:=Q } (start N vs) H):FnOk P w K mg base CX0 (k+1) f fd ps sp:=by
 obtain ⟨oc,od,kV,doc,pm,an,cdv,ct,osl,rfl,lk,hcd⟩:=F.ex
 refine sV lk hcd S len fun A outer s H vs Q E hr hsp=>?_
 obtain ⟨t,h,q⟩:=hbody cdv A outer s H vs Q E hr hsp
 exact ⟨t,h.nox,q⟩
theorem Fun.binds {x qual:Str} {st:Stmt} {f:Addr} {fd:FuncData} {ps:List Str} (F:Fun K x qual st f fd)
  (h:∀ (kV doc pm:Value) (an:Option Addr) (cdv ct:Value) (us:List Value),us.length=ps.length->bindArgs (PySem.W.fnOf x qual (cZ st) (bc st) (aq st) .none kV doc pm an cdv ct) ⟨us,[]⟩=pure (ps.zip us)):Binds K fd ps []:=by
 obtain ⟨oc,od,kV,doc,pm,an,cdv,ct,osl,rfl,lk,hcd⟩:=F.ex
 exact .all (h kV doc pm an cdv ct)
theorem qI {x qual:Str} {st:Stmt} {f:Addr} {oc:Value} {od an:Option Addr} {osl:Array (Option Value)} {kV doc pm cdv ct:Value} (l:K.lookup f=some ⟨oc,od,.func (PySem.W.fnOf x qual (cZ st) (bc st) (aq st) .none kV doc pm an cdv ct),osl⟩)
  (c:PySem.W.codeIn K cdv qual=true) (k:PySem.W.keepIn K (.ref f)=true):Fun K x qual st f (PySem.W.fnOf x qual (cZ st) (bc st) (aq st) .none kV doc pm an cdv ct):=⟨⟨oc,od,kV,doc,pm,an,cdv,ct,osl,rfl,l,c⟩,k⟩
end
section
variable {X:Cx}
theorem pv (i:Nat) {x:Str} {pos:Pos} (hN:autoParam (X.N[i]?=some x) Z2._auto_1) (hv:autoParam (Vis X.env.scope x) Z4._auto_1) (hd:autoParam ((x==("__debug__" : Str))=false) Z1._auto_1)
  (hcd:autoParam ((x==("__classdict__" : Str))=false) Z1._auto_1):PE X (.Name x pos) (tVar i):=u6 hN hv hd hcd
end
theorem iteF {A B:Prop} (h:B):if false=true then A else B:=by
 rw [if_neg Bool.false_ne_true]
 exact h
theorem iteT {A B:Prop} (h:A):if true=true then A else B:=by
 rw [if_pos rfl]
 exact h
theorem ite2 {c A B:Prop} [Decidable c] (h1:c->A) (h2:¬ c->B):if c then A else B:=by
 by_cases h:c
 ·rw [if_pos h]
  exact h1 h
 ·rw [if_neg h]
  exact h2 h
noncomputable def Same (H H':Hp):Prop:=∀ b o,H b=some o->H' b=some o
theorem Same.refl (H:Hp):Same H H:=fun _ _ h=>h
theorem Same.free {H H':Hp} (e:Same H H') {l:Addr} (h:H' l=Option.none):H l=Option.none:=by
 cases q:H l with
 | none=>rfl
 | some o =>
  rw [e l o q] at h
  cases h
end L2
namespace L2
open PySem PySem.Spec PyProof.Rows
section
variable {κ:Type} [DecidableEq κ]
noncomputable def valV (kvs:List (κ×V)) (k:κ):Option V:=(kvs.find? fun kv=>decide (kv.1=k)).map (·.2)
noncomputable def putK (kvs:List (κ×V)) (k:κ) (v:V):List (κ×V) :=
 if (kvs.any fun kv=>decide (kv.1=k))=true then kvs.map (fun kv=>if kv.1=k then (kv.1,v) else kv) else kvs++[(k,v)]
theorem db {p:κ×V} {r:List (κ×V)} {k:κ} (e:p.1=k):valV (p::r) k=some p.2:=by simp [valV,List.find?_cons,e]
theorem eO {p:κ×V} {r:List (κ×V)} {k:κ} (e:¬ p.1=k):valV (p::r) k=valV r k:=by simp [valV,List.find?_cons,e]
theorem lw (k:κ):∀ kvs:List (κ×V),(kvs.any fun kv=>decide (kv.1=k))=(valV kvs k).isSome
 | []=>rfl
 | p::r=>by
  rw [List.any_cons]
  by_cases e:p.1=k
  ·simp only [db e,decide_eq_true e,Bool.true_or,Option.isSome_some]
  ·rw [eO e,decide_eq_false e,Bool.false_or]; exact lw k r
theorem cD (kvs:List (κ×V)) (k:κ) (v:V):(putK kvs k v).length<=kvs.length+1:=by
 unfold putK
 split
 ·rw [List.length_map]; omega
 ·rw [List.length_append,List.length_cons,List.length_nil]; omega
theorem RelO.isSome_eq {o:Option V} {u:Option Value} (r:RelO o u):o.isSome=u.isSome:=by
 cases o with
 | none=>cases u with
  | none=>rfl
  | some _=>exact (show False from r).elim
 | some _=>cases u with
  | none=>exact (show False from r).elim
  | some _=>rfl
theorem KV.val {kvs:List (κ×V)} {vs:List (κ×Value)} (r:KV kvs vs) (k:κ):RelO (valV kvs k) (valueAt vs k):=by
 unfold KV at r
 induction r with
 | nil=>exact True.intro
 | @cons p q ps qs h t ih =>
  obtain ⟨h1,h2⟩:=h
  by_cases e:p.1=k
  ·have e':q.1=k:=h1.symm.trans e
   have b:valueAt (q::qs) k=some q.2:=by simp [valueAt,List.find?_cons,e']
   rw [db e,b]; exact h2
  ·have e':¬ q.1=k:=fun z=>e (h1.trans z)
   have b:valueAt (q::qs) k=valueAt qs k:=by simp [valueAt,List.find?_cons,e']
   rw [eO e,b]; exact ih
theorem KV.any {kvs:List (κ×V)} {vs:List (κ×Value)} (r:KV kvs vs) (k:κ):(kvs.any fun kv=>decide (kv.1=k))=vs.any fun kv=>decide (kv.1=k):=by
 unfold KV at r
 induction r with
 | nil=>rfl
 | cons h t ih=>rw [List.any_cons,List.any_cons,ih,h.1]
theorem KV.repl {kvs:List (κ×V)} {vs:List (κ×Value)} (r:KV kvs vs) (k:κ) {y:V} {u:Value} (ry:RelV y u) :
  KV (kvs.map fun kv=>if kv.1=k then (kv.1,y) else kv) (vs.map fun kv=>if kv.1=k then (kv.1,u) else kv):=by
 unfold KV at r ⊢
 induction r with
 | nil=>exact .nil
 | @cons p q ps qs h t ih =>
  rw [List.map_cons,List.map_cons]
  refine .cons ?_ ih
  obtain ⟨h1,h2⟩:=h
  by_cases e:p.1=k
  ·rw [if_pos e,if_pos (h1.symm.trans e)]; exact ⟨h1,ry⟩
  ·rw [if_neg e,if_neg (fun z=>e (h1.trans z))]; exact ⟨h1,h2⟩
theorem KV.put {kvs:List (κ×V)} {vs:List (κ×Value)} (r:KV kvs vs) (k:κ) {y:V} {u:Value} (ry:RelV y u):KV (putK kvs k y) (stored vs k u):=by
 unfold putK stored
 rw [r.any k]
 by_cases e:(vs.any fun kv=>decide (kv.1=k))=true
 ·rw [if_pos e,if_pos e]; exact r.repl k ry
 ·rw [if_neg e,if_neg e]; exact Paired.snoc r ⟨rfl,ry⟩
theorem KV.keys {kvs:List (κ×V)} {vs:List (κ×Value)} (r:KV kvs vs):kvs.map (·.1)=vs.map (·.1):=by
 unfold KV at r
 induction r with
 | nil=>rfl
 | cons h t ih=>rw [List.map_cons,List.map_cons,ih,h.1]
theorem KV.length {kvs:List (κ×V)} {vs:List (κ×Value)} (r:KV kvs vs):kvs.length=vs.length:=Paired.length r
end
theorem dE {P:Program} {w:World} {k:Key} {u:Value} (r:RelV (kV k) u):(aI P w).is k u=true:=by
 cases k with
 | inl i=>obtain ⟨t,e⟩:=(show ∃ t,u=Value.int i t from r); subst e; exact m9 P w i t
 | inr x=>obtain ⟨t,e⟩:=(show ∃ t,u=Value.str x t from r); subst e; exact hV P w x t
theorem kG {P:Program} {w:World}:∀ {ks:List Key} {us:List Value},Vals (ks.map kV) us->ItemsAre (aI P w) ks us
 | [],_,r=>by rw [List.map_nil] at r; cases r; exact .nil
 | k::ks,_,r=>by
  rw [List.map_cons] at r
  cases r with
  | cons h t=>exact .cons (dE h) (kG t)
noncomputable abbrev KT (H:Hp):List (List Key×V)->List (List Key×Addr×Value)->Prop:=Paired fun p q=>p.1=q.1/\H q.2.1=some (.tup (p.1.map kV))/\RelV p.2 q.2.2
theorem KT.val {H:Hp} {kvs:List (List Key×V)} {xs:List (List Key×Addr×Value)} (r:KT H kvs xs) (k:List Key):RelO (valV kvs k) ((atKey xs k).map (·.2)):=by
 induction r with
 | nil=>exact True.intro
 | @cons p q ps qs h t ih =>
  obtain ⟨h1,_,h2⟩:=h
  by_cases e:p.1=k
  ·have e':q.1=k:=h1.symm.trans e
   have b:atKey (q::qs) k=some q.2:=by simp [atKey,List.find?_cons,e']
   rw [db e,b]; exact h2
  ·have e':¬ q.1=k:=fun z=>e (h1.trans z)
   have b:atKey (q::qs) k=atKey qs k:=by simp [atKey,List.find?_cons,e']
   rw [eO e,b]; exact ih
theorem KT.repl {H:Hp} {kvs:List (List Key×V)} {xs:List (List Key×Addr×Value)} (r:KT H kvs xs) (k:List Key) {y:V} {u:Value} (ry:RelV y u) :
  KT H (kvs.map fun kv=>if kv.1=k then (kv.1,y) else kv) (xs.map (putAt k u)):=by
 induction r with
 | nil=>exact .nil
 | @cons p q ps qs h t ih =>
  rw [List.map_cons,List.map_cons]
  refine .cons ?_ ih
  obtain ⟨h1,h2,h3⟩:=h
  unfold putAt
  by_cases e:p.1=k
  ·rw [if_pos e,if_pos (h1.symm.trans e)]; exact ⟨h1,h2,ry⟩
  ·rw [if_neg e,if_neg (fun z=>e (h1.trans z))]; exact ⟨h1,h2,h3⟩
theorem KT.put {H:Hp} {kvs:List (List Key×V)} {xs:List (List Key×Addr×Value)} (r:KT H kvs xs) (k:List Key) {b:Addr} {y:V} {u:Value} (hb:H b=some (.tup (k.map kV))) (ry:RelV y u) :
  KT H (putK kvs k y) (storedH xs k b u):=by
 have e:(kvs.any fun kv=>decide (kv.1=k))=(atKey xs k).isSome:=by
  rw [lw,(r.val k).isSome_eq,Option.isSome_map]
 unfold putK storedH
 rw [e]
 by_cases q:(atKey xs k).isSome=true
 ·rw [if_pos q,if_pos q]; exact r.repl k ry
 ·rw [if_neg q,if_neg q]; exact Paired.snoc r ⟨rfl,hb,ry⟩
theorem KT.keeps {H H':Hp} {kvs:List (List Key×V)} {xs:List (List Key×Addr×Value)} (r:KT H kvs xs) (ht:∀ b ys,H b=some (.tup ys)->H' b=some (.tup ys)):KT H' kvs xs :=
 Paired.mapP r fun _ _ z=>⟨z.1,ht _ _ z.2.1,z.2.2⟩
section
variable {P:Program} {w:World} {H:Hp} {h:Heap} {a:Addr}
theorem sR {u:HO} (ok:HOk P w H h) (e:Rd H a u):ObjOk P w H h a u:=e.ok ok
theorem fy {kvs:List (Key×V)} (ok:HOk P w H h) (e:Rd H a (.dK kvs)):kvs.length<=sizeLine/\(a==sysModules)=false/\∃ vs,KV kvs vs/\h.DictOf (aI P w) a vs :=
 show ObjOk P w H h a (.dK kvs) from sR ok e
theorem jl {kvs:List (Key×V)} (ok:HOk P w H h) (e:H a=some (.dK kvs)):kvs.length<=sizeLine/\(a==sysModules)=false/\∃ vs,KV kvs vs/\h.DictOf (aI P w) a vs:=fy ok (.inl e)
theorem gi {ks:List Key} (ok:HOk P w H h) (e:H a=some (.tup (ks.map kV))):(tupleKind (aI P w)).is h ks a:=by
 obtain ⟨_,its,r,o,h1,h2,n,h3⟩:=(show ObjOk P w H h a (.tup (ks.map kV)) from ok a _ e)
 exact ⟨o,its.toArray,n,h1,h2,h3,by simpa using kG r⟩
theorem gP {kvs:List (List Key×V)} (ok:HOk P w H h) (e:Rd H a (.dT kvs)):kvs.length<=sizeLine/\(a==sysModules)=false /\
  ∃ xs,KT H kvs xs/\h.DictOfH (tupleKind (aI P w)) a xs:=by
 obtain ⟨z,y,xs,r,o,es,ep,h1,h2,h3,h4,h5⟩:=(show ObjOk P w H h a (.dT kvs) from sR ok e)
 refine ⟨z,y,xs,r,o,es,ep,h1,h2,h3,h4,fun x hx=>?_,h5⟩
 have all:∀ {l:List (List Key×V)} {m:List (List Key×Addr×Value)},KT H l m->∀ x∈m,(tupleKind (aI P w)).is h x.1 x.2.1:=by
  intro l m q
  induction q with
  | nil=>intro x hx; exact nomatch hx
  | @cons p q ps qs hq t ih =>
   intro x hx
   rcases List.mem_cons.mp hx with e | hx
   ·subst e
    exact gi ok (by rw [<- hq.1]; exact hq.2.1)
   ·exact ih x hx
 exact all r x hx
theorem wF {kvs:List (List Key×V)} (ok:HOk P w H h) (e:H a=some (.dT kvs)):kvs.length<=sizeLine/\(a==sysModules)=false /\
  ∃ xs,KT H kvs xs/\h.DictOfH (tupleKind (aI P w)) a xs:=gP ok (.inl e)
end
noncomputable def DGet (H:Hp) (a:Addr) (y:V) (r:Option V):Prop :=
 (∃ kvs k,Rd H a (.dK kvs)/\y=kV k/\r=valV kvs k)\/∃ kvs k b,Rd H a (.dT kvs)/\y=.ref b/\H b=some (.tup (k.map kV))/\r=valV kvs k
noncomputable def DPut (H:Hp) (a:Addr) (y v:V) (H':Hp):Prop :=
 (∃ kvs k,H a=some (.dK kvs)/\y=kV k/\kvs.length<sizeLine/\H'=upd H a (.dK (putK kvs k v))) \/
 ∃ kvs k b,H a=some (.dT kvs)/\y=.ref b/\H b=some (.tup (k.map kV))/\kvs.length<sizeLine/\H'=upd H a (.dT (putK kvs k v))
theorem DGet.k {H:Hp} {a:Addr} {kvs:List (Key×V)} {k:Key} (e:H a=some (.dK kvs)):DGet H a (kV k) (valV kvs k):=.inl ⟨kvs,k,.inl e,rfl,rfl⟩
theorem DPut.k {H:Hp} {a:Addr} {kvs:List (Key×V)} {k:Key} {v:V} (e:H a=some (.dK kvs)) (hl:kvs.length<sizeLine):DPut H a (kV k) v (upd H a (.dK (putK kvs k v))):=.inl ⟨kvs,k,e,rfl,hl,rfl⟩
section
variable {X:Cx} {pins:List (Addr×Obj)} {σ:St} {H:Hp} {s:Shared} {a:Addr} {y v:V} {u r:Value} {o:Option V} {A:Around} {E:Value->Shared->Prop}
theorem Inv.big (I:Inv X pins σ H s):sysModules<s.heap.objs.size:=by
 have h:mainGlobals<s.heap.objs.size:=(I.mod.glob.keeps I.bk).lt
 exact Nat.lt_trans (by decide) h
theorem kT {Q:Value->Shared->Prop} (hu:A.units+1<cLine) (I:Inv X pins σ H s) (g:DGet H a y (some v)) (ry:RelV y u) (h:∀ w' s',Inv X pins σ H s'->RelV v w'->Q w' s') :
  wpAny (model X.prog X.w) A (getItem (.ref a) u) Q E s:=by
 rcases g with ⟨kvs,k,e,ey,l⟩ | ⟨kvs,k,b,e,ey,eb,l⟩
 ·subst ey
  obtain ⟨z,hd,vs,rel,dd⟩:=fy I.hok e
  obtain ⟨w',hw,rw'⟩:=RelO.some_of (v:=v) (o:=valueAt vs k) (by rw [l]; exact rel.val k)
  exact wpAny_getItem_of (dE ry) dd.mapOf hw (h w' _ (I.tok _) rw')
 ·subst ey
  cases (show u=Value.ref b from ry)
  obtain ⟨z,hd,xs,rel,dd⟩:=gP I.hok e
  obtain ⟨w',hw,rw'⟩:=RelO.some_of (v:=v) (o:=(atKey xs k).map (·.2)) (by rw [l]; exact rel.val k)
  obtain ⟨p,hp,hp2⟩:=Option.map_eq_some_iff.mp hw
  refine wpAny_getItem_heap (tupleKind_room_in1 hu) (gi I.hok eb) dd hp ?_
  rw [hp2]
  exact h w' _ (I.tok _) rw'
theorem wJ {Q:Value->Shared->Prop} (hu:A.units+1<cLine) (I:Inv X pins σ H s) (g:DGet H a y o) (ry:RelV y u) (h:∀ s',Inv X pins σ H s'->Q (.bool o.isSome) s') :
  wpAny (model X.prog X.w) A (compareOp .In u (.ref a)) Q E s:=by
 rcases g with ⟨kvs,k,e,ey,l⟩ | ⟨kvs,k,b,e,ey,eb,l⟩
 ·subst ey
  obtain ⟨z,hd,vs,rel,dd⟩:=fy I.hok e
  refine wpAny_in_of (dE ry) hd dd.mapOf ?_
  rw [<- (rel.val k).isSome_eq,<- l]
  exact h _ (I.tok _)
 ·subst ey
  cases (show u=Value.ref b from ry)
  obtain ⟨z,hd,xs,rel,dd⟩:=gP I.hok e
  refine wpAny_in_heap (tupleKind_room_in1 hu) (gi I.hok eb) hd dd ?_
  have q:=(rel.val k).isSome_eq
  rw [Option.isSome_map] at q
  rw [<- q,<- l]
  exact h _ (I.tok _)
theorem uH {Q:Value->Shared->Prop} (hu:A.units+1<cLine) (I:Inv X pins σ H s) (g:DGet H a y o) (ry:RelV y u) (h:∀ s',Inv X pins σ H s'->Q (.bool (!o.isSome)) s') :
  wpAny (model X.prog X.w) A (compareOp .NotIn u (.ref a)) Q E s:=by
 rcases g with ⟨kvs,k,e,ey,l⟩ | ⟨kvs,k,b,e,ey,eb,l⟩
 ·subst ey
  obtain ⟨z,hd,vs,rel,dd⟩:=fy I.hok e
  refine wpAny_notIn_of (dE ry) hd dd.mapOf ?_
  rw [<- (rel.val k).isSome_eq,<- l]
  exact h _ (I.tok _)
 ·subst ey
  cases (show u=Value.ref b from ry)
  obtain ⟨z,hd,xs,rel,dd⟩:=gP I.hok e
  refine wpAny_notIn_heap (tupleKind_room_in1 hu) (gi I.hok eb) hd dd ?_
  have q:=(rel.val k).isSome_eq
  rw [Option.isSome_map] at q
  rw [<- q,<- l]
  exact h _ (I.tok _)
theorem gQ {h':Heap} {t':Nat} {ob:HO} (I:Inv X pins σ H s) (mu:Mut (H a)) (hs:Heap.SameBut a s.heap h') (he:∃ q,h'.get? a=some q) (new:ObjOk X.prog X.w (upd H a ob) h' a ob) :
  Inv X pins σ (upd H a ob) { s with heap:=h',toks:=t' } :=
 I.write (x:=a) (e:=a) mu (.inl rfl) (fun b q hb z=>(hs.2 b hb).trans z) he new
theorem mH {P:Program} {w:World} {H':Hp} {h':Heap} {kvs:List (Key×V)} {vs:List (Key×Value)} (z:kvs.length<=sizeLine) (hd:(a==sysModules)=false) (rel:KV kvs vs) (dd:h'.DictOf (aI P w) a vs) :
  ObjOk P w H' h' a (.dK kvs):=⟨z,hd,vs,rel,dd⟩
theorem qS {H':Hp} {Q:Unit->Shared->Prop} (hu:A.units+1<cLine) (I:Inv X pins σ H s) (g:DPut H a y v H') (ry:RelV y u) (rv:RelV v r) (h:∀ s',Inv X pins σ H' s'->Q () s') :
  wpAny (model X.prog X.w) A (setItem (.ref a) u r) Q E s:=by
 rcases g with ⟨kvs,k,e,ey,l,eH⟩ | ⟨kvs,k,b,e,ey,eb,l,eH⟩
 ·subst ey eH
  obtain ⟨z,hd,vs,rel,dd⟩:=jl I.hok e
  have hz:vs.length<=sizeLine:=by rw [<- rel.length]; exact z
  have hl:(putK kvs k v).length<=sizeLine:=by have:=cD kvs k v; omega
  refine wpAny_setItem_pairs (hsz:=hz) (dE ry) dd fun h' dd' hs=>h _ ?_
  have he:∃ q,h'.get? a=some q:=let ⟨q,_,_,hq,_⟩:=dd'; ⟨q,hq⟩
  exact gQ I (by rw [e]; exact True.intro) hs he (mH hl hd (rel.put k rv) dd')
 ·subst ey eH
  cases (show u=Value.ref b from ry)
  obtain ⟨z,hd,xs,rel,dd⟩:=wF I.hok e
  have hz:xs.length<=sizeLine:=by rw [<- Paired.length rel]; exact z
  have hl:(putK kvs k v).length<=sizeLine:=by have:=cD kvs k v; omega
  refine wpAny_setItem_heap (hsz:=hz) (tupleKind_room_in1 hu) (gi I.hok eb) dd fun h' dd' hs=>h _ ?_
  obtain ⟨q,es,ep,hq,h2,h3,h4,_,h5⟩:=dd'
  refine gQ I (by rw [e]; exact True.intro) hs ⟨q,hq⟩ ⟨hl,hd,_,(rel.put k eb rv).keeps fun c ys ec=>?_,q,es,ep,hq,h2,h3,h4,h5⟩
  rw [ah (sU ec e (fun z=>nomatch z))]
  exact ec
end
section
variable {X:Cx} {pins:List (Addr×Obj)} {σ:St} {H:Hp} {s:Shared} {a:Addr} {kvs:List (Key×V)} {k:Key} {u:Value} {A:Around} {E:Value->Shared->Prop}
theorem wG {Q:Value->Shared->Prop} (I:Inv X pins σ H s) (e:Rd H a (.dK kvs)) (h:∀ t s',Inv X pins σ H s'->Q (.int kvs.length t) s'):wpAny (model X.prog X.w) A (call (.builtin "len") [.ref a]) Q E s:=by
 obtain ⟨z,hd,vs,rel,dd⟩:=fy I.hok e
 refine call_len_dict hd dd (by rw [<- rel.length]; rw [sizeLine_eq] at z; omega) ?_
 rw [<- rel.length]
 exact h _ _ (I.tok _)
end
noncomputable def NoSl (i:Expr):Prop:=∀ ov iv,subscripted i false ov iv=operate [ov,iv] (getItem ov iv)
theorem tE {prog:Program} {w:World} {A:Around} {E:Value->Shared->Prop} {s:Shared} {env:Env} {value slice:Expr} {pos:Pos} {T id:String} {Q:Value->Shared->Prop}
  (hl:typeLookup (.type T) "__getitem__" = pure (some (.builtin id))) (hs:NoSl slice)
  (h:wpAny (model prog w) A (eval value env) (fun o s₁=>wpAny (model prog w) A (eval slice env) (fun i s₂=>s₂.TypeIs o T/\wpAny (model prog w) A (getItem o i) Q E s₂) E s₁) E s) :
  wpAny (model prog w) A (eval (.Subscript value slice pos) env) Q E s:=by
 refine Subscript_ (wpAny_mono h (fun o s₁ h₁=>wpAny_mono h₁ (fun i s₂ h₂=>?_) fun _ _ x=>x) fun _ _ x=>x)
 obtain ⟨hT,h₂⟩:=h₂
 unfold subscriptTail
 refine wpAny_bind ?_
 rw [getitemInPython_of_ne hT.not_modules]
 refine wpAny_bind (wpAny_specialOf hT hl ?_)
 have fin:wpAny (model prog w) A (subscripted slice false o i) (fun r s₃=>wpAny (model prog w) A (letTemporaryGo value o r >>= fun _=>pure r) Q E s₃) E s₂:=by
  rw [hs o i]
  exact wpAny_operating (wpAny_mono h₂ (fun r s₃ h₃=>wpAny_bind (wpAny_letTemporaryGo (wpAny_pure h₃))) fun _ _ x=>x)
 first
  | exact wpAny_pure (wpAny_bind fin)
  | exact wpAny_bind (wpAny_pure (wpAny_bind fin))
  | exact wpAny_bind fin
theorem hZ {X:Cx} {pins:List (Addr×Obj)} {σ:St} {H:Hp} {s:Shared} {a:Addr} {y:V} {o:Option V} (I:Inv X pins σ H s) (g:DGet H a y o):s.TypeIs (.ref a) "dict" := by
 rcases g with ⟨kvs,k,e,_,_⟩ | ⟨kvs,k,b,e,_,_,_⟩
 ·obtain ⟨_,_,vs,_,dd⟩:=fy I.hok e
  exact dd.typeIs
 ·obtain ⟨_,_,xs,_,dd⟩:=gP I.hok e
  exact dd.typeIs
noncomputable def tDGet (td ty:TE):TE:=fun σ H Q=>td σ H fun x H1=>ty σ H1 fun y H2=>∃ a v,x=.ref a/\DGet H2 a y (some v)/\Q v H2
section
variable {X:Cx} {o i e value:Expr} {pos pos' tpos:Pos} {td ty tv:TE}
theorem tS (hu:X.A.units+1<cLine) (ho:PE X o td) (hi:PE X i ty) (hs:NoSl i):PE X (.Subscript o i pos) (tDGet td ty):=by
 intro pins s σ H Q I h
 refine tE PySem.F.slot_dict_getitem.lookup hs (thn (ho pins s σ H _ I h) fun u s1 ⟨x,H1,I1,rx,q1⟩=>thn (hi pins s1 σ H1 _ I1 q1) fun iv s2 ⟨y,H2,I2,ry,a,v,ex,g,q2⟩=>?_)
 subst ex
 obtain rfl:u=Value.ref a:=rx
 exact ⟨hZ I2 g,kT hu I2 g ry fun w' s3 I3 rw'=>⟨v,H2,I3,rw',q2⟩⟩
end
theorem mI {P:Program} {w:World} {H:Hp} (h:Heap) (hb:sysModules<h.objs.size):ObjOk P w H (h.push { cls:=.type "dict",data:=.dict #[] }) h.objs.size (.dK []) :=
 ⟨Nat.zero_le _,beq_eq_false_iff_ne.mpr (Ne.symm (Nat.ne_of_lt hb)),[],.nil,Heap.DictOf.new h⟩
section
variable {X:Cx} {pos:Pos}
end
noncomputable def tPairs:List (TE×TE)->St->Hp->(List (V×V)->Hp->Prop)->Prop
 | [],_,H,Q=>Q [] H
 | (tk,tv)::r,σ,H,Q=>tk σ H fun x H1=>tv σ H1 fun y H2=>tPairs r σ H2 fun ps H3=>Q ((x,y)::ps) H3
noncomputable abbrev VV:List (V×V)->List (Value×Value)->Prop:=Paired fun p q=>RelV p.1 q.1/\RelV p.2 q.2
noncomputable def PPs (X:Cx) (pos:Pos) (keys:List (Option Expr)) (values:List Expr) (trs:List (TE×TE)):Prop :=
 ∀ (pins:List (Addr×Obj)) (s:Shared) (σ:St) (H:Hp) (Q:List (V×V)->Hp->Prop),Inv X pins σ H s->tPairs trs σ H Q ->
  wpAny (model X.prog X.w) X.A (evalPairs (pairTrees keys values X.env pos)) (fun vs s'=>∃ ps H',Inv X pins σ H' s'/\VV ps vs/\Q ps H') X.xe s
theorem nM {X:Cx} {pos:Pos}:PPs X pos [] [] []:=fun pins s σ H Q I h=>pairTrees_nil_walk ⟨[],H,I,.nil,h⟩
theorem dg {X:Cx} {pos:Pos} {k v:Expr} {ks:List (Option Expr)} {vs:List Expr} {tk tv:TE} {trs:List (TE×TE)} (hk:PE X k tk) (hv:PE X v tv) (hr:PPs X pos ks vs trs) :
  PPs X pos (some k::ks) (v::vs) ((tk,tv)::trs):=fun pins s σ H Q I h =>
 pairTrees_cons_walk (thn (hk pins s σ H _ I h) fun u s1 ⟨x,H1,I1,rx,q1⟩=>thn (hv pins s1 σ H1 _ I1 q1) fun w2 s2 ⟨y,H2,I2,ry,q2⟩ =>
  thn (hr pins s2 σ H2 _ I2 q2) fun ws s3 ⟨ps,H3,I3,rel,q3⟩=>⟨(x,y)::ps,H3,I3,.cons ⟨rx,ry⟩ rel,q3⟩)
noncomputable def mergeK (kvs more:List (Key×V)):List (Key×V):=more.foldl (fun acc kv=>putK acc kv.1 kv.2) kvs
theorem KV.merge:∀ {more:List (Key×V)} {rs:List (Key×Value)} {kvs:List (Key×V)} {vs:List (Key×Value)},KV more rs->KV kvs vs->KV (mergeK kvs more) (merged vs rs):=by
 intro more rs kvs vs r
 unfold KV at r
 induction r generalizing kvs vs with
 | nil=>intro q; exact q
 | @cons p q ps qs h t ih =>
  intro r0
  have e:KV (putK kvs p.1 p.2) (stored vs q.1 q.2):=by
   have:=r0.put p.1 h.2
   rw [<- h.1]; exact this
  exact ih e
theorem fJ:∀ (more kvs:List (Key×V)),(mergeK kvs more).length<=kvs.length+more.length
 | [],kvs=>by show kvs.length<=kvs.length+0; omega
 | p::r,kvs=>by
  have h1:=fJ r (putK kvs p.1 p.2)
  have h2:=cD kvs p.1 p.2
  show (mergeK (putK kvs p.1 p.2) r).length<=_
  rw [List.length_cons]; omega
theorem jp {P:Program} {w:World}:∀ {kvs:List (Key×V)} {ws:List (Value×Value)},VV (kvs.map fun kv=>(kV kv.1,kv.2)) ws->∃ rs,Carries (aI P w) ws rs/\KV kvs rs
 | [],_,r=>by rw [List.map_nil] at r; cases r; exact ⟨[],True.intro,.nil⟩
 | p::kvs,_,r=>by
  rw [List.map_cons] at r
  cases r with
  | @cons a b as bs h t =>
   obtain ⟨rs,c,q⟩:=jp (P:=P) (w:=w) t
   obtain ⟨b1,b2⟩:=b
   exact ⟨(p.1,b2)::rs,⟨dE h.1,rfl,c⟩,.cons ⟨rfl,h.2⟩ q⟩
noncomputable def tDisp (trs:List (TE×TE)):TE:=fun σ H Q=>∀ p,H p=none->tPairs trs σ (upd H p (.dK [])) fun ps H2=>H2 p=some (.dK [])/\∃ kvs:List (Key×V),ps=kvs.map (fun kv=>(kV kv.1,kv.2))/\kvs.length<=15/\Q (.ref p) (upd H2 p (.dK (mergeK [] kvs)))
theorem nQ {X:Cx} {pos:Pos} {keys:List (Option Expr)} {values:List Expr} {trs:List (TE×TE)} (h:PPs X pos keys values trs) (hall:keys.all (·.isSome)=true) (hl:keys.length=values.length) (h0:keys≠[])
  (h15:keys.length<=15):PE X (.Dict keys values pos) (tDisp trs):=by
 intro pins s σ H Q I q
 have hn:=I.hok.fresh (Nat.le_refl s.heap.objs.size)
 have I1:=I.laid (a:=s.heap.objs.size) (o:=.dK []) (h':=s.heap.push { cls:=.type "dict",data:=.dict #[] }) (t':=s.toks) (fun _ _ q=>Heap.get?_push_of_some _ q) (Nat.le_refl _) (mI s.heap I.big)
 refine wpAny_Dict_walk (knd:=aI X.prog X.w) hall hl h0 h15 (thn (h pins _ σ _ _ I1 (q _ hn)) fun ws s2 ⟨ps,H2,I2,rel,e,kvs,ep,lk,q2⟩=>?_)
 subst ep
 obtain ⟨rs,c,rk⟩:=jp (P:=X.prog) (w:=X.w) rel
 obtain ⟨z,hd,vs0,r0,dd⟩:=jl I2.hok e
 cases r0
 refine ⟨rs,c,dd,fun h' dd' hs=>⟨.ref s.heap.objs.size,_,?_,rfl,q2⟩⟩
 have hz:(mergeK [] kvs).length<=sizeLine:=by
  have h1:=fJ kvs []
  rw [List.length_nil] at h1
  rw [sizeLine_eq]; omega
 have he:∃ q,h'.get? s.heap.objs.size=some q:=let ⟨q,_,_,hq,_⟩:=dd'; ⟨q,hq⟩
 exact gQ I2 (by rw [e]; exact True.intro) hs he (mH hz hd (rk.merge .nil) dd')
noncomputable def IsD (H:Hp) (a:Addr):Prop:=(∃ kvs,Rd H a (.dK kvs))\/∃ kvs,Rd H a (.dT kvs)
theorem vP {X:Cx} {pins:List (Addr×Obj)} {σ:St} {H:Hp} {s:Shared} {a:Addr} (I:Inv X pins σ H s) (d:IsD H a) :
  s.TypeIs (.ref a) "dict" /\ (∀ b,Value.ref a=.ref b->∃ ob,s.heap.get? b=some ob/\ob.dict=none)/\(a==sysModules)=false:=by
 rcases d with ⟨kvs,e⟩ | ⟨kvs,e⟩
 ·obtain ⟨_,hd,vs,_,dd⟩:=fy I.hok e
  refine ⟨dd.typeIs,fun b q=>?_,hd⟩
  cases q
  obtain ⟨ob,_,_,h1,h2,_⟩:=dd
  exact ⟨ob,h1,h2.2.1⟩
 ·obtain ⟨_,hd,xs,_,dd⟩:=gP I.hok e
  refine ⟨dd.typeIs,fun b q=>?_,hd⟩
  cases q
  obtain ⟨ob,_,_,h1,h2,_⟩:=dd
  exact ⟨ob,h1,h2.2.1⟩
section
variable {X:Cx} {pins:List (Addr×Obj)} {σ:St} {H:Hp} {s:Shared} {a:Addr} {y d:V} {u r:Value} {o:Option V} {A:Around} {E:Value->Shared->Prop}
end
section
variable {X:Cx} {o e f:Expr} {apos cpos:Pos} {td ty tx:TE}
end
section
variable {X:Cx} {pins:List (Addr×Obj)} {σ:St} {H:Hp} {s:Shared} {a:Addr} {kvs:List (Key×V)} {A:Around} {E:Value->Shared->Prop}
end
section
variable {X:Cx} {pins:List (Addr×Obj)} {σ:St} {H:Hp} {s:Shared} {a:Addr} {y:V} {u:Value} {A:Around} {E:Value->Shared->Prop}
end
end L2
namespace L2
open PySem PySem.Spec PyProof.Rows
section
variable {X:Cx}
theorem qW:CallR X (.builtin "len") (fun xs H Q=>∃ a kvs,xs=[V.ref a]/\H a=some (.dK kvs)/\Q (.int kvs.length) H):=by
 intro pins s σ H xs us Q I r h
 obtain ⟨a,kvs,rfl,ha,q⟩:=h
 obtain ⟨u,rfl,ru⟩:=vals1 r
 cases ru
 exact wG I (.inl ha) fun t s' I'=>⟨.int kvs.length,H,I',⟨t,rfl⟩,q⟩
end
section
variable {κ:Type} [DecidableEq κ]
end
end L2
set_option maxHeartbeats 4000000
namespace L2
open PySem PySem.Spec PyProof.Rows
noncomputable def clOf (cells:List (Str×Addr)):List (Str×NameKind)->List (Str×Addr)->List (Str×Addr)
 | [],acc=>acc
 | (n,k)::r,acc=>if k==.free then clOf cells r ((n,(cells.lookup n).getD 0)::acc) else clOf cells r acc
theorem jn {env:Env}:∀ (names:List (Str×NameKind)) (acc:List (Str×Addr)),(∀ x∈names,x.2=.free->∃ c,env.cells.lookup x.1=some c) ->
  (forIn names acc fun (x:Str×NameKind) (cs:List (Str×Addr))=>match x with
   | (name,kind)=>if (kind==NameKind.free)=true then (do let c <- cellOf env name; pure (ForInStep.yield ((name,c)::cs))) else pure (ForInStep.yield cs):Sem (List (Str×Addr)))=pure (clOf env.cells names acc)
 | [],acc,_=>by simp [clOf]
 | (n,k)::r,acc,h=>by
  have hr:=fun acc=>jn (env:=env) r acc fun x hx=>h x (List.mem_cons_of_mem _ hx)
  rw [List.forIn_cons]
  unfold clOf
  by_cases hk:(k==NameKind.free)=true
  ·obtain ⟨c,hc⟩:=h (n,k) List.mem_cons_self (by simpa using hk)
   have hc':env.cells.lookup n=some c:=hc
   have e:cellOf env n=pure c:=by unfold cellOf; rw [hc']
   rw [if_pos hk]
   dsimp only
   rw [if_pos hk,e,pure_bind,pure_bind]
   rw [hc']
   exact hr _
  ·rw [if_neg hk]
   dsimp only
   rw [if_neg hk,pure_bind]
   exact hr acc
theorem fL {scope:Scope} {env:Env} (h:∀ x∈scope.names,x.2=.free->∃ c,env.cells.lookup x.1=some c):closureFor scope env=pure (clOf env.cells scope.names []):=by
 have e:=jn (env:=env) scope.names [] h
 unfold closureFor
 simp only [pure_bind,bind_pure]
 exact e
theorem dn {cells:List (Str×Addr)} {x:Str} {c:Addr}:∀ {names:List (Str×NameKind)} {acc:List (Str×Addr)},(∀ y∈names,y.2=.free->∃ c,cells.lookup y.1=some c)->(∀ c,acc.lookup x=some c->cells.lookup x=some c) ->
  (clOf cells names acc).lookup x=some c->cells.lookup x=some c
 | [],acc,_,ha,e=>ha c e
 | (n,k)::r,acc,h,ha,e=>by
  have hr:∀ y∈r,y.2=.free->∃ c,cells.lookup y.1=some c:=fun y hy=>h y (List.mem_cons_of_mem _ hy)
  unfold clOf at e
  split at e
  ·rename_i hk
   refine dn hr (fun c' e'=>?_) e
   rw [List.lookup_cons] at e'
   split at e'
   ·rename_i hx
    obtain ⟨c0,hc⟩:=h (n,k) List.mem_cons_self (by simpa using hk)
    have hc':cells.lookup n=some c0:=hc
    rw [hc'] at e'
    have:x=n:=by simpa using hx
    rw [this,hc']; exact e'
   ·exact ha c' e'
  ·exact dn hr ha e
theorem fz {cells:List (Str×Addr)} {x:Str}:∀ {names:List (Str×NameKind)} {acc:List (Str×Addr)},((x,NameKind.free)∈names\/∃ c,acc.lookup x=some c)->∃ c,(clOf cells names acc).lookup x=some c
 | [],acc,h=>by
  rcases h with h | h
  ·simp at h
  ·exact h
 | (n,k)::r,acc,h=>by
  unfold clOf
  split
  ·refine fz ?_
   rcases h with h | ⟨c,h⟩
   ·rcases List.mem_cons.mp h with e | e
    ·cases e
     exact .inr ⟨_,by rw [List.lookup_cons]; simp; rfl⟩
    ·exact .inl e
   ·refine .inr ?_
    rw [List.lookup_cons]
    split
    ·exact ⟨_,rfl⟩
    ·exact ⟨c,h⟩
  ·rename_i hk
   refine fz ?_
   rcases h with h | h
   ·rcases List.mem_cons.mp h with e | e
    ·cases e
     exact absurd rfl hk
    ·exact .inl e
   ·exact .inr h
noncomputable def cxComp (X:Cx) (scope:Scope) (N:List Str) (C:Addr) (s₀:Shared) (H₀:Hp) (ex:List Addr) (pn:List (Addr×Obj)):Cx :=
 { X with N:=N,s₀:=s₀,H₀:=H₀,env:=compEnvC scope (clOf X.env.cells scope.names []) C X.env,outer:=X.stack,stack:=X.stack,ex:=ex,fn:=fun _=>false,pn:=pn,xe:=fun _ _=>False }
noncomputable def capS (js:List (Option Nat)) (σ:St):St:=js.map fun o=>o.bind fun j=>(σ[j]?).getD none
noncomputable def capOk (M:List Str) (scope:Scope) (N:List Str) (js:List (Option Nat)):Bool :=
 decide (N.length=js.length) && (N.zip js).all fun p=>match p.2 with
  | none=>true
  | some j=>decide (M[j]?=some p.1) && (decide (scope.names.lookup p.1=some .free) || decide (scope.names.lookup p.1=none))
noncomputable def scOk (env:Env) (scope:Scope):Bool :=
 scope.names.all fun x=>match x.2 with
  | .free=>decide (env.kindOf x.1=some .cell) || decide (env.kindOf x.1=some .free)
  | .cell=>false
  | .local=>decide (scope.names.lookup x.1=some .local)
  | _=>true
theorem iV {scope:Scope} {env:Env} {x:Str} {k:NameKind}:∀ {names:List (Str×NameKind)},(∀ y∈names,y.2≠.cell)->(k=.cell\/k=.free) ->
  (names.map fun (n,k)=>if (k==NameKind.free && env.scope.kind==.function && env.kindOf n==some .cell) then (n,NameKind.cell) else (n,k)).lookup x=some k->(x,NameKind.free)∈names:=by
 intro names hn hk h
 have hm:=PySem.mem_of_lookup h
 obtain ⟨⟨n,k0⟩,h0,e⟩:=List.mem_map.mp hm
 dsimp only at e
 split at e
 ·rename_i hc
  cases e
  simp only [Bool.and_eq_true] at hc
  have:k0=.free:=by simpa using hc.1.1
  subst this
  exact h0
 ·cases e
  rcases hk with e | e
  ·exact absurd e (hn _ h0)
  ·subst e; exact h0
theorem gc {env:Env} {x:Str}:∀ {names:List (Str×NameKind)},names.lookup x=some .free ->
  (names.map fun (n,k)=>if (k==NameKind.free && env.scope.kind==.function && env.kindOf n==some .cell) then (n,NameKind.cell) else (n,k)).lookup x=some .cell \/
  (names.map fun (n,k)=>if (k==NameKind.free && env.scope.kind==.function && env.kindOf n==some .cell) then (n,NameKind.cell) else (n,k)).lookup x=some .free
 | [],h=>by simp at h
 | (n,k)::r,h=>by
  have ih:=@gc env x r
  show List.lookup x ((if (k==NameKind.free && env.scope.kind==.function && env.kindOf n==some .cell)=true then (n,NameKind.cell) else (n,k))::_)=_\/List.lookup x ((if (k==NameKind.free && env.scope.kind==.function && env.kindOf n==some .cell)=true then (n,NameKind.cell) else (n,k))::_)=_
  cases hx:x==n with
  | true =>
   simp only [List.lookup_cons,hx] at h
   cases h
   by_cases hc:(NameKind.free==NameKind.free && env.scope.kind==.function && env.kindOf n==some .cell)=true
   ·rw [if_pos hc]; left; simp only [List.lookup_cons,hx]
   ·rw [if_neg hc]; right; simp only [List.lookup_cons,hx]
  | false =>
   simp only [List.lookup_cons,hx] at h
   by_cases hc:(k==NameKind.free && env.scope.kind==.function && env.kindOf n==some .cell)=true
   ·rw [if_pos hc]; simp only [List.lookup_cons,hx]; exact ih h
   ·rw [if_neg hc]; simp only [List.lookup_cons,hx]; exact ih h
section
variable {X:Cx} {pins:List (Addr×Obj)} {σ:St} {H:Hp} {s:Shared}
structure ScOk (env:Env) (scope:Scope):Prop where
 fr:∀ x∈scope.names,x.2=.free->env.kindOf x.1=some .cell\/env.kindOf x.1=some .free
 nc:∀ x∈scope.names,x.2≠.cell
 lc:∀ x∈scope.names,x.2=.local->scope.names.lookup x.1=some .local
theorem nG {env:Env} {scope:Scope} (h:scOk env scope=true):ScOk env scope:=by
 have q:=List.all_eq_true.mp h
 refine ⟨fun x hx e=>?_,fun x hx e=>?_,fun x hx e=>?_⟩
 ·have:=q x hx
  rw [e] at this
  simp only [Bool.or_eq_true,decide_eq_true_eq] at this
  exact this
 ·have:=q x hx
  rw [e] at this
  cases this
 ·have:=q x hx
  rw [e] at this
  simpa using this
theorem ScOk.cells {scope:Scope} (h:ScOk X.env scope) (ok:X.Ok):∀ x∈scope.names,x.2=.free->∃ c,X.env.cells.lookup x.1=some c:=fun x hx e=>ok.has x.1 (h.fr x hx e)
structure CapOk (M:List Str) (scope:Scope) (N:List Str) (js:List (Option Nat)):Prop where
 len:N.length=js.length
 at':∀ (i:Nat) (x:Str) (j:Nat),N[i]?=some x->js[i]?=some (some j)->M[j]?=some x/\(scope.names.lookup x=some .free\/scope.names.lookup x=none)
theorem mO {M:List Str} {scope:Scope} {N:List Str} {js:List (Option Nat)} (h:capOk M scope N js=true):CapOk M scope N js:=by
 unfold capOk at h
 rw [Bool.and_eq_true] at h
 refine ⟨of_decide_eq_true h.1,fun i x j hx hj=>?_⟩
 have hm:(x,some j)∈N.zip js:=by
  refine List.mem_of_getElem? (i:=i) ?_
  rw [List.getElem?_zip_eq_some]
  exact ⟨hx,hj⟩
 have q:=List.all_eq_true.mp h.2 _ hm
 simp only [Bool.and_eq_true,Bool.or_eq_true,decide_eq_true_eq] at q
 exact q
theorem gb {env:Env} {x:Str}:∀ {names:List (Str×NameKind)},names.lookup x=none ->
  (names.map fun (n,k)=>if (k==NameKind.free && env.scope.kind==.function && env.kindOf n==some .cell) then (n,NameKind.cell) else (n,k)).lookup x=none
 | [],h=>rfl
 | (n,k)::r,h=>by
  have ih:=@gb env x r
  show List.lookup x ((if (k==NameKind.free && env.scope.kind==.function && env.kindOf n==some .cell)=true then (n,NameKind.cell) else (n,k))::_)=_
  cases hx:x==n with
  | true=>simp only [List.lookup_cons,hx] at h; cases h
  | false =>
   simp only [List.lookup_cons,hx] at h
   by_cases hc:(k==NameKind.free && env.scope.kind==.function && env.kindOf n==some .cell)=true
   ·rw [if_pos hc]; simp only [List.lookup_cons,hx]; exact ih h
   ·rw [if_neg hc]; simp only [List.lookup_cons,hx]; exact ih h
theorem mv {scope:Scope} {N:List Str} {js:List (Option Nat)} {C:Addr} {fp:List Addr} {h₁:Heap} {tk:Nat} (I:Inv X pins σ H s) (hsc:ScOk X.env scope) (hcap:CapOk X.N scope N js) (hkind:scope.kind=.function)
  (hf:∀ b∈fp,FpOk X pins H b) (hfo:∀ b∈fp,b<s.heap.objs.size) (hC:C=s.heap.objs.size) (keep:∀ b o,s.heap.get? b=some o->h₁.get? b=some o) (hns:h₁.Ns C fun _=>none) :
  Inv (cxComp X scope N C s H fp (X.pn++pins)) [] (capS js σ) H { s with heap:=h₁,toks:=tk }:=by
 have hcs:=hsc.cells I.ok
 have clX:∀ x c,(clOf X.env.cells scope.names []).lookup x=some c->X.env.cells.lookup x=some c:=fun x c e=>dn hcs (fun c e=>by simp at e) e
 have neC:∀ b o,s.heap.get? b=some o->b≠C:=fun b o e=>by rw [hC]; exact Nat.ne_of_lt (Heap.lt_size e)
 refine ⟨⟨I.ok.mod,hkind,I.ok.glob,I.ok.blt,Nat.le_of_eq hC.symm,fun x y c e1 e2=>?_,fun x hx=>?_,fun x c e=>?_,I.ok.hd,I.ok.frames,.inl rfl,fun b hb=>⟨?_,fun x c e=>?_⟩,I.bs,Nat.le_trans I.ok.bsz I.sz,fun b o e hb=>?_,fun b hb z=>?_,I.stack,I.stkFree⟩,
  rfl,I.bare,Un.kept keep,⟨_,hns,fun i x v h1 h2 h3=>?_⟩,fun x c e=>?_,I.hok.fresh (Nat.le_of_eq hC.symm),fun x c e=>I.freeC x c (clX x c e),fun p hp=>?_,I.hok.kept keep,?_⟩
 ·exact I.ok.inj x y c (clX x c e1) (clX y c e2)
 ·have hm:(x,NameKind.free)∈scope.names:=by
   rcases hx with hx | hx
   ·exact iV (scope:=scope) (env:=X.env) (k:=.cell) hsc.nc (.inl rfl) hx
   ·exact iV (scope:=scope) (env:=X.env) (k:=.free) hsc.nc (.inr rfl) hx
  exact fz (.inl hm)
 ·exact absurd e (by intro z; cases z)
 ·show b≠C
  rw [hC]; exact Nat.ne_of_lt (hfo b hb)
 ·exact (hf b hb).2.2.2.2.1 x c (clX x c e)
 ·obtain ⟨_,_,_,q,_⟩:=hf b hb
  rcases q with q | q
  ·exact I.ok.noex b o e q
  ·exact absurd (Nat.lt_of_lt_of_le (Heap.lt_size (I.ok.bs b o e).1) q) (Nat.lt_irrefl _)
 ·obtain ⟨_,q1,q2,_⟩:=hf b hb
  rcases List.mem_cons.mp (I.stkSub b z) with e | e
  ·exact q1 e
  ·exact q2 e
 ·have h1:N[i]?=some x:=h1
  unfold capS at h2
  rw [List.getElem?_map] at h2
  cases ej:js[i]? with
  | none=>rw [ej] at h2; cases h2
  | some o =>
   cases o with
   | none=>rw [ej] at h2; cases h2
   | some j =>
    rw [ej] at h2
    have h2':(σ[j]?).getD none=some v:=by simpa using h2
    have hσ:σ[j]?=some (some v):=by
     cases eσ:σ[j]? with
     | none=>rw [eσ] at h2'; cases h2'
     | some w'=>rw [eσ] at h2'; exact congrArg some h2'
    obtain ⟨hM,hfr⟩:=hcap.at' i x j h1 ej
    rcases hfr with hfr | hfr
    case inr =>
     have hn:=gb (env:=X.env) hfr
     rcases h3 with h3 | h3 | h3
     ·exact absurd (hn.symm.trans h3) (by simp)
     ·exact absurd (hn.symm.trans h3) (by simp)
     ·exact absurd (hn.symm.trans h3) (by simp)
    have hmem:=PySem.mem_of_lookup hfr
    have hXk:=hsc.fr _ hmem rfl
    have hvis:Vis X.env.scope x:=hXk.elim (fun z=>.inr (.inl z)) fun z=>.inr (.inr z)
    obtain ⟨m,hn,hl⟩:=I.loc
    obtain ⟨u,ru,lk⟩:=hl j x v hM hσ hvis
    refine ⟨u,ru,?_⟩
    rcases lk with ⟨k,_⟩ | ⟨k,c,ec,z⟩
    ·rcases hXk with q | q
     ·rw [show X.env.kindOf x=some .cell from q] at k; cases k
     ·rw [show X.env.kindOf x=some .free from q] at k; cases k
    ·obtain ⟨c',hc'⟩:=fz (cells:=X.env.cells) (acc:=[]) (.inl hmem)
     have e2:=clX x c' hc'
     rw [ec] at e2; cases e2
     refine .inr ⟨gc (env:=X.env) hfr,c,hc',?_⟩
     obtain ⟨o,ho,hd⟩:=z
     exact ⟨o,keep _ _ ho,hd⟩
 ·obtain ⟨v,o,ho,hd⟩:=I.cell x c (clX x c e)
  exact ⟨v,o,keep _ _ ho,hd⟩
 ·have hp':p∈X.pn++pins:=by
   have hp2:p∈(X.pn++pins)++[]:=hp
   rwa [List.append_nil] at hp2
  obtain ⟨e,n,ne,nf,d⟩:=I.pin p hp'
  refine ⟨keep _ _ e,n,neC _ _ e,fun z=>?_,d⟩
  rcases List.mem_cons.mp (I.stkSub p.1 z) with q | q
  ·exact ne q
  ·exact nf q
 ·unfold capS
  rw [List.length_map]
  exact hcap.len.symm
theorem mw {scope:Scope} {N:List Str} {C:Addr} {fp:List Addr} {σ':St} {H':Hp} {s':Shared} (I:Inv X pins σ H s) (J:Inv (cxComp X scope N C s H fp (X.pn++pins)) [] σ' H' s') (hf:∀ b∈fp,FpOk X pins H b):Inv X pins σ H' s' :=
 I.call' (ch:=fp) J.os J.base J.hok J.bare fun b hb=>let ⟨_,q1,_,q3,q4,q5⟩:=hf b hb; ⟨q3,q1,q4,q5⟩
end
noncomputable def Gsets (js:List (Option Nat)) (g:TG):Prop:=∀ x σ H Q,g x σ H Q->g x σ H fun σ' H'=>Q σ' H'/\σ'.length=σ.length/\∀ (k j:Nat),js[k]?=some (some j)->σ'[k]?=σ[k]?
noncomputable def Gss (js:List (Option Nat)) (g:TGs):Prop:=∀ x σ H Q,g x σ H Q->g x σ H fun σ' H'=>Q σ' H'/\σ'.length=σ.length/\∀ (k j:Nat),js[k]?=some (some j)->σ'[k]?=σ[k]?
theorem jT {js:List (Option Nat)} {i:Nat} (h:autoParam (js[i]?=some none) Z2._auto_1):Gsets js (gName i):=by
 intro x σ H Q hq
 refine ⟨hq,by simp,fun k j hk=>?_⟩
 rw [List.getElem?_set_ne]
 rintro rfl
 rw [h] at hk; cases hk
theorem vU {js:List (Option Nat)}:Gss js gNil:=by
 rintro x σ H Q ⟨e,hq⟩
 exact ⟨e,hq,rfl,fun _ _ _=>rfl⟩
theorem uo {js:List (Option Nat)} {t:TG} {u:TGs} (h1:Gsets js t) (h2:Gss js u) (mono:∀ x σ H Q Q',(∀ a b,Q a b->Q' a b)->t x σ H Q->t x σ H Q') (mono2:∀ x σ H Q Q',(∀ a b,Q a b->Q' a b)->u x σ H Q->u x σ H Q'):Gss js (gCons t u):=by
 rintro x σ H Q ⟨v,r,e,hq⟩
 refine ⟨v,r,e,mono _ _ _ _ _ (fun σ1 H1 hh=>?_) (h1 v σ H _ hq)⟩
 obtain ⟨a,l1,k1⟩:=hh
 exact mono2 _ _ _ _ _ (fun σ2 H2 ⟨b,l2,k2⟩=>⟨b,l2.trans l1,fun k j hk=>(k2 k j hk).trans (k1 k j hk)⟩) (h2 r σ1 H1 _ a)
theorem vR {K:PySem.W.Frag} {js:List (Option Nat)} {n:Nat} {t:TGs} (h:Gss js t):Gsets js (gTup K n t):=by
 rintro x σ H Q ⟨a,xs,e,hs,hl,hq⟩
 exact ⟨a,xs,e,hs,hl,h xs σ H Q hq⟩
theorem gM {i:Nat}:∀ x σ H (Q Q':St->Hp->Prop),(∀ a b,Q a b->Q' a b)->gName i x σ H Q->gName i x σ H Q':=fun _ _ _ _ _ h q=>h _ _ q
theorem jU {t:TG} {u:TGs} (m1:∀ x σ H (Q Q':St->Hp->Prop),(∀ a b,Q a b->Q' a b)->t x σ H Q->t x σ H Q') (m2:∀ x σ H (Q Q':St->Hp->Prop),(∀ a b,Q a b->Q' a b)->u x σ H Q->u x σ H Q') :
  ∀ x σ H (Q Q':St->Hp->Prop),(∀ a b,Q a b->Q' a b)->gCons t u x σ H Q->gCons t u x σ H Q':=fun _ _ _ _ _ h ⟨v,r,e,q⟩=>⟨v,r,e,m1 _ _ _ _ _ (fun _ _=>m2 _ _ _ _ _ h) q⟩
noncomputable def PF (X:Cx) (ifs:List Expr) (t:TT):Prop :=
 ∀ (pins:List (Addr×Obj)) (s:Shared) (σ:St) (H:Hp) (Q:Bool->Hp->Prop),Inv X pins σ H s->t σ H Q ->
  wpAny (model X.prog X.w) X.A (forIn ifs true fun c r=>if r=true then do let ok <- isTrue c X.env (eval c X.env); pure (ForInStep.yield ok) else pure (ForInStep.yield r)) (TP X pins σ Q) X.xe s
noncomputable def tYes:TT:=fun _ H Q=>Q true H
theorem qf {X:Cx}:PF X [] tYes:=fun pins s σ H Q I h=>wpAny_tests_nil ⟨H,I,h⟩
theorem u5 {X:Cx} {c:Expr} {t:TT} (h:PT X c t):PF X [c] t:=fun pins s σ H Q I hq=>wpAny_tests_one (h pins s σ H Q I hq)
noncomputable def tLC (wi:TI) (g:TG) (tc:TT) (te:TE) (js:List (Option Nat)):TE:=fun σ H Q=>wi σ H fun J H1=>∀ l,H1 l=none ->
 ∃ W:Nat->Nat->List V->Hp->Prop,(∃ m,W 0 m [] (upd H1 l (.lst [])))/\∀ i m ys H2,W i m ys H2 ->
  (J.stop i H2/\Q (.ref l) H2)\/(J.go i H2/\∀ x H3,J.yld i H2 x H3->g x (capS js σ) H3 fun σ4 H4=>tc σ4 H4 fun b H5 =>
   if b=true then te σ4 H5 fun y H6=>H6 l=some (.lst ys)/\ys.length<sizeLine/\∃ m',m'<m/\W (i+1) m' (ys++[y]) (upd H6 l (.lst (ys++[y]))) else ∃ m',m'<m/\W (i+1) m' ys H5)
section
variable {X:Cx} {tg elt iter:Expr} {ifs:List Expr} {scope:Scope} {pos:Pos} {wi:TI} {g:TG} {tc:TT} {te:TE} {N:List Str} {js:List (Option Nat)}
theorem nZ {use:Option (Value->Sem Unit)} {pins:List (Addr×Obj)} {s:Shared} {σ:St} {H:Hp} {Q:VK} {QQ:Value->Shared->Prop} {E:Value->Shared->Prop} {pos':Pos} (hc:X.calm=true) (hx:X.xe=fun _ _=>False) (hi:PI X tg iter wi)
  (hg:∀ C s₀ H₀ ex pn,PG (cxComp X scope N C s₀ H₀ ex pn) tg g) (ht:∀ C s₀ H₀ ex pn,PF (cxComp X scope N C s₀ H₀ ex pn) ifs tc) (he:∀ C s₀ H₀ ex pn,PE (cxComp X scope N C s₀ H₀ ex pn) elt te) (hgs:Gsets js g)
  (hsc:scOk X.env scope=true) (hcap:capOk X.N scope N js=true) (hkind:scope.kind=.function) (hs:∀ x,foldedSetIterable iter X.env x=pure x)
  (I:Inv X pins σ H s) (h:tLC wi g tc te js σ H Q)
  (fin:∀ (l C:Addr) (H':Hp) (s':Shared),Inv X pins σ H' s'->Q (.ref l) H'->H' C=none->C≠X.env.locals->X.s₀.heap.objs.size<=C->(∀ x c,X.env.cells.lookup x=some c->c≠C)->(∀ p∈X.pn++pins,p.1≠C)->(∃ m,s'.heap.Ns C m)->compPost (model X.prog X.w) X.A E use QQ (.ref l) C (.ok .next) s') :
  wpAny (model X.prog X.w) X.A (comprehension (.ListComp elt [⟨tg,iter,ifs,0⟩] scope pos) scope X.env pos' (newList []) false (eval iter X.env) use) QQ E s:=by
 have SC:=nG hsc
 have CP:=mO hcap
 refine wpAny_comprehension_free (cl:=clOf X.env.cells scope.names []) rfl hs (fL (SC.cells I.ok)) hkind SC.lc ?_
 refine wpAny_mono (hi pins s σ H _ I h) (fun v s1 h1=>wpAny_mono h1 (fun itv s2 h2=>?_) (fun _ _ z=>by rw [hx] at z; exact z.elim)) (fun _ _ z=>by rw [hx] at z; exact z.elim)
 obtain ⟨it,fp,tn,J,H2,rfl,I2,T,st2,f2,hq⟩:=h2
 have hD0:H2 s2.heap.objs.size=none:=I2.hok.fresh (Nat.le_refl _)
 obtain ⟨W,⟨m0,w0⟩,turn⟩:=hq s2.heap.objs.size hD0
 refine wpAny_newObj_type (wpAny_newFunctionEnv (fun x hx=>SC.nc x hx) (by intro y hy; simp at hy) (fun h₁ hns₁ hsb₁=>?_) hkind)
 dsimp only at hns₁ hsb₁ ⊢
 generalize hH3:s2.heap.push { cls:=.type "list",dict:=none,data:=.seq ([]:List Value).toArray }=hp3 at hns₁ hsb₁ ⊢
 have hCs:hp3.objs.size=s2.heap.objs.size+1:=by rw [<- hH3,Heap.size_push]
 have I3:Inv X pins σ (upd H2 s2.heap.objs.size (.lst [])) { s2 with heap:=hp3 }:=by
  rw [<- hH3]
  exact I2.laid (t':=s2.toks) (fun b u e=>Heap.get?_push_of_some _ e) (Nat.le_refl _) ⟨by show 0<=_; exact Nat.zero_le _,[],_,.nil,Heap.get?_push_size _ rfl⟩
 have keep:∀ b o,hp3.get? b=some o->h₁.get? b=some o:=fun b o e=>hsb₁.extBut b o (Nat.ne_of_lt (Heap.lt_size e)) (Heap.get?_push_of_some _ e)
 have fpo:∀ b∈fp,b<s2.heap.objs.size:=fun b hb=>by
  obtain ⟨o,e,_⟩:=T.obj _ _ st2 b hb
  exact Heap.lt_size e
 have f3:∀ b∈fp,FpOk X pins (upd H2 s2.heap.objs.size (.lst [])) b:=fun b hb=>⟨by rw [ah (Nat.ne_of_lt (fpo b hb))]; exact (f2 b hb).1,(f2 b hb).2⟩
 have J4:=mv (tk:=s2.toks+([]:List (Str×Value)).length) (C:=hp3.objs.size) (fp:=fp) (h₁:=h₁) (scope:=scope) (N:=N) (js:=js) I3 SC CP hkind f3 (fun b hb=>by show b<hp3.objs.size; rw [hCs]; exact Nat.lt_succ_of_lt (fpo b hb)) rfl keep (by
  have:(fun x=>List.lookup x ([]:List (Str×Value)).reverse)=fun _=>none:=by funext x; rfl
  rw [this] at hns₁; exact hns₁)
 have st4:tn 0 h₁:=T.keep _ _ _ st2 fun b hb o e=>keep b o (by rw [<- hH3]; exact Heap.get?_push_of_some _ e)
 have loop:∀ s4:Shared,s4={ s2 with heap:=h₁,toks:=s2.toks+([]:List (Str×Value)).length } ->
   codeAny (model X.prog X.w) X.A (.compLoop (.ListComp elt [⟨tg,iter,ifs,0⟩] scope pos) 0 (.ref it) (.ref s2.heap.objs.size) (compEnvC scope (clOf X.env.cells scope.names []) hp3.objs.size X.env)) (compPost (model X.prog X.w) X.A E use QQ (.ref s2.heap.objs.size) hp3.objs.size) s4:=by
  rintro s4 rfl
  generalize hY:cxComp X scope N hp3.objs.size { s2 with heap:=hp3 } (upd H2 s2.heap.objs.size (.lst [])) fp (X.pn++pins)=Y at J4
  have fpY:∀ {H':Hp},(∀ b∈fp,H' b=none)->∀ b∈fp,FpOk Y [] H' b:=fun hn b hb=>by
   subst hY
   refine ⟨hn b hb,?_,?_,.inl hb,fun x c e=>?_,fun p hp=>?_⟩
   ·show b≠hp3.objs.size
    rw [hCs]; exact Nat.ne_of_lt (Nat.lt_succ_of_lt (fpo b hb))
   ·intro z
    rcases List.mem_cons.mp (I3.stkSub b z) with q | q
    ·exact (f3 b hb).2.1 q
    ·exact (f3 b hb).2.2.1 q
   ·exact (f3 b hb).2.2.2.2.1 x c (dn (SC.cells I.ok) (fun c e=>by simp at e) e)
   ·exact (f3 b hb).2.2.2.2.2 p (by simpa [cxComp] using hp)
  have hgY:PG Y tg g:=by subst hY; exact hg _ _ _ _ _
  have htY:PF Y ifs tc:=by subst hY; exact ht _ _ _ _ _
  have heY:PE Y elt te:=by subst hY; exact he _ _ _ _ _
  have eA:Y.A=X.A:=by subst hY; rfl
  have eP:Y.prog=X.prog:=by subst hY; rfl
  have eW:Y.w=X.w:=by subst hY; rfl
  have eK:Y.K=X.K:=by subst hY; rfl
  have eC:Y.calm=true:=by subst hY; exact hc
  have eX:Y.xe=fun _ _=>False:=by subst hY; rfl
  have eE:Y.env=compEnvC scope (clOf X.env.cells scope.names []) hp3.objs.size X.env:=by subst hY; rfl
  have T':Turn Y.prog Y.w Y.K tg J fp it tn:=by rw [eP,eW,eK]; exact T
  have eL:(capS js σ).length=js.length:=by unfold capS; rw [List.length_map]
  rw [<- eP,<- eW,<- eA,<- eE]
  refine codeAny_loop rfl (fun n s'=>∃ i ys H',Inv Y [] (capS js σ) H' s'/\tn i s'.heap/\(∀ b∈fp,H' b=none)/\W i n ys H') (fun n s' hI=>?_) m0 ⟨0,[],_,J4,st4,fun b hb=>(f3 b hb).1,w0⟩
  obtain ⟨i,ys,H5,I5,st5,fr5,w5⟩:=hI
  show wpAny _ Y.A ((compTurn (.ListComp elt [⟨tg,iter,ifs,0⟩] scope pos) 0 (.ref it) (.ref s2.heap.objs.size) Y.env).onRaise (fun x=>do noteFrame x Y.env; theTreesLotGoes x)) _ _ s'
  refine wpAny_noted ?_
  rw [compTurn_list]
  refine wpAny_bind (wpAny_standAt (wpAny_bind ?_))
  have noE:∀ (x:Value) (s:Shared) (P:Prop),Y.xe x s->P:=fun x s P z=>by rw [eX] at z; exact z.elim
  rcases turn i n ys H5 w5 with ⟨stop,qn⟩ | ⟨go,step⟩
  ·refine wpAny_mono (T'.done Y rfl rfl rfl eC i [] s' _ H5 Y.xe I5 (fpY fr5) st5 stop) (fun r s6 ⟨hr,I6⟩=>?_) fun x s z=>noE x s _ z
   subst hr
   refine wpAny_pure ?_
   show compPost _ _ _ _ _ _ _ _ _
   rw [eP,eW,eA]
   have back:Inv X pins σ H5 s6:=by subst hY; exact mw I3 I6 f3
   have hn6:∃ m,s6.heap.Ns hp3.objs.size m:=by
    obtain ⟨m,hm,_⟩:=I6.loc
    have:Y.env.locals=hp3.objs.size:=by rw [eE]; rfl
    rw [this] at hm
    exact ⟨m,hm⟩
   have hC6:H5 hp3.objs.size=none:=by
    have:=I6.free
    have e:Y.env.locals=hp3.objs.size:=by rw [eE]; rfl
    rw [e] at this; exact this
   refine fin s2.heap.objs.size hp3.objs.size H5 s6 back qn hC6 ?_ ?_ ?_ ?_ hn6
   ·exact Nat.ne_of_gt I3.lt
   ·exact I3.sz
   ·intro x c e z
    obtain ⟨v,o,ho,_⟩:=I3.cell x c e
    exact absurd (Heap.lt_size ho) (by rw [z]; exact Nat.lt_irrefl _)
   ·intro p hp z
    have:=Heap.lt_size (I3.pin p hp).1
    rw [z] at this; exact absurd this (Nat.lt_irrefl _)
  ·refine wpAny_mono (T'.item Y rfl rfl rfl eC i [] s' _ H5 Y.xe I5 (fpY fr5) st5 go) (fun r s6 h6=>?_) fun x s z=>noE x s _ z
   obtain ⟨u,hr,h6⟩:=h6
   subst hr
   dsimp only
   refine wpAny_bind ?_
   refine wpAny_mono h6 (fun _ s7 h7=>?_) fun x s z=>noE x s _ z
   obtain ⟨x,H7,I7,r7,y7,st7,fr7⟩:=h7
   have I7':=I7.pinned (fpY fr7) (T.obj _ _ st7)
   have g7:=hgs x (capS js σ) H7 _ (step x H7 y7)
   refine wpAny_bind ?_
   refine wpAny_mono (hgY _ s7 (capS js σ) H7 x u _ I7' r7 g7) (fun _ s8 h8=>?_) fun x s z=>noE x s _ z
   obtain ⟨σ8,H8,I8,q8,l8,k8⟩:=h8
   refine wpAny_bind ?_
   refine wpAny_mono (htY _ s8 σ8 H8 _ I8 q8) (fun b s9 h9=>?_) fun x s z=>noE x s _ z
   obtain ⟨H9,I9,q9⟩:=h9
   have again:∀ {s':Shared} {H':Hp},Inv Y ([]++pinsAt fp s7.heap) σ8 H' s'->Inv Y [] (capS js σ) H' s'/\tn (i+1) s'.heap/\∀ b∈fp,H' b=none:=fun {s' H'} I'=>by
    refine ⟨(I'.unpinned).weak l8.symm fun k v e=>?_,T.keep _ _ _ st7 fun b hb o e=>(I'.pin (b,o) (List.mem_append_right _ (List.mem_append_right _ (bR hb e)))).1,fun b hb=>?_⟩
    ·cases ej:js[k]? with
     | none =>
      unfold capS at e
      rw [List.getElem?_map,ej] at e; cases e
     | some o =>
      cases o with
      | none =>
       unfold capS at e
       rw [List.getElem?_map,ej] at e; cases e
      | some j=>rw [k8 k j ej]; exact e
    ·obtain ⟨o,e,d⟩:=T.obj _ _ st7 b hb
     exact (I'.pin (b,o) (List.mem_append_right _ (List.mem_append_right _ (bR hb e)))).2.1
   cases b with
   | false =>
    rw [if_neg Bool.false_ne_true] at q9
    obtain ⟨m',hm,w9⟩:=q9
    obtain ⟨a1,a2,a3⟩:=again I9
    exact wpAny_pure ⟨rfl,m',hm,i+1,ys,H9,a1,a2,a3,w9⟩
   | true =>
    rw [if_pos rfl] at q9
    refine wpAny_bind (wpAny_bind ?_)
    refine wpAny_mono (heY _ s9 σ8 H9 _ I9 q9) (fun y s10 h10=>?_) fun x s z=>noE x s _ z
    obtain ⟨yv,H10,I10,r10,e10,z10,m',hm,w10⟩:=h10
    refine wpAny_bind ?_
    refine wpAny_mono (bg (X:=Y) _ s10 σ8 H10 (.ref s2.heap.objs.size) [yv] (.ref s2.heap.objs.size) [y] (fun _ H'=>H'=upd H10 s2.heap.objs.size (.lst (ys++[yv]))) I10 rfl (.cons r10 .nil) ⟨_,ys,yv,rfl,rfl,e10,z10,rfl⟩) (fun _ s11 h11=>?_) fun x s z=>noE x s _ z
    obtain ⟨_,H11,I11,_,e11⟩:=h11
    subst e11
    obtain ⟨a1,a2,a3⟩:=again I11
    exact wpAny_pure (wpAny_pure ⟨rfl,m',hm,i+1,ys++[yv],_,a1,a2,a3,w10⟩)
 exact codeAny_compStart_list (loop _ rfl) (T.self X.A 0 _ _ _ st4 (loop _ rfl))
theorem wv (hi:PI X tg iter wi) (hg:∀ C s₀ H₀ ex pn,PG (cxComp X scope N C s₀ H₀ ex pn) tg g) (ht:∀ C s₀ H₀ ex pn,PF (cxComp X scope N C s₀ H₀ ex pn) ifs tc) (he:∀ C s₀ H₀ ex pn,PE (cxComp X scope N C s₀ H₀ ex pn) elt te) (hgs:Gsets js g)
  (hc:autoParam (X.calm=true) Z2._auto_1) (hx:autoParam (X.xe=(fun _ _=>False)) Z2._auto_1) (hsc:autoParam (scOk X.env scope=true) Z2._auto_1) (hcap:autoParam (capOk X.N scope N js=true) Z2._auto_1) (hkind:autoParam (scope.kind=.function) Z2._auto_1) (hs:autoParam (∀ x,foldedSetIterable iter X.env x=pure x) Z3._auto_1) :
  PE X (.ListComp elt [⟨tg,iter,ifs,0⟩] scope pos) (tLC wi g tc te js):=by
 intro pins s σ H Q I h
 rw [eval_ListComp]
 refine nZ (use:=none) hc hx hi hg ht he hgs hsc hcap hkind hs I h fun l C H' s' I' q f0 f1 f2 f3 f4 ⟨m,hm⟩=>?_
 refine ⟨m,hm,fun h' sb=>⟨.ref l,H',?_,rfl,q⟩⟩
 exact I'.turned (t':=s'.toks) (it:=C) (fun b o hb e=>sb.extBut b o hb e) f0 f1 (.inr f2) f3 f4
theorem wt {i:Nat} {y:Str} {py spos:Pos} (hN:X.N.Nodup) (hy:X.N[i]?=some y) (hk:X.env.scope.names.lookup y=some .local) (hi:PI X tg iter wi) (hg:∀ C s₀ H₀ ex pn,PG (cxComp X scope N C s₀ H₀ ex pn) tg g) (ht:∀ C s₀ H₀ ex pn,PF (cxComp X scope N C s₀ H₀ ex pn) ifs tc) (he:∀ C s₀ H₀ ex pn,PE (cxComp X scope N C s₀ H₀ ex pn) elt te) (hgs:Gsets js g)
  (hsw:autoParam (swapsWith (.ListComp elt [⟨tg,iter,ifs,0⟩] scope pos) (some (.Name y py)) spos.line X.env=pure true) Z2._auto_1)
  (hc:autoParam (X.calm=true) Z2._auto_1) (hx:autoParam (X.xe=(fun _ _=>False)) Z2._auto_1) (hsc:autoParam (scOk X.env scope=true) Z2._auto_1) (hcap:autoParam (capOk X.N scope N js=true) Z2._auto_1) (hkind:autoParam (scope.kind=.function) Z2._auto_1) (hs:autoParam (∀ x,foldedSetIterable iter X.env x=pure x) Z3._auto_1) :
  PS X (.Assign [.Name y py] (.ListComp elt [⟨tg,iter,ifs,0⟩] scope pos) spos) (tAsg (tLC wi g tc te js) (gName i)):=by
 intro pins s σ H D I h
 rw [exec_Assign_Name_used _ _ _ _ hsw]
 refine wpAny_bind (wpAny_standAt (wpAny_bind ?_))
 show wpAny _ X.A (do let _ <- comprehension (.ListComp elt [⟨tg,iter,ifs,0⟩] scope pos) scope X.env _ (newList []) false (eval iter X.env) (some (assign (.Name y py) X.env))) _ _ s
 refine wpAny_bind (wpAny_mono (nZ (use:=some (assign (.Name y py) X.env)) (E:=X.xe) (QQ:=fun _ s'=>SP X pins D .next s') hc hx hi hg ht he hgs hsc hcap hkind hs I h fun l C H' s' I' q f0 f1 f2 f3 f4 ⟨m,hm⟩=>?_) (fun _ s' hq=>wpAny_pure (wpAny_pure hq)) fun _ _ e=>e)
 show wpAny _ X.A (assign (.Name y py) X.env (.ref l)) _ _ _
 refine wpAny_assign_Name (fR I' hN hy (.inl hk) (v:=.ref l) rfl (fun s'' I'' ⟨a,sb,ha⟩=>?_) (.inr hk))
 have haC:C≠a:=by
  rcases ha with rfl | ha
  ·exact f1
  ·exact fun z=>f3 _ _ ha z.symm
 refine ⟨m,hm.sameBut sb haC,fun h' sb'=>⟨_,H',?_,q⟩⟩
 exact I''.turned (t':=s''.toks) (it:=C) (fun b o hb e=>sb'.extBut b o hb e) f0 f1 (.inr f2) f3 f4
end
end L2
namespace Srt
open PySem PySem.W PyProof.Rows
noncomputable def pw {α:Type} (lt:Nat->Nat->Bool) (n:Nat):KasT α->(α->Prop)->Prop
 | .ret a,Q=>Q a
 | .ask i j k,Q=>i<n/\j<n/\i≠j/\pw lt n (k (lt i j)) Q
theorem pw_bind {α β:Type} {lt:Nat->Nat->Bool} {n:Nat} {f:α->KasT β} {Q:β->Prop}:∀ (t:KasT α),pw lt n t (fun a=>pw lt n (f a) Q)->pw lt n (t.bind f) Q
 | .ret _,h=>h
 | .ask i j k,h=>⟨h.1,h.2.1,h.2.2.1,pw_bind (k (lt i j)) h.2.2.2⟩
structure Ord (lt:Nat->Nat->Bool) (n:Nat):Prop where
 irr:∀ i,i<n->lt i i=false
 tr:∀ i j k,i<n->j<n->k<n->lt i j=true->lt j k=true->lt i k=true
 tot:∀ i j,i<n->j<n->i≠j->lt i j=false->lt j i=true
section
variable {lt:Nat->Nat->Bool} {n:Nat}
noncomputable def at' (p:Array Nat) (i:Nat):Nat:=p.getD i 0
structure Pm (p:Array Nat) (n:Nat):Prop where
 sz:p.size=n
 lt:∀ i,i<n->at' p i<n
 nd:∀ i j,i<n->j<n->at' p i=at' p j->i=j
theorem aP (p:Array Nat) (i:Nat):at' p i=(p[i]?).getD 0:=by
 unfold at'
 by_cases h:i<p.size
 ·simp [Array.getD,h]
 ·simp [Array.getD,h]
noncomputable def Asc (lt:Nat->Nat->Bool) (p:Array Nat) (k:Nat):Prop:=∀ i j,i<j->j<k->lt (at' p i) (at' p j)=true
noncomputable def Dsc (lt:Nat->Nat->Bool) (p:Array Nat) (k:Nat):Prop:=∀ i j,i<j->j<k->lt (at' p j) (at' p i)=true
theorem mU (o:Ord lt n) {p:Array Nat} (P:Pm p n):∀ (f m:Nat) (Q:Nat->Prop),1<=m->m+f<=n->Asc lt p m->(∀ m',m<=m'->m'<=m+f->Asc lt p m'->(m'<m+f->lt (at' p m') (at' p (m' - 1))=true)->Q m')->pw lt n (kas_asc p f m) Q
 | 0,m,Q,_,_,ha,h=>h m (Nat.le_refl _) (Nat.le_refl _) ha fun z=>absurd z (Nat.lt_irrefl _)
 | f+1,m,Q,h1,hm,ha,h=>by
  refine ⟨P.lt _ (by omega),P.lt _ (by omega),fun z=>(by have:=P.nd _ _ (by omega) (by omega) z; omega),?_⟩
  cases c:lt (p.getD m 0) (p.getD (m - 1) 0) with
  | true =>
   show Q m
   exact h m (Nat.le_refl _) (by omega) ha fun _=>c
  | false =>
   show pw lt n (kas_asc p f (m+1)) Q
   have e:lt (at' p (m - 1)) (at' p m)=true:=o.tot _ _ (P.lt _ (by omega)) (P.lt _ (by omega)) (fun z=>by have:=P.nd _ _ (by omega) (by omega) z; omega) c
   refine mU o P f (m+1) Q (by omega) (by omega) (fun i j hij hj=>?_) fun m' a b c d=>h m' (by omega) (by omega) c fun z=>d (by omega)
   by_cases ej:j=m
   ·subst ej
    by_cases ei:i=j - 1
    ·subst ei; exact e
    ·exact o.tr _ (at' p (j - 1)) _ (P.lt _ (by omega)) (P.lt _ (by omega)) (P.lt _ (by omega)) (ha i (j - 1) (by omega) (by omega)) e
   ·exact ha i j hij (by omega)
theorem og (o:Ord lt n) {p:Array Nat} (P:Pm p n):∀ (f m:Nat) (Q:Array Nat×Nat×Nat->Prop),1<=m->m+f<=n->Dsc lt p m->(∀ m',m<=m'->m'<=m+f->Dsc lt p m'->Q (p,m',0))->pw lt n (kas_desc f p m 0) Q
 | 0,m,Q,_,_,ha,h=>h m (Nat.le_refl _) (Nat.le_refl _) ha
 | f+1,m,Q,h1,hm,ha,h=>by
  refine ⟨P.lt _ (by omega),P.lt _ (by omega),fun z=>(by have:=P.nd _ _ (by omega) (by omega) z; omega),?_⟩
  cases c:lt (p.getD m 0) (p.getD (m - 1) 0) with
  | true =>
   show pw lt n (if 0 > 0 then kas_desc f (kas_rev p (m - (0+1)) m) (m+1) 0 else kas_desc f p (m+1) 0) Q
   rw [if_neg (Nat.lt_irrefl 0)]
   refine og o P f (m+1) Q (by omega) (by omega) (fun i j hij hj=>?_) fun m' a b c=>h m' (by omega) (by omega) c
   by_cases ej:j=m
   ·subst ej
    by_cases ei:i=j - 1
    ·subst ei; exact c
    ·exact o.tr _ (at' p (j - 1)) _ (P.lt _ (by omega)) (P.lt _ (by omega)) (P.lt _ (by omega)) c (ha i (j - 1) (by omega) (by omega))
   ·exact ha i j hij (by omega)
  | false =>
   have e:lt (at' p (m - 1)) (at' p m)=true:=o.tot _ _ (P.lt _ (by omega)) (P.lt _ (by omega)) (fun z=>by have:=P.nd _ _ (by omega) (by omega) z; omega) c
   show pw lt n (KasT.ask (p.getD (m - 1) 0) (p.getD m 0) _) Q
   refine ⟨P.lt _ (by omega),P.lt _ (by omega),fun z=>(by have:=P.nd _ _ (by omega) (by omega) z; omega),?_⟩
   rw [show lt (p.getD (m - 1) 0) (p.getD m 0)=true from e]
   exact h m (Nat.le_refl _) (by omega) ha
theorem lI {p:Array Nat} {m i:Nat} (hm:m<=p.size) (hi:i<m):at' (kas_rev p 0 m) i=at' p (m - 1 - i):=by
 rw [aP,aP]
 unfold kas_rev
 rw [getElem?_mirror hm _ (by omega)]
 have e:0+m - 1 - i=m - 1 - i:=by omega
 split
 ·rw [e]
 ·rename_i h
  have:i=m - 1 - i:=by omega
  rw [<- this]
theorem tI {p:Array Nat} {m i:Nat} (hm:m<=p.size) (hi:m<=i):at' (kas_rev p 0 m) i=at' p i:=by
 rw [aP,aP]
 unfold kas_rev
 rw [getElem?_mirror hm _ (by omega),if_neg (by omega)]
theorem uX {p:Array Nat} {m:Nat} (P:Pm p n) (hm:m<=n):Pm (kas_rev p 0 m) n:=by
 have hs:m<=p.size:=by rw [P.sz]; exact hm
 have key:∀ i,i<n->∃ i',i'<n/\at' (kas_rev p 0 m) i=at' p i'/\((i<m/\i'=m - 1 - i)\/(m<=i/\i'=i)):=fun i hi=>by
  by_cases h:i<m
  ·exact ⟨m - 1 - i,by omega,lI hs h,.inl ⟨h,rfl⟩⟩
  ·exact ⟨i,hi,tI hs (by omega),.inr ⟨by omega,rfl⟩⟩
 refine ⟨by unfold kas_rev; rw [mirror_size]; exact P.sz,fun i hi=>?_,fun i j hi hj e=>?_⟩
 ·obtain ⟨i',h1,h2,_⟩:=key i hi
  rw [h2]; exact P.lt i' h1
 ·obtain ⟨i',h1,h2,h3⟩:=key i hi
  obtain ⟨j',k1,k2,k3⟩:=key j hj
  rw [h2,k2] at e
  have:=P.nd _ _ h1 k1 e
  omega
theorem rh (o:Ord lt n) {p:Array Nat} (P:Pm p n) {m:Nat} {Q:Nat×Array Nat->Prop} (h1:1<=m) (hm:m<=n) (hd:Dsc lt p m) (h:∀ m' q,1<=m'->m'<=n->Pm q n->Asc lt q m'->Q (m',q)):pw lt n (kas_tail3 m n p) Q:=by
 refine pw_bind _ ?_
 have P':=uX P hm
 have hs:m<=p.size:=by rw [P.sz]; exact hm
 refine mU o P' _ _ _ h1 (by omega) (fun i j hij hj=>?_) fun m' a b c _=>h m' _ (by omega) (by omega) P' c
 rw [lI hs (by omega),lI hs hj]
 exact hd _ _ (by omega) (by omega)
theorem sL (o:Ord lt n) {p:Array Nat} (P:Pm p n) (h2:2<=n) {Q:Nat×Array Nat->Prop} (h:∀ m q,1<=m->m<=n->Pm q n->Asc lt q m->Q (m,q)):pw lt n (kas_count n p) Q:=by
 refine pw_bind _ ?_
 refine mU o P _ _ _ (Nat.le_refl 1) (by omega) (fun i j hij hj=>by omega) fun m a b c d=>?_
 by_cases e:(m==n)=true
 ·rw [if_pos e]
  exact h m p (by omega) (by omega) P c
 ·rw [if_neg e]
  have hne:m≠n:=fun z=>e (by simp [z])
  by_cases hm:m > 1
  ·rw [if_pos hm]
   refine ⟨P.lt _ (by omega),P.lt _ (by omega),fun z=>(by have:=P.nd _ _ (by omega) (by omega) z; omega),?_⟩
   rw [show lt (p.getD 0 0) (p.getD (m - 1) 0)=true from c 0 (m - 1) (by omega) (by omega)]
   exact h m p (by omega) (by omega) P c
  ·rw [if_neg hm]
   have hm1:m=1:=by omega
   subst hm1
   refine pw_bind _ ?_
   have d1:lt (at' p 1) (at' p (1 - 1))=true:=d (by omega)
   refine og o P _ _ _ (by omega) (by omega) (fun i j hij hj=>?_) fun m' a b hd=>?_
   ·have:i=0:=by omega
    have:j=1:=by omega
    subst i j
    exact d1
   ·show pw lt n (if 0 > 0 then kas_tail3 m' n (kas_rev p (m' - (0+1)) m') else kas_tail3 m' n p) Q
    rw [if_neg (Nat.lt_irrefl 0)]
    exact rh o P (by omega) (by omega) hd h
theorem ip (o:Ord lt n) {p:Array Nat} (P:Pm p n) {k:Nat} (hk:k<n) (ha:Asc lt p k):∀ (f l r:Nat) (Q:Nat->Prop),l<=r->r<=k->r<=l+f->(∀ i,i<l->lt (at' p i) (at' p k)=true)->(∀ i,r<=i->i<k->lt (at' p k) (at' p i)=true) ->
  (∀ l',l'<=k->(∀ i,i<l'->lt (at' p i) (at' p k)=true)->(∀ i,l'<=i->i<k->lt (at' p k) (at' p i)=true)->Q l')->pw lt n (kas_place p k f l r) Q
 | 0,l,r,Q,hl,hr,hf,h1,h2,h=>by
  have:l=r:=by omega
  subst this
  exact h l hr h1 h2
 | f+1,l,r,Q,hl,hr,hf,h1,h2,h=>by
  unfold kas_place
  by_cases hlr:l ≥ r
  ·rw [if_pos hlr]
   have:l=r:=by omega
   subst this
   exact h l hr h1 h2
  ·rw [if_neg hlr]
   have hm:(l+r) / 2<k:=by omega
   refine ⟨P.lt _ hk,P.lt _ (by omega),fun z=>(by have:=P.nd _ _ hk (by omega) z; omega),?_⟩
   cases c:lt (p.getD k 0) (p.getD ((l+r) / 2) 0) with
   | true =>
    show pw lt n (kas_place p k f l ((l+r) / 2)) Q
    refine ip o P hk ha f l _ Q (by omega) (by omega) (by omega) h1 (fun i hi hik=>?_) h
    by_cases e:i=(l+r) / 2
    ·subst e; exact c
    ·exact o.tr _ (at' p ((l+r) / 2)) _ (P.lt _ hk) (P.lt _ (by omega)) (P.lt _ (by omega)) c (ha _ _ (by omega) hik)
   | false =>
    show pw lt n (kas_place p k f ((l+r) / 2+1) r) Q
    have e:lt (at' p ((l+r) / 2)) (at' p k)=true:=o.tot _ _ (P.lt _ hk) (P.lt _ (by omega)) (fun z=>by have:=P.nd _ _ hk (by omega) z; omega) c
    refine ip o P hk ha f _ r Q (by omega) hr (by omega) (fun i hi=>?_) h2 h
    by_cases e':i=(l+r) / 2
    ·subst e'; exact e
    ·exact o.tr _ (at' p ((l+r) / 2)) _ (P.lt _ (by omega)) (P.lt _ (by omega)) (P.lt _ hk) (ha _ _ (by omega) (by omega)) e
theorem gu {p:Array Nat} {k l i:Nat} (hk:k<p.size) (hl:l<=k):at' (bubble p k (k - l)) i=if i=l then at' p k else if l<i/\i<=k then at' p (i - 1) else at' p i:=by
 rw [aP]
 rw [getElem?_bubble hk (k - l) (by omega)]
 have e:k - (k - l)=l:=by omega
 rw [e]
 split
 ·rw [aP]
 ·split
  ·rw [aP]
  ·rw [aP]
theorem qX (o:Ord lt n):∀ (f k:Nat) (p:Array Nat) (Q:Array Nat->Prop),Pm p n->Asc lt p k->k+f=n->(∀ q,Pm q n->Asc lt q n->Q q)->pw lt n (kas_bin f p k) Q
 | 0,k,p,Q,P,ha,hk,h=>by
  have:k=n:=by omega
  subst this
  exact h p P ha
 | f+1,k,p,Q,P,ha,hk,h=>by
  have hkn:k<n:=by omega
  have hs:k<p.size:=by rw [P.sz]; exact hkn
  refine pw_bind _ (ip o P hkn ha k 0 k _ (Nat.zero_le _) (Nat.le_refl _) (by omega) (fun i hi=>by omega) (fun i hi hik=>by omega) fun l hl h1 h2=>?_)
  refine qX o f (k+1) _ Q ⟨by rw [bubble_size]; exact P.sz,fun i hi=>?_,fun i j hi hj e=>?_⟩ (fun i j hij hj=>?_) (by omega) h
  ·rw [gu hs hl]
   split
   ·exact P.lt _ hkn
   ·split
    ·exact P.lt _ (by omega)
    ·exact P.lt _ hi
  ·rw [gu hs hl,gu hs hl] at e
   have P1:=P.nd
   split at e
   ·split at e
    ·omega
    ·split at e
     ·have:=P1 _ _ hkn (by omega) e; omega
     ·have:=P1 _ _ hkn (by omega) e; omega
   ·split at e
    ·split at e
     ·have:=P1 _ _ (by omega) hkn e; omega
     ·split at e
      ·have:=P1 _ _ (by omega) (by omega) e; omega
      ·have:=P1 _ _ (by omega) (by omega) e; omega
    ·split at e
     ·have:=P1 _ _ (by omega) hkn e; omega
     ·split at e
      ·have:=P1 _ _ (by omega) (by omega) e; omega
      ·have:=P1 _ _ (by omega) (by omega) e; omega
  ·rw [gu hs hl,gu hs hl]
   split
   ·split
    ·omega
    ·split
     ·exact h2 _ (by omega) (by omega)
     ·omega
   ·split
    ·split
     ·omega
     ·split
      ·exact ha _ _ (by omega) (by omega)
      ·omega
    ·split
     ·exact h1 _ (by omega)
     ·split
      ·exact ha _ _ (by omega) (by omega)
      ·exact ha _ _ hij (by omega)
theorem jz (o:Ord lt n) (h2:2<=n) {Q:Array Nat->Prop} (h:∀ p,Pm p n->Asc lt p n->Q p):pw lt n (kas_sort n) Q:=by
 have P0:Pm (List.toArray (List.range n)) n:=by
  have e:∀ i,i<n->at' (List.toArray (List.range n)) i=i:=fun i hi=>by rw [aP]; simp [hi]
  refine ⟨by simp,fun i hi=>by rw [e i hi]; exact hi,fun i j hi hj q=>by rw [e i hi,e j hj] at q; exact q⟩
 refine pw_bind _ (sL o P0 h2 fun m q h1 hm P ha=>?_)
 show pw lt n (if m<n then kas_bin (n - max m 1) q (max m 1) else .ret q) Q
 by_cases e:m<n
 ·rw [if_pos e]
  have em:max m 1=m:=by omega
  rw [em]
  exact qX o _ _ _ _ P ha (by omega) h
 ·rw [if_neg e]
  have:m=n:=by omega
  subst this
  exact h q P ha
end
theorem pw_wp {α:Type} {lt:Nat->Nat->Bool} {n:Nat} {cmp:Nat->Nat->(Bool->Shared->Prop)->Shared->Prop} {Q:α->Prop} {QQ:α->Shared->Prop} {J:Shared->Prop}
  (hc:∀ i j C s,i<n->j<n->i≠j->J s->(∀ s',J s'->C (lt i j) s')->cmp i j C s) (hq:∀ a s,J s->Q a->QQ a s):∀ (t:KasT α) (s:Shared),J s->pw lt n t Q->t.kasWp cmp QQ s
 | .ret a,s,hj,h=>hq a s hj h
 | .ask i j k,s,hj,h=>hc i j _ s h.1 h.2.1 h.2.2.1 hj fun s' hj'=>pw_wp hc hq (k (lt i j)) s' hj' h.2.2.2
end Srt
namespace L2
open PySem PySem.Spec PyProof.Rows
theorem oS {ss:List Str}:∀ {us:List Value},Vals (ss.map V.str) us->StrsAre us ss:=by
 induction ss with
 | nil=>intro us r; cases r; exact .nil
 | cons x r ih =>
  intro us h
  cases h with
  | cons h1 h2 =>
   obtain ⟨t,rfl⟩:=h1
   exact .cons x t (ih h2)
theorem fO:∀ {us:List Value} {ss:List Str},StrsAre us ss->Vals (ss.map V.str) us
 | _,_,.nil=>.nil
 | _,_,.cons x t h=>.cons ⟨t,rfl⟩ (fO h)
noncomputable def ltS (a b:Str):Prop:=a.cps.toList<b.cps.toList
instance (a b:Str):Decidable (ltS a b):=inferInstanceAs (Decidable (a.cps.toList<b.cps.toList))
theorem hU:∀ (l:List Str) (p:Str),risingS p l=true->(∀ y∈l,¬ ltS y p)/\l.Pairwise (fun a b=>¬ ltS b a)
 | [],p,_=>⟨(fun _ h=>nomatch h),List.Pairwise.nil⟩
 | x::r,p,h=>by
  have h':(!ltCps x.cps.toList p.cps.toList && risingS x r)=true:=h
  rw [Bool.and_eq_true] at h'
  obtain ⟨h1,h2⟩:=h'
  have hx:¬ ltS x p:=by
   unfold ltS
   rw [ltCps_eq] at h1
   simpa using h1
  obtain ⟨a,b⟩:=hU r x h2
  refine ⟨fun y hy=>?_,List.pairwise_cons.mpr ⟨a,b⟩⟩
  rcases List.mem_cons.mp hy with rfl | hy
  ·exact hx
  ·intro z
   have:=a y hy
   unfold ltS at *
   exact hx (List.lt_of_le_of_lt (List.not_lt.mp this) z)
theorem hJ {l:List Str} (h:sortedS l=true):l.Pairwise (fun a b=>¬ ltS b a):=by
 cases l with
 | nil=>exact List.Pairwise.nil
 | cons x r =>
  obtain ⟨a,b⟩:=hU r x h
  exact List.pairwise_cons.mpr ⟨a,b⟩
section
variable {X:Cx}
noncomputable def rSortS (K:PySem.W.Frag):List V->Hp->VK->Prop:=fun xs H Q=>∃ (p:Addr) (ss:List Str),xs=[.ref p]/\SqL K H p (ss.map V.str)/\ss.length<64 /\
 ∀ (l:Addr) (ss':List Str),H l=none->ss'.Perm ss->ss'.Pairwise (fun a b=>¬ ltS b a)->Q (.ref l) (upd H l (.lst (ss'.map V.str)))
theorem pA:CallR X (.builtin "sorted") (rSortS X.K):=by
 intro pins s σ H xs us Q I r h
 obtain ⟨p,ss,rfl,hq,h64,k⟩:=h
 obtain ⟨u,rfl,ru⟩:=r.one
 cases ru
 obtain ⟨its,rv,pl,hz⟩:=I.list hq
 have hS:=oS rv
 have hl:=rv.length
 rw [List.length_map] at hl
 refine sorted_strs pl.isList hS (by omega) fun out ss' a1 a2 a3=>?_
 obtain ⟨e,he⟩:=sortedAll_at s.heap its out
 have hn:H (s.heap.objs.size+1)=none:=I.hok.fresh (Nat.le_succ _)
 refine ⟨.ref (s.heap.objs.size+1),_,I.laid (t':=s.toks) (a:=s.heap.objs.size+1) (o:=.lst (ss'.map V.str)) (fun b o q=>sortedAll_old q) (Nat.le_succ _) ?_,rfl,k _ ss' hn a2 (hJ a3)⟩
 refine ⟨by rw [List.length_map,a2.length_eq,sizeLine_eq]; omega,out.toList,e,fO a1,?_⟩
 rw [Array.toArray_toList]
 exact he
end
section
variable {prog:Program} {w:World} {A:Around} {E:Value->Shared->Prop} {s:Shared}
theorem lC {l:Addr} {vs:List Value} {Q:Value->Shared->Prop} (hl:s.heap.IsList l vs.toArray) (h2:vs.length<2) (h:Q (.ref (s.heap.objs.size+1)) { s with heap:=sortedAll s.heap vs vs.toArray }) :
  wpAny (model prog w) A (call (.builtin "sorted") [.ref l]) Q E s:=by
 have hz:vs.length<=sizeLine:=by rw [sizeLine_eq]; omega
 refine Calls.call_function_entry kind_sorted plain_sorted entry_sorted (args_sorted1 _) (?_:wpAny (model prog w) A.in1 (Builtin.«sorted» ⟨[.ref l],[]⟩) _ _ s)
 unfold Builtin.«sorted»
 refine wpAny_bind (m:=checkCount "sorted" 1 1 _) (wpAny_pure (wpAny_bind (collect_list hl (wpAny_bind (wpAny_newList ?_ hz)) (by first | exact hz | (rw [List.size_toArray]; exact hz)))))
 have esz:((s.heap.push (seqObj "list" #[] 0)).update s.heap.objs.size (Obj.mapSeq (·++vs.toArray))).objs.size=s.heap.objs.size+1:=(Heap.size_update _ _ _).trans (size_push' _ _)
 generalize hh:(s.heap.push (seqObj "list" #[] 0)).update s.heap.objs.size (Obj.mapSeq (·++vs.toArray))=hA at esz ⊢
 have hoL:(hA.push (seqObj "list" vs.toArray 0)).get? (s.heap.objs.size+1)=some (seqObj "list" vs.toArray 0):=by rw [<- esz]; exact Heap.get?_push_size _ rfl
 have eB:hA.push (seqObj "list" vs.toArray 0)=hA.push { cls:=.type "list",data:=.seq vs.toArray }:=rfl
 dsimp only at esz ⊢
 rw [esz]
 show wpAny _ _ _ _ _ { s with heap:=hA.push (seqObj "list" vs.toArray 0) }
 generalize hB':hA.push (seqObj "list" vs.toArray 0)=hB at hoL ⊢
 refine wpAny_bind (wpAny_holding (wpAny_call_entry slot_list_sort ⟨_,hoL,rfl⟩ entry_list_sort ?body (args_list_sort _)))
 case body =>
  rw [list_sort_plain]
  have hb:s.heap.objs.size+1<hB.objs.size:=Heap.lt_size hoL
  obtain ⟨e1,ho1⟩:∃ e1,(hB.update (s.heap.objs.size+1) (Obj.mapSeq fun _=>#[])).get? (s.heap.objs.size+1)=some (seqObj "list" #[] e1):=⟨_,get?_update_seq hoL fun _=>#[]⟩
  refine wpAny_bind (listItems_at hoL rfl (wpAny_bind (listUpdate_at hoL rfl ?_ (by rw [List.size_toArray]; exact hz) (Nat.zero_le _))))
  refine wpAny_bind (seqEpoch_at ho1 rfl (wpAny_bind (wpAny_newTuple ?_ (by show vs.length<=_; exact hz))))
  refine wpAny_bind (wpAny_newList (wpAny_holding ?_) (Nat.zero_le _))
  have ho6:(((hB.update (s.heap.objs.size+1) (Obj.mapSeq fun _=>#[])).push (seqObj "tuple" vs.toArray 0)).push (seqObj "list" #[] 0)).get? (s.heap.objs.size+1)=some (seqObj "list" #[] e1) :=
   Heap.get?_push_of_some _ (Heap.get?_push_of_some _ ho1)
  show wpAny (model prog w) _ _ _ _ { s with heap:=((hB.update (s.heap.objs.size+1) (Obj.mapSeq fun _=>#[])).push (seqObj "tuple" vs.toArray 0)).push (seqObj "list" #[] 0) }
  dsimp only
  have hlt:vs.toArray.size<2:=by rw [List.size_toArray]; exact h2
  rw [if_pos hlt,if_pos hlt]
  refine wpAny_bind (wpAny_pure ?_)
  rw [StateT.run_pure]
  refine wpAny_bind (wpAny_pure ?_)
  dsimp only
  have eo:(arrOf (SortSt.mk' general' (vs.toArray.zip vs.toArray) #[] 7 none)).map (·.2)=vs.toArray:=by
   show (vs.toArray.zip vs.toArray).map (·.2)=vs.toArray
   apply Array.ext
   ·simp
   ·intro i h1 h2
    simp
  rw [eo]
  refine wpAny_bind (seqEpoch_at ho6 rfl (wpAny_bind (listUpdate_at ho6 rfl ?_ (Nat.zero_le _) (by rw [List.size_toArray]; first | exact hz | exact Nat.le_succ_of_le hz))))
  simp only [bne_self_eq_false,Bool.false_eq_true,if_false]
  refine wpAny_pure ⟨_,rfl,wpAny_pure ⟨_,rfl,?_⟩⟩
  have ef:sortedAll s.heap vs vs.toArray=(((hB.update (s.heap.objs.size+1) (Obj.mapSeq fun _=>#[])).push (seqObj "tuple" vs.toArray 0)).push (seqObj "list" #[] 0)).update (s.heap.objs.size+1) (Obj.mapSeq fun _=>vs.toArray):=by
   rw [<- hB',<- hh]; rfl
  rw [ef] at h
  exact h
end
section
variable {X:Cx} {pins:List (Addr×Obj)} {σ:St} {H:Hp} {s:Shared}
theorem vk {h:Heap} {a:Addr} {m m':Str->Option Value} (x:h.Ns a m) (y:h.Ns a m'):m=m':=by
 obtain ⟨o,es,ep,ho,hd,_,hm⟩:=x
 obtain ⟨o',es',ep',ho',hd',_,hm'⟩:=y
 rw [ho] at ho'; cases ho'
 rw [hd] at hd'; cases hd'
 funext n
 rw [<- hm n,<- hm' n]
theorem ObjOk.there {P:Program} {w:World} {H:Hp} {h:Heap} {a:Addr} {o:HO} (x:ObjOk P w H h a o):∃ u,h.get? a=some u:=by
 cases o with
 | lst xs=>obtain ⟨_,_,_,_,e⟩:=x; exact ⟨_,e⟩
 | tup xs=>obtain ⟨_,_,_,o,e,_⟩:=x; exact ⟨_,e⟩
 | dK kvs=>obtain ⟨_,_,_,_,o,_,_,e,_⟩:=x; exact ⟨_,e⟩
 | dT kvs=>obtain ⟨_,_,_,_,o,_,_,e,_⟩:=x; exact ⟨_,e⟩
 | set S n=>obtain ⟨o,_,_,_,e,_⟩:=x; exact ⟨_,e⟩
 | ins C dx fs=>obtain ⟨_,_,_,e,_⟩:=x; exact ⟨_,e⟩
 | own y=>exact x
 | xd fs=>obtain ⟨_,⟨_,_,_,e,_⟩,_⟩:=x; exact ⟨_,e⟩
 | rng lo hi=>obtain ⟨_,_,_,e⟩:=x; exact ⟨_,e⟩
 | frz ob u=>obtain ⟨e,_⟩:=x; exact ⟨_,e⟩
 | tbl ps=>exact ⟨_,show h.get? a=some _ from x⟩
 | met f y=>exact ⟨_,show h.get? a=some _ from x⟩
 | ext φ=>obtain ⟨_,e,_⟩:=x; exact e
theorem HOk.dead {P:Program} {w:World} {H:Hp} {h:Heap} {a:Addr} (x:HOk P w H h) (e:h.get? a=none):H a=none:=by
 cases q:H a with
 | none=>rfl
 | some u =>
  obtain ⟨o,z⟩:=(x a u q).there
  rw [e] at z; cases z
theorem Inv.laidL {h':Heap} {D:Addr} {xs:List V} {m:Str->Option Value} (I:Inv X pins σ H s) (hm:s.heap.Ns X.env.locals m) (hm':h'.Ns X.env.locals m) (k:∀ b o,b≠X.env.locals->s.heap.get? b=some o->h'.get? b=some o)
  (hD:s.heap.get? D=none) (new:ObjOk X.prog X.w (upd H D (.lst xs)) h' D (.lst xs)):Inv X pins σ (upd H D (.lst xs)) { s with heap:=h' }:=by
 have fr:H D=none:=I.hok.dead hD
 have nD:∀ b o,s.heap.get? b=some o->b≠D:=fun b o e z=>by rw [z,hD] at e; cases e
 have nt:∀ b u,H b=some u->b≠D:=fun b u e=>ay e fr
 have ntL:∀ b u,H b=some u->b≠X.env.locals:=fun b u e=>ay e I.free
 refine I.step (g':=s.gens) (d':=s.drawn) (t':=s.toks) (ch:=[]) (fun _ z=>nomatch z) (fun b o hb _ _ e _=>k b o hb e) (fun b o hb _ _ e _=>⟨o.slots,k b o hb e⟩) (fun b o _ e n=>by rw [ah (nD b o e)]; exact n)
  (fun b o _ e=>?_) (fun b ys e=>by rw [ah (nt b _ e)]; exact e) (fun b o u e=>by rw [ah (nt b _ e)]; exact e) (fun b ps e=>⟨#[],by rw [ah (nt b _ e),e]; simp⟩) (fun m2 h2=>by rw [vk h2 hm]; exact hm') (fun b u e=>?_) I.bare
 ·by_cases hb:b=X.env.locals
  ·subst hb
   obtain ⟨o',_,_,ho',_⟩:=hm'
   exact ⟨o',ho'⟩
  ·exact ⟨o,k b o hb e⟩
 ·by_cases hb:b=D
  ·subst hb
   rw [am] at e
   cases e
   exact new
  ·rw [ah hb] at e
   refine (I.hok b u e).stay (fun c v hc q=>k c v ?_ q) (fun c q=>by rw [ah (nt c _ q)]; exact q) fun c ys q=>by rw [ah (nt c _ q)]; exact q
   rcases hc with z | z
   ·rw [z]; exact ntL b u e
   ·exact ntL c _ z
structure Rows (K:PySem.W.Frag) (H:Hp) (vs:List V) (nm:List Str):Prop where
 len:vs.length=nm.length
 row:∀ (i:Nat) (v:V) (x:Str),vs[i]?=some v->nm[i]?=some x->∃ a r,v=.ref a/\SqT K H a (.str x::r)
 nd:nm.Nodup
noncomputable def rSortR (K:PySem.W.Frag):List V->Hp->VK->Prop:=fun xs H Q=>∃ p vs nm,xs=[.ref p]/\SqL K H p vs/\vs.length<64/\Rows K H vs nm /\
 ∀ l (ix:List Nat),H l=none->ix.length=vs.length->ix.Nodup->(∀ i∈ix,i<vs.length)->(ix.map fun i=>nm.getD i ⟨#[]⟩).Pairwise ltS->Q (.ref l) (upd H l (.lst (ix.map fun i=>vs.getD i .non)))
theorem Vals.pick {xs:List V} {us:List Value} (r:Vals xs us):∀ (ix:List Nat),(∀ i∈ix,i<xs.length)->Vals (ix.map fun i=>xs.getD i .non) (ix.map fun i=>us.getD i Value.none)
 | [],_=>.nil
 | i::ix,h=>by
  refine .cons ?_ (Vals.pick r ix fun j hj=>h j (List.mem_cons_of_mem _ hj))
  have hi:=h i List.mem_cons_self
  have e:xs[i]?=some (xs[i]):=by simp [hi]
  obtain ⟨u,hu,ru⟩:=r.get e
  have e1:xs.getD i .non=xs[i]:=by simp [hi]
  have e2:us.getD i Value.none=u:=by rw [List.getD_eq_getElem?_getD,hu]; rfl
  show RelV (xs.getD i .non) (us.getD i Value.none)
  rw [e1,e2]
  exact ru
theorem pB:CallR X (.builtin "sorted") (rSortR X.K):=by
 intro pins s σ H xs us Q I r h
 obtain ⟨p,vs,nm,rfl,hq,h64,R,k⟩:=h
 obtain ⟨u,rfl,ru⟩:=r.one
 cases ru
 obtain ⟨its,rv,pl,hz⟩:=I.list hq
 have hl:=rv.length
 by_cases h2:its.length<2
 ·refine lC pl.isList h2 ?_
  obtain ⟨e,he⟩:=sortedAll_at s.heap its its.toArray
  have hn:H (s.heap.objs.size+1)=none:=I.hok.fresh (Nat.le_succ _)
  have ei:(List.range vs.length).map (fun i=>vs.getD i V.non)=vs:=by
   apply List.ext_getElem?
   intro i
   rw [List.getElem?_map]
   by_cases hi:i<vs.length
   ·rw [List.getElem?_range hi]; simp [hi]
   ·rw [List.getElem?_eq_none (by simpa using hi),List.getElem?_eq_none (by omega)]; rfl
  have q:=k (s.heap.objs.size+1) (List.range vs.length) hn (by simp) List.nodup_range (fun i hi=>List.mem_range.mp hi) (by
   match hv:vs.length,hl with
   | 0,_=>simp
   | 1,_=>simp [List.range_succ]
   | n+2,hl=>omega)
  rw [ei] at q
  exact ⟨.ref (s.heap.objs.size+1),_,I.laid (t':=s.toks) (a:=s.heap.objs.size+1) (o:=.lst vs) (fun b o q=>sortedAll_old q) (Nat.le_succ _) ⟨hz,its,e,rv,he⟩,rfl,q⟩
 ·obtain ⟨m,F⟩:=I.fr
  refine PySem.W.kat_sorted F (sh (g:=X.base) (h:=s.heap) (L:=X.env.locals)) pl.isList (by omega) (by omega) fun D e1 h' F' N' hD=>?_
  have keep1:∀ b o,b≠X.env.locals->s.heap.get? b=some o->h'.get? b=some o:=fun b o hb e=>by
   cases q:X.base.get? b with
   | some ob =>
    have:=I.bk b ob q
    rw [e] at this; cases this
    exact F'.keep b _ q
   | none=>exact (N' (b,o) (List.mem_cons_of_mem _ (dL hb q e))).1
  have hDs:∀ b o,b≠X.env.locals->X.base.get? b=none->s.heap.get? b=some o->b<D:=fun b o hb hn e=>hD (b,o) (dL hb hn e)
  have rowAt:∀ i,i<its.length->∃ a ob vv x t n,its.getD i Value.none=.ref a/\h'.get? a=some ob/\ob.cls=.type "tuple" /\ ob.data=.seq vv n/\vv[0]?=some (.str x t)/\nm[i]?=some x/\s.heap.get? a=some ob:=fun i hi=>by
   have hi':i<vs.length:=by omega
   have e:vs[i]?=some vs[i]:=by simp [hi']
   obtain ⟨u,hu,ru⟩:=rv.get e
   have hin:i<nm.length:=by rw [<- R.len]; exact hi'
   have en:nm[i]?=some nm[i]:=by simp [hin]
   obtain ⟨a,rr,ev,ha⟩:=R.row i _ _ e en
   rw [ev] at ru
   cases ru
   obtain ⟨tits,tv,⟨ob,hob,hc,n,hd⟩,z1⟩:=I.tuple ha
   cases tv with
   | cons t1 t2 =>
    obtain ⟨t,rfl⟩:=t1
    refine ⟨a,ob,_,nm[i],t,n,by rw [List.getD_eq_getElem?_getD,hu]; rfl,keep1 a ob ?_ hob,hc,hd,by simp,en,hob⟩
    rintro rfl
    obtain ⟨m,⟨o2,es,ep,g1,g2,_⟩,_⟩:=I.loc
    rw [hob] at g1; cases g1
    rw [hd] at g2; cases g2
  have tups:PySem.W.KatTups h' its ((List.range its.length).map fun i=>match its.getD i Value.none with | .ref a=>(match h'.get? a with | some ob=>(match ob.data with | .seq vv _=>(vv[0]?).getD .none | _=>.none) | none=>.none) | _=>.none):=by
   have go:∀ (us:List Value) (f:Nat->Value) (k0:Nat),(∀ i,i<us.length->∃ a ob vv n,us.getD i Value.none=.ref a/\h'.get? a=some ob/\ob.cls=.type "tuple" /\ ob.data=.seq vv n/\vv[0]?=some (f (k0+i))) ->
     PySem.W.KatTups h' us ((List.range us.length).map fun i=>f (k0+i)):=by
    intro us
    induction us with
    | nil=>intro f k0 _; exact trivial
    | cons u us ih =>
     intro f k0 hh
     obtain ⟨a,ob,vv,n,e1,e2,e3,e4,e5⟩:=hh 0 (by simp)
     have e1':u=.ref a:=by simpa using e1
     subst e1'
     rw [List.length_cons,List.range_succ_eq_map,List.map_cons,List.map_map]
     refine ⟨⟨a,ob,vv,n,rfl,e2,e3,e4,e5⟩,?_⟩
     have:=ih f (k0+1) fun i hi=>by
      obtain ⟨a,ob,vv,n,e1,e2,e3,e4,e5⟩:=hh (i+1) (by simpa using hi)
      exact ⟨a,ob,vv,n,by simpa using e1,e2,e3,e4,by rw [show k0+1+i=k0+(i+1) by omega]; exact e5⟩
     have ef:(fun i=>f (k0+i)) ∘ Nat.succ=fun i=>f (k0+1+i):=by
      funext i
      show f (k0+(i+1))=f (k0+1+i)
      rw [show k0+(i+1)=k0+1+i by omega]
     rw [ef]
     exact this
   have:=go its (fun i=>match its.getD i Value.none with | .ref a=>(match h'.get? a with | some ob=>(match ob.data with | .seq vv _=>(vv[0]?).getD .none | _=>.none) | none=>.none) | _=>.none) 0 fun i hi=>by
    obtain ⟨a,ob,vv,x,t,n,e1,e2,e3,e4,e5,_⟩:=rowAt i hi
    refine ⟨a,ob,vv,n,e1,e2,e3,e4,?_⟩
    rw [Nat.zero_add,e1,e5]
    simp only [e2,e4,e5]
    rfl
   simpa using this
  refine PySem.W.kat_kind (T:=.type "str") tups (by rw [List.length_map,List.length_range]; omega) (fun v hv=>?_) rfl ?_
  ·obtain ⟨i,hi,rfl⟩:=List.mem_map.mp hv
   obtain ⟨a,ob,vv,x,t,n,e1,e2,e3,e4,e5,_⟩:=rowAt i (List.mem_range.mp hi)
   rw [e1]
   simp only [e2,e4,e5]
   exact PySem.W.Looks.of_pure rfl
  ·-- the questions
   have hT:((Value.type "str") != (Value.type "tuple"))=true:=by decide
   rw [hT]
   let lt:Nat->Nat->Bool:=fun i j=>decide (ltS (nm.getD i ⟨#[]⟩) (nm.getD j ⟨#[]⟩))
   have cinj:∀ i j,i<its.length->j<its.length->(nm.getD i ⟨#[]⟩).cps.toList=(nm.getD j ⟨#[]⟩).cps.toList->i=j:=fun i j hi hj e=>by
    have hi':i<nm.length:=by rw [<- R.len]; omega
    have hj':j<nm.length:=by rw [<- R.len]; omega
    have e':nm.getD i ⟨#[]⟩=nm.getD j ⟨#[]⟩:=by
     generalize nm.getD i ⟨#[]⟩=x at e ⊢
     generalize nm.getD j ⟨#[]⟩=y at e ⊢
     obtain ⟨x⟩:=x
     obtain ⟨y⟩:=y
     exact congrArg Str.mk (Array.toList_inj.mp e)
    rw [List.getD_eq_getElem?_getD,List.getD_eq_getElem?_getD,List.getElem?_eq_getElem hi',List.getElem?_eq_getElem hj'] at e'
    exact (List.getElem_inj R.nd).mp e'
   have o:Srt.Ord lt its.length:=by
    refine ⟨fun i _=>?_,fun i j k _ _ _ a b=>?_,fun i j hi hj ne e=>?_⟩
    ·show decide _=false
     simp [ltS,List.lt_irrefl]
    ·have a':=of_decide_eq_true a
     have b':=of_decide_eq_true b
     exact decide_eq_true (List.lt_trans (show _<_ from a') b')
    ·have e':=of_decide_eq_false e
     refine decide_eq_true ?_
     unfold ltS at e' ⊢
     rcases Nat.lt_or_ge 0 0 with z | _
     ·omega
     ·have le:=List.not_lt.mp e'
      rcases List.le_iff_lt_or_eq.mp le with z | z
      ·exact z
      ·exact absurd (cinj j i hj hi z).symm ne
   refine Srt.pw_wp (lt:=lt) (n:=its.length) (Q:=fun p=>Srt.Pm p its.length/\Srt.Asc lt p its.length) (J:=fun s'=>s'={ s with heap:=h' }) ?_ ?_ (PySem.W.kas_sort its.length) _ rfl (Srt.jz o (by omega) fun p a b=>⟨a,b⟩)
   ·rintro i j C s' hi hj ne rfl hC
    obtain ⟨a,ob,vv,x,t,n,e1,e2,e3,e4,e5,e6,_⟩:=rowAt i hi
    obtain ⟨a',ob',vv',x',t',n',f1,f2,f3,f4,f5,f6,_⟩:=rowAt j hj
    show wpAny _ _ (keyLt' (tuples' true) (its.getD i Value.none) (its.getD j Value.none)) _ _ _
    rw [e1,f1]
    refine PySem.W.kat_lt e2 e4 f2 f4 ?_
    have g1:vv.toList=.str x t::vv.toList.tail:=by
     cases h:vv.toList with
     | nil =>
          have:vv[0]?=vv.toList[0]?:=by simp
          rw [this,h] at e5; cases e5
     | cons y r =>
            have:vv[0]?=vv.toList[0]?:=by simp
            rw [this,h] at e5
            have:y=.str x t:=by simpa using e5
            rw [this]; rfl
    have g2:vv'.toList=.str x' t'::vv'.toList.tail:=by
     cases h:vv'.toList with
     | nil =>
          have:vv'[0]?=vv'.toList[0]?:=by simp
          rw [this,h] at f5; cases f5
     | cons y r =>
            have:vv'[0]?=vv'.toList[0]?:=by simp
            rw [this,h] at f5
            have:y=.str x' t':=by simpa using f5
            rw [this]; rfl
    rw [g1,g2,List.zip_cons_cons]
    have d1:nm.getD i ⟨#[]⟩=x:=by rw [List.getD_eq_getElem?_getD,e6]; rfl
    have d2:nm.getD j ⟨#[]⟩=x':=by rw [List.getD_eq_getElem?_getD,f6]; rfl
    have hne:x≠x':=fun z=>ne (cinj i j hi hj (by rw [d1,d2,z]))
    refine PySem.W.kat_cons (wpAny_eqBool_str ?_)
    rw [decide_eq_false hne]
    refine PySem.W.kat_no ?_
    show wpAny _ _ (oneLt' true (.str x t) (.str x' t')) _ _ _
    refine oneLt_str ?_
    have:=hC _ rfl
    have el:lt i j=decide (x.cps.toList<x'.cps.toList):=by
     show decide (ltS _ _)=_
     rw [d1,d2]; rfl
    rw [el] at this
    exact this
   ·rintro pa s' rfl ⟨P,As⟩
    refine PySem.W.KasFin.intro F' N' (.head fun q hq=>?_) fun h2' c F2 N2=>?_
    ·exact Nat.ne_of_lt (hD q hq)
    ·have keep2:∀ b o,b≠X.env.locals->s.heap.get? b=some o->h2'.get? b=some o:=fun b o hb e=>by
      cases q:X.base.get? b with
      | some ob =>
       have:=I.bk b ob q
       rw [e] at this; cases this
       exact F2.keep b _ q
      | none=>exact (N2 (b,o) (List.mem_cons_of_mem _ (dL hb q e))).1
     have hDo:=(N2 _ List.mem_cons_self)
     have hDsz:s.heap.get? D=none:=by
      cases q:s.heap.get? D with
      | none=>rfl
      | some od=>exact absurd (hDs D od hDo.2.1 hDo.2.2 q) (Nat.lt_irrefl _)
     have hlt':∀ i∈pa.toList,i<vs.length:=fun i hi=>by
      obtain ⟨j,hj,rfl⟩:=Array.mem_iff_getElem.mp (Array.mem_toList_iff.mp hi)
      have:=P.lt j (by rw [<- P.sz]; exact hj)
      rw [Srt.aP] at this
      simp only [Array.getElem?_eq_getElem hj,Option.getD_some] at this
      omega
     have q:=k D pa.toList (I.hok.dead hDsz) (by rw [Array.length_toList,P.sz]; omega) ?_ hlt' ?_
     ·refine ⟨.ref D,_,I.laidL (xs:=pa.toList.map fun i=>vs.getD i .non) F.ns F2.ns keep2 hDsz ⟨?_,pa.toList.map fun i=>its.getD i Value.none,c,rv.pick _ hlt',hDo.1⟩,rfl,q⟩
      rw [List.length_map,Array.length_toList,P.sz,<- hl]; exact hz
     ·rw [List.nodup_iff_pairwise_ne,List.pairwise_iff_getElem]
      intro i j hi hj hij e
      have hi':i<pa.size:=by simpa using hi
      have hj':j<pa.size:=by simpa using hj
      have:=P.nd i j (by rw [<- P.sz]; exact hi') (by rw [<- P.sz]; exact hj') (by rw [Srt.aP,Srt.aP]; simpa [hi',hj'] using e)
      omega
     ·rw [List.pairwise_map,List.pairwise_iff_getElem]
      intro i j hi hj hij
      have hi':i<pa.size:=by simpa using hi
      have hj':j<pa.size:=by simpa using hj
      have:=As i j hij (by rw [<- P.sz]; exact hj')
      rw [Srt.aP,Srt.aP] at this
      have:=of_decide_eq_true this
      simpa [hi',hj'] using this
end
end L2
namespace L2
open PySem PySem.Spec PyProof.Rows
section
open PySem.SeqAt
open PySem.AutoSeq1 (wpAny_loadPart')
open PySem.MeetsSeq PySem.MeetsSeq2 PySem.MeetsSeq3
end
section
variable {X:Cx}
noncomputable def rNeNil (K:PySem.W.Frag):R2:=fun x y H Q=>∃ a b xs,x=.ref a/\y=.ref b/\SqL K H a xs/\SqL K H b []/\Q (.bl (!xs.isEmpty)) H
theorem lX (hu:X.A.units<cLine):OpR X (compareOp .NotEq) (rNeNil X.K):=by
 intro pins s σ H x y v u Q I rx ry h
 obtain ⟨a,b,xs,rfl,rfl,ha,hb,q⟩:=h
 cases rx
 cases ry
 obtain ⟨its,r1,p1,_⟩:=I.list ha
 obtain ⟨its2,r2,p2,_⟩:=I.list hb
 cases r2
 have fin:∀ k,k=(!xs.isEmpty)->EP X pins σ Q (.bool k) s:=fun k e=>by subst e; exact ⟨.bl _,H,I,rfl,q⟩
 cases r1 with
 | nil=>exact SeqAt.RcNeAt.lists (e:=fun _=>true) p1.isList p2.isList rfl hu (fun j h1 h2=>absurd h1 (by simp)) X.prog X.w X.xe _ (fin _ rfl)
 | cons _ _=>exact SeqAt.RcNeAt.lists_lengths p1.isList p2.isList (by simp) hu X.prog X.w X.xe _ (fin _ rfl)
noncomputable def repS (x:Str) (n:Nat):Str:=⟨(List.replicate n x.cps.toList).flatten.toArray⟩
noncomputable def rMulS:R2:=fun x y H Q=>∃ (z:Str) (i:Int),x=.str z/\y=.int i/\0<=i/\i<=1000/\z.length<=1000/\Q (.str (repS z i.toNat)) H
theorem kJ (x:Array Nat):∀ (n:Nat) (acc:Array Nat),((List.replicate n x).foldl (·++·) acc)=acc++(List.replicate n x.toList).flatten.toArray
 | 0,acc=>by simp
 | n+1,acc=>by
  rw [List.replicate_succ,List.foldl_cons,kJ x n,List.replicate_succ,List.flatten_cons]
  apply Array.toList_inj.mp
  simp
theorem tt (x:Str) (i:Int) (h:0<=i):Txt.mul x i=repS x i.toNat:=by
 unfold Txt.mul repS
 by_cases h1:i<1
 ·have:i=0:=by omega
  subst this
  rfl
 ·rw [if_neg h1]
  by_cases h2:(i==1 || x.length==0)=true
  ·rw [if_pos h2]
   rw [Bool.or_eq_true] at h2
   obtain ⟨x⟩:=x
   rcases h2 with z | z
   ·have:i=1:=by simpa using z
    subst this
    congr 1
    apply Array.toList_inj.mp
    simp
   ·have hz:x.size=0:=by simpa [Str.length] using z
    have:x=#[]:=Array.eq_empty_of_size_eq_zero hz
    subst this
    congr 1
    apply Array.toList_inj.mp
    simp
  ·rw [if_neg h2,kJ]
   congr 1
   simp
theorem t5:OpR X (binaryOp .Mult) rMulS:=by
 intro pins s σ H x y v u Q I rx ry h
 obtain ⟨z,i,rfl,rfl,h0,h1,h2,q⟩:=h
 obtain ⟨t,rfl⟩:=rx
 obtain ⟨t',rfl⟩:=ry
 refine SB.mul ⟨?_,fun _ _ hh=>?_,fun _ _=>?_⟩ fun t2 k=>?_
 ·rw [decide_eq_false (by omega),decide_eq_false (by omega)]; rfl
 ·have:((2:Int) ^ 63 - 1) / i ≥ 2 ^ 50:=by
   apply (Int.le_ediv_iff_mul_le (by omega)).mpr
   have:(2:Int) ^ 50*i<=2 ^ 50*1000:=Int.mul_le_mul_of_nonneg_left h1 (by decide)
   have e:(2:Int) ^ 50*1000<=2 ^ 63 - 1:=by decide
   omega
  have e:(2:Int) ^ 50 > 1000:=by decide
  omega
 ·have:z.length*i.toNat<=1000*1000:=Nat.mul_le_mul h2 (by omega)
  refine decide_eq_false ?_
  rw [sizeLine_eq]
  omega
 ·rw [tt z i h0]
  exact ⟨.str (repS z i.toNat),H,I.tok k,⟨_,rfl⟩,q⟩
end
noncomputable def tDC (wi:TI) (g:TG) (tc:TT) (tk te:TE) (js:List (Option Nat)):TE:=fun σ H Q=>wi σ H fun J H1=>∀ l,H1 l=none ->
 ∃ W:Nat->Nat->List (Key×V)->Hp->Prop,(∃ m,W 0 m [] (upd H1 l (.dK [])))/\∀ i m ys H2,W i m ys H2 ->
  (J.stop i H2/\Q (.ref l) H2)\/(J.go i H2/\∀ x H3,J.yld i H2 x H3->g x (capS js σ) H3 fun σ4 H4=>tc σ4 H4 fun b H5 =>
   if b=true then tk σ4 H5 fun kk H6=>te σ4 H6 fun y H7=>∃ key,kk=kV key/\H7 l=some (.dK ys)/\ys.length<sizeLine/\∃ m',m'<m/\W (i+1) m' (putK ys key y) (upd H7 l (.dK (putK ys key y))) else ∃ m',m'<m/\W (i+1) m' ys H5)
section
variable {X:Cx} {tg kx vx iter:Expr} {ifs:List Expr} {scope:Scope} {pos:Pos} {wi:TI} {g:TG} {tc:TT} {tk te:TE} {N:List Str} {js:List (Option Nat)}
theorem ou {use:Option (Value->Sem Unit)} {pins:List (Addr×Obj)} {s:Shared} {σ:St} {H:Hp} {Q:VK} {QQ:Value->Shared->Prop} {E:Value->Shared->Prop} {pos':Pos} (hc:X.calm=true) (hx:X.xe=fun _ _=>False) (hi:PI X tg iter wi)
  (hg:∀ C s₀ H₀ ex pn,PG (cxComp X scope N C s₀ H₀ ex pn) tg g) (ht:∀ C s₀ H₀ ex pn,PF (cxComp X scope N C s₀ H₀ ex pn) ifs tc) (hk:∀ C s₀ H₀ ex pn,PE (cxComp X scope N C s₀ H₀ ex pn) kx tk) (he:∀ C s₀ H₀ ex pn,PE (cxComp X scope N C s₀ H₀ ex pn) vx te) (hgs:Gsets js g)
  (hsc:scOk X.env scope=true) (hcap:capOk X.N scope N js=true) (hkind:scope.kind=.function) (hs:∀ x,foldedSetIterable iter X.env x=pure x)
  (I:Inv X pins σ H s) (h:tDC wi g tc tk te js σ H Q)
  (fin:∀ (l C:Addr) (H':Hp) (s':Shared),Inv X pins σ H' s'->Q (.ref l) H'->H' C=none->C≠X.env.locals->X.s₀.heap.objs.size<=C->(∀ x c,X.env.cells.lookup x=some c->c≠C)->(∀ p∈X.pn++pins,p.1≠C)->(∃ m,s'.heap.Ns C m)->compPost (model X.prog X.w) X.A E use QQ (.ref l) C (.ok .next) s') :
  wpAny (model X.prog X.w) X.A (comprehension (.DictComp kx vx [⟨tg,iter,ifs,0⟩] scope pos) scope X.env pos' newDict false (eval iter X.env) use) QQ E s:=by
 have SC:=nG hsc
 have CP:=mO hcap
 refine wpAny_comprehension_free (cl:=clOf X.env.cells scope.names []) rfl hs (fL (SC.cells I.ok)) hkind SC.lc ?_
 refine wpAny_mono (hi pins s σ H _ I h) (fun v s1 h1=>wpAny_mono h1 (fun itv s2 h2=>?_) (fun _ _ z=>by rw [hx] at z; exact z.elim)) (fun _ _ z=>by rw [hx] at z; exact z.elim)
 obtain ⟨it,fp,tn,J,H2,rfl,I2,T,st2,f2,hq⟩:=h2
 have hD0:H2 s2.heap.objs.size=none:=I2.hok.fresh (Nat.le_refl _)
 obtain ⟨W,⟨m0,w0⟩,turn⟩:=hq s2.heap.objs.size hD0
 refine wpAny_bind (wpAny_alloc (wpAny_pure (wpAny_newFunctionEnv (fun x hx=>SC.nc x hx) (by intro y hy; simp at hy) (fun h₁ hns₁ hsb₁=>?_) hkind)))
 dsimp only at hns₁ hsb₁ ⊢
 generalize hH3:s2.heap.push ({ cls:=.type "dict",data:=.dict #[] }:Obj)=hp3 at hns₁ hsb₁ ⊢
 have hCs:hp3.objs.size=s2.heap.objs.size+1:=by rw [<- hH3,Heap.size_push]
 have I3:Inv X pins σ (upd H2 s2.heap.objs.size (.dK [])) { s2 with heap:=hp3 }:=by
  rw [<- hH3]
  exact I2.laid (t':=s2.toks) (fun b u e=>Heap.get?_push_of_some _ e) (Nat.le_refl _) (mI s2.heap I2.big)
 have keep:∀ b o,hp3.get? b=some o->h₁.get? b=some o:=fun b o e=>hsb₁.extBut b o (Nat.ne_of_lt (Heap.lt_size e)) (Heap.get?_push_of_some _ e)
 have fpo:∀ b∈fp,b<s2.heap.objs.size:=fun b hb=>by
  obtain ⟨o,e,_⟩:=T.obj _ _ st2 b hb
  exact Heap.lt_size e
 have f3:∀ b∈fp,FpOk X pins (upd H2 s2.heap.objs.size (.dK [])) b:=fun b hb=>⟨by rw [ah (Nat.ne_of_lt (fpo b hb))]; exact (f2 b hb).1,(f2 b hb).2⟩
 have J4:=mv (tk:=s2.toks+([]:List (Str×Value)).length) (C:=hp3.objs.size) (fp:=fp) (h₁:=h₁) (scope:=scope) (N:=N) (js:=js) I3 SC CP hkind f3 (fun b hb=>by show b<hp3.objs.size; rw [hCs]; exact Nat.lt_succ_of_lt (fpo b hb)) rfl keep (by
  have:(fun x=>List.lookup x ([]:List (Str×Value)).reverse)=fun _=>none:=by funext x; rfl
  rw [this] at hns₁; exact hns₁)
 have st4:tn 0 h₁:=T.keep _ _ _ st2 fun b hb o e=>keep b o (by rw [<- hH3]; exact Heap.get?_push_of_some _ e)
 have loop:∀ s4:Shared,s4={ s2 with heap:=h₁,toks:=s2.toks+([]:List (Str×Value)).length } ->
   codeAny (model X.prog X.w) X.A (.compLoop (.DictComp kx vx [⟨tg,iter,ifs,0⟩] scope pos) 0 (.ref it) (.ref s2.heap.objs.size) (compEnvC scope (clOf X.env.cells scope.names []) hp3.objs.size X.env)) (compPost (model X.prog X.w) X.A E use QQ (.ref s2.heap.objs.size) hp3.objs.size) s4:=by
  rintro s4 rfl
  generalize hY:cxComp X scope N hp3.objs.size { s2 with heap:=hp3 } (upd H2 s2.heap.objs.size (.dK [])) fp (X.pn++pins)=Y at J4
  have fpY:∀ {H':Hp},(∀ b∈fp,H' b=none)->∀ b∈fp,FpOk Y [] H' b:=fun hn b hb=>by
   subst hY
   refine ⟨hn b hb,?_,?_,.inl hb,fun x c e=>?_,fun p hp=>?_⟩
   ·show b≠hp3.objs.size
    rw [hCs]; exact Nat.ne_of_lt (Nat.lt_succ_of_lt (fpo b hb))
   ·intro z
    rcases List.mem_cons.mp (I3.stkSub b z) with q | q
    ·exact (f3 b hb).2.1 q
    ·exact (f3 b hb).2.2.1 q
   ·exact (f3 b hb).2.2.2.2.1 x c (dn (SC.cells I.ok) (fun c e=>by simp at e) e)
   ·exact (f3 b hb).2.2.2.2.2 p (by simpa [cxComp] using hp)
  have hgY:PG Y tg g:=by subst hY; exact hg _ _ _ _ _
  have htY:PF Y ifs tc:=by subst hY; exact ht _ _ _ _ _
  have hkY:PE Y kx tk:=by subst hY; exact hk _ _ _ _ _
  have heY:PE Y vx te:=by subst hY; exact he _ _ _ _ _
  have eA:Y.A=X.A:=by subst hY; rfl
  have eP:Y.prog=X.prog:=by subst hY; rfl
  have eW:Y.w=X.w:=by subst hY; rfl
  have eK:Y.K=X.K:=by subst hY; rfl
  have eC:Y.calm=true:=by subst hY; exact hc
  have eX:Y.xe=fun _ _=>False:=by subst hY; rfl
  have eE:Y.env=compEnvC scope (clOf X.env.cells scope.names []) hp3.objs.size X.env:=by subst hY; rfl
  have T':Turn Y.prog Y.w Y.K tg J fp it tn:=by rw [eP,eW,eK]; exact T
  have eL:(capS js σ).length=js.length:=by unfold capS; rw [List.length_map]
  rw [<- eP,<- eW,<- eA,<- eE]
  refine codeAny_loop rfl (fun n s'=>∃ i ys H',Inv Y [] (capS js σ) H' s'/\tn i s'.heap/\(∀ b∈fp,H' b=none)/\W i n ys H') (fun n s' hI=>?_) m0 ⟨0,[],_,J4,st4,fun b hb=>(f3 b hb).1,w0⟩
  obtain ⟨i,ys,H5,I5,st5,fr5,w5⟩:=hI
  show wpAny _ Y.A ((compTurn (.DictComp kx vx [⟨tg,iter,ifs,0⟩] scope pos) 0 (.ref it) (.ref s2.heap.objs.size) Y.env).onRaise (fun x=>do noteFrame x Y.env; theTreesLotGoes x)) _ _ s'
  refine wpAny_noted ?_
  rw [compTurn_dict]
  refine wpAny_bind (wpAny_standAt (wpAny_bind ?_))
  have noE:∀ (x:Value) (s:Shared) (P:Prop),Y.xe x s->P:=fun x s P z=>by rw [eX] at z; exact z.elim
  rcases turn i n ys H5 w5 with ⟨stop,qn⟩ | ⟨go,step⟩
  ·refine wpAny_mono (T'.done Y rfl rfl rfl eC i [] s' _ H5 Y.xe I5 (fpY fr5) st5 stop) (fun r s6 ⟨hr,I6⟩=>?_) fun x s z=>noE x s _ z
   subst hr
   refine wpAny_pure ?_
   show compPost _ _ _ _ _ _ _ _ _
   rw [eP,eW,eA]
   have back:Inv X pins σ H5 s6:=by subst hY; exact mw I3 I6 f3
   have hn6:∃ m,s6.heap.Ns hp3.objs.size m:=by
    obtain ⟨m,hm,_⟩:=I6.loc
    have:Y.env.locals=hp3.objs.size:=by rw [eE]; rfl
    rw [this] at hm
    exact ⟨m,hm⟩
   have hC6:H5 hp3.objs.size=none:=by
    have:=I6.free
    have e:Y.env.locals=hp3.objs.size:=by rw [eE]; rfl
    rw [e] at this; exact this
   refine fin s2.heap.objs.size hp3.objs.size H5 s6 back qn hC6 ?_ ?_ ?_ ?_ hn6
   ·exact Nat.ne_of_gt I3.lt
   ·exact I3.sz
   ·intro x c e z
    obtain ⟨v,o,ho,_⟩:=I3.cell x c e
    exact absurd (Heap.lt_size ho) (by rw [z]; exact Nat.lt_irrefl _)
   ·intro p hp z
    have:=Heap.lt_size (I3.pin p hp).1
    rw [z] at this; exact absurd this (Nat.lt_irrefl _)
  ·refine wpAny_mono (T'.item Y rfl rfl rfl eC i [] s' _ H5 Y.xe I5 (fpY fr5) st5 go) (fun r s6 h6=>?_) fun x s z=>noE x s _ z
   obtain ⟨u,hr,h6⟩:=h6
   subst hr
   dsimp only
   refine wpAny_bind ?_
   refine wpAny_mono h6 (fun _ s7 h7=>?_) fun x s z=>noE x s _ z
   obtain ⟨x,H7,I7,r7,y7,st7,fr7⟩:=h7
   have I7':=I7.pinned (fpY fr7) (T.obj _ _ st7)
   have g7:=hgs x (capS js σ) H7 _ (step x H7 y7)
   refine wpAny_bind ?_
   refine wpAny_mono (hgY _ s7 (capS js σ) H7 x u _ I7' r7 g7) (fun _ s8 h8=>?_) fun x s z=>noE x s _ z
   obtain ⟨σ8,H8,I8,q8,l8,k8⟩:=h8
   refine wpAny_bind ?_
   refine wpAny_mono (htY _ s8 σ8 H8 _ I8 q8) (fun b s9 h9=>?_) fun x s z=>noE x s _ z
   obtain ⟨H9,I9,q9⟩:=h9
   have again:∀ {s':Shared} {H':Hp},Inv Y ([]++pinsAt fp s7.heap) σ8 H' s'->Inv Y [] (capS js σ) H' s'/\tn (i+1) s'.heap/\∀ b∈fp,H' b=none:=fun {s' H'} I'=>by
    refine ⟨(I'.unpinned).weak l8.symm fun k v e=>?_,T.keep _ _ _ st7 fun b hb o e=>(I'.pin (b,o) (List.mem_append_right _ (List.mem_append_right _ (bR hb e)))).1,fun b hb=>?_⟩
    ·cases ej:js[k]? with
     | none =>
      unfold capS at e
      rw [List.getElem?_map,ej] at e; cases e
     | some o =>
      cases o with
      | none =>
       unfold capS at e
       rw [List.getElem?_map,ej] at e; cases e
      | some j=>rw [k8 k j ej]; exact e
    ·obtain ⟨o,e,d⟩:=T.obj _ _ st7 b hb
     exact (I'.pin (b,o) (List.mem_append_right _ (List.mem_append_right _ (bR hb e)))).2.1
   cases b with
   | false =>
    rw [if_neg Bool.false_ne_true] at q9
    obtain ⟨m',hm,w9⟩:=q9
    obtain ⟨a1,a2,a3⟩:=again I9
    exact wpAny_pure ⟨rfl,m',hm,i+1,ys,H9,a1,a2,a3,w9⟩
   | true =>
    rw [if_pos rfl] at q9
    refine wpAny_bind (wpAny_bind ?_)
    refine wpAny_mono (hkY _ s9 σ8 H9 _ I9 q9) (fun kv s10 h10=>?_) fun x s z=>noE x s _ z
    obtain ⟨kk,H10,I10,r10,q10⟩:=h10
    refine wpAny_bind (wpAny_holding ?_)
    refine wpAny_mono (heY _ s10 σ8 H10 _ I10 q10) (fun vv s11 h11=>?_) fun x s z=>noE x s _ z
    obtain ⟨yv,H11,I11,r11,key,ek,e11,z11,m',hm,w11⟩:=h11
    subst ek
    refine wpAny_bind (wpAny_standAt (wpAny_holding ?_))
    obtain ⟨zz,hd,vs,rel,dd⟩:=jl I11.hok e11
    have hz:vs.length<=sizeLine:=by rw [<- rel.length]; exact zz
    have hl:(putK ys key yv).length<=sizeLine:=by have:=cD ys key yv; omega
    refine wpAny_dictSet_pairs (hsz:=hz) (dE r10) dd fun h' dd' hs=>?_
    have he:∃ q,h'.get? s2.heap.objs.size=some q:=let ⟨q,_,_,hq,_⟩:=dd'; ⟨q,hq⟩
    have I12:Inv Y _ σ8 (upd H11 s2.heap.objs.size (.dK (putK ys key yv))) { s11 with heap:=h',toks:=s11.toks+1 }:=gQ (t':=s11.toks+1) I11 (by rw [e11]; exact True.intro) hs he (mH hl hd (rel.put key r11) dd')
    obtain ⟨a1,a2,a3⟩:=again I12
    exact wpAny_pure ⟨rfl,m',hm,i+1,putK ys key yv,_,a1,a2,a3,w11⟩
 exact codeAny_compStart_dict (loop _ rfl) (T.self X.A 0 _ _ _ st4 (loop _ rfl))
theorem wx (hi:PI X tg iter wi) (hg:∀ C s₀ H₀ ex pn,PG (cxComp X scope N C s₀ H₀ ex pn) tg g) (ht:∀ C s₀ H₀ ex pn,PF (cxComp X scope N C s₀ H₀ ex pn) ifs tc) (hk:∀ C s₀ H₀ ex pn,PE (cxComp X scope N C s₀ H₀ ex pn) kx tk) (he:∀ C s₀ H₀ ex pn,PE (cxComp X scope N C s₀ H₀ ex pn) vx te) (hgs:Gsets js g)
  (hc:autoParam (X.calm=true) Z2._auto_1) (hx:autoParam (X.xe=(fun _ _=>False)) Z2._auto_1) (hsc:autoParam (scOk X.env scope=true) Z2._auto_1) (hcap:autoParam (capOk X.N scope N js=true) Z2._auto_1) (hkind:autoParam (scope.kind=.function) Z2._auto_1) (hs:autoParam (∀ x,foldedSetIterable iter X.env x=pure x) Z3._auto_1) :
  PE X (.DictComp kx vx [⟨tg,iter,ifs,0⟩] scope pos) (tDC wi g tc tk te js):=by
 intro pins s σ H Q I h
 show wpAny _ X.A (comprehension (.DictComp kx vx [⟨tg,iter,ifs,0⟩] scope pos) scope X.env _ newDict false (eval iter X.env)) _ _ s
 refine ou (use:=none) hc hx hi hg ht hk he hgs hsc hcap hkind hs I h fun l C H' s' I' q f0 f1 f2 f3 f4 ⟨m,hm⟩=>?_
 refine ⟨m,hm,fun h' sb=>⟨.ref l,H',?_,rfl,q⟩⟩
 exact I'.turned (t':=s'.toks) (it:=C) (fun b o hb e=>sb.extBut b o hb e) f0 f1 (.inr f2) f3 f4
theorem sT {i:Nat} {y:Str} {py spos:Pos} (hN:X.N.Nodup) (hy:X.N[i]?=some y) (hl:X.env.scope.names.lookup y=some .local) (hi:PI X tg iter wi) (hg:∀ C s₀ H₀ ex pn,PG (cxComp X scope N C s₀ H₀ ex pn) tg g) (ht:∀ C s₀ H₀ ex pn,PF (cxComp X scope N C s₀ H₀ ex pn) ifs tc) (hk:∀ C s₀ H₀ ex pn,PE (cxComp X scope N C s₀ H₀ ex pn) kx tk) (he:∀ C s₀ H₀ ex pn,PE (cxComp X scope N C s₀ H₀ ex pn) vx te) (hgs:Gsets js g)
  (hsw:autoParam (swapsWith (.DictComp kx vx [⟨tg,iter,ifs,0⟩] scope pos) (some (.Name y py)) spos.line X.env=pure true) Z2._auto_1)
  (hc:autoParam (X.calm=true) Z2._auto_1) (hx:autoParam (X.xe=(fun _ _=>False)) Z2._auto_1) (hsc:autoParam (scOk X.env scope=true) Z2._auto_1) (hcap:autoParam (capOk X.N scope N js=true) Z2._auto_1) (hkind:autoParam (scope.kind=.function) Z2._auto_1) (hs:autoParam (∀ x,foldedSetIterable iter X.env x=pure x) Z3._auto_1) :
  PS X (.Assign [.Name y py] (.DictComp kx vx [⟨tg,iter,ifs,0⟩] scope pos) spos) (tAsg (tDC wi g tc tk te js) (gName i)):=by
 intro pins s σ H D I h
 rw [exec_Assign_Name_used _ _ _ _ hsw]
 refine wpAny_bind (wpAny_standAt (wpAny_bind ?_))
 show wpAny _ X.A (do let _ <- comprehension (.DictComp kx vx [⟨tg,iter,ifs,0⟩] scope pos) scope X.env _ newDict false (eval iter X.env) (some (assign (.Name y py) X.env))) _ _ s
 refine wpAny_bind (wpAny_mono (ou (use:=some (assign (.Name y py) X.env)) (E:=X.xe) (QQ:=fun _ s'=>SP X pins D .next s') hc hx hi hg ht hk he hgs hsc hcap hkind hs I h fun l C H' s' I' q f0 f1 f2 f3 f4 ⟨m,hm⟩=>?_) (fun _ s' hq=>wpAny_pure (wpAny_pure hq)) fun _ _ e=>e)
 show wpAny _ X.A (assign (.Name y py) X.env (.ref l)) _ _ _
 refine wpAny_assign_Name (fR I' hN hy (.inl hl) (v:=.ref l) rfl (fun s'' I'' ⟨a,sb,ha⟩=>?_) (.inr hl))
 have haC:C≠a:=by
  rcases ha with rfl | ha
  ·exact f1
  ·exact fun z=>f3 _ _ ha z.symm
 refine ⟨m,hm.sameBut sb haC,fun h' sb'=>⟨_,H',?_,q⟩⟩
 exact I''.turned (t':=s''.toks) (it:=C) (fun b o hb e=>sb'.extBut b o hb e) f0 f1 (.inr f2) f3 f4
end
end L2
namespace L2
open PySem PySem.Spec PyProof.Rows
section
variable {X:Cx}
theorem ib:∀ {bs:List Bool} {us:List Value},Vals (bs.map V.bl) us->LSm.BoolsAre us bs
 | [],_,r=>by cases r; exact .nil
 | b::bs,_,r=>by
  cases r with
  | cons r1 r2=>cases r1; exact .cons b (ib r2)
theorem sN (hc:X.calm=true):CallR X (.builtin "all") (fun xs H Q=>∃ (p:Addr) (bs:List Bool),xs=[.ref p]/\SqL X.K H p (bs.map V.bl)/\Q (.bl (bs.all id)) H):=by
 intro pins s σ H xs us Q I r h
 obtain ⟨p,bs,rfl,hq,q⟩:=h
 obtain ⟨u,rfl,ru⟩:=r.one
 cases ru
 obtain ⟨its,rv,pl,hz⟩:=I.list hq
 have hb:=ib rv
 have hl:=pl.isList
 have hlt:p<s.heap.objs.size:=by obtain ⟨_,e,_⟩:=hl; exact Heap.lt_size e
 refine call_all_walk (wpAny_pyIter_list hl ⟨s.heap.objs.size,[s.heap.objs.size,p],[s.heap.objs.size],its.toArray.size,_,_,fun i=>(bs[i]?).getD true,rfl,
  Walks.list (A:=X.A.in1) (I.ok.hd hc) _ p (Nat.ne_of_lt hlt) its.toArray,⟨⟨_,Heap.get?_push_size _ rfl,rfl,rfl⟩,hl.push _⟩,fun i v s' Q' E' hP hQ=>?_,fun h' tk hk=>?_⟩)
 ·obtain ⟨b,eb,rfl⟩:=hb.get i v (by simpa using hP)
  simp only [eb,Option.getD_some] at hQ
  exact wpAny_truthy_bool hQ
 ·have eb:((List.range its.toArray.size).all fun i=>(bs[i]?).getD true)=bs.all id:=by
   rw [List.size_toArray,hb.length,LSm.range_all bs]
  rw [eb]
  exact ⟨.bl (bs.all id),H,I.kept (LSm.kept_iter hk),rfl,q⟩
end
end L2
namespace L2
open PySem PySem.Spec PyProof.Rows
section
variable {prog:Program} {w:World} {A:Around} {E:Value->Shared->Prop} {s:Shared}
theorem t9 {j t:Addr} {n:Nat} {its:Array Value} {x:Value} {Q:Value->Shared->Prop} (gj:s.heap.IsTupleIter j t n) (gt:s.heap.IsTuple t its) (gx:its[n]?=some x)
  (k:∀ h',h'.IsTupleIter j t (n+1)->Heap.SameBut j s.heap h'->Q x { s with heap:=h' }):wpAny (model prog w) A (Builtin.SmallTypes.nextOf (.ref j)) Q E s:=by
 obtain ⟨oj,j1,j2,j3⟩:=id gj
 obtain ⟨ot,t1,_,m,t3⟩:=gt
 unfold Builtin.SmallTypes.nextOf
 refine wpAny_bind (wpAny_callSpecial?_slot (name:=Str.ofString "__next__") gj.typeIs F.slot_tuple_iterator_next (wpAny_call_entry F.slot_tuple_iterator_next gj.typeIs F.entry_tuple_iterator_next ?_ (F.args_tuple_iterator_next_1 _)))
 show wpAny _ _ (field (.ref j) 0 >>= _) _ _ s
 refine wpAny_bind (wpAny_field j1 j3 (x:=.ref t) rfl ?_)
 show wpAny _ _ (if (Value.ref t==.none)=true then _ else _) _ _ s
 rw [if_neg (show ¬ ((Value.ref t==.none)=true) from Bool.false_ne_true)]
 show wpAny _ _ (field (.ref j) 1 >>= _) _ _ s
 refine wpAny_bind (wpAny_field j1 j3 (x:=.int n 0) rfl ?_)
 refine wpAny_bind (m:=seqItems? (.ref t)) (wpAny_seqItems t1 t3 ?_)
 simp only [Int.toNat_natCast,gx]
 refine wpAny_bind (wpAny_setField j1 j3 (by simp) (wpAny_pure ⟨x,rfl,wpAny_pure (k _ ⟨_,Heap.get?_update_self _ j1 (Obj.isFreed_of_fields (Obj.data_mapFields j3 _)),(Obj.cls_mapFields ..).trans j2,?_⟩ (Heap.SameBut.update ..))⟩))
 rw [Obj.data_mapFields j3]
 simp [rawInt]
theorem endTup {j t:Addr} {n:Nat} {its:Array Value} {Q:Value->Shared->Prop} (hh:A.handled=none) (gj:s.heap.IsTupleIter j t n) (gt:s.heap.IsTuple t its) (gx:its[n]?=none)
  (k:∀ h' e,Heap.ExtBut j s.heap h'->(∃ o,h'.get? e=some o/\o.cls=.type "StopIteration")->E (.ref e) { s with heap:=h' }):wpAny (model prog w) A (Builtin.SmallTypes.nextOf (.ref j)) Q E s:=by
 obtain ⟨oj,j1,j2,j3⟩:=id gj
 obtain ⟨ot,t1,_,m,t3⟩:=gt
 unfold Builtin.SmallTypes.nextOf
 refine wpAny_bind (wpAny_callSpecial?_slot (name:=Str.ofString "__next__") gj.typeIs F.slot_tuple_iterator_next (wpAny_call_entry F.slot_tuple_iterator_next gj.typeIs F.entry_tuple_iterator_next ?_ (F.args_tuple_iterator_next_1 _)))
 show wpAny _ _ (field (.ref j) 0 >>= _) _ _ s
 refine wpAny_bind (wpAny_field j1 j3 (x:=.ref t) rfl ?_)
 show wpAny _ _ (if (Value.ref t==.none)=true then _ else _) _ _ s
 rw [if_neg (show ¬ ((Value.ref t==.none)=true) from Bool.false_ne_true)]
 show wpAny _ _ (field (.ref j) 1 >>= _) _ _ s
 refine wpAny_bind (wpAny_field j1 j3 (x:=.int n 0) rfl ?_)
 refine wpAny_bind (m:=seqItems? (.ref t)) (wpAny_seqItems t1 t3 ?_)
 simp only [Int.toNat_natCast,gx]
 refine wpAny_bind (wpAny_rule (wpAny_bind (wpAny_setField j1 j3 (by simp) ?_)))
 refine wpAny_bind (m:=newExc (.type "StopIteration") []) ?_
 simp only [newExc,newTuple]
 refine wpAny_bind (wpAny_newObj_type (wpAny_bind (m:=firstArgMember _ _) (wpAny_of_eq (a:=Value.none) (by first | rfl | (simp only [firstArgMember]; rfl)) (wpAny_newObj_type ?_ (by size_fits)))) (by size_fits))
 simp only [raiseNew]
 refine wpAny_bind (wpAny_handled ?_)
 first | rw [show A.in1.handled=none from hh] | rw [hh]
 exact wpAny_bind (wpAny_pure (wpAny_throw (k _ _ (((Heap.SameBut.update ..).extBut.push _).push _) ⟨_,Heap.get?_push_size _ rfl,rfl⟩)))
structure ZipT (h:Heap) (z u o i1 i2 t1 t2:Addr) (n:Nat):Prop where
 zz:IsZip h z u o .none
 uu:IsPair h u (.ref i1) (.ref i2)
 oo:∃ a b,IsPair h o a b
 a1:h.IsTupleIter i1 t1 n
 a2:h.IsTupleIter i2 t2 n
end
end L2
namespace L2
open PySem PySem.Spec PyProof.Rows
section
variable {prog:Program} {w:World} {A:Around} {E:Value->Shared->Prop} {s:Shared}
end
section
variable {X:Cx} {pins:List (Addr×Obj)} {σ:St} {H:Hp} {s:Shared}
theorem Inv.turnedL {t':Nat} {fp:List Addr} {h':Heap} (I:Inv X pins σ H s) (k:∀ b o,b∉fp->s.heap.get? b=some o->h'.get? b=some o) (hf:∀ b∈fp,FpOk X pins H b):Inv X pins σ H { s with heap:=h',toks:=t' }:=by
 have nit:∀ b u,H b=some u->b∉fp:=fun b u e z=>by rw [(hf b z).1] at e; cases e
 refine I.step (g':=s.gens) (d':=s.drawn) (ch:=fp) (fun b hb=>?_) (fun b o _ _ hc e _=>k b o hc e) (fun b o _ _ hc e _=>⟨o.slots,k b o hc e⟩) (fun _ _ _ _ n=>n)
  (fun b o hc e=>⟨o,k b o hc e⟩) (fun _ _ e=>e) (fun _ _ _ e=>e) (fun b ps e=>⟨#[],by rw [e]; simp⟩) (fun m hm=>?_) (fun b u e=>?_) I.bare
 ·obtain ⟨f0,f1,f2,f3,f4,f5⟩:=hf b hb
  exact ⟨f3,f1,f4,f5⟩
 ·obtain ⟨o,es,ep,ho,r⟩:=hm
  exact ⟨o,es,ep,k _ o (fun z=>(hf _ z).2.1 rfl) ho,r⟩
 ·refine (I.hok b u e).stay (fun c v hc q=>k c v ?_ q) (fun _ q=>q) fun _ _ q=>q
  rcases hc with z | z
  ·rw [z]; exact nit b u e
  ·exact nit c _ z
end
section
variable {X:Cx}
end
end L2
namespace L2
open PySem PySem.Spec PyProof.Rows
section
variable {prog:Program} {w:World} {A:Around} {E:Value->Shared->Prop} {s:Shared}
theorem g5 {t sl:Addr} {its:Array Value} {vl vu:Value} {lo hi:Option Int} {Q:Value->Shared->Prop} (g:IsTup s.heap t its) (hs:s.heap.IsSliceOf sl vl vu .none) (pl:IsPart vl lo) (pu:IsPart vu hi)
  (hw:HT.sIx its.size 0 lo=0/\HT.sIx its.size its.size hi=its.size) (k:Q (.ref t) s):wpAny (model prog w) A (getItem (.ref t) (.ref sl)) Q E s:=by
 obtain ⟨q,q1,q2,q3⟩:=id hs
 have ty:s.TypeIs (.ref sl) "slice" := ⟨q,q1,q2⟩
 unfold getItem
 try with_reducible refine wpAny_holding ?_
 first | refine wpAny_bind (wpAny_pure ?_) | skip
 refine wpAny_bind (wpAny_sequenceKey g.typeIs (by decide) (wpAny_bind (wpAny_callSpecial?_slot (name:=Str.ofString "__getitem__") g.typeIs PyProof.Rows.slot_tuple_getitem (wpAny_call_entry PyProof.Rows.slot_tuple_getitem g.typeIs entry_tuple_getitem ?_ (args_tuple_getitem _ _)))))
 refine wpAny_bind (m:=Builtin.Tuple.tupleItemsOf (.ref t)) (tupleItemsOf_ g (wpAny_bind (wpAny_typeOf ty ?_)))
 rw [if_pos (by decide)]
 refine wpAny_bind (HT.sliceApplied_gen hs pl pu ?_)
 show wpAny _ _ (if (((HT.sIx its.size 0 lo:Nat):Int)==0 && (1:Int)==1 && (HT.sIx its.size its.size hi - HT.sIx its.size 0 lo)==its.size)=true then _ else _) _ _ s
 rw [if_pos (by rw [hw.1,hw.2]; simp)]
 refine wpAny_bind ?_
 unfold Builtin.Tuple.tupleIsExact
 refine wpAny_bind (wpAny_typeOf g.typeIs (wpAny_pure ?_))
 rw [if_pos (by decide)]
 exact wpAny_bind (wpAny_rule (wpAny_pure ⟨_,rfl,wpAny_pure k⟩))
end
section
variable {X:Cx}
noncomputable def rSlW (K:PySem.W.Frag):V->Option Int->Option Int->Hp->VK->Prop:=fun x lo hi H Q=>∃ a xs,x=.ref a/\SqT K H a xs /\
 (HT.sIx xs.length 0 lo=0/\HT.sIx xs.length xs.length hi=xs.length->Q (.ref a) H)/\∀ p,H p=none->Q (.ref p) (upd H p (.tup (cutV xs lo hi)))
theorem tG:SlR X (rSlW X.K):=by
 intro pins s σ H x v vl vu lo hi sl Q I rx hs pl pu h
 obtain ⟨a,xs,rfl,hx,hq,q⟩:=h
 by_cases hw:HT.sIx xs.length 0 lo=0/\HT.sIx xs.length xs.length hi=xs.length
 ·cases rx
  obtain ⟨its,r,ht,hz⟩:=I.tuple hx
  have hn:its.toArray.size=xs.length:=by rw [List.size_toArray]; exact r.length.symm
  refine ⟨"tuple",_,PyProof.Rows.slot_tuple_getitem.lookup,ht.typeIs,g5 ht hs pl pu (by rw [hn]; exact hw) ⟨.ref a,H,I,rfl,hq hw⟩⟩
 ·exact uT pins s σ H (.ref a) v vl vu lo hi sl Q I rx hs pl pu ⟨a,xs,rfl,hx,hw,q⟩
end
end L2
namespace L2
open PySem PySem.Spec PyProof.Rows
section
variable {prog:Program} {w:World} {A:Around} {E:Value->Shared->Prop} {s:Shared}
theorem oT {x:Value} {Q:Value->Shared->Prop} (hc:wpAny (model prog w) A.in1 (collect x) (fun vs s1=>∃ (ss:List Str) (h1:Heap) (tk:Nat),s1={ s with heap:=h1,toks:=tk }/\StrsAre vs ss/\vs.length<64 /\
   (∀ (h2:Heap) (out:List Value) (ss':List Str) (n:Nat),(∀ b o,h1.get? b=some o->h2.get? b=some o)->h2.get? h1.objs.size=some (seqObj "list" out.toArray n)->StrsAre out ss'->ss'.Perm ss->sortedS ss'=true->Q (.ref h1.objs.size) { s with heap:=h2,toks:=tk })) E s) :
  wpAny (model prog w) A (call (.builtin "sorted") [x]) Q E s:=by
 refine Calls.call_function_entry kind_sorted plain_sorted entry_sorted (args_sorted1 _) ?_
 unfold Builtin.«sorted»
 refine wpAny_bind (m:=checkCount "sorted" 1 1 _) (wpAny_pure (wpAny_bind (wpAny_mono hc (fun vs s1 hv=>?_) fun _ _ e=>e)))
 obtain ⟨ss,h1,tk,rfl,hS,h64,k⟩:=hv
 refine wpAny_bind (wpAny_newList ?_ (by rw [sizeLine_eq]; omega))
 have at1:(h1.push (seqObj "list" vs.toArray 0)).get? h1.objs.size=some (seqObj "list" vs.toArray 0):=Heap.get?_push_size _ rfl
 refine wpAny_bind (wpAny_holding (wpAny_call_entry slot_list_sort ⟨_,at1,rfl⟩ entry_list_sort (list_sort_treeK strKind_oneLt at1 hS.keysOf (fun v₁ v₂ rest e=>keyKind_strs (by rw [<- e]; exact hS)) h64 fun st p q=>⟨_,rfl,?_⟩) (args_list_sort _)))
 obtain ⟨ss',b1,b2,b3⟩:=sorted_out_str hS p q
 obtain ⟨n,at2⟩:=sortedHeap_at (out:=(arrOf st).map (·.2)) at1
 refine wpAny_pure ⟨_,rfl,k _ ((arrOf st).map (·.2)).toList ss' n (fun b o e=>?_) (by rw [Array.toArray_toList]; exact at2) b1 b2 b3⟩
 have lt:=Heap.lt_size e
 rw [sortedHeap_old (Nat.ne_of_lt lt) (by rw [size_push']; exact Nat.lt_succ_of_lt lt)]
 exact Heap.get?_push_of_some _ e
end
section
variable {X:Cx}
theorem mt {P:Program} {w:World}:∀ {kvs:List (Key×Value)} {ss:List Str} {vs:List Value},kvs.map (·.1)=ss.map Sum.inr->vs.length=kvs.length->(∀ (j:Nat) (v:Value),vs[j]?=some v->∃ k x,kvs[j]?=some (k,x)/\(aI P w).is k v=true)->StrsAre vs ss
 | [],ss,vs,e,hl,_=>by
  have:ss=[]:=by cases ss with | nil=>rfl | cons _ _=>cases e
  subst this
  have:vs=[]:=List.length_eq_zero_iff.mp hl
  subst this
  exact .nil
 | (k,x)::r,ss,vs,e,hl,h=>by
  cases ss with
  | nil=>cases e
  | cons y ys =>
   cases vs with
   | nil=>cases hl
   | cons v us =>
    rw [List.map_cons,List.map_cons] at e
    injection e with e1 e2
    obtain ⟨k',x',e3,e4⟩:=h 0 v rfl
    have e3':(k,x)=(k',x'):=Option.some.inj e3
    cases e3'
    have e1':k=Sum.inr y:=e1
    subst e1'
    obtain ⟨t,rfl⟩:=Value.isStrOf_shape (x:=y) (v:=v) e4
    exact .cons y t (mt e2 (by simpa using hl) fun j u hj=>h (j+1) u hj)
noncomputable def rSortD:List V->Hp->VK->Prop:=fun xs H Q=>∃ (d:Addr) (kvs:List (Key×V)) (ss:List Str),xs=[.ref d]/\H d=some (.dK kvs)/\kvs.map (·.1)=ss.map Sum.inr/\ss.length<64 /\
 ∀ (l:Addr) (ss':List Str),H l=none->ss'.Perm ss->ss'.Pairwise (fun a b=>¬ ltS b a)->Q (.ref l) (upd H l (.lst (ss'.map V.str)))
theorem pD (hc:X.calm=true):CallR X (.builtin "sorted") rSortD:=by
 intro pins s σ H xs us Q I r h
 obtain ⟨d,kvs,ss,rfl,hd,hk,h64,k⟩:=h
 obtain ⟨u,rfl,ru⟩:=r.one
 cases ru
 obtain ⟨hz,lo,vs,hkv,hD⟩:=I.hok d _ hd
 obtain ⟨ep,hat⟩:=hD.dictAt
 have hkeys:vs.map (·.1)=ss.map Sum.inr:=by rw [<- hk]; exact hkv.keys.symm
 have hlen:vs.length=ss.length:=by have:=congrArg List.length hkeys; simpa using this
 refine oT (PySem.W.kdu_collect (A:=X.A.in1) (PySem.W.kdl_dict (knd:=aI X.prog X.w) (kvs:=vs) (ep:=ep) lo) (I.ok.hd hc) hat (by rw [hlen,sizeLine_eq]; omega) fun h1 tk acc kk hit=>?_)
 have hl:acc.toList.length=vs.length:=by rw [Array.length_toList]; exact hit.1
 have hS:StrsAre acc.toList ss:=mt hkeys hl fun j v e=>hit.2 j v (by rw [<- Array.getElem?_toList]; exact e)
 refine ⟨ss,h1,tk,rfl,hS,by rw [hl,hlen]; exact h64,fun h2 out ss' n k2 e2 o1 o2 o3=>?_⟩
 have I1:Inv X pins σ H { s with heap:=h1,toks:=tk }:=I.kept kk
 refine ⟨.ref h1.objs.size,_,I1.laid (t':=tk) (a:=h1.objs.size) (o:=.lst (ss'.map V.str)) (fun b o q=>k2 b o q) (Nat.le_refl _) ?_,rfl,k _ ss' (I1.hok.fresh (Nat.le_refl _)) o2 (hJ o3)⟩
 exact ⟨by rw [List.length_map,o2.length_eq,sizeLine_eq]; omega,out,n,fO o1,e2⟩
end
noncomputable def setS (P:Program) (w:World) (a:Addr) (S:Str->Bool) (n:Nat):HO:=.ext fun h=>h.SetOf (PySem.strKind P w) a S n
section
variable {X:Cx}
theorem qk:OpR X (compareOp .NotIn) (fun x y H Q=>∃ z a S n,x=.str z/\y=.ref a/\H a=some (setS X.prog X.w a S n)/\Q (.bl (!S z)) H):=by
 intro pins s σ H x y v u Q I rx ry h
 obtain ⟨z,a,S,n,rfl,rfl,ha,q⟩:=h
 obtain ⟨t,rfl⟩:=rx
 cases ry
 obtain ⟨x,_,_⟩:=I.hok a _ ha
 exact wpAny_notInSet_of (knd:=PySem.strKind X.prog X.w) (strKind_is _ _ _ _) rfl x ⟨.bl (!S z),H,I.tok _,rfl,q⟩
end
end L2
namespace L2
open PySem PySem.Spec PyProof.Rows
section
variable {prog:Program} {w:World} {A:Around} {E:Value->Shared->Prop} {s:Shared}
end
section
variable {X:Cx}
end
end L2
namespace L2
open PySem PySem.Spec PyProof.Rows
section
variable {X:Cx} {tg:Expr}
end
end L2
namespace L2
open PySem PySem.Spec PyProof.Rows
section
variable {X:Cx}
noncomputable def rCatW (K:PySem.W.Frag):R2:=fun x y H Q=>∃ a b xs ys,x=.ref a/\y=.ref b/\SqT K H a xs/\SqT K H b ys/\xs.length+ys.length<=sizeLine /\
 (xs=[]->Q (.ref b) H)/\(ys=[]->Q (.ref a) H)/\∀ p,H p=none->Q (.ref p) (upd H p (.tup (xs++ys)))
theorem t6:OpR X (binaryOp .Add) (rCatW X.K):=by
 intro pins s σ H x y v u Q I rx ry h
 obtain ⟨a,b,xs,ys,rfl,rfl,ha,hb,hz,q0,q1,q2⟩:=h
 by_cases hx:xs=[]
 ·cases rx
  cases ry
  obtain ⟨its,r1,p1,_⟩:=I.tuple ha
  obtain ⟨its2,r2,p2,_⟩:=I.tuple hb
  subst hx
  cases r1
  obtain ⟨⟨c1,d1,e1,l1⟩,g1,g2,n,g3⟩:=id p1
  obtain ⟨⟨c2,d2,e2,l2⟩,k1,k2,n2,k3⟩:=id p2
  simp only at g2 g3 k2 k3
  subst g2 g3 k2 k3
  exact concat_meets ⟨_,g1,rfl⟩ ⟨_,k1,rfl⟩ noFill_tuple_add seq_tuple_add PySem.F.slot_tuple_add PySem.F.entry_tuple_add (PySem.F.args_tuple_add_2 _ _)
   (tuple_addW0 a b _ _ n n2 d1 d2 l1 l2 (by simp)) ⟨g1,k1,⟨.ref b,H,I,rfl,q0 rfl⟩⟩
 ·exact t7 pins s σ H (.ref a) (.ref b) v u Q I rx ry ⟨a,b,xs,ys,rfl,rfl,ha,hb,hx,hz,q1,fun _=>q2⟩
end
end L2
namespace L2
open PySem PySem.Spec PyProof.Rows
section
variable {prog:Program} {w:World} {A:Around} {E:Value->Shared->Prop} {s:Shared}
end
section
variable {X:Cx} {e st:Expr} {te tst:TE} {pos p2:Pos}
end
end L2
namespace L2
open PySem PySem.Spec PyProof.Rows
section
variable {prog:Program} {w:World} {A:Around} {E:Value->Shared->Prop}
end
section
variable {X:Cx} {pos:Pos}
end
end L2
namespace L2
open PySem PySem.Spec PyProof.Rows
end L2
namespace PySem
open Sem (wp)
theorem mo:typeLookup (.type "list") "keys" = pure none:=by rw [typeLookup_type,builtinLookup_eq_fast]; kernel_rfl
theorem jP {prog:Program} {w:World} {A:Around} {E:Value->Shared->Prop} {s:Shared} {a:Addr} {xs:Array Value} {k:Nat} {sl:Array (Option Value)} {Q:Option Value->Shared->Prop}
  (hx:s.heap.get? a=some { cls:=.type "list",dict:=none,data:=.seq xs k,slots:=sl }) (hA:A.handled=none)
  (h:∀ h' tk e,Heap.NewExcOf s.heap h' e "AttributeError" -> Q none { s with heap:=h',toks:=tk }) :
  wpAny (model prog w) A (getAttr? (.ref a) "keys") Q E s:=by
 obtain ⟨hp,g,d,tk,os⟩:=s
 have hT:∀ tk',(⟨hp,g,d,tk',os⟩:Shared).TypeIs (.ref a) "list" := fun _=>⟨_,hx,rfl⟩
 have f1:=sub_AttributeError
 have f3:=F.slot_list_getattribute.lookup
 have f4:=F.slot_list_getattribute.bind (.ref a)
 have f5:=am_list_getattr_none
 unfold getAttr? getAttrBy? getAttrBy
 repeat (any_goals (first | assumption | exact hT _ | ((with_reducible show wpAny _ _ (call (Value.builtin "list.__getattribute__") _ _) _ _ _); refine call_meets F.slot_list_getattribute (hT _) am_entry_list_getattribute (F.args_list_getattribute_2 _ _) (meets_getattribute_miss_list a xs k sl "keys" _ mo (by decide +kernel) (by size_fits)) ⟨hx,hA,fun h' tk' e hx'=>?_⟩) | wp_step))
 obtain ⟨t',u',he⟩:=hx'.there
 show wpAny _ _ (getattributeRaised _ _ _ _ _ _ _) _ _ _
 unfold getattributeRaised
 have hTe:∀ tk',(⟨h',g,d,tk',os⟩:Shared).TypeIs (.ref e) "AttributeError" := fun _=>⟨_,he,rfl⟩
 repeat (any_goals (first | assumption | exact hTe _ | wp_step))
 exact h _ _ _ hx'.of
end PySem
namespace PySem
open PySem.Spec PyProof.Rows
theorem F.entry_dict_loop:entryFor table "dict.update.loop" = some Builtin.«dict.update.loop»:=entryFor_of_tree (by kernel_rfl)
theorem F.plain_dict_loop:plainId "dict.update.loop" = true:=by decide +kernel
section
variable {prog:Program} {w:World} {K:Type} [DecidableEq K] {knd:KeyKind prog w K} {A:Around} {R:Result->Shared->Prop}
theorem dG {h h':Heap} {d:Addr} {kvs:List (K×Value)} (x:h.DictOf knd d kvs) (k:∀ o,h.get? d=some o->h'.get? d=some o):h'.DictOf knd d kvs:=by
 obtain ⟨o,es,ep,ho,r⟩:=x
 exact ⟨o,es,ep,k _ ho,r⟩
theorem jZ {d it l:Addr} {items:Array Value} (ks:Nat->K) (vs:Nat->Value) (hsz:items.size<=1000) (hdi:d≠it) (hdl:d≠l) (hil:l≠it) (hA:A.in1.handled=none) :
  ∀ (k i:Nat) (s:Shared) (kvs:List (K×Value)),items.size - i=k->i<=items.size->kvs.length<=i->s.heap.DictOf knd d kvs->s.heap.IsListIter it l i->s.heap.IsList l items ->
  (∀ j,j<items.size->∃ p key,items[j]?=some (.ref p)/\p≠d/\p≠it/\s.heap.IsTuple p #[key,vs j]/\knd.is (ks j) key=true) ->
  (∀ h' tk,h'.DictOf knd d ((List.range' i k).foldl (fun kvs j=>stored kvs (ks j) (vs j)) kvs)->(∀ b o,b≠d->b≠it->s.heap.get? b=some o->h'.get? b=some o)->R (.ok (.ret .none)) { s with heap:=h',toks:=tk }) ->
  codeAny (model prog w) A (.builtin "dict.update.loop" ⟨[.ref d,.ref it,rawInt i,.none],[]⟩) R s:=by
 intro k
 induction k with
 | zero =>
  intro i s kvs hk hi hlen hD hI hL hP hR
  refine codeAny_builtin F.entry_dict_loop ?_
  rw [Around.under_plainId F.plain_dict_loop _]
  show wpAny _ A.in1 (pyNext (.ref it) >>= _) _ _ s
  refine wpAny_bind (wpAny_pyNext_list_end hA hI hL (by rw [Array.getElem?_eq_none]; omega) fun h' kk=>?_)
  show wpAny _ A.in1 (Builtin.Dict.addKeywords d [] >>= _) _ _ _
  refine wpAny_bind (m:=Builtin.Dict.addKeywords d []) (wpAny_pure (wpAny_pure (hR h' s.toks (dG hD fun o e=>kk _ _ hdi e) fun b o h1 h2 e=>kk _ _ h2 e)))
 | succ k ih =>
  intro i s kvs hk hi hlen hD hI hL hP hR
  have hlt:i<items.size:=by omega
  obtain ⟨p,key,ep,pd,pt,hp,hkey⟩:=hP i hlt
  refine codeAny_builtin F.entry_dict_loop ?_
  rw [Around.under_plainId F.plain_dict_loop _]
  show wpAny _ A.in1 (pyNext (.ref it) >>= _) _ _ s
  refine wpAny_bind (wpAny_pyNext_list_item hI hL ep fun h1 I1 k1=>?_)
  have e1:∀ b o,b≠it->s.heap.get? b=some o->h1.get? b=some o:=fun b o h e=>k1.extBut _ _ h e
  have hp1:h1.IsTuple p #[key,vs i]:=by
   obtain ⟨o,e,r⟩:=hp
   exact ⟨o,e1 _ _ pt e,r⟩
  refine wpAny_bind (wpAny_holding ?_)
  refine wpAny_bind (wpAny_tryCatch ?_)
  obtain ⟨op,op1,op2,opm,op3⟩:=id hp1
  unfold Builtin.Dict.pairItems
  refine wpAny_bind (wpAny_typeOf (T := "tuple") ⟨op,op1,op2⟩ ?_)
  rw [if_pos (show ((Value.type "tuple" == Value.type "list") || (Value.type "tuple" == Value.type "tuple"))=true by decide)]
  refine wpAny_bind (wpAny_seqItems op1 op3 (wpAny_pure ?_))
  show wpAny _ A.in1 (holding [key,vs i] (dictSet d key (vs i))) _ _ _
  have hD1:h1.DictOf knd d kvs:=dG hD fun o e=>e1 _ _ hdi e
  refine wpAny_holding (wpAny_dictSet_pairs hkey hD1 (fun h2 D2 k2=>?_) (by rw [sizeLine_eq]; omega))
  have e2:∀ b o,b≠d->b≠it->s.heap.get? b=some o->h2.get? b=some o:=fun b o h h' e=>k2.extBut _ _ h (e1 _ _ h' e)
  refine wpAny_pure ⟨plainId_quiet F.plain_dict_loop _,ih (i+1) _ _ (by omega) hlt ?_ D2 ?_ ?_ ?_ ?_⟩
  ·exact Nat.le_trans (stored_length_le kvs (ks i) (vs i)) (by omega)
  ·obtain ⟨o,e,r⟩:=I1
   exact ⟨o,k2.extBut _ _ hdi.symm e,r⟩
  ·obtain ⟨o,e,r⟩:=hL
   exact ⟨o,e2 _ _ hdl.symm hil e,r⟩
  ·intro j hj
   obtain ⟨p',key',q1,q2,q3,⟨o,e,r⟩,q5⟩:=hP j hj
   exact ⟨p',key',q1,q2,q3,⟨o,e2 _ _ q2 q3 e,r⟩,q5⟩
  ·intro h' tk D' kk
   refine hR h' tk ?_ fun b o h h3 e=>kk _ _ h h3 (e2 _ _ h h3 e)
   rw [List.range'_succ,List.foldl_cons]
   exact D'
end
section
variable {prog:Program} {w:World} {K:Type} [DecidableEq K] {knd:KeyKind prog w K} {A:Around} {E:Value->Shared->Prop} {s:Shared}
theorem jr {l:Addr} {items:Array Value} {n:Nat} {sl:Array (Option Value)} {Q:Value->Shared->Prop} (ks:Nat->K) (vs:Nat->Value) (hsz:items.size<=1000) (hA:A.handled=none)
  (hx:s.heap.get? l=some { cls:=.type "list",dict:=none,data:=.seq items n,slots:=sl })
  (hP:∀ j,j<items.size->∃ p key,items[j]?=some (.ref p)/\s.heap.IsTuple p #[key,vs j]/\knd.is (ks j) key=true)
  (hQ:∀ h' tk,h'.DictOf knd s.heap.objs.size ((List.range' 0 items.size).foldl (fun kvs j=>stored kvs (ks j) (vs j)) [])->(∀ b o,s.heap.get? b=some o->h'.get? b=some o)->Q (.ref s.heap.objs.size) { s with heap:=h',toks:=tk }) :
  wpAny (model prog w) A (call (.type "dict") [.ref l]) Q E s:=by
 refine callType_codes (Q₁:=fun obj s₁=>obj=.ref s.heap.objs.size/\s₁={ s with heap:=s.heap.push { cls:=.type "dict",data:=.dict #[] } }) F.kt_called_dict (F.kt_typeCall_dict_1 _) F.entry_dict_init (kt_code_dict_new _ ⟨rfl,rfl⟩) ?_
 rintro obj s₁ ⟨rfl,rfl⟩
 have hnew:(s.heap.push { cls:=.type "dict",data:=.dict #[] }).DictOf knd s.heap.objs.size []:=Heap.DictOf.new s.heap
 have hx1:(s.heap.push { cls:=.type "dict",data:=.dict #[] }).get? l=some { cls:=.type "list",dict:=none,data:=.seq items n,slots:=sl }:=Heap.get?_push_of_some _ hx
 refine ⟨hnew.typeIs,F.args_dict_init_2 _ _,?_⟩
 unfold Builtin.«dict.__init__»
 refine wpAny_bind ?_
 unfold Builtin.Dict.selfAndRest
 refine wpAny_bind (wpAny_notOrdered_dict hnew.typeIs ?_)
 show wpAny _ _ (pure (s.heap.objs.size,[Value.ref l])) _ _ _
 refine wpAny_pure ?_
 show wpAny _ _ (Builtin.Dict.updateFrom "dict.__init__" s.heap.objs.size (.ref l) [] .none) _ _ _
 unfold Builtin.Dict.updateFrom
 refine wpAny_bind (wpAny_typeOf (T := "list") ⟨_,hx1,rfl⟩ ?_)
 rw [if_pos (by decide)]
 refine wpAny_bind (m:=getAttr? (.ref l) "keys") (jP hx1 hA fun h2 tk e ne=>?_)
 rw [if_pos (by rfl)]
 have up:∀ b o,s.heap.get? b=some o->h2.get? b=some o:=fun b o q=>ne.keeps _ _ (Heap.get?_push_of_some _ q)
 have hx2:=up _ _ hx
 have hD2:h2.DictOf knd s.heap.objs.size []:=dG hnew fun o q=>ne.keeps _ _ q
 have hl2:h2.IsList l items:=⟨_,hx2,rfl,n,rfl⟩
 have ddl:s.heap.objs.size≠l:=Nat.ne_of_gt (Heap.lt_size hx)
 have ddi:s.heap.objs.size≠h2.objs.size:=by
  obtain ⟨_,_,_,ho,_⟩:=hD2
  exact Nat.ne_of_lt (Heap.lt_size ho)
 have dli:l≠h2.objs.size:=Nat.ne_of_lt (Heap.lt_size hx2)
 refine wpAny_bind (wpAny_rule (wpAny_bind (wpAny_pyIter_list (s:={ s with heap:=h2,toks:=tk }) hl2 ?_)))
 refine wpAny_pure ⟨plainId_quiet F.plain_dict_loop _,?_⟩
 refine jZ (A:=A.in1) (knd:=knd) (it:=h2.objs.size) ks vs hsz ddi ddl dli hA items.size 0 _ [] (by omega) (Nat.zero_le _) (Nat.le_refl _) (dG hD2 fun o q=>Heap.get?_push_of_some _ q) ⟨_,Heap.get?_push_size _ rfl,rfl,rfl⟩ ⟨_,Heap.get?_push_of_some _ hx2,rfl,n,rfl⟩ ?_ ?_
 ·intro j hj
  obtain ⟨p,key,q1,⟨o,q2,r⟩,q3⟩:=hP j hj
  exact ⟨p,key,q1,Nat.ne_of_lt (Heap.lt_size q2),Nat.ne_of_lt (Heap.lt_size (up _ _ q2)),⟨o,Heap.get?_push_of_some _ (up _ _ q2),r⟩,q3⟩
 ·intro h' tk' D kk
  exact ⟨rfl,hQ h' tk' D fun b o q=>kk b o (Nat.ne_of_lt (Heap.lt_size q)) (Nat.ne_of_lt (Heap.lt_size (up _ _ q))) (Heap.get?_push_of_some _ (up _ _ q))⟩
end
end PySem
namespace L2
open PySem PySem.Spec PyProof.Rows
theorem n5 (prs:List (Str×V)) (vf:Nat->Value) (h:∀ j (hj:j<prs.length),RelV prs[j].2 (vf j)):∀ n,n<=prs.length ->
  KV ((prs.take n).foldl (fun kvs kv=>putK kvs (Sum.inr kv.1:Key) kv.2) []) ((List.range' 0 n).foldl (fun kvs j=>stored kvs (Sum.inr ((prs[j]?.getD (Str.empty,V.non)).1):Key) (vf j)) [])
 | 0,_=>.nil
 | n+1,hn=>by
  have ih:=n5 prs vf h n (by omega)
  have hlt:n<prs.length:=by omega
  rw [List.range'_1_concat,List.foldl_append,List.take_succ,List.foldl_append,List.getElem?_eq_getElem hlt]
  simp only [Option.toList_some,List.foldl_cons,List.foldl_nil,Nat.zero_add]
  rw [List.getElem?_eq_getElem hlt,Option.getD_some]
  exact ih.put _ (h n hlt)
theorem sB (prs:List (Str×V)):∀ (kvs:List (Key×V)),(prs.foldl (fun kvs kv=>putK kvs (Sum.inr kv.1:Key) kv.2) kvs).length<=kvs.length+prs.length:=by
 induction prs with
 | nil=>intro kvs; simp
 | cons x r ih =>
  intro kvs
  rw [List.foldl_cons,List.length_cons]
  have:=ih (putK kvs (Sum.inr x.1) x.2)
  have h2:(putK kvs (Sum.inr x.1:Key) x.2).length<=kvs.length+1:=by
   unfold putK
   split
   ·rw [List.length_map]; omega
   ·rw [List.length_append]; simp
  omega
section
variable {X:Cx}
end
end L2
namespace Q
open PySem L2
inductive PV where
 | non | bl (b:Bool) | int (i:Int) | str (x:Str) | tup (xs:List PV) | lst (xs:List PV) | dic (kvs:List (Key×PV)) | set (xs:List Str) | scr (ns:List Int)
noncomputable def ScrAt (K:PySem.W.Frag) (F:Hp) (a:Addr) (ns:List Int):Prop:=(∃ o,F a=some (.frz o (.lst (ns.map V.int)))) \/
 ∃ (o:Obj) (its:Array Value) (n:Nat),K.lookup a=some o/\o.cls=.type "list" /\ o.dict=none/\o.data=.seq its n/\its.size<=sizeLine/\Vals (ns.map V.int) its.toList
mutual
inductive Rep (K:PySem.W.Frag) (F:Hp):V->PV->Prop where
 | non:Rep K F .non .non
 | bl (b:Bool):Rep K F (.bl b) (.bl b)
 | int (i:Int):Rep K F (.int i) (.int i)
 | str (x:Str):Rep K F (.str x) (.str x)
 | tup {a:Addr} {vs:List V} {xs:List PV}:SqT K F a vs->Reps K F vs xs->Rep K F (.ref a) (.tup xs)
 | lst {a:Addr} {vs:List V} {xs:List PV}:F a=some (.lst vs)->Reps K F vs xs->Rep K F (.ref a) (.lst xs)
 | dic {a:Addr} {vs:List (Key×V)} {xs:List (Key×PV)}:F a=some (.dK vs)->RepsK K F vs xs->Rep K F (.ref a) (.dic xs)
 | scr {a:Addr} {ns:List Int}:ScrAt K F a ns->Rep K F (.ref a) (.scr ns)
inductive Reps (K:PySem.W.Frag) (F:Hp):List V->List PV->Prop where
 | nil:Reps K F [] []
 | cons {v:V} {x:PV} {vs:List V} {xs:List PV}:Rep K F v x->Reps K F vs xs->Reps K F (v::vs) (x::xs)
inductive RepsK (K:PySem.W.Frag) (F:Hp):List (Key×V)->List (Key×PV)->Prop where
 | nil:RepsK K F [] []
 | cons {k:Key} {v:V} {x:PV} {vs:List (Key×V)} {xs:List (Key×PV)}:Rep K F v x->RepsK K F vs xs->RepsK K F ((k,v)::vs) ((k,x)::xs)
end
section
variable {K:PySem.W.Frag} {F F' H:Hp}
theorem bt {a:Addr} {xs:List V} (s:Same F F') (h:SqL K F a xs):SqL K F' a xs:=by
 rcases h with (h | ⟨o,h⟩) | h
 ·exact .inl (.inl (s _ _ h))
 ·exact .inl (.inr ⟨o,s _ _ h⟩)
 ·exact .inr h
theorem az {a:Addr} {xs:List V} (s:Same F F') (h:SqT K F a xs):SqT K F' a xs:=by
 rcases h with (h | ⟨o,h⟩) | h
 ·exact .inl (.inl (s _ _ h))
 ·exact .inl (.inr ⟨o,s _ _ h⟩)
 ·exact .inr h
theorem ii {a:Addr} {ns:List Int} (s:Same F F') (h:ScrAt K F a ns):ScrAt K F' a ns:=by
 rcases h with ⟨o,h⟩ | h
 ·exact .inl ⟨o,s _ _ h⟩
 ·exact .inr h
theorem ScrAt.sq {a:Addr} {ns:List Int} (h:ScrAt K F a ns):SqL K F a (ns.map V.int):=by
 rcases h with ⟨o,h⟩ | h
 ·exact .inl (.inr ⟨o,h⟩)
 ·exact .inr h
theorem Rep.mono {v:V} {x:PV} (s:Same F F') (h:Rep K F v x):Rep K F' v x :=
 Rep.rec (K:=K) (F:=F) (motive_1:=fun v x _=>Rep K F' v x) (motive_2:=fun vs xs _=>Reps K F' vs xs) (motive_3:=fun vs xs _=>RepsK K F' vs xs)
  .non .bl .int .str (fun a _ b=>.tup (az s a) b) (fun a _ b=>.lst (s _ _ a) b) (fun a _ b=>.dic (s _ _ a) b) (fun a=>.scr (ii s a)) .nil (fun _ _ a b=>.cons a b) .nil (fun _ _ a b=>.cons a b) h
theorem Reps.mono {vs:List V} {xs:List PV} (s:Same F F') (h:Reps K F vs xs):Reps K F' vs xs :=
 Reps.rec (K:=K) (F:=F) (motive_1:=fun v x _=>Rep K F' v x) (motive_2:=fun vs xs _=>Reps K F' vs xs) (motive_3:=fun vs xs _=>RepsK K F' vs xs)
  .non .bl .int .str (fun a _ b=>.tup (az s a) b) (fun a _ b=>.lst (s _ _ a) b) (fun a _ b=>.dic (s _ _ a) b) (fun a=>.scr (ii s a)) .nil (fun _ _ a b=>.cons a b) .nil (fun _ _ a b=>.cons a b) h
theorem RepsK.mono {vs:List (Key×V)} {xs:List (Key×PV)} (s:Same F F') (h:RepsK K F vs xs):RepsK K F' vs xs :=
 RepsK.rec (K:=K) (F:=F) (motive_1:=fun v x _=>Rep K F' v x) (motive_2:=fun vs xs _=>Reps K F' vs xs) (motive_3:=fun vs xs _=>RepsK K F' vs xs)
  .non .bl .int .str (fun a _ b=>.tup (az s a) b) (fun a _ b=>.lst (s _ _ a) b) (fun a _ b=>.dic (s _ _ a) b) (fun a=>.scr (ii s a)) .nil (fun _ _ a b=>.cons a b) .nil (fun _ _ a b=>.cons a b) h
theorem Reps.ind {motive:∀ vs xs,Reps K F vs xs->Prop} {vs:List V} {xs:List PV} (h:Reps K F vs xs) (nil:motive [] [] .nil) (cons:∀ {v x vs xs} (a:Rep K F v x) (r:Reps K F vs xs),motive vs xs r->motive (v::vs) (x::xs) (.cons a r)):motive vs xs h :=
 Reps.rec (K:=K) (F:=F) (motive_1:=fun _ _ _=>True) (motive_2:=motive) (motive_3:=fun _ _ _=>True)
  trivial (fun _=>trivial) (fun _=>trivial) (fun _=>trivial) (fun _ _ _=>trivial) (fun _ _ _=>trivial) (fun _ _ _=>trivial) (fun _=>trivial) nil (fun a r _ b=>cons a r b) trivial (fun _ _ _ _=>trivial) h
theorem RepsK.ind {motive:∀ vs xs,RepsK K F vs xs->Prop} {vs:List (Key×V)} {xs:List (Key×PV)} (h:RepsK K F vs xs) (nil:motive [] [] .nil) (cons:∀ {k v x vs xs} (a:Rep K F v x) (r:RepsK K F vs xs),motive vs xs r->motive ((k,v)::vs) ((k,x)::xs) (.cons a r)):motive vs xs h :=
 RepsK.rec (K:=K) (F:=F) (motive_1:=fun _ _ _=>True) (motive_2:=fun _ _ _=>True) (motive_3:=motive)
  trivial (fun _=>trivial) (fun _=>trivial) (fun _=>trivial) (fun _ _ _=>trivial) (fun _ _ _=>trivial) (fun _ _ _=>trivial) (fun _=>trivial) trivial (fun _ _ _ _=>trivial) nil (fun a r _ b=>cons a r b) h
theorem Reps.len {vs:List V} {xs:List PV} (h:Reps K F vs xs):vs.length=xs.length:=by
 induction h using Reps.ind with
 | nil=>rfl
 | cons _ _ ih=>exact congrArg (·+1) ih
theorem Reps.get {vs:List V} {xs:List PV} {i:Nat} {x:PV} (h:Reps K F vs xs) (e:xs[i]?=some x):∃ v,vs[i]?=some v/\Rep K F v x:=by
 induction h using Reps.ind generalizing i with
 | nil=>cases e
 | cons a _ ih=>cases i with
  | zero=>cases e; exact ⟨_,rfl,a⟩
  | succ i=>exact ih e
theorem Reps.getV {vs:List V} {xs:List PV} {i:Nat} {v:V} (h:Reps K F vs xs) (e:vs[i]?=some v):∃ x,xs[i]?=some x/\Rep K F v x:=by
 induction h using Reps.ind generalizing i with
 | nil=>cases e
 | cons a _ ih=>cases i with
  | zero=>cases e; exact ⟨_,rfl,a⟩
  | succ i=>exact ih e
theorem Reps.app {vs ws:List V} {xs ys:List PV} (h:Reps K F vs xs) (k:Reps K F ws ys):Reps K F (vs++ws) (xs++ys):=by
 induction h using Reps.ind with
 | nil=>exact k
 | cons a _ ih=>exact .cons a ih
theorem Reps.take {vs:List V} {xs:List PV} (n:Nat) (h:Reps K F vs xs):Reps K F (vs.take n) (xs.take n):=by
 induction h using Reps.ind generalizing n with
 | nil=>cases n <;> exact .nil
 | cons a _ ih=>cases n with
  | zero=>exact .nil
  | succ n=>exact .cons a (ih n)
theorem Reps.drop {vs:List V} {xs:List PV} (n:Nat) (h:Reps K F vs xs):Reps K F (vs.drop n) (xs.drop n):=by
 induction h using Reps.ind generalizing n with
 | nil=>cases n <;> exact .nil
 | cons a r ih=>cases n with
  | zero=>exact .cons a r
  | succ n=>exact ih n
theorem Reps.setL {vs:List V} {xs:List PV} {v:V} {x:PV} (n:Nat) (k:Rep K F v x) (h:Reps K F vs xs):Reps K F (vs.set n v) (xs.set n x):=by
 induction h using Reps.ind generalizing n with
 | nil=>exact .nil
 | cons a r ih=>cases n with
  | zero=>exact .cons k r
  | succ n=>exact .cons a (ih n)
theorem Reps.erase {vs:List V} {xs:List PV} (n:Nat) (h:Reps K F vs xs):Reps K F (vs.eraseIdx n) (xs.eraseIdx n):=by
 induction h using Reps.ind generalizing n with
 | nil=>exact .nil
 | cons a r ih=>cases n with
  | zero=>exact r
  | succ n=>exact .cons a (ih n)
theorem RepsK.len {vs:List (Key×V)} {xs:List (Key×PV)} (h:RepsK K F vs xs):vs.length=xs.length:=by
 induction h using RepsK.ind with
 | nil=>rfl
 | cons _ _ ih=>exact congrArg (·+1) ih
theorem RepsK.keys {vs:List (Key×V)} {xs:List (Key×PV)} (h:RepsK K F vs xs):vs.map (·.1)=xs.map (·.1):=by
 induction h using RepsK.ind with
 | nil=>rfl
 | cons _ _ ih=>exact congrArg (List.cons _) ih
end
structure Sl where
 k:Nat
 v:PV
noncomputable abbrev En:=List (Option Sl)
structure ObK where
 P:Hp->Hp->Addr->List Addr->PV->Prop
 mono:∀ F F' H H' a l x,P F H a l x->Same F F'->(∀ c∈l,H' c=H c)->P F' H' a l x
structure Md where
 P:Program
 w:World
 K:PySem.W.Frag
 ob:ObK
structure Zn where
 H₀:Hp
 F₀:Hp
 S:List Addr
 oa:Nat->Option Addr:=fun _=>none
 sS:∀ b∈S,H₀ b≠none
noncomputable def OwnAt (M:Md) (F H:Hp) (a:Addr):PV->Prop
 | .lst xs=>∃ vs,H a=some (.lst vs)/\Reps M.K F vs xs
 | .dic xs=>∃ vs,H a=some (.dK vs)/\RepsK M.K F vs xs
 | .set xs=>H a=some (setS M.P M.w a (fun s=>decide (s∈xs)) xs.length)
 | _=>False
theorem OwnAt.mono {M:Md} {F F' H H':Hp} {a:Addr} {x:PV} (s:Same F F') (e:H' a=H a) (h:OwnAt M F H a x):OwnAt M F' H' a x:=by
 cases x <;> try exact h.elim
 ·obtain ⟨vs,h1,h2⟩:=h
  exact ⟨vs,e.trans h1,h2.mono s⟩
 ·obtain ⟨vs,h1,h2⟩:=h
  exact ⟨vs,e.trans h1,h2.mono s⟩
 ·exact e.trans h
noncomputable def SlOk (M:Md) (Z:Zn) (F H:Hp) (v:V) (s:Sl) (fp:List Addr):Prop :=
 (s.k=0/\fp=[]/\Rep M.K F v s.v)\/(s.k=1/\∃ a,v=.ref a/\fp=[a]/\Z.H₀ a=none/\OwnAt M F H a s.v) \/
 ((s.k=2\/s.k=4)/\∃ a,v=.ref a/\(∀ c∈fp,c∈Z.S\/Z.H₀ c=none)/\M.ob.P F H a fp s.v) \/
 (s.k=3/\∃ a,v=.ref a/\fp=[a]/\a∈Z.S/\OwnAt M F H a s.v)
structure Slots (M:Md) (Z:Zn) (F:Hp) (σ:St) (H:Hp) (env:En) (fp:Nat->List Addr):Prop where
 at':∀ i s,env[i]?=some (some s)->∃ v,σ[i]?=some (some v)/\SlOk M Z F H v s (fp i)
 al:∀ i a,a∈fp i->H a≠none/\F a=none
 dj:∀ i j a,i≠j->a∈fp i->a∉fp j
 oa:∀ i a s,Z.oa i=some a->env[i]?=some (some s)->s.k=2->σ[i]?=some (some (.ref a))
structure Sok (M:Md) (Z:Zn) (F:Hp) (σ:St) (H:Hp) (env:En):Prop where
 sF:Same F H
 sG:∀ b o,Z.H₀ b=some o->b∉Z.S->H b=some o
 pr:∀ b,Z.H₀ b≠none->H b≠none
 gr:Same Z.F₀ F
 nw:∀ a,F a≠none->Z.F₀ a≠none\/Z.H₀ a=none
 len:env.length=σ.length
 sl:∃ fp,Slots M Z F σ H env fp
section
variable {M:Md} {Z:Zn} {F F' H H':Hp} {σ:St} {env:En} {v:V} {s:Sl} {fp:List Addr}
theorem SlOk.mono (s1:Same F F') (e:∀ c∈fp,H' c=H c) (h:SlOk M Z F H v s fp):SlOk M Z F' H' v s fp:=by
 rcases h with ⟨a,b,c⟩ | ⟨a,p,rfl,rfl,c,d⟩ | ⟨a,p,rfl,c,d⟩ | ⟨a,p,rfl,rfl,c,d⟩
 ·exact .inl ⟨a,b,c.mono s1⟩
 ·exact .inr (.inl ⟨a,p,rfl,rfl,c,d.mono s1 (e p (by simp))⟩)
 ·exact .inr (.inr (.inl ⟨a,p,rfl,c,M.ob.mono _ _ _ _ _ _ _ d s1 e⟩))
 ·exact .inr (.inr (.inr ⟨a,p,rfl,rfl,c,d.mono s1 (e p (by simp))⟩))
theorem ao {H:Hp}:Same H H:=fun _ _ h=>h
theorem aj {A B C:Hp} (x:Same A B) (y:Same B C):Same A C:=fun a o h=>y a o (x a o h)
theorem aA {F:Hp} {p:Addr} {o:HO} (h:F p=none):Same F (upd F p o):=fun a u e=>by rw [ah (ay e h)]; exact e
theorem Same.none_of {A B:Hp} (s:Same A B) {a:Addr} (h:B a=none):A a=none:=by
 cases e:A a with
 | none=>rfl
 | some o=>rw [s a o e] at h; cases h
theorem Slots.move {fp:Nat->List Addr} (L:Slots M Z F σ H env fp) (s1:Same F F') (s3:∀ i c o,c∈fp i->H c=some o->H' c=some o) (nw:∀ a,F' a≠none->F a≠none\/H a=none):Slots M Z F' σ H' env fp:=by
 refine ⟨fun i s h=>?_,fun i a h=>?_,L.dj,L.oa⟩
 ·obtain ⟨v,h1,h2⟩:=L.at' i s h
  refine ⟨v,h1,h2.mono s1 fun c hc=>?_⟩
  cases e:H c with
  | none=>exact absurd e (L.al i c hc).1
  | some o=>exact s3 i c o hc e
 ·obtain ⟨h1,h2⟩:=L.al i a h
  constructor
  ·cases e:H a with
   | none=>exact absurd e h1
   | some o=>rw [s3 i a o h e]; simp
  ·cases e:F' a with
   | none=>rfl
   | some o =>
    rcases nw a (by rw [e]; simp) with z | z
    ·exact absurd h2 z
    ·exact absurd z h1
theorem Slots.put {fp:Nat->List Addr} {i:Nat} {l:List Addr} (L:Slots M Z F σ H env fp) (hk:s.k≠2) (hi:i<σ.length) (h:SlOk M Z F H v s l) (al:∀ a∈l,H a≠none/\F a=none) (dj:∀ j a,j≠i->a∈l->a∉fp j) :
  Slots M Z F (σ.set i (some v)) H (env.set i (some s)) (fun j=>if j=i then l else fp j):=by
 refine ⟨fun j t e=>?_,fun j a e=>?_,fun j k a hjk e z=>?_,fun j a t e1 e2 e3=>?_⟩
 case refine_4 =>
  by_cases q:j=i
  ·subst q
   rw [List.getElem?_set] at e2
   simp only [if_true] at e2
   split at e2
   ·cases e2; exact absurd e3 hk
   ·cases e2
  ·rw [List.getElem?_set_ne (Ne.symm q)] at e2
   rw [List.getElem?_set_ne (Ne.symm q)]
   exact L.oa j a t e1 e2 e3
 ·by_cases q:j=i
  ·subst q
   rw [List.getElem?_set] at e
   simp only [if_true] at e
   split at e
   ·first | (exfalso; revert e; simp; done) | cases e
    exact ⟨v,by simp [hi],by rw [if_pos rfl]; exact h⟩
   ·first | (exfalso; revert e; simp; done) | cases e
  ·rw [List.getElem?_set_ne (Ne.symm q)] at e
   rw [List.getElem?_set_ne (Ne.symm q),if_neg q]
   exact L.at' j t e
 ·by_cases q:j=i
  ·rw [if_pos q] at e; exact al a e
  ·rw [if_neg q] at e; exact L.al j a e
 ·by_cases q:j=i
  ·rw [if_pos q] at e
   rw [if_neg (fun y=>hjk (q.trans y.symm))] at z
   exact dj k a (fun y=>hjk (q.trans y.symm)) e z
  ·rw [if_neg q] at e
   by_cases q2:k=i
   ·rw [if_pos q2] at z
    exact dj j a q z e
   ·rw [if_neg q2] at z
    exact L.dj j k a hjk e z
theorem Slots.push {fp:Nat->List Addr} {l:List Addr} (L:Slots M Z F σ H env fp) (hk:s.k≠2) (hn:env.length=σ.length) (h:SlOk M Z F H v s l) (al:∀ a∈l,H a≠none/\F a=none) (dj:∀ j a,a∈l->a∉fp j) :
  Slots M Z F (σ++[some v]) H (env++[some s]) (fun j=>if j=env.length then l else fp j):=by
 refine ⟨fun j t e=>?_,fun j a e=>?_,fun j k a hjk e z=>?_,fun j a t e1 e2 e3=>?_⟩
 case refine_4 =>
  by_cases q:j=env.length
  ·subst q
   simp at e2
   subst e2
   exact absurd e3 hk
  ·have hj:j<env.length:=by
    have:j<(env++[some s]).length:=by
     rcases Nat.lt_or_ge j (env++[some s]).length with y | y
     ·exact y
     ·rw [List.getElem?_eq_none y] at e2; cases e2
    simp at this; omega
   rw [List.getElem?_append_left hj] at e2
   rw [List.getElem?_append_left (by omega)]
   exact L.oa j a t e1 e2 e3
 ·by_cases q:j=env.length
  ·subst q
   simp at e
   subst e
   exact ⟨v,by rw [hn]; simp,by rw [if_pos rfl]; exact h⟩
  ·rw [if_neg q]
   have hj:j<env.length:=by
    have:j<(env++[some s]).length:=by
     rcases Nat.lt_or_ge j (env++[some s]).length with y | y
     ·exact y
     ·rw [List.getElem?_eq_none y] at e; cases e
    simp at this; omega
   rw [List.getElem?_append_left hj] at e
   rw [List.getElem?_append_left (by omega)]
   exact L.at' j t e
 ·by_cases q:j=env.length
  ·rw [if_pos q] at e; exact al a e
  ·rw [if_neg q] at e; exact L.al j a e
 ·by_cases q:j=env.length
  ·rw [if_pos q] at e
   rw [if_neg (fun y=>hjk (q.trans y.symm))] at z
   exact dj k a e z
  ·rw [if_neg q] at e
   by_cases q2:k=env.length
   ·rw [if_pos q2] at z
    exact dj j a z e
   ·rw [if_neg q2] at z
    exact L.dj j k a hjk e z
theorem Slots.drop {fp:Nat->List Addr} (L:Slots M Z F (σ++[some v]) H (env++[some s]) fp) (hn:env.length=σ.length):Slots M Z F σ H env fp:=by
 have lt:∀ {j:Nat} {t:Sl},env[j]?=some (some t)->j<env.length:=fun {j t} e=>by
  rcases Nat.lt_or_ge j env.length with y | y
  ·exact y
  ·rw [List.getElem?_eq_none y] at e; cases e
 refine ⟨fun j t e=>?_,L.al,L.dj,fun j a t e1 e2 e3=>?_⟩
 ·have hj:=lt e
  obtain ⟨v',h1,h2⟩:=L.at' j t (by rw [List.getElem?_append_left hj]; exact e)
  rw [List.getElem?_append_left (by omega)] at h1
  exact ⟨v',h1,h2⟩
 ·have hj:=lt e2
  have:=L.oa j a t e1 (by rw [List.getElem?_append_left hj]; exact e2) e3
  rw [List.getElem?_append_left (by omega)] at this
  exact this
theorem Slots.last {fp:Nat->List Addr} (L:Slots M Z F (σ++[some v]) H (env++[some s]) fp) (hn:env.length=σ.length):SlOk M Z F H v s (fp env.length):=by
 obtain ⟨v',h1,h2⟩:=L.at' env.length s (by simp)
 rw [hn] at h1
 simp at h1
 subst h1
 exact h2
theorem Sok.h0 (K:Sok M Z F σ H env) {a:Addr} (h:H a=none):Z.H₀ a=none:=by
 cases e:Z.H₀ a with
 | none=>rfl
 | some o=>exact absurd h (K.pr a (by rw [e]; simp))
theorem Sok.move (K:Sok M Z F σ H env) (s1:Same F F') (s2:Same F' H') (s3:Same H H') (nw:∀ a,F' a≠none->F a≠none\/H a=none):Sok M Z F' σ H' env:=by
 obtain ⟨fp,L⟩:=K.sl
 refine ⟨s2,fun b o h1 h2=>s3 b o (K.sG b o h1 h2),fun b h=>?_,aj K.gr s1,fun a h=>?_,K.len,fp,L.move s1 (fun _ c o _ e=>s3 c o e) nw⟩
 ·cases e:H b with
  | none=>exact absurd e (K.pr b h)
  | some o=>rw [s3 b o e]; simp
 ·rcases nw a h with h1 | h1
  ·exact K.nw a h1
  ·exact .inr (K.h0 h1)
theorem Sok.lay {p:Addr} {o:HO} (K:Sok M Z F σ H env) (h:H p=none):Sok M Z (upd F p o) σ (upd H p o) env:=by
 have hF:F p=none:=Same.none_of K.sF h
 refine K.move (aA hF) (fun a u e=>?_) (aA h) fun a e=>?_
 ·by_cases q:a=p
  ·subst q; rw [am] at e ⊢; exact e
  ·rw [ah q] at e ⊢; exact K.sF a u e
 ·by_cases q:a=p
  ·subst q; exact .inr h
  ·rw [ah q] at e; exact .inl e
theorem Sok.slots {σ':St} {env':En} {fp:Nat->List Addr} (K:Sok M Z F σ H env) (hn:env'.length=σ'.length) (L:Slots M Z F σ' H env' fp):Sok M Z F σ' H env':=⟨K.sF,K.sG,K.pr,K.gr,K.nw,hn,fp,L⟩
theorem Sok.own {p:Addr} {o:HO} {x:PV} (K:Sok M Z F σ H env) (h:H p=none) (hx:OwnAt M F (upd H p o) p x):Sok M Z F (σ++[some (.ref p)]) (upd H p o) (env++[some ⟨1,x⟩]):=by
 have hF:F p=none:=Same.none_of K.sF h
 have K1:Sok M Z F σ (upd H p o) env:=K.move ao (fun a u e=>by rw [ah (ay e hF)]; exact K.sF a u e) (aA h) fun a e=>.inl e
 obtain ⟨fp,L⟩:=K.sl
 have L1:Slots M Z F σ (upd H p o) env fp:=L.move ao (fun _ c u _ e=>aA h c u e) fun a e=>.inl e
 refine K1.slots (by simp [K.len]) (L1.push (l:=[p]) (by simp) K.len (.inr (.inl ⟨rfl,p,rfl,rfl,K.h0 h,hx⟩)) (fun a ha=>?_) fun j a ha hj=>?_)
 ·simp at ha; subst ha
  exact ⟨by rw [am]; simp,hF⟩
 ·simp at ha; subst ha
  exact (L.al j a hj).1 h
theorem Sok.drop (K:Sok M Z F (σ++[some v]) H (env++[some s])):Sok M Z F σ H env:=by
 have hn:env.length=σ.length:=by have:=K.len; simpa using this
 obtain ⟨fp,L⟩:=K.sl
 exact K.slots hn (L.drop hn)
theorem OwnAt.rep {a:Addr} {o:HO} {x:PV} (h:OwnAt M F H a x) (hx:∀ xs,x≠.set xs) (hF:F a=none) (ho:H a=some o):Rep M.K (upd F a o) (.ref a) x:=by
 have s1:Same F (upd F a o):=aA hF
 cases x <;> try exact h.elim
 ·obtain ⟨vs,h1,h2⟩:=h
  rw [ho] at h1; cases h1
  exact .lst am (h2.mono s1)
 ·obtain ⟨vs,h1,h2⟩:=h
  rw [ho] at h1; cases h1
  exact .dic am (h2.mono s1)
 ·exact absurd rfl (hx _)
theorem Sok.frz {fp:Nat->List Addr} {i:Nat} {a:Addr} {o:HO} {σ':St} {env':En} (K:Sok M Z F σ H env) (L:Slots M Z F σ H env fp) (hf:fp i=[a]) (h0:Z.H₀ a=none) (ho:H a=some o)
  (hn:env'.length=σ'.length) (hs:∀ j s,j≠i->env'[j]?=some (some s)->env[j]?=some (some s)/\σ'[j]?=σ[j]?)
  (hi:∀ s,env'[i]?=some (some s)->∃ v,σ'[i]?=some (some v)/\s.k=0/\Rep M.K (upd F a o) v s.v):Sok M Z (upd F a o) σ' H env':=by
 have ha:=L.al i a (by rw [hf]; simp)
 have s1:Same F (upd F a o):=aA ha.2
 refine ⟨fun b u e=>?_,K.sG,K.pr,aj K.gr s1,fun b e=>?_,hn,fun j=>if j=i then [] else fp j,fun j s h=>?_,fun j b h=>?_,fun j k b hjk h z=>?_,fun j b t e1 e2 e3=>?_⟩
 ·by_cases q:b=a
  ·subst q; rw [am] at e; cases e; exact ho
  ·rw [ah q] at e; exact K.sF b u e
 ·by_cases q:b=a
  ·subst q; exact .inr h0
  ·rw [ah q] at e; exact K.nw b e
 ·by_cases q:j=i
  ·subst q
   obtain ⟨v,h1,h2,h3⟩:=hi s h
   exact ⟨v,h1,.inl ⟨h2,if_pos rfl,h3⟩⟩
  ·obtain ⟨e1,e2⟩:=hs j s q h
   obtain ⟨v,h1,h2⟩:=L.at' j s e1
   exact ⟨v,by rw [e2]; exact h1,by rw [if_neg q]; exact h2.mono s1 fun _ _=>rfl⟩
 ·by_cases q:j=i
  ·rw [if_pos q] at h; simp at h
  ·rw [if_neg q] at h
   have hb:=L.al j b h
   have:b≠a:=fun z=>L.dj j i b q h (by rw [hf,z]; simp)
   exact ⟨hb.1,by rw [ah this]; exact hb.2⟩
 ·by_cases q:j=i
  ·rw [if_pos q] at h; simp at h
  ·rw [if_neg q] at h
   by_cases q2:k=i
   ·rw [if_pos q2] at z; simp at z
   ·rw [if_neg q2] at z; exact L.dj j k b hjk h z
 ·by_cases q:j=i
  ·subst q
   obtain ⟨_,_,h2,_⟩:=hi t e2
   rw [e3] at h2; cases h2
  ·obtain ⟨f1,f2⟩:=hs j t q e2
   rw [f2]; exact L.oa j b t e1 f1 e3
theorem cn {H:Hp} {a:Addr} (h:H a≠none):∃ o,H a=some o:=by
 cases e:H a with
 | none=>exact absurd e h
 | some o=>exact ⟨o,rfl⟩
theorem Sok.freezeL {x:PV} (K:Sok M Z F (σ++[some v]) H (env++[some ⟨1,x⟩])) (hx:∀ xs,x≠.set xs):∃ F',Same F F'/\Sok M Z F' σ H env/\Rep M.K F' v x:=by
 have hn:env.length=σ.length:=by have:=K.len; simpa using this
 obtain ⟨fp,L⟩:=K.sl
 rcases L.last hn with ⟨e,_⟩ | ⟨_,a,rfl,hf,h0,hw⟩ | ⟨e,_⟩ | ⟨e,_⟩
 ·first | (exfalso; revert e; simp; done) | cases e
 ·have ha:=L.al env.length a (by rw [hf]; simp)
  obtain ⟨o,ho⟩:=cn ha.1
  refine ⟨upd F a o,aA ha.2,K.frz L hf h0 ho hn (fun j s _ e=>?_) (fun s e=>?_),hw.rep hx ha.2 ho⟩
  ·have hj:j<env.length:=by
    rcases Nat.lt_or_ge j env.length with y | y
    ·exact y
    ·rw [List.getElem?_eq_none y] at e; cases e
   rw [List.getElem?_append_left hj,List.getElem?_append_left (by omega)]
   exact ⟨e,rfl⟩
  ·simp at e
 ·first | (exfalso; revert e; simp; done) | cases e
 ·first | (exfalso; revert e; simp; done) | cases e
theorem Sok.freeze {i:Nat} {x:PV} (K:Sok M Z F σ H env) (hi:env[i]?=some (some ⟨1,x⟩)) (hx:∀ xs,x≠.set xs):∃ F' v,σ[i]?=some (some v)/\Same F F'/\Sok M Z F' σ H (env.set i (some ⟨0,x⟩))/\Rep M.K F' v x:=by
 obtain ⟨fp,L⟩:=K.sl
 obtain ⟨v,hv,h⟩:=L.at' i _ hi
 rcases h with ⟨e,_⟩ | ⟨_,a,rfl,hf,h0,hw⟩ | ⟨e,_⟩ | ⟨e,_⟩
 ·first | (exfalso; revert e; simp; done) | cases e
 ·have ha:=L.al i a (by rw [hf]; simp)
  obtain ⟨o,ho⟩:=cn ha.1
  refine ⟨upd F a o,_,hv,aA ha.2,K.frz L hf h0 ho (by simp [K.len]) (fun j s q e=>?_) (fun s e=>?_),hw.rep hx ha.2 ho⟩
  ·rw [List.getElem?_set_ne (Ne.symm q)] at e
   exact ⟨e,rfl⟩
  ·rw [List.getElem?_set] at e
   simp only [if_true] at e
   split at e
   ·first | (exfalso; revert e; simp; done) | cases e
    exact ⟨_,hv,rfl,hw.rep hx ha.2 ho⟩
   ·first | (exfalso; revert e; simp; done) | cases e
 ·first | (exfalso; revert e; simp; done) | cases e
 ·first | (exfalso; revert e; simp; done) | cases e
theorem Sok.put {i:Nat} {x:PV} (K:Sok M Z F σ H env) (h:Rep M.K F v x):Sok M Z F (σ.set i (some v)) H (env.set i (some ⟨0,x⟩)):=by
 obtain ⟨fp,L⟩:=K.sl
 rcases Nat.lt_or_ge i env.length with hi | hi
 case inr =>
  rw [List.set_eq_of_length_le hi,List.set_eq_of_length_le (by have:=K.len; omega)]
  exact K
 exact K.slots (by simp [K.len]) (L.put (l:=[]) (by simp) (by have:=K.len; omega) (.inl ⟨rfl,rfl,h⟩) (fun a h=>by simp at h) fun j a _ h=>by simp at h)
theorem Sok.take {i:Nat} (K:Sok M Z F (σ++[some v]) H (env++[some s])) (hk:autoParam (s.k≠2) Z5._auto_1):Sok M Z F (σ.set i (some v)) H (env.set i (some s)):=by
 have hn:env.length=σ.length:=by have:=K.len; simpa using this
 rcases Nat.lt_or_ge i env.length with hi | hi
 case inr =>
  rw [List.set_eq_of_length_le hi,List.set_eq_of_length_le (by omega)]
  exact K.drop
 obtain ⟨fp,L⟩:=K.sl
 have hl:=L.last hn
 refine K.slots (by simp [hn]) (Slots.put (l:=fp env.length) (fp:=fun j=>if j=env.length then [] else fp j) ⟨fun j t e=>?_,fun j a e=>?_,fun j k a hjk e z=>?_,(L.drop hn).oa⟩ hk (by omega) hl (fun a=>L.al _ a) fun j a _ h z=>?_)
 ·have hj:j<env.length:=by
   rcases Nat.lt_or_ge j env.length with y | y
   ·exact y
   ·rw [List.getElem?_eq_none y] at e; cases e
  rw [if_neg (by omega)]
  obtain ⟨v',h1,h2⟩:=L.at' j t (by rw [List.getElem?_append_left hj]; exact e)
  rw [List.getElem?_append_left (by omega)] at h1
  exact ⟨v',h1,h2⟩
 ·split at e
  ·simp at e
  ·exact L.al j a e
 ·split at e
  ·simp at e
  ·split at z
   ·simp at z
   ·exact L.dj j k a hjk e z
 ·split at z
  ·simp at z
  ·rename_i q
   exact L.dj env.length j a (Ne.symm q) h z
theorem Sok.write {i k:Nat} {a:Addr} {o:HO} {x y:PV} (K:Sok M Z F σ H env) (hk:k=1\/k=3) (hi:env[i]?=some (some ⟨k,x⟩)) (hv:σ[i]?=some (some (.ref a))) (hw:OwnAt M F (upd H a o) a y):Sok M Z F σ (upd H a o) (env.set i (some ⟨k,y⟩)):=by
 obtain ⟨fp,L⟩:=K.sl
 obtain ⟨v,hv',h⟩:=L.at' i _ hi
 rw [hv] at hv'; cases hv'
 obtain ⟨hf,hd,hnew⟩:fp i=[a]/\(Z.H₀ a=none\/a∈Z.S)/\SlOk M Z F (upd H a o) (.ref a) ⟨k,y⟩ [a]:=by
  rcases h with ⟨e,_⟩ | ⟨e,a',ea,hf,h0,hx⟩ | ⟨e,_⟩ | ⟨e,a',ea,hf,h0,hx⟩
  ·rcases hk with rfl | rfl <;> exact absurd e (by simp)
  ·cases ea
   exact ⟨hf,.inl h0,.inr (.inl ⟨e,a,rfl,rfl,h0,hw⟩)⟩
  ·rcases hk with rfl | rfl <;> exact absurd e (by simp)
  ·cases ea
   exact ⟨hf,.inr h0,.inr (.inr (.inr ⟨e,a,rfl,rfl,h0,hw⟩))⟩
 have ha:=L.al i a (by rw [hf]; simp)
 refine ⟨fun b u e=>?_,fun b u h1 h2=>?_,fun b h=>?_,K.gr,K.nw,by simp [K.len],fp,fun j s e=>?_,fun j b h=>?_,L.dj,fun j b t e1 e2 e3=>?_⟩
 ·rw [ah (ay e ha.2)]; exact K.sF b u e
 ·have:b≠a:=by
   rcases hd with h0 | h0
   ·exact ay h1 h0
   ·exact fun z=>h2 (by rw [z]; exact h0)
  rw [ah this]; exact K.sG b u h1 h2
 ·by_cases q:b=a
  ·subst q; rw [am]; simp
  ·rw [ah q]; exact K.pr b h
 ·by_cases q:j=i
  ·subst q
   rw [List.getElem?_set] at e
   simp only [if_true] at e
   split at e
   ·first | (exfalso; revert e; simp; done) | cases e
    exact ⟨_,hv,by rw [hf]; exact hnew⟩
   ·first | (exfalso; revert e; simp; done) | cases e
  ·rw [List.getElem?_set_ne (Ne.symm q)] at e
   obtain ⟨v,h1,h2⟩:=L.at' j s e
   refine ⟨v,h1,h2.mono ao fun c hc=>ah fun z=>?_⟩
   exact L.dj j i c q hc (by rw [hf,z]; simp)
 ·have hb:=L.al j b h
  refine ⟨?_,hb.2⟩
  by_cases q:b=a
  ·subst q; rw [am]; simp
  ·rw [ah q]; exact hb.1
 ·by_cases q:j=i
  ·subst q
   rw [List.getElem?_set] at e2
   simp only [if_true] at e2
   split at e2
   ·cases e2; rcases hk with rfl | rfl <;> cases e3
   ·cases e2
  ·rw [List.getElem?_set_ne (Ne.symm q)] at e2
   exact L.oa j b t e1 e2 e3
end
noncomputable def Vw (M:Md) (F H:Hp) (v:V) (x:PV):Prop:=Rep M.K F v x\/∃ a,v=.ref a/\OwnAt M F H a x
section
variable {M:Md} {Z:Zn} {F F' H H':Hp} {σ:St} {env:En} {v:V}
theorem Vw.lst {xs:List PV} (h:Vw M F H v (.lst xs)) (s:Same F H):∃ a vs,v=.ref a/\H a=some (.lst vs)/\Reps M.K F vs xs:=by
 rcases h with h | ⟨a,rfl,vs,h1,h2⟩
 ·cases h with
  | lst h1 h2=>exact ⟨_,_,rfl,s _ _ h1,h2⟩
 ·exact ⟨a,vs,rfl,h1,h2⟩
theorem Vw.tup {xs:List PV} (h:Vw M F H v (.tup xs)) (s:Same F H):∃ a vs,v=.ref a/\SqT M.K H a vs/\Reps M.K F vs xs:=by
 rcases h with h | ⟨a,rfl,h⟩
 ·cases h with
  | tup h1 h2=>exact ⟨_,_,rfl,az s h1,h2⟩
 ·exact h.elim
theorem Vw.dic {xs:List (Key×PV)} (h:Vw M F H v (.dic xs)) (s:Same F H):∃ a vs,v=.ref a/\H a=some (.dK vs)/\RepsK M.K F vs xs:=by
 rcases h with h | ⟨a,rfl,vs,h1,h2⟩
 ·cases h with
  | dic h1 h2=>exact ⟨_,_,rfl,s _ _ h1,h2⟩
 ·exact ⟨a,vs,rfl,h1,h2⟩
theorem Vw.int {i:Int} (h:Vw M F H v (.int i)):v=.int i:=by
 rcases h with h | ⟨a,rfl,h⟩
 ·cases h; rfl
 ·exact h.elim
theorem Vw.bl {b:Bool} (h:Vw M F H v (.bl b)):v=.bl b:=by
 rcases h with h | ⟨a,rfl,h⟩
 ·cases h; rfl
 ·exact h.elim
theorem Vw.str {x:Str} (h:Vw M F H v (.str x)):v=.str x:=by
 rcases h with h | ⟨a,rfl,h⟩
 ·cases h; rfl
 ·exact h.elim
theorem Vw.non (h:Vw M F H v .non):v=.non:=by
 rcases h with h | ⟨a,rfl,h⟩
 ·cases h; rfl
 ·exact h.elim
theorem Sok.vw {i:Nat} {s:Sl} (K:Sok M Z F σ H env) (hi:env[i]?=some (some s)) (hk:s.k≠2/\s.k≠4):∃ v,σ[i]?=some (some v)/\Vw M F H v s.v:=by
 obtain ⟨fp,L⟩:=K.sl
 obtain ⟨v,hv,h⟩:=L.at' i _ hi
 rcases h with ⟨_,_,h⟩ | ⟨_,a,rfl,_,_,h⟩ | ⟨e,_⟩ | ⟨_,a,rfl,_,_,h⟩
 ·exact ⟨v,hv,.inl h⟩
 ·exact ⟨_,hv,.inr ⟨a,rfl,h⟩⟩
 ·exact (e.elim hk.1 hk.2).elim
 ·exact ⟨_,hv,.inr ⟨a,rfl,h⟩⟩
theorem Sok.val {i:Nat} {x:PV} (K:Sok M Z F σ H env) (hi:env[i]?=some (some ⟨0,x⟩)):∃ v,σ[i]?=some (some v)/\Rep M.K F v x:=by
 obtain ⟨fp,L⟩:=K.sl
 obtain ⟨v,hv,h⟩:=L.at' i _ hi
 rcases h with ⟨_,_,h⟩ | ⟨e,_⟩ | ⟨e,_⟩ | ⟨e,_⟩
 ·exact ⟨v,hv,h⟩
 ·first | (exfalso; revert e; simp; done) | cases e
 ·first | (exfalso; revert e; simp; done) | cases e
 ·first | (exfalso; revert e; simp; done) | cases e
theorem Sok.ownAt {i k:Nat} {x:PV} (K:Sok M Z F σ H env) (hk:k=1\/k=3) (hi:env[i]?=some (some ⟨k,x⟩)):∃ a,σ[i]?=some (some (.ref a))/\OwnAt M F H a x:=by
 obtain ⟨fp,L⟩:=K.sl
 obtain ⟨v,hv,h⟩:=L.at' i _ hi
 rcases h with ⟨e,_⟩ | ⟨_,a,rfl,_,_,h⟩ | ⟨e,_⟩ | ⟨_,a,rfl,_,_,h⟩
 ·rcases hk with rfl | rfl <;> exact absurd e (by simp)
 ·exact ⟨a,hv,h⟩
 ·rcases hk with rfl | rfl <;> exact absurd e (by simp)
 ·exact ⟨a,hv,h⟩
end
end Q
namespace Q
open PySem L2
noncomputable abbrev WE:=En->(PV->En->Prop)->Prop
noncomputable abbrev WT:=En->(Bool->En->Prop)->Prop
noncomputable abbrev WA:=En->(List PV->En->Prop)->Prop
structure Wd where
 nx:En->Prop
 rt:PV->En->Prop
 bk:En->Prop:=fun _=>False
 ct:En->Prop:=fun _=>False
 rf:PV->En->Prop:=fun _ _=>False
 ro:PV->Nat->En->Prop:=fun _ _ _=>False
noncomputable abbrev WS:=Wd->En->Prop
noncomputable abbrev md (ob:ObK) (X:Cx):Md:=⟨X.prog,X.w,X.K,ob⟩
structure EvS (ob:ObK) (X:Cx) (e:Expr) (f:WE):Prop where
 ex:∃ t:TE,PE X e t/\∀ (Z:Zn) (F:Hp) (σ:St) (H:Hp) (env:En) (P:PV->En->Prop) (Q:VK),Sok (md ob X) Z F σ H env->f env P ->
  (∀ x env' v F' H',P x env'->Same F F'->Sok (md ob X) Z F' σ H' env'->Rep X.K F' v x->Q v H')->t σ H Q
structure EvW (ob:ObK) (X:Cx) (e:Expr) (f:WE):Prop where
 ex:∃ t:TE,PE X e t/\∀ (Z:Zn) (F:Hp) (σ:St) (H:Hp) (env:En) (P:PV->En->Prop) (Q:VK),Sok (md ob X) Z F σ H env->f env P ->
  (∀ x env' v F' H',P x env'->Same F F'->Sok (md ob X) Z F' σ H' env'->Vw (md ob X) F' H' v x->Q v H')->t σ H Q
structure EvF (ob:ObK) (X:Cx) (e:Expr) (f:WE):Prop where
 ex:∃ t:TE,PE X e t/\∀ (Z:Zn) (F:Hp) (σ:St) (H:Hp) (env:En) (P:PV->En->Prop) (Q:VK),Sok (md ob X) Z F σ H env->f env P ->
  (∀ x env' v F' H',P x env'->Same F F'->(∀ xs,x≠.set xs)->Sok (md ob X) Z F' (σ++[some v]) H' (env'++[some ⟨1,x⟩])->Q v H')->t σ H Q
structure EvT (ob:ObK) (X:Cx) (e:Expr) (f:WT):Prop where
 ex:∃ t:TT,PT X e t/\∀ (Z:Zn) (F:Hp) (σ:St) (H:Hp) (env:En) (P:Bool->En->Prop) (Q:Bool->Hp->Prop),Sok (md ob X) Z F σ H env->f env P ->
  (∀ b env' F' H',P b env'->Same F F'->Sok (md ob X) Z F' σ H' env'->Q b H')->t σ H Q
structure EvP (ob:ObK) (X:Cx) (e:Expr) (f:WT):Prop where
 ex:∃ t:TT,PW X e t/\∀ (Z:Zn) (F:Hp) (σ:St) (H:Hp) (env:En) (P:Bool->En->Prop) (Q:Bool->Hp->Prop),Sok (md ob X) Z F σ H env->f env P ->
  (∀ b env' F' H',P b env'->Same F F'->Sok (md ob X) Z F' σ H' env'->Q b H')->t σ H Q
structure EvA (ob:ObK) (X:Cx) (es:List Expr) (f:WA):Prop where
 ex:∃ t:TA,PA X es t/\∀ (Z:Zn) (F:Hp) (σ:St) (H:Hp) (env:En) (P:List PV->En->Prop) (Q:List V->Hp->Prop),Sok (md ob X) Z F σ H env->f env P ->
  (∀ xs env' vs F' H',P xs env'->xs.length=es.length->Same F F'->Sok (md ob X) Z F' σ H' env'->Reps X.K F' vs xs->Q vs H')->t σ H Q
noncomputable def eC (x:PV):WE:=fun env P=>P x env
noncomputable def eV (i:Nat):WE:=fun env P=>match env[i]? with
 | some (some ⟨0,x⟩)=>P x env
 | some (some ⟨1,.lst xs⟩)=>P (.lst xs) (env.set i (some ⟨0,.lst xs⟩))
 | some (some ⟨1,.dic xs⟩)=>P (.dic xs) (env.set i (some ⟨0,.dic xs⟩))
 | _=>False
noncomputable def eVW (i:Nat):WE:=fun env P=>match env[i]? with
 | some (some ⟨0,x⟩)=>P x env
 | some (some ⟨1,x⟩)=>P x env
 | some (some ⟨3,x⟩)=>P x env
 | _=>False
noncomputable def opt {α:Type} (o:Option α) (P:α->Prop):Prop:=∃ z,o=some z/\P z
theorem opt_some {α:Type} {z:α} {P:α->Prop}:opt (some z) P↔P z:=⟨fun ⟨_,e,h⟩=>by cases e; exact h,fun h=>⟨z,rfl,h⟩⟩
noncomputable def aNil:WA:=fun env P=>P [] env
noncomputable def aCons (a:WE) (r:WA):WA:=fun env P=>a env fun x e1=>r e1 fun xs e2=>P (x::xs) e2
noncomputable def eTup (a:WA):WE:=fun env P=>a env fun xs e=>P (.tup xs) e
noncomputable def eLst (a:WA):WE:=fun env P=>a env fun xs e=>P (.lst xs) e
noncomputable def eOp (g:PV->PV->Option PV) (a b:WE):WE:=fun env P=>a env fun x e1=>b e1 fun y e2=>opt (g x y) fun z=>P z e2
noncomputable def eUn (g:PV->Option PV) (a:WE):WE:=fun env P=>a env fun x e1=>opt (g x) fun z=>P z e1
noncomputable def eOpS (g:PV->PV->Option PV) (i:Nat) (b:WE):WE:=fun env P=>(env[i]?).join.isSome=true/\b env fun y e2=>eVW i e2 fun x _=>opt (g x y) fun z=>P z e2
noncomputable def tBool (a:WE):WT:=fun env P=>a env fun x e=>opt (match x with | .bl b=>some b | _=>none) fun b=>P b e
noncomputable def tAnd (a b:WT):WT:=fun env P=>a env fun x e=>if x=true then b e P else P false e
noncomputable def tOr (a b:WT):WT:=fun env P=>a env fun x e=>if x=true then P true e else b e P
noncomputable def tNot (a:WT):WT:=fun env P=>a env fun x e=>P (!x) e
noncomputable def eIf (c:WT) (a b:WE):WE:=fun env P=>c env fun x e=>if x=true then a e P else b e P
section
variable {ob:ObK} {X:Cx} {e a b c:Expr} {es:List Expr} {pos:Pos} {f g h:WE}
theorem EvS.w (he:EvS ob X e f):EvW ob X e f:=by
 obtain ⟨t,ht,h⟩:=he.ex
 exact ⟨t,ht,fun Z F σ H env P Q K hf k=>h Z F σ H env P Q K hf fun x env' v F' H' p s K' r=>k x env' v F' H' p s K' (.inl r)⟩
theorem EvF.s (he:EvF ob X e f):EvS ob X e f:=by
 obtain ⟨t,ht,h⟩:=he.ex
 refine ⟨t,ht,fun Z F σ H env P Q K hf k=>h Z F σ H env P Q K hf fun x env' v F' H' p s hx K'=>?_⟩
 obtain ⟨F2,s2,K2,r⟩:=K'.freezeL hx
 exact k x env' v F2 H' p (aj s s2) K2 r
theorem iG {v:V} {x:PV} (hp:PE X e (tC v)) (hr:∀ F,Rep X.K F v x):EvS ob X e (eC x) :=
 ⟨_,hp,fun Z F σ H env P Q K hf k=>k x env v F H hf ao K (hr F)⟩
theorem ak {i j}:EvS ob X (.Constant (.int i) j pos) (eC (.int i)):=iG aQ fun _=>.int i
theorem mE {j}:EvS ob X (.Constant .none j pos) (eC .non):=iG u9 fun _=>.non
theorem qN {i j}:EvS ob X (.Constant (.str i) j pos) (eC (.str i)):=iG be fun _=>.str i
theorem ag (i:Nat) {x:Str} (hp:PE X (.Name x pos) (tVar i)):EvS ob X (.Name x pos) (eV i):=by
 refine ⟨_,hp,fun Z F σ H env P Q K hf k=>?_⟩
 unfold eV at hf
 split at hf
 ·rename_i y hy
  obtain ⟨v,hv,r⟩:=K.val hy
  exact ⟨v,hv,k _ _ v F H hf ao K r⟩
 ·rename_i y hy
  obtain ⟨F',v,hv,s,K',r⟩:=K.freeze hy (fun _=>by simp)
  exact ⟨v,hv,k _ _ v F' H hf s K' r⟩
 ·rename_i y hy
  obtain ⟨F',v,hv,s,K',r⟩:=K.freeze hy (fun _=>by simp)
  exact ⟨v,hv,k _ _ v F' H hf s K' r⟩
 ·exact hf.elim
theorem aC (i:Nat) {x:Str} (hp:PE X (.Name x pos) (tVar i)):EvW ob X (.Name x pos) (eVW i):=by
 refine ⟨_,hp,fun Z F σ H env P Q K hf k=>?_⟩
 unfold eVW at hf
 split at hf
 ·rename_i y hy
  obtain ⟨v,hv,r⟩:=K.vw hy (by simp)
  exact ⟨v,hv,k _ _ v F H hf ao K r⟩
 ·rename_i y hy
  obtain ⟨v,hv,r⟩:=K.vw hy (by simp)
  exact ⟨v,hv,k _ _ v F H hf ao K r⟩
 ·rename_i y hy
  obtain ⟨v,hv,r⟩:=K.vw hy (by simp)
  exact ⟨v,hv,k _ _ v F H hf ao K r⟩
 ·exact hf.elim
theorem ai:EvA ob X [] aNil:=⟨_,bu,fun Z F σ H env P Q K hf k=>k [] env [] F H hf rfl ao K .nil⟩
theorem af {fa:WA} (he:EvS ob X e f) (hr:EvA ob X es fa) (hs:autoParam (starEach (e::es) X.env=(false,eval e X.env)::starEach es X.env) Z2._auto_1):EvA ob X (e::es) (aCons f fa):=by
 obtain ⟨t,ht,h⟩:=he.ex
 obtain ⟨u,hu,g⟩:=hr.ex
 refine ⟨_,bh ht hu hs,fun Z F σ H env P Q K hf k=>?_⟩
 refine h Z F σ H env _ _ K hf fun x e1 v F1 H1 p s1 K1 r1=>?_
 refine g Z F1 σ H1 e1 _ _ K1 p fun xs e2 vs F2 H2 p2 hl s2 K2 r2=>?_
 exact k (x::xs) e2 (v::vs) F2 H2 p2 (by simp [hl]) (aj s1 s2) K2 (.cons (r1.mono s2) r2)
theorem aW {fa:WA} {x1} (ha:EvA ob X es fa) (hn:autoParam (es.length<=1000) Z1._auto_1):EvS ob X (.Tuple es x1 pos) (eTup fa):=by
 obtain ⟨t,ht,h⟩:=ha.ex
 refine ⟨_,u7 ht,fun Z F σ H env P Q K hf k=>?_⟩
 refine h Z F σ H env _ _ K hf fun xs e1 vs F1 H1 p hl s1 K1 r1=>⟨?_,fun q hq=>?_⟩
 ·rw [r1.len,hl,sizeLine_eq]; omega
 ·have hF:F1 q=none:=Same.none_of K1.sF hq
  exact k _ e1 _ _ _ p (aj s1 (aA hF)) (K1.lay hq) (.tup (.inl (.inl am)) (r1.mono (aA hF)))
theorem bi {fa:WA} (ha:EvA ob X es fa) (hn:autoParam (es.length<=1000) Z1._auto_1):EvF ob X (.List es pos) (eLst fa):=by
 obtain ⟨t,ht,h⟩:=ha.ex
 refine ⟨_,lP ht,fun Z F σ H env P Q K hf k=>?_⟩
 refine h Z F σ H env _ _ K hf fun xs e1 vs F1 H1 p hl s1 K1 r1=>⟨?_,fun q hq=>?_⟩
 ·rw [r1.len,hl,sizeLine_eq]; omega
 ·exact k _ e1 _ _ _ p s1 (fun _=>by simp) (K1.own hq ⟨vs,am,r1⟩)
noncomputable def OpQ (ob:ObK) (X:Cx) (r:R2) (g:PV->PV->Option PV):Prop :=
 ∀ (Z:Zn) (F:Hp) (σ:St) (H:Hp) (env:En) (v u:V) (x y z:PV) (Q:VK),Sok (md ob X) Z F σ H env->Vw (md ob X) F H v x->Vw (md ob X) F H u y->g x y=some z ->
  (∀ v' F' H',Same F F'->Sok (md ob X) Z F' σ H' env->Rep X.K F' v' z->Q v' H')->r v u H Q
noncomputable def OpQS (ob:ObK) (X:Cx) (r:R2) (g:PV->PV->Option PV):Prop :=
 ∀ (Z:Zn) (F:Hp) (σ:St) (H:Hp) (env:En) (v u:V) (x y z:PV) (Q:VK),Sok (md ob X) Z F σ H env->Rep X.K F v x->Vw (md ob X) F H u y->g x y=some z ->
  (∀ v' F' H',Same F F'->Sok (md ob X) Z F' σ H' env->Rep X.K F' v' z->Q v' H')->r v u H Q
theorem OpQ.s {r:R2} {o:PV->PV->Option PV} (h:OpQ ob X r o):OpQS ob X r o:=fun Z F σ H env v u x y z Q K rx ry=>h Z F σ H env v u x y z Q K (.inl rx) ry
theorem gH {r:R2} {o:PV->PV->Option PV} {ta tb:TE} (hq:OpQS ob X r o)
  (ha:∀ (Z:Zn) (F:Hp) (σ:St) (H:Hp) (env:En) (P:PV->En->Prop) (Q:VK),Sok (md ob X) Z F σ H env->f env P->(∀ x env' v F' H',P x env'->Same F F'->Sok (md ob X) Z F' σ H' env'->Rep X.K F' v x->Q v H')->ta σ H Q)
  (hb:∀ (Z:Zn) (F:Hp) (σ:St) (H:Hp) (env:En) (P:PV->En->Prop) (Q:VK),Sok (md ob X) Z F σ H env->g env P->(∀ x env' v F' H',P x env'->Same F F'->Sok (md ob X) Z F' σ H' env'->Vw (md ob X) F' H' v x->Q v H')->tb σ H Q) :
  ∀ (Z:Zn) (F:Hp) (σ:St) (H:Hp) (env:En) (P:PV->En->Prop) (Q:VK),Sok (md ob X) Z F σ H env->eOp o f g env P->(∀ x env' v F' H',P x env'->Same F F'->Sok (md ob X) Z F' σ H' env'->Rep X.K F' v x->Q v H')->tOp r ta tb σ H Q:=by
 intro Z F σ H env P Q K hf k
 refine ha Z F σ H env _ _ K hf fun x e1 v F1 H1 p s1 K1 r1=>?_
 refine hb Z F1 σ H1 e1 _ _ K1 p fun y e2 u F2 H2 p2 s2 K2 r2=>?_
 obtain ⟨z,ez,p3⟩:=p2
 exact hq Z F2 σ H2 e2 v u x y z Q K2 (r1.mono s2) r2 ez fun v' F' H' s3 K3 r3=>k z e2 v' F' H' p3 (aj s1 (aj s2 s3)) K3 r3
theorem lU {r:R2} {o:PV->PV->Option PV} {tb:TE} {i:Nat} (hq:OpQ ob X r o)
  (hb:∀ (Z:Zn) (F:Hp) (σ:St) (H:Hp) (env:En) (P:PV->En->Prop) (Q:VK),Sok (md ob X) Z F σ H env->g env P->(∀ x env' v F' H',P x env'->Same F F'->Sok (md ob X) Z F' σ H' env'->Vw (md ob X) F' H' v x->Q v H')->tb σ H Q) :
  ∀ (Z:Zn) (F:Hp) (σ:St) (H:Hp) (env:En) (P:PV->En->Prop) (Q:VK),Sok (md ob X) Z F σ H env->eOpS o i g env P->(∀ x env' v F' H',P x env'->Same F F'->Sok (md ob X) Z F' σ H' env'->Rep X.K F' v x->Q v H')->tOp r (tVar i) tb σ H Q:=by
 intro Z F σ H env P Q K hf k
 obtain ⟨hd,hf⟩:=hf
 obtain ⟨v,hv⟩:∃ v,σ[i]?=some (some v):=by
  cases e:env[i]? with
  | none=>rw [e] at hd; cases hd
  | some w =>
   cases w with
   | none=>rw [e] at hd; cases hd
   | some s =>
    obtain ⟨fp,L⟩:=K.sl
    obtain ⟨v,hv,_⟩:=L.at' i s e
    exact ⟨v,hv⟩
 refine ⟨v,hv,hb Z F σ H env _ _ K hf fun y e2 u F2 H2 p2 s2 K2 r2=>?_⟩
 unfold eVW at p2
 have fin:∀ (s:Sl),(s.k≠2/\s.k≠4)->e2[i]?=some (some s)->opt (o s.v y) (fun z=>P z e2)->r v u H2 Q:=fun s hk hs ⟨z,ez,p3⟩=>by
  obtain ⟨v',hv',rv⟩:=K2.vw hs hk
  rw [hv] at hv'; cases hv'
  exact hq Z F2 σ H2 e2 v u s.v y z Q K2 rv r2 ez fun v' F' H' s3 K3 r3=>k z e2 v' F' H' p3 (aj s2 s3) K3 r3
 split at p2
 ·rename_i hy; exact fin _ (by simp) hy p2
 ·rename_i hy; exact fin _ (by simp) hy p2
 ·rename_i hy; exact fin _ (by simp) hy p2
 ·exact p2.elim
end
end Q
namespace Q
open PySem L2 PyProof.Rows
noncomputable def valP (kvs:List (Key×PV)) (k:Key):Option PV:=(kvs.find? fun kv=>decide (kv.1=k)).map (·.2)
noncomputable def putP (kvs:List (Key×PV)) (k:Key) (v:PV):List (Key×PV) :=
 if (kvs.any fun kv=>decide (kv.1=k))=true then kvs.map (fun kv=>if kv.1=k then (kv.1,v) else kv) else kvs++[(k,v)]
noncomputable def keyP:PV->Option Key
 | .int i=>some (.inl i)
 | .str s=>some (.inr s)
 | _=>none
section
variable {K:PySem.W.Frag} {F:Hp}
theorem RepsK.val {k:Key} {vs:List (Key×V)} {xs:List (Key×PV)} (h:RepsK K F vs xs):(valV vs k=none/\valP xs k=none)\/∃ v x,valV vs k=some v/\valP xs k=some x/\Rep K F v x:=by
 induction h using RepsK.ind with
 | nil=>exact .inl ⟨rfl,rfl⟩
 | @cons k' v x vs xs h _ ih =>
  by_cases e:k'=k
  ·exact .inr ⟨v,x,db e,by simp [valP,List.find?_cons,e],h⟩
  ·rw [eO (p:=(k',v)) e]
   have e2:valP ((k',x)::xs) k=valP xs k:=by simp [valP,List.find?_cons,e]
   rw [e2]
   exact ih
theorem RepsK.any {k:Key} {vs:List (Key×V)} {xs:List (Key×PV)} (h:RepsK K F vs xs):(vs.any fun kv=>decide (kv.1=k))=xs.any fun kv=>decide (kv.1=k):=by
 induction h using RepsK.ind with
 | nil=>rfl
 | cons _ _ ih=>exact congrArg (_ || ·) ih
theorem RepsK.app {vs ws:List (Key×V)} {xs ys:List (Key×PV)} (h:RepsK K F vs xs) (k:RepsK K F ws ys):RepsK K F (vs++ws) (xs++ys):=by
 induction h using RepsK.ind with
 | nil=>exact k
 | cons a _ ih=>exact .cons a ih
theorem RepsK.mapPut {k:Key} {v:V} {x:PV} (hv:Rep K F v x) {vs:List (Key×V)} {xs:List (Key×PV)} (h:RepsK K F vs xs):RepsK K F (vs.map fun kv=>if kv.1=k then (kv.1,v) else kv) (xs.map fun kv=>if kv.1=k then (kv.1,x) else kv):=by
 induction h using RepsK.ind with
 | nil=>exact .nil
 | @cons k' v' x' vs xs a _ ih =>
  rw [List.map_cons,List.map_cons]
  dsimp only
  by_cases e:k'=k
  ·rw [if_pos e,if_pos e]; exact .cons hv ih
  ·rw [if_neg e,if_neg e]; exact .cons a ih
theorem RepsK.put {k:Key} {v:V} {x:PV} {vs:List (Key×V)} {xs:List (Key×PV)} (h:RepsK K F vs xs) (hv:Rep K F v x):RepsK K F (putK vs k v) (putP xs k x):=by
 unfold putK putP
 rw [h.any]
 split
 ·exact h.mapPut hv
 ·exact h.app (.cons hv .nil)
theorem eh {x:PV} {k:Key} {v:V} (h:keyP x=some k) (r:Rep K F v x):v=kV k:=by
 cases r <;> cases h <;> rfl
end
noncomputable def ixPV:PV->PV->Option PV
 | .tup xs,.int i=>atI xs i
 | .lst xs,.int i=>atI xs i
 | .str s,.int i=>if s.length<=100000 then (atI s.cps.toList i).map fun c=>.str ⟨#[c]⟩ else none
 | .dic kvs,y=>(keyP y).bind (valP kvs)
 | _,_=>none
noncomputable def rIxD:R2:=fun x y H Q=>∃ a v,x=.ref a/\DGet H a y (some v)/\Q v H
section
variable {ob:ObK} {X:Cx} {a b c e:Expr} {f g h:WE} {pos:Pos}
theorem ix_dict (hu:X.A.units+1<cLine):IxR X rIxD:=by
 intro value slice pins s σ H x y v u Q I rx ry h hs
 obtain ⟨a,z,rfl,g,q⟩:=h
 cases rx
 exact tail_any (hZ I g) PySem.F.slot_dict_getitem.lookup (kT hu I g ry fun w' s3 I3 rw'=>⟨z,H,I3,rw',q⟩) hs
noncomputable def rIxA (K:PySem.W.Frag):R2:=fun x y H Q=>rIx K x y H Q\/rIxD x y H Q
theorem qB (hu:X.A.units+1<cLine):IxR X (rIxA X.K):=ix_seq.or (ix_dict hu)
theorem oH {K:PySem.W.Frag} {F:Hp} {vs:List V} {xs:List PV} {i:Int} {z:PV} (r:Reps K F vs xs) (h:atI xs i=some z):∃ v,atI vs i=some v/\Rep K F v z:=by
 unfold atI at h ⊢
 rw [r.len]
 cases e:ixN xs.length i with
 | none=>rw [e] at h; cases h
 | some j =>
  rw [e] at h
  exact r.get h
theorem vwKey {M:Md} {F H:Hp} {v:V} {x:PV} {k:Key} (h:Vw M F H v x) (hk:keyP x=some k):v=kV k:=by
 cases x <;> try cases hk
 ·exact h.int
 ·exact h.str
theorem opq_ix:OpQ ob X (rIxA X.K) ixPV:=by
 intro Z F σ H env v u x y z Q K rx ry hz k
 unfold ixPV at hz
 split at hz
 ·obtain ⟨p,vs,rfl,h1,h2⟩:=rx.tup K.sF
  rw [ry.int]
  obtain ⟨w,e1,e2⟩:=oH h2 hz
  exact .inl (.inr (.inl ⟨p,vs,_,w,rfl,rfl,h1,e1,k w F H ao K e2⟩))
 ·obtain ⟨p,vs,rfl,h1,h2⟩:=rx.lst K.sF
  rw [ry.int]
  obtain ⟨w,e1,e2⟩:=oH h2 hz
  exact .inl (.inl ⟨p,vs,_,w,rfl,rfl,.inl (.inl h1),e1,k w F H ao K e2⟩)
 ·rename_i s i
  split at hz
  ·rename_i hl
   rw [rx.str,ry.int]
   cases e:atI s.cps.toList i with
   | none=>rw [e] at hz; cases hz
   | some c =>
    rw [e] at hz; cases hz
    exact .inl (.inr (.inr ⟨s,i,c,rfl,rfl,by rw [sizeLine_eq]; omega,e,k _ F H ao K (.str _)⟩))
  ·cases hz
 ·rename_i kvs
  obtain ⟨p,vs,rfl,h1,h2⟩:=rx.dic K.sF
  cases e:keyP y with
  | none=>rw [e] at hz; cases hz
  | some kk =>
   rw [e] at hz
   have hz:valP kvs kk=some z:=hz
   rw [vwKey ry e]
   rcases h2.val (k:=kk) with ⟨_,e2⟩ | ⟨w,w',e1,e2,e3⟩
   ·rw [e2] at hz; cases hz
   ·rw [e2] at hz; cases hz
    refine .inr ⟨p,w,rfl,?_,k w F H ao K e3⟩
    rw [<- e1]; exact DGet.k h1
 ·cases hz
theorem aB (hu:X.A.units+1<cLine) (ha:EvS ob X a f) (hb:EvW ob X b g) (hs:autoParam (j6 b) Z6._auto_1):EvS ob X (.Subscript a b pos) (eOp ixPV f g):=by
 obtain ⟨ta,ha,ka⟩:=ha.ex
 obtain ⟨tb,hb,kb⟩:=hb.ex
 exact ⟨_,cC (qB hu) ha hb hs,gH opq_ix.s ka kb⟩
theorem gn (i:Nat) {x:Str} {p:Pos} (hu:X.A.units+1<cLine) (ha:PE X (.Name x p) (tVar i)) (hb:EvW ob X b g) (hs:autoParam (j6 b) Z6._auto_1):EvS ob X (.Subscript (.Name x p) b pos) (eOpS ixPV i g):=by
 obtain ⟨tb,hb,kb⟩:=hb.ex
 exact ⟨_,cC (qB hu) ha hb hs,lU opq_ix kb⟩
theorem OpR.or {fn:Value->Value->Sem Value} {r r':R2} (h:OpR X fn r) (h':OpR X fn r'):OpR X fn (fun x y H Q=>r x y H Q\/r' x y H Q):=by
 intro pins s σ H x y v u Q I rx ry q
 rcases q with q | q
 ·exact h pins s σ H x y v u Q I rx ry q
 ·exact h' pins s σ H x y v u Q I rx ry q
noncomputable def addPV:PV->PV->Option PV
 | .int i,.int j=>some (.int (i+j))
 | .str s,.str t=>if s.length+t.length<=100000 then some (.str (s++t)) else none
 | .tup xs,.tup ys=>if xs.length+ys.length<=100000 then some (.tup (xs++ys)) else none
 | .lst xs,.lst ys=>if xs.length+ys.length<=100000 then some (.lst (xs++ys)) else none
 | _,_=>none
theorem Vw.tupR {M:Md} {F H:Hp} {v:V} {xs:List PV} (h:Vw M F H v (.tup xs)):Rep M.K F v (.tup xs):=by
 rcases h with h | ⟨a,rfl,h⟩
 ·exact h
 ·exact h.elim
noncomputable def rAddA (K:PySem.W.Frag):R2:=fun x y H Q=>((rI0 fun i j=>.int (i+j)) x y H Q\/∃ i j,x=.str i/\y=.str j/\i.length+j.length<=sizeLine/\Q (.str (i++j)) H)\/(rCatW K x y H Q\/rCat x y H Q)
theorem nT:OpR X (binaryOp .Add) (rAddA X.K):=OpR.or (OpR.or dh o6) (OpR.or t6 vi)
theorem nS:OpQ ob X (rAddA X.K) addPV:=by
 intro Z F σ H env v u x y z Q K rx ry hz k
 unfold addPV at hz
 split at hz
 ·cases hz
  rw [rx.int,ry.int]
  exact .inl (.inl ⟨_,_,rfl,rfl,k _ F H ao K (.int _)⟩)
 ·split at hz
  ·cases hz
   rw [rx.str,ry.str]
   exact .inl (.inr ⟨_,_,rfl,rfl,by rw [sizeLine_eq]; omega,k _ F H ao K (.str _)⟩)
  ·cases hz
 ·rename_i xs ys
  split at hz
  ·cases hz
   obtain ⟨p,vs,rfl,h1,h2⟩:=rx.tup K.sF
   obtain ⟨q,ws,rfl,g1,g2⟩:=ry.tup K.sF
   have hl:=h2.len
   have gl:=g2.len
   refine .inr (.inl ⟨p,q,vs,ws,rfl,rfl,h1,g1,by rw [sizeLine_eq]; omega,?_⟩)
   refine ⟨fun e=>k _ F H ao K ?_,fun e=>k _ F H ao K ?_,fun r hr=>?_⟩
   ·subst e
    have:xs=[]:=List.length_eq_zero_iff.mp hl.symm
    subst this
    exact ry.tupR
   ·subst e
    have:ys=[]:=List.length_eq_zero_iff.mp gl.symm
    subst this
    rw [List.append_nil]
    exact rx.tupR
   ·have hF:F r=none:=Same.none_of K.sF hr
    exact k _ _ _ (aA hF) (K.lay hr) (.tup (.inl (.inl am)) ((h2.app g2).mono (aA hF)))
  ·cases hz
 ·rename_i xs ys
  split at hz
  ·cases hz
   obtain ⟨p,vs,rfl,h1,h2⟩:=rx.lst K.sF
   obtain ⟨q,ws,rfl,g1,g2⟩:=ry.lst K.sF
   have hl:=h2.len
   have gl:=g2.len
   refine .inr (.inr ⟨p,q,vs,ws,rfl,rfl,h1,g1,by rw [sizeLine_eq]; omega,fun r hr=>?_⟩)
   have hF:F r=none:=Same.none_of K.sF hr
   exact k _ _ _ (aA hF) (K.lay hr) (.lst am ((h2.app g2).mono (aA hF)))
  ·cases hz
 ·cases hz
end
end Q
namespace Q
open PySem L2 PyProof.Rows
section
variable {ob:ObK} {X:Cx} {a b c e:Expr} {f g h:WE} {pos:Pos}
theorem eI {op:Operator} {r:R2} {o:PV->PV->Option PV} (hr:OpR X (binaryOp op) r) (hq:OpQ ob X r o) (ha:EvS ob X a f) (hb:EvW ob X b g):EvS ob X (.BinOp a op b pos) (eOp o f g):=by
 obtain ⟨ta,ha,ka⟩:=ha.ex
 obtain ⟨tb,hb,kb⟩:=hb.ex
 exact ⟨_,aV hr ha hb,gH hq.s ka kb⟩
theorem uC {op:Operator} {r:R2} {o:PV->PV->Option PV} (i:Nat) {x:Str} {p:Pos} (hr:OpR X (binaryOp op) r) (hq:OpQ ob X r o) (ha:PE X (.Name x p) (tVar i)) (hb:EvW ob X b g):EvS ob X (.BinOp (.Name x p) op b pos) (eOpS o i g):=by
 obtain ⟨tb,hb,kb⟩:=hb.ex
 exact ⟨_,aV hr ha hb,lU hq kb⟩
theorem aU (ha:EvS ob X a f) (hb:EvW ob X b g):EvS ob X (.BinOp a .Add b pos) (eOp addPV f g):=eI nT nS ha hb
noncomputable def iI (C:Int->Int->Bool) (h:Int->Int->Int):PV->PV->Option PV
 | .int i,.int j=>if C i j=true then some (.int (h i j)) else none
 | _,_=>none
theorem gI {C:Int->Int->Bool} {D:Int->Int->Prop} {h:Int->Int->Int} (hC:∀ i j,C i j=true->D i j):OpQ ob X (rI D fun i j=>.int (h i j)) (iI C h):=by
 intro Z F σ H env v u x y z Q K rx ry hz k
 unfold iI at hz
 split at hz
 ·split at hz
  ·rename_i hc
   cases hz
   rw [rx.int,ry.int]
   exact ⟨_,_,rfl,rfl,hC _ _ hc,k _ F H ao K (.int _)⟩
  ·cases hz
 ·cases hz
noncomputable def subPV:=iI (fun _ _=>true) fun i j=>i - j
noncomputable def cMul (i j:Int):Bool:=(decide (-(2 ^ 64)<i) && decide (i<2 ^ 64)) || (decide (-(2 ^ 64)<j) && decide (j<2 ^ 64))
noncomputable def mulPV:PV->PV->Option PV
 | .int i,.int j=>if cMul i j=true then some (.int (i*j)) else none
 | .str s,.int i=>if 0<=i/\i<=1000/\s.length<=1000 then some (.str (repS s i.toNat)) else none
 | .lst xs,.int i=>if -1000<=i/\i<=1000/\xs.length<=1000 then some (.lst (List.replicate i.toNat xs).flatten) else none
 | _,_=>none
noncomputable def modPV:=iI (fun _ j=>decide (0<j)) fun i j=>i % j
noncomputable def divPV:=iI (fun _ j=>decide (0<j) && decide (j<1073741824)) fun i j=>i / j
noncomputable def powPV:=iI (fun i j=>decide (0<=j) && decide (j<=1000000) && decide (i.natAbs<2 ^ 64)) fun i j=>i ^ j.toNat
theorem t4:OpR X (binaryOp .Sub) (rI (fun _ _=>True) fun i j=>.int (i - j)):=by
 intro pins s σ H x y v u Q I rx ry h
 obtain ⟨i,j,e1,e2,_,q⟩:=h
 exact vg pins s σ H x y v u Q I rx ry ⟨i,j,e1,e2,q⟩
theorem eF (ha:EvS ob X a f) (hb:EvW ob X b g):EvS ob X (.BinOp a .Sub b pos) (eOp subPV f g):=eI t4 (gI fun _ _ _=>trivial) ha hb
theorem cL (ha:EvS ob X a f) (hb:EvW ob X b g):EvS ob X (.BinOp a .Mod b pos) (eOp modPV f g):=eI cH (gI fun _ _ h=>of_decide_eq_true h) ha hb
theorem jh (ha:EvS ob X a f) (hb:EvW ob X b g):EvS ob X (.BinOp a .FloorDiv b pos) (eOp divPV f g):=eI jK (gI fun _ _ h=>by simp at h; exact h) ha hb
theorem mD (ha:EvS ob X a f) (hb:EvW ob X b g):EvS ob X (.BinOp a .Pow b pos) (eOp powPV f g):=eI qj (gI fun _ _ h=>by simp at h; exact ⟨h.1.1,h.1.2,h.2⟩) ha hb
theorem Reps.rep {K:PySem.W.Frag} {F:Hp} {vs:List V} {xs:List PV} (r:Reps K F vs xs):∀ n:Nat,Reps K F (List.replicate n vs).flatten (List.replicate n xs).flatten
 | 0=>.nil
 | n+1=>by
  rw [List.replicate_succ,List.replicate_succ,List.flatten_cons,List.flatten_cons]
  exact r.app (r.rep n)
theorem tZ:OpQ ob X (fun x y H Q=>(rI CMul fun i j=>.int (i*j)) x y H Q\/(rMulS x y H Q\/rRep x y H Q)) mulPV:=by
 intro Z F σ H env v u x y z Q K rx ry hz k
 unfold mulPV at hz
 split at hz
 ·split at hz
  ·rename_i hc
   cases hz
   rw [rx.int,ry.int]
   refine .inl ⟨_,_,rfl,rfl,?_,k _ F H ao K (.int _)⟩
   unfold cMul at hc
   simp at hc
   exact hc
  ·cases hz
 ·split at hz
  ·rename_i hc
   cases hz
   rw [rx.str,ry.int]
   exact .inr (.inl ⟨_,_,rfl,rfl,hc.1,hc.2.1,hc.2.2,k _ F H ao K (.str _)⟩)
  ·cases hz
 ·rename_i xs i
  split at hz
  ·rename_i hc
   cases hz
   obtain ⟨p,vs,rfl,h1,h2⟩:=rx.lst K.sF
   rw [ry.int]
   have hl:=h2.len
   refine .inr (.inr ⟨p,i,vs,rfl,rfl,h1,by omega,by omega,?_,fun r hr=>?_⟩)
   ·rw [sizeLine_eq]
    have h3:i.toNat<=1000:=by omega
    have h4:vs.length<=1000:=by omega
    calc vs.length*i.toNat<=1000*1000:=Nat.mul_le_mul h4 h3
     _<=16777216:=by decide
   ·have hF:F r=none:=Same.none_of K.sF hr
    exact k _ _ _ (aA hF) (K.lay hr) (.lst am ((h2.rep _).mono (aA hF)))
  ·cases hz
 ·cases hz
theorem jg (ha:EvS ob X a f) (hb:EvW ob X b g):EvS ob X (.BinOp a .Mult b pos) (eOp mulPV f g):=eI (OpR.or cG (OpR.or t5 vh)) tZ ha hb
noncomputable def negPV:PV->Option PV
 | .int i=>some (.int (-i))
 | _=>none
theorem eG {op:CmpOp} {r:R2} {o:PV->PV->Option PV} (hr:OpR X (compareOp op) r) (hq:OpQ ob X r o) (ha:EvS ob X a f) (hb:EvW ob X b g) (hm:behindInMarks op b=false):EvS ob X (.Compare a [op] [b] pos) (eOp o f g):=by
 obtain ⟨ta,ha,ka⟩:=ha.ex
 obtain ⟨tb,hb,kb⟩:=hb.ex
 exact ⟨_,jI hr ha hb hm,gH hq.s ka kb⟩
theorem wc {op:CmpOp} {o:PV->PV->Option PV} (he:∃ t,PE X (.Compare a [op] [b] pos) t/\PT X (.Compare a [op] [b] pos) (tTest t)/\∀ (Z:Zn) (F:Hp) (σ:L2.St) (H:Hp) (env:En) (P:PV->En->Prop) (Q:VK),Sok (md ob X) Z F σ H env->f env P->(∀ x env' v F' H',P x env'->Same F F'->Sok (md ob X) Z F' σ H' env'->Rep X.K F' v x->Q v H')->t σ H Q):EvT ob X (.Compare a [op] [b] pos) (tBool f):=by
 obtain ⟨t,_,ht,h⟩:=he
 refine ⟨_,ht,fun Z F σ H env P Q K hf k=>h Z F σ H env _ _ K hf fun x e1 v F1 H1 p s1 K1 r1=>?_⟩
 obtain ⟨z,hz,p⟩:=p
 cases x <;> try (cases hz)
 cases r1
 exact ⟨_,rfl,k _ e1 F1 H1 p s1 K1⟩
theorem aJ {op:CmpOp} {r:R2} {o:PV->PV->Option PV} (hr:OpR X (compareOp op) r) (hq:OpQ ob X r o) (ha:EvS ob X a f) (hb:EvW ob X b g) (hm:behindInMarks op b=false):EvT ob X (.Compare a [op] [b] pos) (tBool (eOp o f g)):=by
 obtain ⟨ta,ha,ka⟩:=ha.ex
 obtain ⟨tb,hb,kb⟩:=hb.ex
 exact wc (o:=o) ⟨_,jI hr ha hb hm,gF hr ha hb hm,gH hq.s ka kb⟩
theorem cr {r:R2} {o:PV->PV->Option PV} {P:V->V->Hp->V->Prop} (h:∀ (F H:Hp) (v u:V) (x y z:PV),Same F H->Vw (md ob X) F H v x->Vw (md ob X) F H u y->o x y=some z->∃ w,(∀ F,Rep X.K F w z)/\∀ Q:VK,Q w H->r v u H Q):OpQ ob X r o:=by
 intro Z F σ H env v u x y z Q K rx ry hz k
 obtain ⟨w,h1,h2⟩:=h F H v u x y z K.sF rx ry hz
 exact h2 Q (k w F H ao K (h1 F))
noncomputable def ltPV:PV->PV->Option PV
 | .int i,.int j=>some (.bl (decide (i<j)))
 | .str s,.str t=>some (.bl (decide (ltS s t)))
 | _,_=>none
noncomputable def lePV:PV->PV->Option PV
 | .int i,.int j=>some (.bl (decide (i<=j)))
 | .str s,.str t=>some (.bl (!decide (ltS t s)))
 | _,_=>none
noncomputable def gtPV:PV->PV->Option PV
 | .int i,.int j=>some (.bl (decide (j<i)))
 | _,_=>none
theorem ve:OpQ ob X (fun x y H Q=>(rI0 fun i j=>.bl (decide (i<j))) x y H Q\/∃ i j,x=.str i/\y=.str j/\Q (.bl (decide (i.cps.toList<j.cps.toList))) H) ltPV:=by
 refine cr (P:=fun _ _ _ _=>True) fun F H v u x y z sF rx ry hz=>?_
 unfold ltPV at hz
 split at hz
 ·cases hz
  rw [rx.int,ry.int]
  exact ⟨_,fun _=>.bl _,fun Q q=>.inl ⟨_,_,rfl,rfl,q⟩⟩
 ·cases hz
  rw [rx.str,ry.str]
  exact ⟨_,fun _=>.bl _,fun Q q=>.inr ⟨_,_,rfl,rfl,q⟩⟩
 ·cases hz
theorem qi:OpQ ob X (rI0 fun i j=>.bl (decide (j<i))) gtPV:=by
 refine cr (P:=fun _ _ _ _=>True) fun F H v u x y z sF rx ry hz=>?_
 unfold gtPV at hz
 split at hz
 ·cases hz
  rw [rx.int,ry.int]
  exact ⟨_,fun _=>.bl _,fun Q q=>⟨_,_,rfl,rfl,q⟩⟩
 ·cases hz
theorem wy:OpR X (compareOp .Lt) (fun x y H Q=>(rI0 fun i j=>.bl (decide (i<j))) x y H Q\/∃ i j,x=.str i/\y=.str j/\Q (.bl (decide (i.cps.toList<j.cps.toList))) H):=OpR.or wA ql
noncomputable def truPV:PV->Option Bool
 | .non=>some false
 | .bl b=>some b
 | .int i=>some (i != 0)
 | .str s=>if s.length<=100000 then some ((s.length:Int) != 0) else none
 | .tup xs=>some (!xs.isEmpty)
 | .lst xs=>some (!xs.isEmpty)
 | .dic xs=>some (!xs.isEmpty)
 | _=>none
noncomputable def tTru (a:WE):WT:=fun env P=>a env fun x e=>opt (truPV x) fun b=>P b e
theorem ji (he:EvW ob X e f) (h:autoParam (∀ whole,isTrue e X.env whole=(do let v <- whole; standAt e.pos; holding [v] (truthy v))) Z3._auto_1):EvT ob X e (tTru f):=by
 obtain ⟨t,ht,k0⟩:=he.ex
 refine ⟨_,rK ht h,fun Z F σ H env P Q K hf k=>k0 Z F σ H env _ _ K hf fun x e1 v F1 H1 p s1 K1 r1=>?_⟩
 obtain ⟨z,hz,p⟩:=p
 refine ⟨z,?_,k _ e1 F1 H1 p s1 K1⟩
 have emp:∀ {α β:Type} {l:List α} {m:List β},l.length=m.length->l.isEmpty=m.isEmpty:=fun {α β l m} h=>by
  cases l <;> cases m <;> simp at h ⊢
 cases x <;> simp only [truPV] at hz
 ·cases hz; rw [r1.non]; rfl
 ·cases hz; rw [r1.bl]; rfl
 ·cases hz; rw [r1.int]; rfl
 ·split at hz
  ·cases hz; rw [r1.str]; exact ⟨by rw [sizeLine_eq]; omega,rfl⟩
  ·cases hz
 ·cases hz
  obtain ⟨p,vs,rfl,h1,h2⟩:=r1.tup K1.sF
  exact .inr (.inl ⟨vs,h1,by rw [emp h2.len]⟩)
 ·cases hz
  obtain ⟨p,vs,rfl,h1,h2⟩:=r1.lst K1.sF
  exact .inl ⟨vs,.inl (.inl h1),by rw [emp h2.len]⟩
 ·cases hz
  obtain ⟨p,vs,rfl,h1,h2⟩:=r1.dic K1.sF
  exact .inr (.inr ⟨vs,h1,by rw [emp h2.len]⟩)
 ·cases hz
 ·cases hz
variable {t u:WT} {rest:List Expr}
theorem pz (h:EvP ob X e t):EvT ob X e t:=by
 obtain ⟨w,hw,k⟩:=h.ex
 exact ⟨w,hw.pt,k⟩
theorem gO (h:EvT ob X a t):EvP ob X (.BoolOp .And [a] pos) t:=by
 obtain ⟨w,hw,k⟩:=h.ex
 exact ⟨w,pw_and1 hw,k⟩
theorem jk (h:EvT ob X a t) (h2:EvP ob X (.BoolOp .And (b::rest) pos) u):EvP ob X (.BoolOp .And (a::b::rest) pos) (tAnd t u):=by
 obtain ⟨w,hw,k⟩:=h.ex
 obtain ⟨w2,hw2,k2⟩:=h2.ex
 refine ⟨_,pw_and hw hw2,fun Z F σ H env P Q K hf kk=>k Z F σ H env _ _ K hf fun x e1 F1 H1 p s1 K1=>?_⟩
 cases x with
 | true=>exact iteT (k2 Z F1 σ H1 e1 P Q K1 p fun x e2 F2 H2 p2 s2 K2=>kk x e2 F2 H2 p2 (aj s1 s2) K2)
 | false=>exact iteF (kk _ e1 F1 H1 p s1 K1)
theorem mF (hc:EvT ob X c t) (ha:EvS ob X a f) (hb:EvS ob X b g):EvS ob X (.IfExp c a b pos) (eIf t f g):=by
 obtain ⟨w,hw,k⟩:=hc.ex
 obtain ⟨ta,ha,ka⟩:=ha.ex
 obtain ⟨tb,hb,kb⟩:=hb.ex
 refine ⟨_,rR hw ha hb,fun Z F σ H env P Q K hf kk=>k Z F σ H env _ _ K hf fun x e1 F1 H1 p s1 K1=>?_⟩
 cases x with
 | true=>exact iteT (ka Z F1 σ H1 e1 P Q K1 p fun x e2 v F2 H2 p2 s2 K2 r2=>kk x e2 v F2 H2 p2 (aj s1 s2) K2 r2)
 | false=>exact iteF (kb Z F1 σ H1 e1 P Q K1 p fun x e2 v F2 H2 p2 s2 K2 r2=>kk x e2 v F2 H2 p2 (aj s1 s2) K2 r2)
noncomputable def blPV:PV->Option Bool
 | .bl b=>some b
 | _=>none
noncomputable def eAnd (a b:WE):WE:=fun env P=>a env fun x e=>opt (blPV x) fun k=>if k=true then b e P else P (.bl false) e
noncomputable def eOr (a b:WE):WE:=fun env P=>a env fun x e=>opt (blPV x) fun k=>if k=true then P (.bl true) e else b e P
noncomputable def eNot (a:WE):WE:=fun env P=>a env fun x e=>opt (blPV x) fun k=>P (.bl (!k)) e
theorem vZ {op} (h:EvS ob X a f):EvS ob X (.BoolOp op [a] pos) f:=by
 obtain ⟨t,ht,k⟩:=h.ex
 exact ⟨t,u8 ht,k⟩
theorem uO {K:PySem.W.Frag} {F:Hp} {v:V} {x:PV} {k:Bool} (r:Rep K F v x) (h:blPV x=some k):v=.bl k/\x=.bl k:=by
 cases x <;> cases h
 cases r
 exact ⟨rfl,rfl⟩
theorem wb (ha:EvS ob X a f) (hb:EvS ob X (.BoolOp .And (b::rest) pos) g):EvS ob X (.BoolOp .And (a::b::rest) pos) (eAnd f g):=by
 obtain ⟨ta,ha,ka⟩:=ha.ex
 obtain ⟨tb,hb,kb⟩:=hb.ex
 refine ⟨_,vd ha hb,fun Z F σ H env P Q K hf kk=>ka Z F σ H env _ _ K hf fun x e1 v F1 H1 p s1 K1 r1=>?_⟩
 obtain ⟨z,hz,p⟩:=p
 obtain ⟨rfl,rfl⟩:=uO r1 hz
 refine ⟨z,rfl,?_⟩
 cases z with
 | true=>exact iteT (kb Z F1 σ H1 e1 P Q K1 p fun x e2 v F2 H2 p2 s2 K2 r2=>kk x e2 v F2 H2 p2 (aj s1 s2) K2 r2)
 | false=>exact iteF (kk _ e1 _ F1 H1 p s1 K1 (.bl _))
end
end Q
namespace Q
open PySem L2 PyProof.Rows
noncomputable def eqPV:Nat->PV->PV->Option Bool
 | 0,_,_=>none
 | d+1,x,y=>match x,y with
  | .non,.non=>some true
  | .non,.bl _=>some false
  | .non,.int _=>some false
  | .non,.str _=>some false
  | .bl _,.non=>some false
  | .bl a,.bl b=>some (a==b)
  | .bl a,.int b=>some ((if a then 1 else 0)==b)
  | .bl _,.str _=>some false
  | .int _,.non=>some false
  | .int a,.bl b=>some (a==(if b then 1 else 0))
  | .int a,.int b=>some (a==b)
  | .int _,.str _=>some false
  | .str _,.non=>some false
  | .str _,.bl _=>some false
  | .str _,.int _=>some false
  | .str a,.str b=>some (a==b)
  | .tup xs,.tup ys=>((xs.zip ys).mapM fun p=>eqPV d p.1 p.2).map fun bs=>bs.all id && xs.length==ys.length
  | .lst xs,.lst ys=>if xs.length=ys.length then ((xs.zip ys).mapM fun p=>eqPV d p.1 p.2).map fun bs=>bs.all id else some false
  | .tup _,.lst _=>some false
  | .lst _,.tup _=>some false
  | .tup _,.non=>some false
  | .tup _,.bl _=>some false
  | .tup _,.int _=>some false
  | .tup _,.str _=>some false
  | .non,.tup _=>some false
  | .bl _,.tup _=>some false
  | .int _,.tup _=>some false
  | .str _,.tup _=>some false
  | .lst _,.non=>some false
  | .lst _,.bl _=>some false
  | .lst _,.int _=>some false
  | .lst _,.str _=>some false
  | .non,.lst _=>some false
  | .bl _,.lst _=>some false
  | .int _,.lst _=>some false
  | .str _,.lst _=>some false
  | _,_=>none
theorem bo {α β:Type} {f:α->Option β}:∀ {l:List α} {m:List β},l.mapM f=some m->m.length=l.length/\∀ (i:Nat) (a:α),l[i]?=some a->∃ b,m[i]?=some b/\f a=some b
 | [],m,h=>by simp at h; subst h; exact ⟨rfl,fun i a e=>by simp at e⟩
 | a::l,m,h=>by
  rw [List.mapM_cons] at h
  cases ea:f a with
  | none=>rw [ea] at h; cases h
  | some b =>
   rw [ea] at h
   cases el:l.mapM f with
   | none=>rw [el] at h; cases h
   | some m' =>
    rw [el] at h
    have h:some (b::m')=some m:=h
    cases h
    obtain ⟨h1,h2⟩:=bo el
    refine ⟨by simp [h1],fun i c e=>?_⟩
    cases i with
    | zero=>simp at e; subst e; exact ⟨b,rfl,ea⟩
    | succ i=>simp at e ⊢; exact h2 i c e
theorem Vals.getV:∀ {xs:List V} {us:List Value} {i:Nat} {u:Value},Vals xs us->us[i]?=some u->∃ x,xs[i]?=some x/\RelV x u
 | _,_,_,_,.nil,e=>by simp at e
 | _,_,0,_,.cons r _,e=>by simp at e; subst e; exact ⟨_,rfl,r⟩
 | _,_,i+1,x,.cons _ t,e=>by
  obtain ⟨u,h1,h2⟩:=Vals.getV (i:=i) (u:=x) t (by simpa using e)
  exact ⟨u,by simpa using h1,h2⟩
section
variable {X:Cx} {pins:List (Addr×Obj)} {σ:L2.St} {H F:Hp} {s:Shared}
theorem cu (I:Inv X pins σ H s) {a:Addr} {vs ws:List V} (h1:SqL X.K H a vs) (h2:SqT X.K H a ws):False:=by
 obtain ⟨_,_,⟨o,n,e,c,_⟩,_⟩:=I.list h1
 obtain ⟨_,_,⟨o',e',c',_⟩,_⟩:=I.tuple h2
 rw [e] at e'; cases e'; rw [c] at c'; injection c' with c'; exact absurd c' (by decide)
theorem gv {e:Nat->Bool} {bs:List Bool} (h:∀ j,j<bs.length->bs[j]?=some (e j)):(List.range bs.length).all e=bs.all id:=by
 rw [Bool.eq_iff_iff,List.all_eq_true,List.all_eq_true]
 constructor
 ·intro q b hb
  obtain ⟨j,hj,rfl⟩:=List.mem_iff_getElem.mp hb
  have:=h j hj
  rw [List.getElem?_eq_getElem hj] at this
  have q2:=q j (List.mem_range.mpr hj)
  rw [<- Option.some.inj this] at q2
  exact q2
 ·intro q j hj
  have hj:=List.mem_range.mp hj
  have:=h j hj
  rw [List.getElem?_eq_getElem hj] at this
  rw [<- Option.some.inj this]
  exact q _ (List.getElem_mem hj)
theorem kQ (I:Inv X pins σ H s) (sF:Same F H):∀ {d:Nat} {v:V} {x y:PV} {k:Bool},Rep X.K F v x->Rep X.K F v y->eqPV d x y=some k->k=true:=by
 intro d
 induction d with
 | zero=>intro v x y k _ _ h; cases h
 | succ d ih =>
  intro v x y k rx ry h
  have lists:∀ {vs:List V} {xs ys:List PV} {bs:List Bool},Reps X.K F vs xs->Reps X.K F vs ys->(xs.zip ys).mapM (fun p=>eqPV d p.1 p.2)=some bs->bs.all id=true:=fun {vs xs ys bs} r1 r2 hm=>by
   obtain ⟨h1,h2⟩:=bo hm
   rw [List.all_eq_true]
   intro b hb
   obtain ⟨j,hj,rfl⟩:=List.mem_iff_getElem.mp hb
   have hj2:j<(xs.zip ys).length:=by rw [<- h1]; exact hj
   obtain ⟨b',e1,e2⟩:=h2 j _ (List.getElem?_eq_getElem hj2)
   rw [List.getElem?_eq_getElem hj] at e1
   cases Option.some.inj e1
   have hx:xs[j]?=some (xs.zip ys)[j].1:=by
    have:=List.getElem?_eq_getElem hj2
    rw [List.getElem?_zip_eq_some] at this
    exact this.1
   have hy:ys[j]?=some (xs.zip ys)[j].2:=by
    have:=List.getElem?_eq_getElem hj2
    rw [List.getElem?_zip_eq_some] at this
    exact this.2
   obtain ⟨v1,q1,q2⟩:=r1.get hx
   obtain ⟨v2,q3,q4⟩:=r2.get hy
   rw [q1] at q3; cases q3
   exact ih q2 q4 e2
  cases rx with
  | non=>cases ry; cases h; rfl
  | bl b=>cases ry; cases h; simp
  | int b=>cases ry; cases h; simp
  | str b=>cases ry; cases h; simp
  | tup h1 r1 =>
   cases ry with
   | tup h2 r2 =>
    have:=I.tuple_inj (az sF h1) (az sF h2)
    subst this
    replace h:Option.map (fun bs:List Bool=>bs.all id && List.length _==List.length _) (List.mapM (fun p:PV×PV=>eqPV d p.1 p.2) (List.zip _ _))=some k:=h
    rw [Option.map_eq_some_iff] at h
    obtain ⟨bs,hb,e⟩:=h
    rw [<- e,lists r1 r2 hb,<- r1.len,<- r2.len]
    simp
   | lst h2 r2=>exact (cu I (.inl (.inl (sF _ _ h2))) (az sF h1)).elim
   | dic h2 r2=>cases h
   | scr h2=>cases h
  | lst h1 r1 =>
   cases ry with
   | tup h2 r2=>exact (cu I (.inl (.inl (sF _ _ h1))) (az sF h2)).elim
   | lst h2 r2 =>
    rw [h1] at h2; cases h2
    replace h:(if List.length _=List.length _ then Option.map (fun bs:List Bool=>bs.all id) (List.mapM (fun p:PV×PV=>eqPV d p.1 p.2) (List.zip _ _)) else some false)=some k:=h
    rw [if_pos (by rw [<- r1.len,<- r2.len])] at h
    rw [Option.map_eq_some_iff] at h
    obtain ⟨bs,hb,e⟩:=h
    rw [<- e,lists r1 r2 hb]
   | dic h2 r2=>cases h
   | scr h2=>cases h
  | dic h1 r1=>cases y <;> cases h
  | scr h1=>cases y <;> cases h
theorem eqAt (I:Inv X pins σ H s) (sF:Same F H):∀ {d:Nat} {A:Around} {v u:V} {x y:PV} {a b:Value} {k:Bool},A.units+d<cLine->Rep X.K F v x->Rep X.K F u y->RelV v a->RelV u b->eqPV d x y=some k->SeqAt.RcAt A s a b k/\SeqAt.EqAt A s a b k:=by
 intro d
 induction d with
 | zero=>intro A v u x y a b k _ _ _ _ _ h; cases h
 | succ d ih =>
  intro A v u x y a b k hu rx ry ra rb h
  have hu0:A.units<cLine:=by omega
  cases rx with
  | non =>
   cases ra
   cases ry with
   | non=>cases rb; cases h; exact ⟨SeqAt.RcAt.none_none,SeqAt.EqAt.same _⟩
   | bl b=>cases rb; cases h; exact ⟨SeqAt.RcAt.none_bool b,SeqAt.EqAt.none_bool b⟩
   | int b=>obtain ⟨t,rfl⟩:=rb; cases h; exact ⟨SeqAt.RcAt.none_int b t,SeqAt.EqAt.none_int b t⟩
   | str b=>obtain ⟨t,rfl⟩:=rb; cases h; exact ⟨SeqAt.RcAt.none_str b t,SeqAt.EqAt.none_str b t⟩
   | tup h1 r1 =>
    cases rb; cases h
    obtain ⟨its,_,p,_⟩:=I.tuple (az sF h1)
    exact ⟨SeqAt.RcAt.none_tuple p hu0,SeqAt.EqAt.none_tuple p hu0⟩
   | lst h1 r1 =>
    cases rb; cases h
    obtain ⟨its,_,p,_⟩:=I.list (.inl (.inl (sF _ _ h1)))
    exact ⟨SeqAt.RcAt.none_list p.isList hu0,SeqAt.EqAt.none_list p.isList hu0⟩
   | dic=>cases h
   | scr=>cases h
  | bl a =>
   cases ra
   cases ry with
   | non=>cases rb; cases h; exact ⟨SeqAt.RcAt.bool_none a,SeqAt.EqAt.bool_none a⟩
   | bl b=>cases rb; cases h; exact ⟨SeqAt.RcAt.bool_bool a b,SeqAt.EqAt.bool_bool a b⟩
   | int b=>obtain ⟨t,rfl⟩:=rb; cases h; exact ⟨SeqAt.RcAt.bool_int a b t,SeqAt.EqAt.bool_int a b t⟩
   | str b=>obtain ⟨t,rfl⟩:=rb; cases h; exact ⟨SeqAt.RcAt.bool_str a b t,SeqAt.EqAt.bool_str a b t⟩
   | tup h1 r1 =>
    cases rb; cases h
    obtain ⟨its,_,p,_⟩:=I.tuple (az sF h1)
    exact ⟨SeqAt.RcAt.bool_tuple a p hu0,SeqAt.EqAt.bool_tuple a p hu0⟩
   | lst h1 r1 =>
    cases rb; cases h
    obtain ⟨its,_,p,_⟩:=I.list (.inl (.inl (sF _ _ h1)))
    exact ⟨SeqAt.RcAt.bool_list a p.isList hu0,SeqAt.EqAt.bool_list a p.isList hu0⟩
   | dic=>cases h
   | scr=>cases h
  | int a =>
   obtain ⟨t',rfl⟩:=ra
   cases ry with
   | non=>cases rb; cases h; exact ⟨SeqAt.RcAt.int_none a t',SeqAt.EqAt.int_none a t'⟩
   | bl b=>cases rb; cases h; exact ⟨SeqAt.RcAt.int_bool a t' b,SeqAt.EqAt.int_bool a t' b⟩
   | int b=>obtain ⟨t,rfl⟩:=rb; cases h; exact ⟨SeqAt.RcAt.int_int a t' b t,SeqAt.EqAt.int_int a t' b t⟩
   | str b=>obtain ⟨t,rfl⟩:=rb; cases h; exact ⟨SeqAt.RcAt.int_str a t' b t,SeqAt.EqAt.int_str a t' b t⟩
   | tup h1 r1 =>
    cases rb; cases h
    obtain ⟨its,_,p,_⟩:=I.tuple (az sF h1)
    exact ⟨SeqAt.RcAt.int_tuple a t' p hu0,SeqAt.EqAt.int_tuple a t' p hu0⟩
   | lst h1 r1 =>
    cases rb; cases h
    obtain ⟨its,_,p,_⟩:=I.list (.inl (.inl (sF _ _ h1)))
    exact ⟨SeqAt.RcAt.int_list a t' p.isList hu0,SeqAt.EqAt.int_list a t' p.isList hu0⟩
   | dic=>cases h
   | scr=>cases h
  | str a =>
   obtain ⟨t',rfl⟩:=ra
   cases ry with
   | non=>cases rb; cases h; exact ⟨SeqAt.RcAt.str_none a t',SeqAt.EqAt.str_none a t'⟩
   | bl b=>cases rb; cases h; exact ⟨SeqAt.RcAt.str_bool a t' b,SeqAt.EqAt.str_bool a t' b⟩
   | int b=>obtain ⟨t,rfl⟩:=rb; cases h; exact ⟨SeqAt.RcAt.str_int a t' b t,SeqAt.EqAt.str_int a t' b t⟩
   | str b=>obtain ⟨t,rfl⟩:=rb; cases h; exact ⟨SeqAt.RcAt.str_str a t' b t,SeqAt.EqAt.str_str a t' b t⟩
   | tup h1 r1 =>
    cases rb; cases h
    obtain ⟨its,_,p,_⟩:=I.tuple (az sF h1)
    exact ⟨SeqAt.RcAt.str_tuple a t' p hu0,SeqAt.EqAt.str_tuple a t' p hu0⟩
   | lst h1 r1 =>
    cases rb; cases h
    obtain ⟨its,_,p,_⟩:=I.list (.inl (.inl (sF _ _ h1)))
    exact ⟨SeqAt.RcAt.str_list a t' p.isList hu0,SeqAt.EqAt.str_list a t' p.isList hu0⟩
   | dic=>cases h
   | scr=>cases h
  | @tup pa vs xs h1 r1 =>
   cases ra
   obtain ⟨its,rv,p,_⟩:=I.tuple (az sF h1)
   cases ry with
   | non=>cases rb; cases h; exact ⟨SeqAt.RcAt.tuple_none p hu0,SeqAt.EqAt.tuple_none p hu0⟩
   | bl b=>cases rb; cases h; exact ⟨SeqAt.RcAt.tuple_bool b p hu0,SeqAt.EqAt.tuple_bool b p hu0⟩
   | int b=>obtain ⟨t,rfl⟩:=rb; cases h; exact ⟨SeqAt.RcAt.tuple_int b t p hu0,SeqAt.EqAt.tuple_int b t p hu0⟩
   | str b=>obtain ⟨t,rfl⟩:=rb; cases h; exact ⟨SeqAt.RcAt.tuple_str b t p hu0,SeqAt.EqAt.tuple_str b t p hu0⟩
   | @tup pb ws ys h2 r2 =>
    cases rb
    have h0:=h
    obtain ⟨its2,rw',p2,_⟩:=I.tuple (az sF h2)
    replace h:Option.map (fun bs:List Bool=>bs.all id && xs.length==ys.length) (List.mapM (fun p:PV×PV=>eqPV d p.1 p.2) (xs.zip ys))=some k:=h
    rw [Option.map_eq_some_iff] at h
    obtain ⟨bs,hb,e⟩:=h
    obtain ⟨hbl,hbe⟩:=bo hb
    have l1:its.length=xs.length:=by rw [<- rv.length,r1.len]
    have l2:its2.length=ys.length:=by rw [<- rw'.length,r2.len]
    have rc:SeqAt.RcAt A s (.ref pa) (.ref pb) k:=by
     have:=SeqAt.RcAt.tuples (e:=fun j=>bs.getD j false) p p2 hu0 (fun j j1 j2=>by
      simp only [List.size_toArray] at j1 j2
      have jx:j<xs.length:=by omega
      have jy:j<ys.length:=by omega
      have hz:(xs.zip ys)[j]?=some (xs[j],ys[j]):=by rw [List.getElem?_zip_eq_some]; exact ⟨by simp [jx],by simp [jy]⟩
      obtain ⟨b,e1,e2⟩:=hbe j _ hz
      obtain ⟨v1,q1,q2⟩:=r1.get (List.getElem?_eq_getElem jx)
      obtain ⟨v2,q3,q4⟩:=r2.get (List.getElem?_eq_getElem jy)
      obtain ⟨u1,q5,q6⟩:=rv.get q1
      obtain ⟨u2,q7,q8⟩:=rw'.get q3
      have g1:its.toArray[j]=u1:=by simpa [List.getElem?_eq_getElem j1] using q5
      have g2:its2.toArray[j]=u2:=by simpa [List.getElem?_eq_getElem j2] using q7
      rw [g1,g2]
      have hb':bs.getD j false=b:=by simp [List.getD,e1]
      rw [hb']
      exact (ih (A:=A.in1) (by show A.units+1+d<cLine; omega) q2 q4 q6 q8 e2).2)
     have e3:((List.range (min its.toArray.size its2.toArray.size)).all (fun j=>bs.getD j false) && its.toArray.size==its2.toArray.size)=k:=by
      have e4:min its.toArray.size its2.toArray.size=bs.length:=by
       rw [hbl,List.length_zip,List.size_toArray,List.size_toArray,l1,l2]
      rw [e4,gv (fun j hj=>by simp [List.getD,List.getElem?_eq_getElem hj]),List.size_toArray,List.size_toArray,l1,l2]
      exact e
     rw [e3] at this
     exact this
    refine ⟨rc,?_⟩
    by_cases q:pa=pb
    ·subst q
     have:k=true:=kQ I sF (.tup h1 r1) (.tup h2 r2) h0
     subst this
     exact SeqAt.EqAt.same _
    ·exact SeqAt.EqAt.of_refs q rc
   | lst h2 r2 =>
    cases rb; cases h
    obtain ⟨its2,_,p2,_⟩:=I.list (.inl (.inl (sF _ _ h2)))
    exact ⟨SeqAt.RcAt.tuple_list p p2.isList hu0,SeqAt.EqAt.tuple_list p p2.isList hu0⟩
   | dic=>cases h
   | scr=>cases h
  | @lst pa vs xs h1 r1 =>
   cases ra
   obtain ⟨its,rv,p,_⟩:=I.list (.inl (.inl (sF _ _ h1)))
   cases ry with
   | non=>cases rb; cases h; exact ⟨SeqAt.RcAt.list_none p.isList hu0,SeqAt.EqAt.list_none p.isList hu0⟩
   | bl b=>cases rb; cases h; exact ⟨SeqAt.RcAt.list_bool b p.isList hu0,SeqAt.EqAt.list_bool b p.isList hu0⟩
   | int b=>obtain ⟨t,rfl⟩:=rb; cases h; exact ⟨SeqAt.RcAt.list_int b t p.isList hu0,SeqAt.EqAt.list_int b t p.isList hu0⟩
   | str b=>obtain ⟨t,rfl⟩:=rb; cases h; exact ⟨SeqAt.RcAt.list_str b t p.isList hu0,SeqAt.EqAt.list_str b t p.isList hu0⟩
   | tup h2 r2 =>
    cases rb; cases h
    obtain ⟨its2,_,p2,_⟩:=I.tuple (az sF h2)
    exact ⟨SeqAt.RcAt.list_tuple p.isList p2 hu0,SeqAt.EqAt.list_tuple p.isList p2 hu0⟩
   | @lst pb ws ys h2 r2 =>
    cases rb
    have h0:=h
    obtain ⟨its2,rw',p2,_⟩:=I.list (.inl (.inl (sF _ _ h2)))
    have l1:its.length=xs.length:=by rw [<- rv.length,r1.len]
    have l2:its2.length=ys.length:=by rw [<- rw'.length,r2.len]
    have rc:SeqAt.RcAt A s (.ref pa) (.ref pb) k:=by
     replace h:(if xs.length=ys.length then Option.map (fun bs:List Bool=>bs.all id) (List.mapM (fun p:PV×PV=>eqPV d p.1 p.2) (xs.zip ys)) else some false)=some k:=h
     split at h
     ·rename_i hl
      rw [Option.map_eq_some_iff] at h
      obtain ⟨bs,hb,e⟩:=h
      obtain ⟨hbl,hbe⟩:=bo hb
      have:=SeqAt.RcAt.lists (e:=fun j=>bs.getD j false) p.isList p2.isList (by rw [List.size_toArray,List.size_toArray]; omega) hu0 (fun j j1 j2=>by
       simp only [List.size_toArray] at j1 j2
       have jx:j<xs.length:=by omega
       have jy:j<ys.length:=by omega
       have hz:(xs.zip ys)[j]?=some (xs[j],ys[j]):=by rw [List.getElem?_zip_eq_some]; exact ⟨by simp [jx],by simp [jy]⟩
       obtain ⟨b,e1,e2⟩:=hbe j _ hz
       obtain ⟨v1,q1,q2⟩:=r1.get (List.getElem?_eq_getElem jx)
       obtain ⟨v2,q3,q4⟩:=r2.get (List.getElem?_eq_getElem jy)
       obtain ⟨u1,q5,q6⟩:=rv.get q1
       obtain ⟨u2,q7,q8⟩:=rw'.get q3
       have g1:its.toArray[j]=u1:=by simpa [List.getElem?_eq_getElem j1] using q5
       have g2:its2.toArray[j]=u2:=by simpa [List.getElem?_eq_getElem j2] using q7
       rw [g1,g2]
       have hb':bs.getD j false=b:=by simp [List.getD,e1]
       rw [hb']
       exact (ih (A:=A.in1) (by show A.units+1+d<cLine; omega) q2 q4 q6 q8 e2).2)
      have e3:((List.range its.toArray.size).all (fun j=>bs.getD j false))=k:=by
       have e4:its.toArray.size=bs.length:=by
        rw [hbl,List.length_zip,List.size_toArray,l1]; omega
       rw [e4,gv (fun j hj=>by simp [List.getD,List.getElem?_eq_getElem hj])]
       exact e
      rw [e3] at this
      exact this
     ·rename_i hl
      cases h
      exact SeqAt.RcAt.lists_lengths p.isList p2.isList (by simp only [List.size_toArray]; simpa [l1,l2] using hl) hu0
    refine ⟨rc,?_⟩
    by_cases q:pa=pb
    ·subst q
     have:k=true:=kQ I sF (.lst h1 r1) (.lst h2 r2) h0
     subst this
     exact SeqAt.EqAt.same _
    ·exact SeqAt.EqAt.of_refs q rc
   | dic=>cases h
   | scr=>cases h
  | dic h1 r1=>cases y <;> cases h
  | scr h1=>cases y <;> cases h
end
section
variable {ob:ObK} {X:Cx} {a b c e:Expr} {f g h:WE} {pos:Pos}
noncomputable def eqqPV (x y:PV):Option PV:=(eqPV 60 x y).map .bl
theorem Vw.frz {M:Md} {F H:Hp} {v:V} {x:PV} (h:Vw M F H v x) (s:Same F H) (hx:∀ xs,x≠.set xs):∃ F',Same F F'/\Same F' H/\Rep M.K F' v x:=by
 rcases h with h | ⟨a,rfl,h⟩
 ·exact ⟨F,ao,s,h⟩
 ·cases x <;> try exact h.elim
  ·rename_i xs
   obtain ⟨vs,h1,h2⟩:=h
   cases e:F a with
   | none =>
    refine ⟨upd F a (.lst vs),aA e,fun b o q=>?_,.lst am (h2.mono (aA e))⟩
    by_cases z:b=a
    ·subst z; rw [am] at q; cases q; exact h1
    ·rw [ah z] at q; exact s b o q
   | some o =>
    have:=s a o e
    rw [h1] at this; cases this
    exact ⟨F,ao,s,.lst e h2⟩
  ·rename_i xs
   obtain ⟨vs,h1,h2⟩:=h
   cases e:F a with
   | none =>
    refine ⟨upd F a (.dK vs),aA e,fun b o q=>?_,.dic am (h2.mono (aA e))⟩
    by_cases z:b=a
    ·subst z; rw [am] at q; cases q; exact h1
    ·rw [ah z] at q; exact s b o q
   | some o =>
    have:=s a o e
    rw [h1] at this; cases this
    exact ⟨F,ao,s,.dic e h2⟩
  ·exact absurd rfl (hx _)
noncomputable def rEqQ (K:PySem.W.Frag):R2:=fun v u H Q=>∃ F x y k,Same F H/\Rep K F v x/\Rep K F u y/\eqPV 60 x y=some k/\Q (.bl k) H
theorem bn (hu:X.A.units+60<cLine):OpR X (compareOp .Eq) (rEqQ X.K):=by
 intro pins s σ H x y v u Q I rx ry h
 obtain ⟨F,p,q,k,sF,r1,r2,e,hq⟩:=h
 exact (eqAt I sF (A:=X.A) hu r1 r2 rx ry e).1 X.prog X.w X.xe _ ⟨.bl k,H,I,rfl,hq⟩
theorem bj:OpQ ob X (rEqQ X.K) eqqPV:=by
 refine cr (P:=fun _ _ _ _=>True) fun F H v u x y z sF rx ry hz=>?_
 unfold eqqPV at hz
 rw [Option.map_eq_some_iff] at hz
 obtain ⟨k,hk,rfl⟩:=hz
 have nx:∀ xs,x≠.set xs:=fun xs e=>by subst e; cases y <;> cases hk
 have ny:∀ xs,y≠.set xs:=fun xs e=>by subst e; cases x <;> cases hk
 obtain ⟨F1,s1,s2,r1⟩:=rx.frz sF nx
 have ry1:Vw (md ob X) F1 H u y:=by
  rcases ry with r | ⟨a,e,r⟩
  ·exact .inl (r.mono s1)
  ·exact .inr ⟨a,e,r.mono s1 rfl⟩
 obtain ⟨F2,s3,s4,r2⟩:=ry1.frz s2 ny
 exact ⟨_,fun _=>.bl _,fun Q q=>⟨F2,x,y,k,s4,r1.mono s3,r2,hk,q⟩⟩
noncomputable def toV:PV->Option V
 | .non=>some .non
 | .bl b=>some (.bl b)
 | .int i=>some (.int i)
 | .str s=>some (.str s)
 | _=>none
theorem pO {M:Md} {F H:Hp} {v w:V} {x:PV} (h:Vw M F H v x) (e:toV x=some w):v=w:=by
 cases x <;> cases e
 ·exact h.non
 ·exact h.bl
 ·exact h.int
 ·exact h.str
noncomputable def nePV:PV->PV->Option PV
 | .lst xs,.lst []=>some (.bl (!xs.isEmpty))
 | x,y=>(toV x).bind fun v=>(toV y).bind fun u=>if scal v u=true then some (.bl (!decide (v=u))) else none
theorem lV:OpQ ob X (fun x y H Q=>rNe x y H Q\/rNeNil X.K x y H Q) nePV:=by
 refine cr (P:=fun _ _ _ _=>True) fun F H v u x y z sF rx ry hz=>?_
 unfold nePV at hz
 split at hz
 ·cases hz
  rename_i xs
  obtain ⟨p,vs,rfl,h1,h2⟩:=rx.lst sF
  obtain ⟨q,ws,rfl,g1,g2⟩:=ry.lst sF
  cases g2
  refine ⟨_,fun _=>.bl _,fun Q hq=>.inr ⟨p,q,vs,rfl,rfl,.inl (.inl h1),.inl (.inl g1),?_⟩⟩
  have:vs.isEmpty=xs.isEmpty:=by have:=h2.len; cases vs <;> cases xs <;> simp at this ⊢
  rw [this]; exact hq
 ·cases e1:toV x with
  | none=>rw [e1] at hz; cases hz
  | some v' =>
   cases e2:toV y with
   | none=>rw [e1,e2] at hz; cases hz
   | some u' =>
    rw [e1,e2] at hz
    have hz:(if scal v' u'=true then some (PV.bl (!decide (v'=u'))) else none)=some z:=hz
    split at hz
    ·rename_i hs
     cases hz
     rw [pO rx e1,pO ry e2]
     exact ⟨_,fun _=>.bl _,fun Q q=>.inl ⟨hs,q⟩⟩
    ·cases hz
theorem o4 (hu:X.A.units<cLine):OpR X (compareOp .NotEq) (fun x y H Q=>rNe x y H Q\/rNeNil X.K x y H Q):=OpR.or wz (lX hu)
end
end Q
namespace Q
open PySem L2 PyProof.Rows
section
variable {X:Cx} {pins:List (Addr×Obj)} {σ:L2.St} {H F:Hp} {s:Shared}
theorem Inv.noK (I:Inv X pins σ H s) {a:Addr} {o:Obj} (h:X.K.lookup a=some o):H a=none:=(I.bs a o (I.mod.kin a o h)).2
theorem mK (I:Inv X pins σ H s) {a:Addr} {kvs:List (Key×V)} {vs:List V} (h1:H a=some (.dK kvs)) (h2:SqT X.K H a vs):False:=by
 obtain ⟨_,_,_,_,o,_,_,e,ex,_⟩:=I.hok a _ h1
 obtain ⟨_,_,⟨o',e',c',_⟩,_⟩:=I.tuple h2
 rw [e] at e'; cases e'; rw [ex.1] at c'; injection c' with c'; exact absurd c' (by decide)
theorem hX:∀ {ns ms:List Int},ns.map V.int=ms.map V.int->ns=ms
 | [],[],_=>rfl
 | n::ns,m::ms,h=>by
  rw [List.map_cons,List.map_cons] at h
  injection h with h1 h2
  injection h1 with h1
  rw [h1,hX h2]
 | [],_::_,h=>by simp at h
 | _::_,[],h=>by simp at h
theorem Rep.inj (I:Inv X pins σ H s) (sF:Same F H) {v:V} {x y:PV} (h:Rep X.K F v x) (h':Rep X.K F v y):x=y:=by
 refine Rep.rec (K:=X.K) (F:=F) (motive_1:=fun v x _=>∀ y,Rep X.K F v y->x=y) (motive_2:=fun vs xs _=>∀ ys,Reps X.K F vs ys->xs=ys) (motive_3:=fun vs xs _=>∀ ys,RepsK X.K F vs ys->xs=ys)
  ?_ ?_ ?_ ?_ ?_ ?_ ?_ ?_ ?_ ?_ ?_ ?_ h y h'
 ·intro y h; cases h; rfl
 ·intro b y h; cases h; rfl
 ·intro b y h; cases h; rfl
 ·intro b y h; cases h; rfl
 ·intro a vs xs h1 _ ih y h
  cases h with
  | tup h2 r2 =>
   have:=I.tuple_inj (az sF h1) (az sF h2)
   subst this
   rw [ih _ r2]
  | lst h2 r2=>exact (cu I (.inl (.inl (sF _ _ h2))) (az sF h1)).elim
  | dic h2 r2=>exact (mK I (sF _ _ h2) (az sF h1)).elim
  | scr h2=>exact (cu I (bt sF h2.sq) (az sF h1)).elim
 ·intro a vs xs h1 _ ih y h
  cases h with
  | tup h2 r2=>exact (cu I (.inl (.inl (sF _ _ h1))) (az sF h2)).elim
  | lst h2 r2=>rw [h1] at h2; cases h2; rw [ih _ r2]
  | dic h2 r2=>rw [h1] at h2; cases h2
  | scr h2 =>
   rcases h2 with ⟨o,h2⟩ | ⟨o,_,_,h2,_⟩
   ·rw [h1] at h2; cases h2
   ·have:=sF _ _ h1; rw [Inv.noK I h2] at this; cases this
 ·intro a vs xs h1 _ ih y h
  cases h with
  | tup h2 r2=>exact (mK I (sF _ _ h1) (az sF h2)).elim
  | lst h2 r2=>rw [h1] at h2; cases h2
  | dic h2 r2=>rw [h1] at h2; cases h2; rw [ih _ r2]
  | scr h2 =>
   rcases h2 with ⟨o,h2⟩ | ⟨o,_,_,h2,_⟩
   ·rw [h1] at h2; cases h2
   ·have:=sF _ _ h1; rw [Inv.noK I h2] at this; cases this
 ·intro a ns h1 y h
  cases h with
  | tup h2 r2=>exact (cu I (bt sF h1.sq) (az sF h2)).elim
  | lst h2 r2 =>
   rcases h1 with ⟨o,h1⟩ | ⟨o,_,_,h1,_⟩
   ·rw [h1] at h2; cases h2
   ·have:=sF _ _ h2; rw [Inv.noK I h1] at this; cases this
  | dic h2 r2 =>
   rcases h1 with ⟨o,h1⟩ | ⟨o,_,_,h1,_⟩
   ·rw [h1] at h2; cases h2
   ·have:=sF _ _ h2; rw [Inv.noK I h1] at this; cases this
  | scr h2=>rw [hX (I.list_inj (bt sF h1.sq) (bt sF h2.sq))]
 ·intro ys h; cases h; rfl
 ·intro v x vs xs _ _ ih1 ih2 ys h
  cases h with
  | cons h r=>rw [ih1 _ h,ih2 _ r]
 ·intro ys h; cases h; rfl
 ·intro k v x vs xs _ _ ih1 ih2 ys h
  cases h with
  | cons h r=>rw [ih1 _ h,ih2 _ r]
theorem gL (I:Inv X pins σ H s) (sF:Same F H) {A:Around} {d:Nat} {vs:List V} {us:List Value} {xs:List PV} {v:V} {u:Value} {x:PV} {ks:List Bool} (hu:A.units+d<cLine) (rv:Vals vs us) (r:Reps X.K F vs xs) (rx:Rep X.K F v x) (ru:RelV v u)
  (hk:xs.mapM (fun y=>eqPV d y x)=some ks):∃ e:Value->Bool,(∀ y,y∈us->SeqAt.EqAt A s y u (e y))/\us.any e=ks.any id/\us.countP e=ks.countP id/\(∀ (i:Nat) (w:Value),us[i]?=some w->ks[i]?=some (e w)):=by
 obtain ⟨hl,hb⟩:=bo hk
 have l1:=rv.length
 have l2:=r.len
 have key:∀ (i:Nat) (w:Value),us[i]?=some w->∃ b y z,xs[i]?=some y/\vs[i]?=some z/\RelV z w/\Rep X.K F z y/\eqPV d y x=some b/\ks[i]?=some b:=fun i w hw=>by
  obtain ⟨z,e1,e2⟩:=Vals.getV rv hw
  obtain ⟨y,e3,e4⟩:=r.getV e1
  obtain ⟨b,e5,e6⟩:=hb i y e3
  exact ⟨b,y,z,e3,e1,e2,e4,e6,e5⟩
 let e:Value->Bool:=fun w=>(us.zip ks).any fun p=>p.1==w && p.2
 have four:∀ (i:Nat) (w:Value),us[i]?=some w->ks[i]?=some (e w):=by
  intro i w hw
  obtain ⟨b,y,z,e1,e2,e3,e4,e5,e6⟩:=key i w hw
  rw [e6]
  congr 1
  rw [Bool.eq_iff_iff,List.any_eq_true]
  constructor
  ·intro hb'
   refine ⟨(w,b),List.mem_of_getElem? (i:=i) (by rw [List.getElem?_zip_eq_some]; exact ⟨hw,e6⟩),by simp [hb']⟩
  ·rintro ⟨⟨w',b'⟩,hm,hp⟩
   simp only [Bool.and_eq_true] at hp
   obtain ⟨j,hj,ej⟩:=List.mem_iff_getElem.mp hm
   have hz:=List.getElem?_eq_getElem hj
   rw [ej,List.getElem?_zip_eq_some] at hz
   obtain ⟨hz1,hz2⟩:=hz
   have hww:w'=w:=eq_of_beq hp.1
   dsimp only at hz1 hz2
   rw [hww] at hz1
   obtain ⟨b2,y2,z2,f1,f2,f3,f4,f5,f6⟩:=key j w hz1
   have:z=z2:=e3.inj f3
   subst this
   have:=Rep.inj I sF e4 f4
   subst this
   rw [e5] at f5; cases f5
   rw [hz2] at f6; cases f6
   exact hp.2
 have hmap:ks=us.map e:=by
  refine List.ext_getElem? fun i=>?_
  rw [List.getElem?_map]
  cases q:us[i]? with
  | none =>
   have:us.length<=i:=List.getElem?_eq_none_iff.mp q
   rw [List.getElem?_eq_none (by omega)]; rfl
  | some w=>rw [four i w q]; rfl
 refine ⟨e,fun y hy=>?_,?_,?_,four⟩
 ·obtain ⟨i,hi,rfl⟩:=List.mem_iff_getElem.mp hy
  have hw:=List.getElem?_eq_getElem hi
  obtain ⟨b,y,z,e1,e2,e3,e4,e5,e6⟩:=key i _ hw
  have:=four i _ hw
  rw [e6] at this
  rw [<- Option.some.inj this]
  exact (eqAt I sF (A:=A) hu e4 rx e3 ru e5).2
 ·rw [hmap,List.any_map]; rfl
 ·rw [hmap,List.countP_map]; rfl
end
section
variable {ob:ObK} {X:Cx} {a b c e:Expr} {f g h:WE} {pos:Pos}
noncomputable def inB (x:PV):PV->Option Bool
 | .tup ys=>(ys.mapM fun y=>eqPV 60 y x).map fun ks=>ks.any id
 | .lst ys=>(ys.mapM fun y=>eqPV 60 y x).map fun ks=>ks.any id
 | .dic kvs=>(keyP x).map fun k=>(valP kvs k).isSome
 | .str s=>match x with
  | .str t=>some (!(Builtin.Str.occurrences s t 0 s.length 1).isEmpty)
  | _=>none
 | .set S=>match x with
  | .str t=>some (decide (t∈S))
  | _=>none
 | _=>none
noncomputable def noSet:PV->Bool
 | .set _=>false
 | _=>true
theorem lZ {x:PV} (h:noSet x=true):∀ xs,x≠.set xs:=fun xs e=>by subst e; cases h
noncomputable def inPV (x y:PV):Option PV:=if noSet x=true then (inB x y).map .bl else none
noncomputable def ninPV (x y:PV):Option PV:=if noSet x=true then (inB x y).map fun b=>.bl (!b) else none
noncomputable def rInQ (P:Program) (w:World) (K:PySem.W.Frag) (neg:Bool):R2:=fun v u H Q=>∃ (F:Hp) (x:PV) (b:Bool),Same F H/\Q (.bl (if neg then !b else b)) H /\
 ((∃ p vs ys ks,u=.ref p/\(SqL K H p vs\/SqT K H p vs)/\Reps K F vs ys/\Rep K F v x/\ys.mapM (fun y=>eqPV 60 y x)=some ks/\b=ks.any id) \/
  (∃ p o,u=.ref p/\DGet H p v o/\b=o.isSome)\/(∃ i j,v=.str i/\u=.str j/\b=!(Builtin.Str.occurrences j i 0 j.length 1).isEmpty) \/
  (∃ z a S n,v=.str z/\u=.ref a/\H a=some (setS P w a S n)/\b=S z))
theorem dZ (hu:X.A.units+62<cLine):OpR X (compareOp .In) (rInQ X.prog X.w X.K false):=by
 intro pins s σ H v u v' u' Q I rv ru h
 obtain ⟨F,x,b,sF,q,h⟩:=h
 have q:Q (.bl b) H:=q
 rcases h with ⟨p,vs,ys,ks,rfl,hs,hr,hx,hk,rfl⟩ | ⟨p,o,rfl,hd,rfl⟩ | ⟨i,j,rfl,rfl,rfl⟩ | ⟨z,a,S,n,rfl,rfl,ha,rfl⟩
 ·cases ru
  rcases hs with hs | hs
  ·obtain ⟨its,r,pl,_⟩:=I.list hs
   obtain ⟨e,e1,e2,_⟩:=gL I sF (A:=X.A.in1) (d:=60) (by show X.A.units+1+60<cLine; omega) r hr hx rv hk
   refine SeqAt.in_listAt e pl.isList (fun y hy=>e1 y (by simpa using hy)) ⟨.bl _,H,I,rfl,?_⟩
   rw [show its.toArray.any e=its.any e by simp,e2]; exact q
  ·obtain ⟨its,r,pl,_⟩:=I.tuple hs
   obtain ⟨e,e1,e2,_⟩:=gL I sF (A:=X.A.in1) (d:=60) (by show X.A.units+1+60<cLine; omega) r hr hx rv hk
   refine SeqAt.in_tupleAt e pl (fun y hy=>e1 y (by simpa using hy)) ⟨.bl _,H,I,rfl,?_⟩
   rw [show its.toArray.any e=its.any e by simp,e2]; exact q
 ·cases ru
  exact wJ (by omega) I hd rv fun s3 I3=>⟨.bl _,H,I3,rfl,q⟩
 ·exact qm pins s σ H _ _ _ _ Q I rv ru ⟨i,j,rfl,rfl,q⟩
 ·cases ru
  obtain ⟨t,rfl⟩:=rv
  obtain ⟨x,_,_⟩:=I.hok a _ ha
  exact wpAny_inSet_of (knd:=PySem.strKind X.prog X.w) (strKind_is _ _ _ _) rfl x ⟨.bl (S z),H,I.tok _,rfl,q⟩
theorem dY (hu:X.A.units+62<cLine):OpR X (compareOp .NotIn) (rInQ X.prog X.w X.K true):=by
 intro pins s σ H v u v' u' Q I rv ru h
 obtain ⟨F,x,b,sF,q,h⟩:=h
 have q:Q (.bl (!b)) H:=q
 rcases h with ⟨p,vs,ys,ks,rfl,hs,hr,hx,hk,rfl⟩ | ⟨p,o,rfl,hd,rfl⟩ | ⟨i,j,rfl,rfl,rfl⟩ | ⟨z,a,S,n,rfl,rfl,ha,rfl⟩
 ·cases ru
  rcases hs with hs | hs
  ·obtain ⟨its,r,pl,_⟩:=I.list hs
   obtain ⟨e,e1,e2,_⟩:=gL I sF (A:=X.A.in1) (d:=60) (by show X.A.units+1+60<cLine; omega) r hr hx rv hk
   refine SeqAt.notIn_listAt e pl.isList (fun y hy=>e1 y (by simpa using hy)) ⟨.bl _,H,I,rfl,?_⟩
   rw [show its.toArray.any e=its.any e by simp,e2]; exact q
  ·obtain ⟨its,r,pl,_⟩:=I.tuple hs
   obtain ⟨e,e1,e2,_⟩:=gL I sF (A:=X.A.in1) (d:=60) (by show X.A.units+1+60<cLine; omega) r hr hx rv hk
   refine SeqAt.notIn_tupleAt e pl (fun y hy=>e1 y (by simpa using hy)) ⟨.bl _,H,I,rfl,?_⟩
   rw [show its.toArray.any e=its.any e by simp,e2]; exact q
 ·cases ru
  exact uH (by omega) I hd rv fun s3 I3=>⟨.bl _,H,I3,rfl,q⟩
 ·exact lW pins s σ H _ _ _ _ Q I rv ru ⟨i,j,rfl,rfl,q⟩
 ·exact qk pins s σ H _ _ _ _ Q I rv ru ⟨z,a,S,n,rfl,rfl,ha,q⟩
theorem qD {F H:Hp} {v u:V} {x y:PV} {b neg:Bool} (sF:Same F H) (nx:∀ xs,x≠.set xs) (rx:Vw (md ob X) F H v x) (ry:Vw (md ob X) F H u y) (hz:inB x y=some b) (Q:VK) (q:Q (.bl (if neg then !b else b)) H):rInQ X.prog X.w X.K neg v u H Q:=by
 unfold inB at hz
 have seq:∀ {p:Addr} {vs:List V} {ys:List PV},u=.ref p->(SqL X.K H p vs\/SqT X.K H p vs)->Reps X.K F vs ys->((ys.mapM fun y=>eqPV 60 y x).map fun ks=>ks.any id)=some b->rInQ X.prog X.w X.K neg v u H Q:=fun {p vs ys} hp hs hr hz=>by
  rw [Option.map_eq_some_iff] at hz
  obtain ⟨ks,hk,e⟩:=hz
  obtain ⟨F1,s1,s2,r1⟩:=rx.frz sF nx
  exact ⟨F1,x,b,s2,q,.inl ⟨p,vs,ys,ks,hp,hs,hr.mono s1,r1,hk,e.symm⟩⟩
 split at hz
 ·obtain ⟨p,vs,e,h1,h2⟩:=ry.tup sF
  exact seq e (.inr h1) h2 hz
 ·obtain ⟨p,vs,e,h1,h2⟩:=ry.lst sF
  exact seq e (.inl (.inl (.inl h1))) h2 hz
 ·obtain ⟨p,vs,e,h1,h2⟩:=ry.dic sF
  rw [Option.map_eq_some_iff] at hz
  obtain ⟨k,hk,rfl⟩:=hz
  have hv:=vwKey rx hk
  subst hv
  refine ⟨F,.non,_,sF,q,.inr (.inl ⟨p,valV vs k,e,DGet.k h1,?_⟩)⟩
  rcases h2.val (k:=k) with ⟨e1,e2⟩ | ⟨w,w',e1,e2,_⟩
  ·rw [e1,e2]; rfl
  ·rw [e1,e2]; rfl
 ·split at hz
  ·cases hz
   exact ⟨F,.non,_,sF,q,.inr (.inr (.inl ⟨_,_,rx.str,ry.str,rfl⟩))⟩
  ·cases hz
 ·split at hz
  ·cases hz
   rcases ry with r | ⟨p,rfl,r⟩
   ·cases r
   ·exact ⟨F,.non,_,sF,q,.inr (.inr (.inr ⟨_,p,_,_,rx.str,rfl,r,rfl⟩))⟩
  ·cases hz
 ·cases hz
theorem dX:OpQ ob X (rInQ X.prog X.w X.K false) inPV:=by
 refine cr (P:=fun _ _ _ _=>True) fun F H v u x y z sF rx ry hz=>?_
 unfold inPV at hz
 split at hz
 case isFalse=>cases hz
 rename_i nx
 rw [Option.map_eq_some_iff] at hz
 obtain ⟨b,hb,rfl⟩:=hz
 exact ⟨_,fun _=>.bl _,fun Q q=>qD sF (lZ nx) rx ry hb Q q⟩
theorem dW:OpQ ob X (rInQ X.prog X.w X.K true) ninPV:=by
 refine cr (P:=fun _ _ _ _=>True) fun F H v u x y z sF rx ry hz=>?_
 unfold ninPV at hz
 split at hz
 case isFalse=>cases hz
 rename_i nx
 rw [Option.map_eq_some_iff] at hz
 obtain ⟨b,hb,rfl⟩:=hz
 exact ⟨_,fun _=>.bl _,fun Q q=>qD sF (lZ nx) rx ry hb Q q⟩
end
end Q
namespace Q
open PySem L2 PyProof.Rows
inductive Vws (M:Md) (F H:Hp):List V->List PV->Prop where
 | nil:Vws M F H [] []
 | cons {v:V} {x:PV} {vs:List V} {xs:List PV}:Vw M F H v x->Vws M F H vs xs->Vws M F H (v::vs) (x::xs)
theorem Reps.vws {M:Md} {F H:Hp} {vs:List V} {xs:List PV} (h:Reps M.K F vs xs):Vws M F H vs xs:=by
 induction h using Reps.ind with
 | nil=>exact .nil
 | cons a _ ih=>exact .cons (.inl a) ih
theorem Vws.one {M:Md} {F H:Hp} {vs:List V} {x:PV} (h:Vws M F H vs [x]):∃ v,vs=[v]/\Vw M F H v x:=by
 cases h with
 | cons a r=>cases r; exact ⟨_,rfl,a⟩
structure EvAW (ob:ObK) (X:Cx) (es:List Expr) (f:WA):Prop where
 ex:∃ t:TA,PA X es t/\∀ (Z:Zn) (F:Hp) (σ:L2.St) (H:Hp) (env:En) (P:List PV->En->Prop) (Q:List V->Hp->Prop),Sok (md ob X) Z F σ H env->f env P ->
  (∀ xs env' vs F' H',P xs env'->Same F F'->Sok (md ob X) Z F' σ H' env'->Vws (md ob X) F' H' vs xs->Q vs H')->t σ H Q
noncomputable def a1 (a:WE):WA:=fun env P=>a env fun x e=>P [x] e
noncomputable def eCB (o:List PV->Option PV) (fa:WA):WE:=fun env P=>fa env fun xs e=>opt (o xs) fun z=>P z e
section
variable {ob:ObK} {X:Cx} {a b c e:Expr} {es:List Expr} {f g h:WE} {fa:WA} {pos p:Pos} {x:Str} {idn T:String} {r:List V->Hp->VK->Prop} {o:List PV->Option PV}
theorem EvA.w (h:EvA ob X es fa):EvAW ob X es fa:=by
 obtain ⟨t,ht,k⟩:=h.ex
 exact ⟨t,ht,fun Z F σ H env P Q K hf kk=>k Z F σ H env P Q K hf fun xs e1 vs F1 H1 p _ s1 K1 r1=>kk xs e1 vs F1 H1 p s1 K1 r1.vws⟩
theorem bI (h:EvW ob X e f) (hs:autoParam (starEach [e] X.env=(false,eval e X.env)::starEach [] X.env) Z2._auto_1):EvAW ob X [e] (a1 f):=by
 obtain ⟨t,ht,k⟩:=h.ex
 exact ⟨_,bh ht bu hs,fun Z F σ H env P Q K hf kk=>k Z F σ H env _ _ K hf fun x e1 v F1 H1 p s1 K1 r1=>kk [x] e1 [v] F1 H1 p s1 K1 (.cons r1 .nil)⟩
noncomputable def CallQ (ob:ObK) (X:Cx) (r:List V->Hp->VK->Prop) (o:List PV->Option PV):Prop :=
 ∀ (Z:Zn) (F:Hp) (σ:L2.St) (H:Hp) (env:En) (vs:List V) (xs:List PV) (z:PV) (Q:VK),Sok (md ob X) Z F σ H env->Vws (md ob X) F H vs xs->o xs=some z ->
  (∀ v' F' H',Same F F'->Sok (md ob X) Z F' σ H' env->Rep X.K F' v' z->Q v' H')->r vs H Q
noncomputable def CallQF (ob:ObK) (X:Cx) (r:List V->Hp->VK->Prop) (o:List PV->Option PV):Prop :=
 ∀ (Z:Zn) (F:Hp) (σ:L2.St) (H:Hp) (env:En) (vs:List V) (xs:List PV) (z:PV) (Q:VK),Sok (md ob X) Z F σ H env->Vws (md ob X) F H vs xs->o xs=some z ->
  (∀ v' H',(∀ xs,z≠.set xs)->Sok (md ob X) Z F (σ++[some v']) H' (env++[some ⟨1,z⟩])->Q v' H')->r vs H Q
theorem pZ {t:TA} (hq:CallQ ob X r o) (k:∀ (Z:Zn) (F:Hp) (σ:L2.St) (H:Hp) (env:En) (P:List PV->En->Prop) (Q:List V->Hp->Prop),Sok (md ob X) Z F σ H env->fa env P->(∀ xs env' vs F' H',P xs env'->Same F F'->Sok (md ob X) Z F' σ H' env'->Vws (md ob X) F' H' vs xs->Q vs H')->t σ H Q) :
  ∀ (Z:Zn) (F:Hp) (σ:L2.St) (H:Hp) (env:En) (P:PV->En->Prop) (Q:VK),Sok (md ob X) Z F σ H env->eCB o fa env P->(∀ x env' v F' H',P x env'->Same F F'->Sok (md ob X) Z F' σ H' env'->Rep X.K F' v x->Q v H')->tCB r t σ H Q:=by
 intro Z F σ H env P Q K hf kk
 refine k Z F σ H env _ _ K hf fun xs e1 vs F1 H1 p s1 K1 r1=>?_
 obtain ⟨z,hz,p⟩:=p
 exact hq Z F1 σ H1 e1 vs xs z Q K1 r1 hz fun v' F' H' s2 K2 r2=>kk z e1 v' F' H' p (aj s1 s2) K2 r2
theorem tH {t:TA} (hq:CallQF ob X r o) (k:∀ (Z:Zn) (F:Hp) (σ:L2.St) (H:Hp) (env:En) (P:List PV->En->Prop) (Q:List V->Hp->Prop),Sok (md ob X) Z F σ H env->fa env P->(∀ xs env' vs F' H',P xs env'->Same F F'->Sok (md ob X) Z F' σ H' env'->Vws (md ob X) F' H' vs xs->Q vs H')->t σ H Q) :
  ∀ (Z:Zn) (F:Hp) (σ:L2.St) (H:Hp) (env:En) (P:PV->En->Prop) (Q:VK),Sok (md ob X) Z F σ H env->eCB o fa env P->(∀ x env' v F' H',P x env'->Same F F'->(∀ xs,x≠.set xs)->Sok (md ob X) Z F' (σ++[some v]) H' (env'++[some ⟨1,x⟩])->Q v H')->tCB r t σ H Q:=by
 intro Z F σ H env P Q K hf kk
 refine k Z F σ H env _ _ K hf fun xs e1 vs F1 H1 p s1 K1 r1=>?_
 obtain ⟨z,hz,p⟩:=p
 exact hq Z F1 σ H1 e1 vs xs z Q K1 r1 hz fun v' H' hx K2=>kk z e1 v' F1 H' p s1 hx K2
theorem cp (hc:CallR X (.builtin idn) r) (hq:CallQ ob X r o) (hg:Gl X x) (hm:X.mg x=none) (hv:bootBuiltins x=some (.builtin idn)) (ha:EvAW ob X (e::es) fa) (hn:autoParam (x ≠ "__name__") Z1._auto_1) (hdb:autoParam ((x==("__debug__" : Str))=false) Z1._auto_1)
  (he:autoParam (starEach (e::es) X.env=(false,eval e X.env)::starEach es X.env) Z2._auto_1) (hpl:autoParam ((backTo pos (starEach es X.env)).any (·.1)=false) Z2._auto_1):EvS ob X (.Call (.Name x p) (e::es) [] pos) (eCB o fa):=by
 obtain ⟨t,ht,k⟩:=ha.ex
 exact ⟨_,b8 hc hg hm hv ht hn hdb he hpl,pZ hq k⟩
theorem bX (hc:CallR X (.type T) r) (hq:CallQ ob X r o) (hg:Gl X x) (hm:X.mg x=none) (hv:bootBuiltins x=some (.type T)) (ha:EvAW ob X (e::es) fa) (hn:autoParam (x ≠ "__name__") Z1._auto_1) (hdb:autoParam ((x==("__debug__" : Str))=false) Z1._auto_1)
  (he:autoParam (starEach (e::es) X.env=(false,eval e X.env)::starEach es X.env) Z2._auto_1) (hpl:autoParam ((backTo pos (starEach es X.env)).any (·.1)=false) Z2._auto_1):EvS ob X (.Call (.Name x p) (e::es) [] pos) (eCB o fa):=by
 obtain ⟨t,ht,k⟩:=ha.ex
 exact ⟨_,dy hc hg hm hv ht hn hdb he hpl,pZ hq k⟩
theorem qP (hc:CallR X (.type T) r) (hq:CallQF ob X r o) (hg:Gl X x) (hm:X.mg x=none) (hv:bootBuiltins x=some (.type T)) (ha:EvAW ob X (e::es) fa) (hn:autoParam (x ≠ "__name__") Z1._auto_1) (hdb:autoParam ((x==("__debug__" : Str))=false) Z1._auto_1)
  (he:autoParam (starEach (e::es) X.env=(false,eval e X.env)::starEach es X.env) Z2._auto_1) (hpl:autoParam ((backTo pos (starEach es X.env)).any (·.1)=false) Z2._auto_1):EvF ob X (.Call (.Name x p) (e::es) [] pos) (eCB o fa):=by
 obtain ⟨t,ht,k⟩:=ha.ex
 exact ⟨_,dy hc hg hm hv ht hn hdb he hpl,tH hq k⟩
theorem Vw.scr {M:Md} {F H:Hp} {v:V} {ns:List Int} (h:Vw M F H v (.scr ns)) (s:Same F H):∃ a,v=.ref a/\SqL M.K H a (ns.map V.int):=by
 rcases h with h | ⟨a,rfl,h⟩
 ·cases h with
  | scr h=>exact ⟨_,rfl,bt s h.sq⟩
 ·exact h.elim
noncomputable def lenPV:List PV->Option PV
 | [.lst xs]=>some (.int xs.length)
 | [.tup xs]=>some (.int xs.length)
 | [.dic xs]=>some (.int xs.length)
 | [.str s]=>if s.length<=100000 then some (.int s.length) else none
 | [.scr ns]=>some (.int ns.length)
 | _=>none
noncomputable def rLen (K:PySem.W.Frag):List V->Hp->VK->Prop:=fun xs H Q=>(∃ p ys,xs=[.ref p]/\(SqL K H p ys\/SqT K H p ys)/\Q (.int ys.length) H)\/((∃ z,xs=[.str z]/\z.length<=sizeLine/\Q (.int z.length) H)\/∃ a kvs,xs=[V.ref a]/\H a=some (.dK kvs)/\Q (.int kvs.length) H)
theorem cN:CallR X (.builtin "len") (rLen X.K):=CallR.or gq (CallR.or mQ qW)
theorem cO:CallQ ob X (rLen X.K) lenPV:=by
 intro Z F σ H env vs xs z Q K rv hz k
 unfold lenPV at hz
 split at hz
 ·cases hz
  obtain ⟨v,rfl,r⟩:=rv.one
  obtain ⟨p,vs,rfl,h1,h2⟩:=r.lst K.sF
  exact .inl ⟨p,vs,rfl,.inl (.inl (.inl h1)),k _ F H ao K (by rw [h2.len]; exact .int _)⟩
 ·cases hz
  obtain ⟨v,rfl,r⟩:=rv.one
  obtain ⟨p,vs,rfl,h1,h2⟩:=r.tup K.sF
  exact .inl ⟨p,vs,rfl,.inr h1,k _ F H ao K (by rw [h2.len]; exact .int _)⟩
 ·cases hz
  obtain ⟨v,rfl,r⟩:=rv.one
  obtain ⟨p,vs,rfl,h1,h2⟩:=r.dic K.sF
  exact .inr (.inr ⟨p,vs,rfl,h1,k _ F H ao K (by rw [h2.len]; exact .int _)⟩)
 ·split at hz
  ·cases hz
   obtain ⟨v,rfl,r⟩:=rv.one
   rw [r.str]
   exact .inr (.inl ⟨_,rfl,by rw [sizeLine_eq]; omega,k _ F H ao K (.int _)⟩)
  ·cases hz
 ·cases hz
  obtain ⟨v,rfl,r⟩:=rv.one
  obtain ⟨p,rfl,h1⟩:=r.scr K.sF
  exact .inl ⟨p,_,rfl,.inl h1,k _ F H ao K (by rw [List.length_map]; exact .int _)⟩
 ·cases hz
noncomputable def br:List PV->Option PV
 | [.lst xs]=>some (.tup xs)
 | [.tup xs]=>some (.tup xs)
 | _=>none
noncomputable def rTuple (K:PySem.W.Frag):List V->Hp->VK->Prop:=fun xs H Q=>∃ p ys,xs=[.ref p]/\((SqL K H p ys/\∀ l,H l=none->Q (.ref l) (upd H l (.tup ys)))\/(SqT K H p ys/\Q (.ref p) H))
theorem bJ:CallR X (.type "tuple") (rTuple X.K):=ll
theorem bK:CallQ ob X (rTuple X.K) br:=by
 intro Z F σ H env vs xs z Q K rv hz k
 unfold br at hz
 split at hz
 ·cases hz
  obtain ⟨v,rfl,r⟩:=rv.one
  obtain ⟨p,vs,rfl,h1,h2⟩:=r.lst K.sF
  refine ⟨p,vs,rfl,.inl ⟨.inl (.inl h1),fun l hl=>?_⟩⟩
  have hF:F l=none:=Same.none_of K.sF hl
  exact k _ _ _ (aA hF) (K.lay hl) (.tup (.inl (.inl am)) (h2.mono (aA hF)))
 ·cases hz
  obtain ⟨v,rfl,r⟩:=rv.one
  have r':=r.tupR
  obtain ⟨p,vs,rfl,h1,h2⟩:=r.tup K.sF
  exact ⟨p,vs,rfl,.inr ⟨h1,k _ F H ao K r'⟩⟩
 ·cases hz
theorem ga {K:PySem.W.Frag} {F:Hp}:∀ (ns:List Int),Reps K F (ns.map V.int) (ns.map PV.int)
 | []=>.nil
 | n::ns=>.cons (.int n) (ga ns)
noncomputable def intPV:PV->Option Int
 | .int i=>some i
 | _=>none
noncomputable def strPV:PV->Option Str
 | .str i=>some i
 | _=>none
theorem de {α:Type} {K:PySem.W.Frag} {F:Hp} {g:PV->Option α} {w:α->V} (hg:∀ x a,g x=some a->∀ v,Rep K F v x->v=w a):∀ {xs:List PV} {as:List α} {vs:List V},xs.mapM g=some as->Reps K F vs xs->vs=as.map w
 | [],as,vs,h,r=>by simp at h; subst h; cases r; rfl
 | x::xs,as,vs,h,r=>by
  rw [List.mapM_cons] at h
  cases ea:g x with
  | none=>rw [ea] at h; cases h
  | some a =>
   rw [ea] at h
   cases el:xs.mapM g with
   | none=>rw [el] at h; cases h
   | some bs =>
    rw [el] at h
    have h:some (a::bs)=some as:=h
    cases h
    cases r with
    | cons r1 r2=>rw [List.map_cons,hg x a ea _ r1,de hg el r2]
noncomputable def allPV:List PV->Option PV
 | [.lst xs]=>(xs.mapM blPV).map fun bs=>.bl (bs.all id)
 | _=>none
theorem wg {K:PySem.W.Frag} {F:Hp} (x:PV) (a:Bool) (h:blPV x=some a) (v:V) (r:Rep K F v x):v=.bl a:=by cases x <;> cases h; cases r; rfl
theorem jw {K:PySem.W.Frag} {F:Hp} (x:PV) (a:Str) (h:strPV x=some a) (v:V) (r:Rep K F v x):v=.str a:=by cases x <;> cases h; cases r; rfl
theorem wf:CallQ ob X (fun xs H Q=>∃ (p:Addr) (bs:List Bool),xs=[.ref p]/\SqL X.K H p (bs.map V.bl)/\Q (.bl (bs.all id)) H) allPV:=by
 intro Z F σ H env vs xs z Q K rv hz k
 unfold allPV at hz
 split at hz
 ·rw [Option.map_eq_some_iff] at hz
  obtain ⟨ns,hn,rfl⟩:=hz
  obtain ⟨v,rfl,r⟩:=rv.one
  obtain ⟨p,vs,rfl,h1,h2⟩:=r.lst K.sF
  have:=de wg hn h2
  subst this
  exact ⟨p,ns,rfl,.inl (.inl h1),k _ F H ao K (.bl _)⟩
 ·cases hz
noncomputable abbrev WO:=En->(Option Int->En->Prop)->Prop
structure EvO (ob:ObK) (X:Cx) (e:Option Expr) (f:WO):Prop where
 ex:∃ t:TO,PO X e t/\∀ (Z:Zn) (F:Hp) (σ:L2.St) (H:Hp) (env:En) (P:Option Int->En->Prop) (Q:Option Int->Hp->Prop),Sok (md ob X) Z F σ H env->f env P ->
  (∀ i env' F' H',P i env'->Same F F'->Sok (md ob X) Z F' σ H' env'->Q i H')->t σ H Q
noncomputable def oNone:WO:=fun env P=>P none env
noncomputable def oSome (a:WE):WO:=fun env P=>a env fun x e=>opt (intPV x) fun i=>P (some i) e
theorem eM:EvO ob X none oNone:=⟨_,nO,fun Z F σ H env P Q K hf k=>k none env F H hf ao K⟩
theorem eJ (h:EvW ob X e f):EvO ob X (some e) (oSome f):=by
 obtain ⟨t,ht,k⟩:=h.ex
 refine ⟨_,nN ht,fun Z F σ H env P Q K hf kk=>k Z F σ H env _ _ K hf fun x e1 v F1 H1 p s1 K1 r1=>?_⟩
 obtain ⟨z,hz,p⟩:=p
 cases x <;> cases hz
 rw [r1.int]
 exact ⟨_,rfl,kk _ e1 F1 H1 p s1 K1⟩
noncomputable def cutP {α:Type} (xs:List α) (lo hi:Option Int):List α:=(xs.drop (HT.sIx xs.length 0 lo)).take (HT.sIx xs.length xs.length hi - HT.sIx xs.length 0 lo)
noncomputable def slPV:PV->Option Int->Option Int->Option PV
 | .lst xs,lo,hi=>some (.lst (cutP xs lo hi))
 | .tup xs,lo,hi=>some (.tup (cutP xs lo hi))
 | .scr ns,lo,hi=>some (.lst ((cutP ns lo hi).map .int))
 | _,_,_=>none
noncomputable def eSl (a:WE) (lo hi:WO):WE:=fun env P=>a env fun x e1=>lo e1 fun l e2=>hi e2 fun u e3=>opt (slPV x l u) fun z=>P z e3
theorem mL {K:PySem.W.Frag} {F:Hp} {vs:List V} {xs:List PV} {lo hi:Option Int} (r:Reps K F vs xs):Reps K F (cutV vs lo hi) (cutP xs lo hi):=by
 unfold cutV cutP
 rw [r.len]
 exact (r.drop _).take _
theorem uJ {ns:List Int} {lo hi:Option Int}:cutV (ns.map V.int) lo hi=(cutP ns lo hi).map V.int:=by
 unfold cutV cutP
 rw [List.length_map,List.map_take,List.map_drop]
theorem po {l u:Option Expr} {lo hi:WO} {p2:Pos} (ha:EvS ob X a f) (hl:EvO ob X l lo) (hu:EvO ob X u hi):EvS ob X (.Subscript a (.Slice l u none p2) pos) (eSl f lo hi):=by
 obtain ⟨t,ht,k⟩:=ha.ex
 obtain ⟨t1,ht1,k1⟩:=hl.ex
 obtain ⟨t2,ht2,k2⟩:=hu.ex
 refine ⟨_,ir (SlR.or nC tG) ht ht1 ht2,fun Z F σ H env P Q K hf kk=>k Z F σ H env _ _ K hf fun x e1 v F1 H1 p s1 K1 r1=>?_⟩
 refine k1 Z F1 σ H1 e1 _ _ K1 p fun i e2 F2 H2 p2 s2 K2=>k2 Z F2 σ H2 e2 _ _ K2 p2 fun j e3 F3 H3 p3 s3 K3=>?_
 obtain ⟨z,hz,p3⟩:=p3
 have r3:=(r1.mono s2).mono s3
 have s4:=aj s1 (aj s2 s3)
 have r3':Vw (md ob X) F3 H3 v x:=.inl r3
 cases x <;> simp only [slPV] at hz <;> cases hz
 ·obtain ⟨q,vs,rfl,h1,h2⟩:=r3'.tup K3.sF
  refine .inr ⟨q,vs,rfl,h1,fun hw=>kk _ e3 _ F3 H3 p3 s4 K3 ?_,fun l hl=>?_⟩
  ·have:cutP (α:=PV) ‹_› i j=‹List PV›:=by
    unfold cutP
    rw [<- h2.len,hw.1,hw.2]
    simp [h2.len]
   rw [this]; exact r3
  ·have hF:F3 l=none:=Same.none_of K3.sF hl
   exact kk _ e3 _ _ _ p3 (aj s4 (aA hF)) (K3.lay hl) (.tup (.inl (.inl am)) ((mL h2).mono (aA hF)))
 ·obtain ⟨q,vs,rfl,h1,h2⟩:=r3'.lst K3.sF
  refine .inl ⟨q,vs,rfl,.inl (.inl h1),fun l hl=>?_⟩
  have hF:F3 l=none:=Same.none_of K3.sF hl
  exact kk _ e3 _ _ _ p3 (aj s4 (aA hF)) (K3.lay hl) (.lst am ((mL h2).mono (aA hF)))
 ·obtain ⟨q,rfl,h1⟩:=r3'.scr K3.sF
  refine .inl ⟨q,_,rfl,h1,fun l hl=>?_⟩
  have hF:F3 l=none:=Same.none_of K3.sF hl
  exact kk _ e3 _ _ _ p3 (aj s4 (aA hF)) (K3.lay hl) (.lst (by rw [am,uJ]) (ga _))
end
end Q
namespace Q
open PySem L2 PyProof.Rows
structure Lds (M:Md) (Z:Zn) (F:Hp) (P:Wd) (D:Ends):Prop where
 nx:∀ env σ F' H,P.nx env->Same F F'->Sok M Z F' σ H env->D.nx σ H
 rt:∀ x env v σ F' H,P.rt x env->Same F F'->Sok M Z F' σ H env->Rep M.K F' v x->D.rt v H
 bk:∀ env σ F' H,P.bk env->Same F F'->Sok M Z F' σ H env->D.bk σ H
 ct:∀ env σ F' H,P.ct env->Same F F'->Sok M Z F' σ H env->D.ct σ H
 rf:∀ x env v σ F' H,P.rf x env->Same F F'->(∀ xs,x≠.set xs)->Sok M Z F' (σ++[some v]) H (env++[some ⟨1,x⟩])->D.rt v H
 ro:∀ x i env v σ F' H,P.ro x i env->Same F F'->Sok M Z F' σ H env->env[i]?=some (some ⟨4,x⟩)->σ[i]?=some (some v)->D.rt v H
theorem Lds.mono {M:Md} {Z:Zn} {F F1:Hp} {P:Wd} {D:Ends} (h:Lds M Z F P D) (s:Same F F1):Lds M Z F1 P D :=
 ⟨fun e σ F' H p q=>h.nx e σ F' H p (aj s q),fun x e v σ F' H p q=>h.rt x e v σ F' H p (aj s q),fun e σ F' H p q=>h.bk e σ F' H p (aj s q),fun e σ F' H p q=>h.ct e σ F' H p (aj s q),fun x e v σ F' H p q=>h.rf x e v σ F' H p (aj s q),fun x i e v σ F' H p q=>h.ro x i e v σ F' H p (aj s q)⟩
structure EvX (ob:ObK) (X:Cx) (st:Stmt) (f:WS):Prop where
 ex:∃ t:TS,PS X st t/\∀ (Z:Zn) (F:Hp) (σ:L2.St) (H:Hp) (env:En) (P:Wd) (D:Ends),Sok (md ob X) Z F σ H env->f P env->Lds (md ob X) Z F P D->t D σ H
structure EvXs (ob:ObK) (X:Cx) (st:List Stmt) (f:WS):Prop where
 ex:∃ t:TS,PSs X st t/\∀ (Z:Zn) (F:Hp) (σ:L2.St) (H:Hp) (env:En) (P:Wd) (D:Ends),Sok (md ob X) Z F σ H env->f P env->Lds (md ob X) Z F P D->t D σ H
noncomputable abbrev WG:=PV->En->(En->Prop)->Prop
structure EvG (ob:ObK) (X:Cx) (tg:Expr) (f:WG):Prop where
 ex:∃ t:TG,PG X tg t/\∀ (Z:Zn) (F:Hp) (σ:L2.St) (H:Hp) (env:En) (v:V) (x:PV) (P:En->Prop) (Q:L2.St->Hp->Prop),Sok (md ob X) Z F σ H env->Rep X.K F v x->f x env P ->
  (∀ env' σ' F' H',P env'->Same F F'->Sok (md ob X) Z F' σ' H' env'->Q σ' H')->t v σ H Q
noncomputable abbrev WGs:=List PV->En->(En->Prop)->Prop
structure EvGs (ob:ObK) (X:Cx) (tgs:List Expr) (f:WGs):Prop where
 ex:∃ t:TGs,PGs X tgs t/\∀ (Z:Zn) (F:Hp) (σ:L2.St) (H:Hp) (env:En) (vs:List V) (xs:List PV) (P:En->Prop) (Q:L2.St->Hp->Prop),Sok (md ob X) Z F σ H env->Reps X.K F vs xs->f xs env P ->
  (∀ env' σ' F' H',P env'->Same F F'->Sok (md ob X) Z F' σ' H' env'->Q σ' H')->t vs σ H Q
noncomputable def sSeq (a b:WS):WS:=fun P env=>a { P with nx:=b P } env
noncomputable def sNil:WS:=fun P env=>P.nx env
noncomputable def sRet (a:WE):WS:=fun P env=>a env P.rt
noncomputable def sDrop (a:WE):WS:=fun P env=>a env fun _ e=>P.nx e
noncomputable def sIf (c:WT) (a b:WS):WS:=fun P env=>c env fun k e=>if k=true then a P e else b P e
noncomputable def sSet (i:Nat) (a:WE):WS:=fun P env=>a env fun x e=>P.nx (e.set i (some ⟨0,x⟩))
noncomputable def sSetO (i:Nat) (a:WE):WS:=fun P env=>a env fun x e=>P.nx (e.set i (some ⟨1,x⟩))
noncomputable def gN (i:Nat):WG:=fun x env P=>P (env.set i (some ⟨0,x⟩))
noncomputable def gsNil:WGs:=fun xs env P=>xs=[]/\P env
noncomputable def gsCons (g:WG) (r:WGs):WGs:=fun xs env P=>match xs with
 | []=>False
 | x::xs=>g x env fun e=>r xs e P
noncomputable def gT (r:WGs):WG:=fun x env P=>match x with
 | .tup xs=>r xs env P
 | _=>False
noncomputable def sAsg (a:WE) (g:WG):WS:=fun P env=>a env fun x e=>g x e P.nx
noncomputable def sPar (i j:Nat) (a:WA):WS:=fun P env=>a env fun xs e=>match xs with
 | [x,y]=>P.nx ((e.set i (some ⟨0,x⟩)).set j (some ⟨0,y⟩))
 | _=>False
section
variable {ob:ObK} {X:Cx} {a b c e tg:Expr} {st:Stmt} {sts:List Stmt} {es:List Expr} {f g h:WE} {fa:WA} {pos p:Pos} {u v:WS} {t:WT}
theorem bL:EvXs ob X [] sNil:=⟨_,jH,fun Z F σ H env P D K hf L=>L.nx env σ F H hf ao K⟩
theorem ap (h1:EvX ob X st u) (h2:EvXs ob X sts v):EvXs ob X (st::sts) (sSeq u v):=by
 obtain ⟨t1,ht1,k1⟩:=h1.ex
 obtain ⟨t2,ht2,k2⟩:=h2.ex
 refine ⟨_,aZ ht1 ht2,fun Z F σ H env P D K hf L=>k1 Z F σ H env _ _ K hf ⟨fun e σ' F' H' p s K'=>?_,L.rt,L.bk,L.ct,L.rf,L.ro⟩⟩
 exact k2 Z F' σ' H' e P D K' p (L.mono s)
theorem aw (h1:EvX ob X st u):EvXs ob X [st] u:=by
 obtain ⟨t1,ht1,k1⟩:=h1.ex
 exact ⟨t1,cX ht1,k1⟩
theorem aO (h:EvS ob X e f):EvX ob X (.Return (some e) pos) (sRet f):=by
 obtain ⟨t,ht,k⟩:=h.ex
 exact ⟨_,dU ht,fun Z F σ H env P D K hf L=>k Z F σ H env _ _ K hf fun x e1 v F1 H1 p s1 K1 r1=>L.rt x e1 v σ F1 H1 p s1 K1 r1⟩
theorem cf (h:EvW ob X e f) (hs:autoParam (swapsWith e none pos.line X.env=pure false) Z2._auto_1):EvX ob X (.Expr e pos) (sDrop f):=by
 obtain ⟨t,ht,k⟩:=h.ex
 exact ⟨_,nL ht hs,fun Z F σ H env P D K hf L=>k Z F σ H env _ _ K hf fun x e1 v F1 H1 p s1 K1 r1=>L.nx e1 σ F1 H1 p s1 K1⟩
theorem bN {s1 s2:List Stmt} (hc:EvT ob X c t) (ha:EvXs ob X s1 u) (hb:EvXs ob X s2 v):EvX ob X (.If c s1 s2 pos) (sIf t u v):=by
 obtain ⟨w,hw,k⟩:=hc.ex
 obtain ⟨ta,ha,ka⟩:=ha.ex
 obtain ⟨tb,hb,kb⟩:=hb.ex
 refine ⟨_,oY hw ha hb,fun Z F σ H env P D K hf L=>k Z F σ H env _ _ K hf fun x e1 F1 H1 p s1 K1=>?_⟩
 cases x with
 | true=>exact iteT (ka Z F1 σ H1 e1 P D K1 p (L.mono s1))
 | false=>exact iteF (kb Z F1 σ H1 e1 P D K1 p (L.mono s1))
theorem aL (i:Nat) {x:Str} {pos':Pos} (hN:X.N.Nodup) (hi:X.N[i]?=some x) (hx:Loc X.env.scope x) (he:EvS ob X e f) (hs:autoParam (swapsWith e (some (.Name x pos')) pos.line X.env=pure false) Z2._auto_1) (hf:autoParam (X.fn x=true\/X.env.scope.names.lookup x=some .local) Z0._auto_1) :
  EvX ob X (.Assign [.Name x pos'] e pos) (sSet i f):=by
 obtain ⟨t,ht,k⟩:=he.ex
 exact ⟨_,bO hN hi hx ht hs hf,fun Z F σ H env P D K hf L=>k Z F σ H env _ _ K hf fun x e1 v F1 H1 p s1 K1 r1=>L.nx _ _ F1 H1 p s1 (K1.put r1)⟩
theorem bz (i:Nat) {x:Str} {pos':Pos} (hN:X.N.Nodup) (hi:X.N[i]?=some x) (hx:Loc X.env.scope x) (he:EvF ob X e f) (hs:autoParam (swapsWith e (some (.Name x pos')) pos.line X.env=pure false) Z2._auto_1) (hf:autoParam (X.fn x=true\/X.env.scope.names.lookup x=some .local) Z0._auto_1) :
  EvX ob X (.Assign [.Name x pos'] e pos) (sSetO i f):=by
 obtain ⟨t,ht,k⟩:=he.ex
 exact ⟨_,bO hN hi hx ht hs hf,fun Z F σ H env P D K hf L=>k Z F σ H env _ _ K hf fun x e1 v F1 H1 p s1 _ K1=>L.nx _ _ F1 H1 p s1 K1.take⟩
theorem aM (i:Nat) {x:Str} (hN:X.N.Nodup) (hi:X.N[i]?=some x) (hx:Loc X.env.scope x) (hf:autoParam (X.fn x=true\/X.env.scope.names.lookup x=some .local) Z0._auto_1):EvG ob X (.Name x pos) (gN i) :=
 ⟨_,aK hN hi hx hf,fun Z F σ H env v x P Q K r hf k=>k _ _ F H hf ao (K.put r)⟩
theorem cg:EvGs ob X [] gsNil:=⟨_,gG,fun Z F σ H env vs xs P Q K r hf k=>by obtain ⟨rfl,hf⟩:=hf; cases r; exact ⟨rfl,k env σ F H hf ao K⟩⟩
theorem aN {g:WG} {r:WGs} (h1:EvG ob X e g) (h2:EvGs ob X es r) (hs:autoParam ((assignEach (e::es) X.env).map (·.2)=assign e X.env::(assignEach es X.env).map (·.2)) Z2._auto_1):EvGs ob X (e::es) (gsCons g r):=by
 obtain ⟨t1,ht1,k1⟩:=h1.ex
 obtain ⟨t2,ht2,k2⟩:=h2.ex
 refine ⟨_,b7 ht1 ht2 hs,fun Z F σ H env vs xs P Q K r hf k=>?_⟩
 cases r with
 | nil=>exact hf.elim
 | cons r1 r2 =>
  refine ⟨_,_,rfl,k1 Z F σ H env _ _ _ _ K r1 hf fun e1 σ1 F1 H1 p s1 K1=>?_⟩
  exact k2 Z F1 σ1 H1 e1 _ _ P Q K1 (r2.mono s1) p fun e2 σ2 F2 H2 p2 s2 K2=>k e2 σ2 F2 H2 p2 (aj s1 s2) K2
theorem cM {r:WGs} {k:Nat} {n:Nat} (hc:X.calm=true) (h:EvGs ob X es r) (hl:∀ xs env P,r xs env P->xs.length=n) (hn:autoParam ((assignEach es X.env).length=n) Z2._auto_1) (hst:autoParam ((assignEach es X.env).findIdx? (·.1)=none) Z2._auto_1):EvG ob X (.Tuple es k pos) (gT r):=by
 obtain ⟨t,ht,kk⟩:=h.ex
 refine ⟨_,iW hc ht hn hst,fun Z F σ H env v x P Q K r hf k=>?_⟩
 unfold gT at hf
 split at hf
 ·have hl:=hl _ _ _ hf
  cases r with
  | tup h1 h2=>exact ⟨_,_,rfl,az K.sF h1,by rw [h2.len]; exact hl,kk Z F σ H env _ _ P Q K h2 hf k⟩
 ·exact hf.elim
theorem cK:∀ xs env P,gsNil xs env P->xs.length=0:=fun xs env P h=>by obtain ⟨rfl,_⟩:=h; rfl
theorem aR {i:Nat} {r:WGs} {n:Nat} (h:∀ xs env P,r xs env P->xs.length=n):∀ xs env P,gsCons (gN i) r xs env P->xs.length=n+1:=fun xs env P q=>by
 cases xs with
 | nil=>exact q.elim
 | cons x xs=>exact congrArg (·+1) (h _ _ _ q)
theorem jf {g:WG} (he:EvS ob X e f) (hg:EvG ob X tg g) (hs:autoParam (swapsWithSole [tg] e pos.line X.env=pure false) Z2._auto_1) (hw:autoParam (swappedStores [tg] e X.env=pure none) Z2._auto_1)
  (h1:autoParam ((assignEach [tg] X.env).map (·.2)=[assign tg X.env]) Z2._auto_1):EvX ob X (.Assign [tg] e pos) (sAsg f g):=by
 obtain ⟨t,ht,k⟩:=he.ex
 obtain ⟨t1,ht1,k1⟩:=hg.ex
 refine ⟨_,gf ht ht1 hs hw h1,fun Z F σ H env P D K hf L=>k Z F σ H env _ _ K hf fun x e1 v F1 H1 p s1 K1 r1=>?_⟩
 exact k1 Z F1 σ H1 e1 v x _ _ K1 r1 p fun e2 σ2 F2 H2 p2 s2 K2=>L.nx e2 σ2 F2 H2 p2 (aj s1 s2) K2
theorem vY (i j:Nat) {x y:Str} {px py pt:Pos} {kt k2 pt2} (hc:X.calm=true) (hN:X.N.Nodup) (hi:X.N[i]?=some x) (hj:X.N[j]?=some y) (hij:i≠j)
  (hx:X.env.scope.names.lookup x=some .local) (hy:X.env.scope.names.lookup y=some .local) (ha:EvA ob X [a,b] fa)
  (hw:swappedStores [.Tuple [.Name x px,.Name y py] kt pt] (.Tuple [a,b] k2 pt2) X.env=pure (some [x,y]))
  (hs:autoParam (swapsWithSole [.Tuple [.Name x px,.Name y py] kt pt] (.Tuple [a,b] k2 pt2) pos.line X.env=pure false) Z2._auto_1) :
  EvX ob X (.Assign [.Tuple [.Name x px,.Name y py] kt pt] (.Tuple [a,b] k2 pt2) pos) (sPar i j fa):=by
 obtain ⟨t,ht,k⟩:=ha.ex
 refine ⟨_,uY hc hN hi hj hij hx hy ht hw hs,fun Z F σ H env P D K hf L=>k Z F σ H env _ _ K hf fun xs e1 vs F1 H1 p hl s1 K1 r1=>?_⟩
 cases r1 with
 | nil=>cases hl
 | cons r1 r2=>cases r2 with
  | nil=>cases hl
  | cons r2 r3=>cases r3 with
   | nil=>exact ⟨_,_,rfl,L.nx _ _ F1 H1 p s1 ((K1.put r1).put r2)⟩
   | cons=>simp at hl
noncomputable def whGo (c:WT) (b:WS) (P:Wd):Nat->En->Prop
 | 0,_=>False
 | n+1,env=>c env fun k e=>if k=true then b { P with nx:=whGo c b P n,ct:=whGo c b P n,bk:=P.nx } e else P.nx e
noncomputable def sWhile (c:WT) (b:WS):WS:=fun P env=>∃ n,whGo c b P n env
theorem iC (hp:PassesOwn (model X.prog X.w) X.A X.env X.xe) (hc:EvT ob X c t) (hb:EvXs ob X sts u):EvX ob X (.While c sts [] pos) (sWhile t u):=by
 obtain ⟨w,hw,k⟩:=hc.ex
 obtain ⟨tb,hb,kb⟩:=hb.ex
 refine ⟨_,rL hp hw hb,fun Z F σ H env P D K hf L=>?_⟩
 obtain ⟨n,hf⟩:=hf
 refine ⟨fun m σ' H'=>∃ F' env',Same F F'/\Sok (md ob X) Z F' σ' H' env'/\whGo t u P m env',⟨n,F,env,ao,K,hf⟩,?_⟩
 rintro m σ' H' ⟨F',env',s,K',hg⟩
 cases m with
 | zero=>exact hg.elim
 | succ m =>
  refine k Z F' σ' H' env' _ _ K' hg fun x e1 F1 H1 p s1 K1=>?_
  cases x with
  | true =>
   refine iteT ⟨fun σ2 H2=>∃ F2 e2,Same F F2/\Sok (md ob X) Z F2 σ2 H2 e2/\whGo t u P m e2,fun σ2 H2 q=>⟨m,Nat.lt_succ_self m,q⟩,?_⟩
   have sF:=aj s s1
   exact kb Z F1 σ' H1 e1 _ _ K1 p ⟨fun e2 σ2 F2 H2 q s2 K2=>⟨F2,e2,aj sF s2,K2,q⟩,(L.mono sF).rt,(L.mono sF).nx,fun e2 σ2 F2 H2 q s2 K2=>⟨F2,e2,aj sF s2,K2,q⟩,(L.mono sF).rf,(L.mono sF).ro⟩
  | false=>exact iteF (L.nx e1 σ' F1 H1 p (aj s s1) K1)
structure ItOk (M:Md) (J:It) (F:Hp) (xs:List PV):Prop where
 go:∀ (Z:Zn) (i:Nat) (σ:L2.St) (env:En) (F' H:Hp) (x:PV),Same F F'->Sok M Z F' σ H env->xs[i]?=some x->J.go i H/\∀ v H',J.yld i H v H'->∃ F'',Same F' F''/\Sok M Z F'' σ H' env/\Rep M.K F'' v x/\Same H H'/\∀ a,F'' a≠none->F' a≠none\/H a=none
 stop:∀ (Z:Zn) (i:Nat) (σ:L2.St) (env:En) (F' H:Hp),Same F F'->Sok M Z F' σ H env->xs.length<=i->J.stop i H
structure EvI (ob:ObK) (X:Cx) (tg it:Expr) (f:WA):Prop where
 ex:∃ wi:TI,PI X tg it wi/\∀ (Z:Zn) (F:Hp) (σ:L2.St) (H:Hp) (env:En) (P:List PV->En->Prop) (R:It->Hp->Prop),Sok (md ob X) Z F σ H env->f env P ->
  (∀ xs env' J F' H',P xs env'->Same F F'->Sok (md ob X) Z F' σ H' env'->ItOk (md ob X) J F' xs->R J H')->wi σ H R
theorem vK {M:Md} {F:Hp} {a:Addr} {vs:List V} {xs:List PV} (h:F a=some (.lst vs)) (r:Reps M.K F vs xs):ItOk M (Itl M.K a) F xs:=by
 refine ⟨fun Z i σ env F' H x s K e=>?_,fun Z i σ env F' H s K hl=>⟨vs,.inl (.inl (K.sF _ _ (s _ _ h))),by rw [r.len]; exact hl⟩⟩
 obtain ⟨v,hv,rv⟩:=r.get e
 have hH:SqL M.K H a vs:=.inl (.inl (K.sF _ _ (s _ _ h)))
 refine ⟨⟨vs,v,hH,hv⟩,fun v' H' y=>?_⟩
 obtain ⟨rfl,y⟩:=y
 have:=y vs hH
 rw [hv] at this; cases this
 exact ⟨F',ao,K,rv.mono s,ao,fun _ h=>.inl h⟩
theorem vI {M:Md} {F:Hp} {a:Addr} {vs:List V} {xs:List PV} (h:SqT M.K F a vs) (r:Reps M.K F vs xs):ItOk M (Itt M.K a) F xs:=by
 refine ⟨fun Z i σ env F' H x s K e=>?_,fun Z i σ env F' H s K hl=>⟨vs,az K.sF (az s h),by rw [r.len]; exact hl⟩⟩
 obtain ⟨v,hv,rv⟩:=r.get e
 have hH:SqT M.K H a vs:=az K.sF (az s h)
 refine ⟨⟨vs,v,hH,hv⟩,fun v' H' y=>?_⟩
 obtain ⟨rfl,y⟩:=y
 have:=y vs hH
 rw [hv] at this; cases this
 exact ⟨F',ao,K,rv.mono s,ao,fun _ h=>.inl h⟩
noncomputable def iSeq (K:PySem.W.Frag) (tl:TE):TI:=fun σ H R=>tl σ H fun x H1=>∃ a,x=.ref a/\(((∃ xs,SqL K H1 a xs)/\R (Itl K a) H1)\/((∃ xs,SqT K H1 a xs)/\R (Itt K a) H1))
theorem u4 {l:Expr} {tl:TE} (hl:PE X l tl):PI X tg l (iSeq X.K tl):=by
 intro pins s σ H R I h
 refine thn (hl pins s σ H _ I h) fun v s1 ⟨x,H1,I1,r1,q1⟩=>?_
 obtain ⟨a,e,q⟩:=q1
 subst e
 cases r1
 rcases q with ⟨⟨xs,hq⟩,q⟩ | ⟨⟨xs,hq⟩,q⟩
 ·obtain ⟨its,rv,p,hz⟩:=I1.list hq
  refine wpAny_pyIter_list p.isList ?_
  refine ⟨s1.heap.objs.size,[s1.heap.objs.size],_,_,H1,rfl,I1.kept (t':=s1.toks) fun b o e=>Heap.get?_push_of_some _ e,kn a _,⟨_,Heap.get?_push_size _ rfl,rfl,rfl⟩,fun b hb=>?_,q⟩
  have e:b=s1.heap.objs.size:=by simpa using hb
  subst e
  exact I1.fpOk (Nat.le_refl _) (I1.hok.fresh (Nat.le_refl _))
 ·obtain ⟨its,rv,p,hz⟩:=I1.tuple hq
  refine wpAny_pyIter_tuple (show s1.heap.IsTuple a its.toArray from p) ?_
  refine ⟨s1.heap.objs.size,[s1.heap.objs.size],_,_,H1,rfl,I1.kept (t':=s1.toks) fun b o e=>Heap.get?_push_of_some _ e,oN a _,⟨_,Heap.get?_push_size _ rfl,rfl,rfl⟩,fun b hb=>?_,q⟩
  have e:b=s1.heap.objs.size:=by simpa using hb
  subst e
  exact I1.fpOk (Nat.le_refl _) (I1.hok.fresh (Nat.le_refl _))
noncomputable def iS (a:WE):WA:=fun env P=>a env fun x e=>match x with
 | .lst xs=>P xs e
 | .tup xs=>P xs e
 | _=>False
theorem aY (h:EvS ob X e f):EvI ob X tg e (iS f):=by
 obtain ⟨t,ht,k⟩:=h.ex
 refine ⟨_,u4 ht,fun Z F σ H env P R K hf kk=>k Z F σ H env _ _ K hf fun x e1 v F1 H1 p s1 K1 r1=>?_⟩
 cases r1 with
 | tup h1 h2=>exact ⟨_,rfl,.inr ⟨⟨_,az K1.sF h1⟩,kk _ e1 _ F1 H1 p s1 K1 (vI h1 h2)⟩⟩
 | lst h1 h2=>exact ⟨_,rfl,.inl ⟨⟨_,.inl (.inl (K1.sF _ _ h1))⟩,kk _ e1 _ F1 H1 p s1 K1 (vK h1 h2)⟩⟩
 | _=>exact p.elim
noncomputable def rngP (lo:Int) (n:Nat):List PV:=(List.range n).map fun (k:Nat)=>.int (lo+(k:Int))
theorem vJ {M:Md} {F:Hp} {lo:Int} {n:Nat}:ItOk M (Itr lo n) F (rngP lo n):=by
 refine ⟨fun Z i σ env F' H x s K e=>?_,fun Z i σ env F' H s K hl=>show n<=i by simpa [rngP] using hl⟩
 have hi:i<n:=by
  rcases Nat.lt_or_ge i n with h | h
  ·exact h
  ·rw [List.getElem?_eq_none (by simpa [rngP] using h)] at e; cases e
 have ex:x=.int (lo+i):=by
  unfold rngP at e
  rw [List.getElem?_map,List.getElem?_range hi] at e
  exact (Option.some.inj e).symm
 subst ex
 refine ⟨hi,fun v' H' y=>?_⟩
 obtain ⟨rfl,rfl⟩:=y
 exact ⟨F',ao,K,.int _,ao,fun _ h=>.inl h⟩
noncomputable def iR1 (a:WA):WA:=fun env P=>a env fun xs e=>match xs with
 | [.int j] => -1000000<=j/\j<=1000000/\P (rngP 0 j.toNat) e
 | _=>False
noncomputable def iR2 (a:WA):WA:=fun env P=>a env fun xs e=>match xs with
 | [.int i,.int j]=>(-1000000<=i/\i<=1000000 /\ -1000000<=j/\j<=1000000)/\P (rngP i (j - i).toNat) e
 | _=>False
theorem dF (hg:Gl X "range") (hm:X.mg "range" = none) (ha:EvA ob X [a] fa) (hs:autoParam (starEach [a] X.env=[(false,eval a X.env)]) Z2._auto_1):EvI ob X tg (.Call (.Name "range" p) [a] [] pos) (iR1 fa):=by
 obtain ⟨t,ht,k⟩:=ha.ex
 refine ⟨_,qe hg hm ht hs,fun Z F σ H env P R K hf kk=>k Z F σ H env _ _ K hf fun xs e1 vs F1 H1 p _ s1 K1 r1=>?_⟩
 split at p
 ·cases r1 with
  | cons r1 r2 =>
   cases r1
   cases r2
   exact ⟨_,rfl,by omega,by omega,kk _ e1 _ F1 H1 p.2.2 s1 K1 vJ⟩
 ·exact p.elim
noncomputable def zipP (xs ys:List PV):List PV:=(xs.zip ys).map fun p=>.tup [p.1,p.2]
noncomputable def signsP (s:Str):List PV:=s.cps.toList.map fun c=>.str ⟨#[c]⟩
noncomputable def iStrP (a:WE):WA:=fun env P=>a env fun x e=>match x with
 | .str s=>P (signsP s) e
 | _=>False
noncomputable def forGo (g:WG) (b:WS) (P:Wd):List PV->En->Prop
 | [],env=>P.nx env
 | x::xs,env=>g x env fun e=>b { P with nx:=forGo g b P xs,ct:=forGo g b P xs,bk:=P.nx } e
noncomputable def sFor (it:WA) (g:WG) (b:WS):WS:=fun P env=>it env fun xs e=>forGo g b P xs e
theorem dk {it:Expr} {g:WG} (hp:PassesOwn (model X.prog X.w) X.A X.env X.xe) (hc:X.calm=true) (hi:EvI ob X tg it fa) (hg:EvG ob X tg g) (hb:EvXs ob X sts u)
  (hs:autoParam (∀ x,foldedSetIterable it X.env x=pure x) Z3._auto_1):EvX ob X (.For tg it sts [] pos) (sFor fa g u):=by
 obtain ⟨wi,hwi,k⟩:=hi.ex
 obtain ⟨tg',htg,kg⟩:=hg.ex
 obtain ⟨tb,htb,kb⟩:=hb.ex
 refine ⟨_,qb hp hc hwi htg htb hs,fun Z F σ H env P D K hf L=>k Z F σ H env _ _ K hf fun xs e1 J F1 H1 p s1 K1 I1=>?_⟩
 have L1:=L.mono s1
 refine ⟨fun i m σ' H'=>m=xs.length - i/\∃ F' env',Same F1 F'/\Sok (md ob X) Z F' σ' H' env'/\forGo g u P (xs.drop i) env',⟨_,rfl,F1,e1,ao,K1,p⟩,?_⟩
 rintro i m σ' H' ⟨rfl,F',env',s,K',hg'⟩
 by_cases hlt:i<xs.length
 ·rw [List.drop_eq_getElem_cons hlt] at hg'
  obtain ⟨h1,h2⟩:=I1.go Z i σ' env' F' H' xs[i] s K' (by simp [hlt])
  refine .inr ⟨h1,fun σ2 H2=>∃ F2 e2,Same F1 F2/\Sok (md ob X) Z F2 σ2 H2 e2/\forGo g u P (xs.drop (i+1)) e2,fun σ2 H2 q=>⟨xs.length - (i+1),by omega,rfl,q⟩,fun v H2 y=>?_⟩
  obtain ⟨F2,s2,K2,r2,_,_⟩:=h2 v H2 y
  refine kg Z F2 σ' H2 env' v xs[i] _ _ K2 r2 hg' fun e3 σ3 F3 H3 p3 s3 K3=>?_
  have sF:=aj s (aj s2 s3)
  exact kb Z F3 σ3 H3 e3 _ _ K3 p3 ⟨fun e4 σ4 F4 H4 q s4 K4=>⟨F4,e4,aj sF s4,K4,q⟩,(L1.mono sF).rt,(L1.mono sF).nx,fun e4 σ4 F4 H4 q s4 K4=>⟨F4,e4,aj sF s4,K4,q⟩,(L1.mono sF).rf,(L1.mono sF).ro⟩
 ·rw [List.drop_eq_nil_of_le (by omega)] at hg'
  exact .inl ⟨I1.stop Z i σ' env' F' H' s K' (by omega),L1.nx env' σ' F' H' hg' s K'⟩
end
end Q
namespace Q
open PySem L2 PyProof.Rows
noncomputable def lend (s:Sl):Sl:=if s.k=1 then ⟨3,s.v⟩ else s
noncomputable def capE (js:List (Option Nat)) (env:En):En:=js.map fun o=>o.bind fun j=>((env[j]?).getD none).map lend
noncomputable def backS (s s':Sl):Option Sl:=if s'.k=3 then (if s.k=1\/s.k=3 then some ⟨s.k,s'.v⟩ else none) else if s'.k=2 then (if s.k=2 then some s' else none) else some s'
noncomputable def backE (js:List (Option Nat)) (env benv:En):En:=env.mapIdx fun j o=>match js.findIdx? (fun q=>q==some j) with
 | none=>o
 | some i=>match o,benv[i]? with
  | some s,some (some s')=>backS s s'
  | _,_=>none
noncomputable def jsOk (js:List (Option Nat)):Bool:=decide (js.filterMap id).Nodup
theorem iA:∀ {js:List (Option Nat)},(js.filterMap id).Nodup->∀ (i i':Nat) (j:Nat),js[i]?=some (some j)->js[i']?=some (some j)->i=i'
 | [],_,i,i',j,h,_=>by simp at h
 | none::js,hn,i,i',j,h,h'=>by
  cases i with
  | zero=>simp at h
  | succ i =>
   cases i' with
   | zero=>simp at h'
   | succ i' =>
    simp at h h' hn
    exact congrArg (·+1) (iA (js:=js) (by simpa using hn) i i' j h h')
 | some k::js,hn,i,i',j,h,h'=>by
  simp only [List.filterMap_cons,id] at hn
  obtain ⟨hk,hn⟩:=List.nodup_cons.mp hn
  have mem:∀ m,js[m]?=some (some k)->False:=fun m hm=>hk (List.mem_filterMap.mpr ⟨some k,List.mem_of_getElem? hm,rfl⟩)
  cases i with
  | zero =>
   simp at h; subst h
   cases i' with
   | zero=>rfl
   | succ i'=>exact (mem i' (by simpa using h')).elim
  | succ i =>
   cases i' with
   | zero=>simp at h'; subst h'; exact (mem i (by simpa using h)).elim
   | succ i'=>exact congrArg (·+1) (iA hn i i' j (by simpa using h) (by simpa using h'))
section
variable {M:Md} {Z:Zn} {F F' H H':Hp} {σ:L2.St} {env:En}
theorem SlOk.wr {v:V} {s:Sl} {fp:List Addr} (h:SlOk M Z F H v s fp):∀ c∈fp,c∈Z.S\/Z.H₀ c=none:=by
 rcases h with ⟨_,rfl,_⟩ | ⟨_,a,_,rfl,h0,_⟩ | ⟨_,a,_,h,_⟩ | ⟨_,a,_,rfl,h0,_⟩
 ·intro c hc; simp at hc
 ·intro c hc; simp at hc; subst hc; exact .inr h0
 ·exact h
 ·intro c hc; simp at hc; subst hc; exact .inl h0
noncomputable def capFp (js:List (Option Nat)) (env:En) (fp:Nat->List Addr) (i:Nat):List Addr:=match js[i]? with
 | some (some j)=>match env[j]? with
  | some (some _)=>fp j
  | _=>[]
 | _=>[]
noncomputable def capSs (js:List (Option Nat)) (env:En) (fp:Nat->List Addr) (H:Hp):List Addr:=((List.range js.length).flatMap (capFp js env fp)).filter fun b=>(H b).isSome
theorem qt {js:List (Option Nat)} {fp:Nat->List Addr} {i:Nat} {a:Addr} (h:a∈capFp js env fp i) (hH:H a≠none):a∈capSs js env fp H:=by
 refine List.mem_filter.mpr ⟨List.mem_flatMap.mpr ⟨i,List.mem_range.mpr ?_,h⟩,by obtain ⟨o,ho⟩:=cn hH; rw [ho]; rfl⟩
 rcases Nat.lt_or_ge i js.length with q | q
 ·exact q
 ·unfold capFp at h; rw [List.getElem?_eq_none q] at h; simp at h
theorem di {js:List (Option Nat)} {fp:Nat->List Addr} {a:Addr} (h:a∈capSs js env fp H):∃ (i j:Nat) (s:Sl),js[i]?=some (some j)/\env[j]?=some (some s)/\a∈fp j:=by
 obtain ⟨i,_,h⟩:=List.mem_flatMap.mp (List.mem_filter.mp h).1
 unfold capFp at h
 split at h
 ·rename_i j ej
  split at h
  ·rename_i s es
   exact ⟨i,j,s,ej,es,h⟩
  ·simp at h
 ·simp at h
theorem sM {js:List (Option Nat)} {i:Nat} {s':Sl} (h:(capE js env)[i]?=some (some s')):∃ j s,js[i]?=some (some j)/\env[j]?=some (some s)/\s'=lend s:=by
 unfold capE at h
 rw [List.getElem?_map] at h
 cases ej:js[i]? with
 | none=>rw [ej] at h; cases h
 | some o =>
  cases o with
  | none=>rw [ej] at h; cases h
  | some j =>
   rw [ej] at h
   have h:((env[j]?).getD none).map lend=some s':=Option.some.inj h
   cases es:env[j]? with
   | none=>rw [es] at h; cases h
   | some o =>
    cases o with
    | none=>rw [es] at h; cases h
    | some s=>rw [es] at h; exact ⟨j,s,rfl,es,(Option.some.inj h).symm⟩
theorem mN {js:List (Option Nat)} {i j:Nat} {v:V} (h:js[i]?=some (some j)) (hv:σ[j]?=some (some v)):(capS js σ)[i]?=some (some v):=by
 unfold capS
 rw [List.getElem?_map,h]
 show some ((σ[j]?).getD none)=_
 rw [hv]; rfl
noncomputable def Zb (js:List (Option Nat)) (env:En) (fp:Nat->List Addr) (F H:Hp):Zn:={ H₀:=H,F₀:=F,S:=capSs js env fp H,sS:=fun b hb e=>by have:=(List.mem_filter.mp hb).2; rw [e] at this; cases this }
theorem mS {js:List (Option Nat)} {fp:Nat->List Addr} (hj:jsOk js=true) (K:Sok M Z F σ H env) (L:Slots M Z F σ H env fp):Sok M (Zb js env fp F H) F (capS js σ) H (capE js env):=by
 have hn:(js.filterMap id).Nodup:=of_decide_eq_true hj
 refine ⟨K.sF,fun b o h _=>h,fun b h=>h,ao,fun a h=>.inl h,by simp [capE,capS],capFp js env fp,fun i s' h=>?_,fun i a h=>?_,fun i i' a hii h h'=>?_,fun i a s e=>by cases e⟩
 ·obtain ⟨j,s,ej,es,rfl⟩:=sM h
  obtain ⟨v,hv,ok⟩:=L.at' j s es
  have ef:capFp js env fp i=fp j:=by unfold capFp; rw [ej]; dsimp only; rw [es]
  refine ⟨v,mN ej hv,?_⟩
  have inS:∀ c∈fp j,c∈(Zb js env fp F H).S:=fun c hc=>qt (i:=i) (by rw [ef]; exact hc) (L.al j c hc).1
  rw [ef]
  rcases ok with ⟨k,e,r⟩ | ⟨k,a,e,e2,h0,r⟩ | ⟨k,a,e,h0,r⟩ | ⟨k,a,e,e2,h0,r⟩
  ·have:lend s=s:=by unfold lend; rw [if_neg (by rw [k]; decide)]
   rw [this]; exact .inl ⟨k,e,r⟩
  ·have:lend s=⟨3,s.v⟩:=by unfold lend; rw [if_pos k]
   rw [this]; exact .inr (.inr (.inr ⟨rfl,a,e,e2,inS a (by rw [e2]; simp),r⟩))
  ·have:lend s=s:=by unfold lend; rw [if_neg (by rcases k with k | k <;> (rw [k]; decide))]
   rw [this]; exact .inr (.inr (.inl ⟨k,a,e,fun c hc=>.inl (inS c hc),r⟩))
  ·have:lend s=s:=by unfold lend; rw [if_neg (by rw [k]; decide)]
   rw [this]; exact .inr (.inr (.inr ⟨k,a,e,e2,inS a (by rw [e2]; simp),r⟩))
 ·unfold capFp at h
  split at h
  ·split at h
   ·exact L.al _ a h
   ·simp at h
  ·simp at h
 ·unfold capFp at h h'
  split at h
  ·rename_i j ej
   split at h'
   ·rename_i j' ej'
    split at h
    ·split at h'
     ·have:j≠j':=fun e=>by subst e; exact hii (iA hn i i' j ej ej')
      exact L.dj j j' a this h h'
     ·simp at h'
    ·simp at h
   ·simp at h'
  ·simp at h
theorem kU {js:List (Option Nat)} {fp:Nat->List Addr} {σb:L2.St} {benv:En} (hj:jsOk js=true) (K:Sok M Z F σ H env) (L:Slots M Z F σ H env fp) (Kb:Sok M (Zb js env fp F H) F' σb H' benv)
  (hσ:∀ (k j:Nat),js[k]?=some (some j)->σb[k]?=(capS js σ)[k]?) :
  ∃ fp',Slots M Z F' σ H' (backE js env benv) fp'/\Sok M Z F' σ H' (backE js env benv)/\∀ i a,a∈fp' i->(∃ i',a∈fp i')\/H a=none:=by
 have hn:(js.filterMap id).Nodup:=of_decide_eq_true hj
 obtain ⟨fb,Lb⟩:=Kb.sl
 have inS:∀ c∈capSs js env fp H,(c∈Z.S\/Z.H₀ c=none)/\∃ i',c∈fp i':=fun c hc=>by
  obtain ⟨i,j,s,e1,e2,e3⟩:=di hc
  obtain ⟨v,_,ok⟩:=L.at' j s e2
  exact ⟨ok.wr c e3,j,e3⟩
 have fidx:∀ j i,js.findIdx? (fun q=>q==some j)=some i->js[i]?=some (some j):=fun j i h=>by
  rw [List.findIdx?_eq_some_iff_getElem] at h
  obtain ⟨hi,he,_⟩:=h
  rw [List.getElem?_eq_getElem hi,eq_of_beq he]
 have bget:∀ j,(backE js env benv)[j]?=(env[j]?).map fun o=>(match js.findIdx? (fun q=>q==some j) with
   | none=>o
   | some i=>match o,benv[i]? with
    | some s,some (some s')=>backS s s'
    | _,_=>none):=fun j=>by
  unfold backE
  rw [List.getElem?_mapIdx]
 have blk:∀ i s',benv[i]?=some (some s')->∀ c∈fb i,(c∈Z.S\/Z.H₀ c=none)/\((∃ i',c∈fp i')\/H c=none):=fun i s' e c hc=>by
  obtain ⟨v,_,ok⟩:=Lb.at' i s' e
  rcases ok.wr c hc with h | h
  ·exact ⟨(inS c h).1,.inl (inS c h).2⟩
  ·exact ⟨.inr (K.h0 h),.inr h⟩
 let fp':Nat->List Addr:=fun j=>match js.findIdx? (fun q=>q==some j) with
  | none=>fp j
  | some i=>match env[j]?,benv[i]? with
   | some (some s),some (some s')=>if (backS s s').isSome=true then fb i else []
   | _,_=>[]
 have keep:∀ c o,H c=some o->c∉capSs js env fp H->H' c=some o:=fun c o h1 h2=>Kb.sG c o h1 h2
 have S:Slots M Z F' σ H' (backE js env benv) fp':=by
  refine ⟨fun j t e=>?_,fun j a h=>?_,fun j j2 a hjj h h2=>?_,fun j a t e1 e e3=>?_⟩
  case refine_4 =>
   rw [bget] at e
   cases ej:env[j]? with
   | none=>rw [ej] at e; cases e
   | some o =>
    rw [ej] at e
    have e:=Option.some.inj e
    cases ei:js.findIdx? (fun q=>q==some j) with
    | none =>
     rw [ei] at e
     dsimp only at e
     subst e
     exact L.oa j a t e1 ej e3
    | some i =>
     rw [ei] at e
     dsimp only at e
     cases o with
     | none=>cases e
     | some s =>
      cases eb:benv[i]? with
      | none=>rw [eb] at e; cases e
      | some w =>
       cases w with
       | none=>rw [eb] at e; cases e
       | some s' =>
        rw [eb] at e
        dsimp only at e
        unfold backS at e
        split at e
        ·split at e
         ·rename_i h1 h2
          cases e
          rcases h2 with q | q
          ·rw [q] at e3; cases e3
          ·rw [q] at e3; cases e3
         ·cases e
        ·split at e
         ·split at e
          ·rename_i h1
           exact L.oa j a s e1 ej h1
          ·cases e
         ·rename_i h1
          cases e
          exact absurd e3 h1
  ·rw [bget] at e
   cases ej:env[j]? with
   | none=>rw [ej] at e; cases e
   | some o =>
    rw [ej] at e
    have e:=Option.some.inj e
    show ∃ v,σ[j]?=some (some v)/\SlOk M Z F' H' v t (match js.findIdx? (fun q=>q==some j) with
     | none=>fp j
     | some i=>match env[j]?,benv[i]? with
      | some (some s),some (some s')=>if (backS s s').isSome=true then fb i else []
      | _,_=>[])
    cases ei:js.findIdx? (fun q=>q==some j) with
    | none =>
     rw [ei] at e
     dsimp only at e
     subst e
     obtain ⟨v,hv,ok⟩:=L.at' j t ej
     refine ⟨v,hv,ok.mono Kb.gr fun c hc=>?_⟩
     have hc0:=L.al j c hc
     obtain ⟨o,ho⟩:=cn hc0.1
     rw [ho]
     refine keep c o ho fun hS=>?_
     obtain ⟨i,j',s,e1,e2,e3⟩:=di hS
     have:j≠j':=fun z=>by
      subst z
      rw [List.findIdx?_eq_none_iff] at ei
      have:=ei (some j) (List.mem_of_getElem? e1)
      simp at this
     exact L.dj j j' c this hc e3
    | some i =>
     rw [ei] at e
     dsimp only at e ⊢
     have eij:=fidx j i ei
     cases o with
     | none=>cases e
     | some s =>
      rw [ej]
      cases eb:benv[i]? with
      | none=>rw [eb] at e; cases e
      | some w =>
       cases w with
       | none=>rw [eb] at e; cases e
       | some s' =>
        rw [eb] at e
        dsimp only at e ⊢
        rw [e,if_pos (Option.isSome_some)]
        obtain ⟨v0,hv0,ok0⟩:=L.at' j s ej
        obtain ⟨v,hv,ok⟩:=Lb.at' i s' eb
        rw [hσ i j eij,mN eij hv0] at hv
        cases hv
        refine ⟨v0,hv0,?_⟩
        unfold backS at e
        rcases ok with ⟨k,e1,r⟩ | ⟨k,a,e1,e2,h0,r⟩ | ⟨k,a,e1,h0,r⟩ | ⟨k,a,e1,e2,h0,r⟩
        ·rw [if_neg (by rw [k]; decide),if_neg (by rw [k]; decide)] at e
         cases e
         exact .inl ⟨k,e1,r⟩
        ·rw [if_neg (by rw [k]; decide),if_neg (by rw [k]; decide)] at e
         cases e
         exact .inr (.inl ⟨k,a,e1,e2,K.h0 h0,r⟩)
        ·rw [if_neg (by rcases k with k | k <;> (rw [k]; decide))] at e
         have e:s'=t:=by
          split at e
          ·split at e
           ·exact Option.some.inj e
           ·cases e
          ·exact Option.some.inj e
         subst e
         refine .inr (.inr (.inl ⟨k,a,e1,fun c hc=>(blk i _ eb c hc).1,r⟩))
        ·rw [if_pos k] at e
         split at e
         ·rename_i hk
          cases e
          rcases ok0 with ⟨k0,_⟩ | ⟨k0,a0,f1,f2,f3,_⟩ | ⟨k0,_⟩ | ⟨k0,a0,f1,f2,f3,_⟩
          ·rw [k0] at hk; rcases hk with z | z <;> cases z
          ·rw [e1] at f1; cases f1
           exact .inr (.inl ⟨k0,a,e1,e2,f3,r⟩)
          ·rcases k0 with k0 | k0 <;> (rw [k0] at hk; rcases hk with z | z <;> cases z)
          ·rw [e1] at f1; cases f1
           exact .inr (.inr (.inr ⟨k0,a,e1,e2,f3,r⟩))
         ·cases e
  ·have h:a∈(match js.findIdx? (fun q=>q==some j) with
     | none=>fp j
     | some i=>match env[j]?,benv[i]? with
      | some (some s),some (some s')=>if (backS s s').isSome=true then fb i else []
      | _,_=>[]):=h
   split at h
   ·rename_i ei
    have h0:=L.al j a h
    obtain ⟨o,ho⟩:=cn h0.1
    constructor
    ·intro z
     have:=Kb.pr a (by show H a≠none; exact h0.1)
     exact this z
    ·cases ef:F' a with
     | none=>rfl
     | some o =>
      rcases Kb.nw a (by rw [ef]; simp) with q | q
      ·exact absurd h0.2 q
      ·exact absurd q h0.1
   ·split at h
    ·split at h
     ·exact Lb.al _ a h
     ·simp at h
    ·simp at h
  ·have h:a∈(match js.findIdx? (fun q=>q==some j) with
     | none=>fp j
     | some i=>match env[j]?,benv[i]? with
      | some (some s),some (some s')=>if (backS s s').isSome=true then fb i else []
      | _,_=>[]):=h
   have h2:a∈(match js.findIdx? (fun q=>q==some j2) with
     | none=>fp j2
     | some i=>match env[j2]?,benv[i]? with
      | some (some s),some (some s')=>if (backS s s').isSome=true then fb i else []
      | _,_=>[]):=h2
   have mix:∀ {j1 i:Nat} {s':Sl},js.findIdx? (fun q=>q==some j1)=none->benv[i]?=some (some s')->a∈fp j1->a∈fb i->False:=fun {j1 i s'} e1 e2 m1 m2=>by
    obtain ⟨v,_,ok⟩:=Lb.at' i s' e2
    rcases ok.wr a m2 with q | q
    ·obtain ⟨i',j',s,q1,q2,q3⟩:=di q
     have:j1≠j':=fun z=>by
      subst z
      rw [List.findIdx?_eq_none_iff] at e1
      have:=e1 (some j1) (List.mem_of_getElem? q1)
      simp at this
     exact L.dj j1 j' a this m1 q3
    ·exact (L.al j1 a m1).1 q
   split at h
   ·rename_i ei
    split at h2
    ·exact L.dj j j2 a hjj h h2
    ·split at h2
     ·rename_i eb
      split at h2
      ·exact mix ei eb h h2
      ·simp at h2
     ·simp at h2
   ·rename_i i ei
    split at h
    ·rename_i eb
     split at h
     ·split at h2
      ·rename_i ei2
       exact mix ei2 eb h2 h
      ·rename_i i2 ei2
       split at h2
       ·split at h2
        ·have:i≠i2:=fun z=>by
          subst z
          have q1:=fidx j i ei
          have q2:=fidx j2 i ei2
          rw [q1] at q2
          cases q2
          exact hjj rfl
         exact Lb.dj i i2 a this h h2
        ·simp at h2
       ·simp at h2
     ·simp at h
    ·simp at h
 refine ⟨fp',S,⟨Kb.sF,fun b o h1 h2=>keep b o (K.sG b o h1 h2) fun hS=>?_,fun b h=>Kb.pr b (K.pr b h),aj K.gr Kb.gr,fun a h=>?_,by unfold backE; rw [List.length_mapIdx]; exact K.len,fp',S⟩,fun j a h=>?_⟩
 ·rcases (inS b hS).1 with q | q
  ·exact h2 q
  ·rw [q] at h1; cases h1
 ·rcases Kb.nw a h with q | q
  ·exact K.nw a q
  ·exact .inr (K.h0 q)
 ·have h:a∈(match js.findIdx? (fun q=>q==some j) with
    | none=>fp j
    | some i=>match env[j]?,benv[i]? with
     | some (some s),some (some s')=>if (backS s s').isSome=true then fb i else []
     | _,_=>[]):=h
  split at h
  ·exact .inl ⟨j,h⟩
  ·split at h
   ·rename_i eb
    split at h
    ·exact (blk _ _ eb a h).2
    ·simp at h
   ·simp at h
end
end Q
namespace Q
open PySem L2 PyProof.Rows
noncomputable def rdE (M:Md) (f:WE):TE:=fun σ H Q=>∃ (Z:Zn) (F:Hp) (env:En) (P:PV->En->Prop),Sok M Z F σ H env/\f env P/\∀ x env' v F' H',P x env'->Same F F'->Sok M Z F' σ H' env'->Rep M.K F' v x->Q v H'
noncomputable def rdT (M:Md) (f:WT):TT:=fun σ H Q=>∃ (Z:Zn) (F:Hp) (env:En) (P:Bool->En->Prop),Sok M Z F σ H env/\f env P/\∀ b env' F' H',P b env'->Same F F'->Sok M Z F' σ H' env'->Q b H'
theorem EvS.pe {ob:ObK} {X:Cx} {e:Expr} {f:WE} (h:EvS ob X e f):PE X e (rdE (md ob X) f):=by
 obtain ⟨t,ht,k⟩:=h.ex
 rintro pins s σ H Q I ⟨Z,F,env,P,K,hf,kk⟩
 exact ht pins s σ H Q I (k Z F σ H env P Q K hf kk)
structure EvC (ob:ObK) (X:Cx) (ifs:List Expr) (f:WT):Prop where
 ex:PF X ifs (rdT (md ob X) f)
noncomputable def tYs:WT:=fun env P=>P true env
theorem bA {ob:ObK} {X:Cx}:EvC ob X [] tYs:=⟨by
 rintro pins s σ H Q I ⟨Z,F,env,P,K,hf,kk⟩
 exact qf pins s σ H Q I (kk true env F H hf ao K)⟩
theorem gp {ob:ObK} {X:Cx} {c:Expr} {t:WT} (h:EvT ob X c t):EvC ob X [c] t:=⟨by
 obtain ⟨w,hw,k⟩:=h.ex
 rintro pins s σ H Q I ⟨Z,F,env,P,K,hf,kk⟩
 exact u5 hw pins s σ H Q I (k Z F σ H env P Q K hf kk)⟩
inductive Tgt where
 | nm (i:Nat) | tp (l:List Nat)
noncomputable def tgLs:List Nat->TGs
 | []=>gNil
 | i::l=>gCons (gName i) (tgLs l)
noncomputable def tgL (K:PySem.W.Frag):Tgt->TG
 | .nm i=>gName i
 | .tp l=>gTup K l.length (tgLs l)
noncomputable def setAll:List Nat->List PV->En->En
 | i::l,x::xs,env=>setAll l xs (env.set i (some ⟨0,x⟩))
 | _,_,env=>env
noncomputable def tgW:Tgt->WG
 | .nm i=>fun x env P=>P (env.set i (some ⟨0,x⟩))
 | .tp l=>fun x env P=>match x with
  | .tup xs=>xs.length=l.length/\P (setAll l xs env)
  | _=>False
noncomputable def tgFree (js:List (Option Nat)):Tgt->Bool
 | .nm i=>decide (js[i]?=some none)
 | .tp l=>l.all fun i=>decide (js[i]?=some none)
theorem qF {js:List (Option Nat)}:∀ {l:List Nat},(l.all fun i=>decide (js[i]?=some none))=true->Gss js (tgLs l)
 | [],_=>vU
 | i::l,h=>by
  rw [List.all_cons,Bool.and_eq_true] at h
  refine uo (jT (of_decide_eq_true h.1)) (qF h.2) gM ?_
  have mono:∀ (l:List Nat),∀ x σ H (Q Q':L2.St->Hp->Prop),(∀ a b,Q a b->Q' a b)->tgLs l x σ H Q->tgLs l x σ H Q':=by
   intro l
   induction l with
   | nil=>exact fun x σ H Q Q' h q=>⟨q.1,h _ _ q.2⟩
   | cons i l ih=>exact jU gM ih
  exact mono l
theorem cw {K:PySem.W.Frag} {js:List (Option Nat)} {T:Tgt} (h:tgFree js T=true):Gsets js (tgL K T):=by
 cases T with
 | nm i=>exact jT (of_decide_eq_true h)
 | tp l=>exact vR (qF h)
section
variable {M:Md} {Z:Zn} {F H:Hp}
theorem tw {l:List Nat}:∀ {σ:L2.St} {env:En} {vs:List V} {xs:List PV} {Q:L2.St->Hp->Prop},Sok M Z F σ H env->Reps M.K F vs xs->xs.length=l.length->(∀ σ',Sok M Z F σ' H (setAll l xs env)->Q σ' H)->tgLs l vs σ H Q:=by
 induction l with
 | nil =>
  intro σ env vs xs Q K r hl k
  cases r with
  | nil=>exact ⟨rfl,k σ K⟩
  | cons _ _=>simp at hl
 | cons i l ih =>
  intro σ env vs xs Q K r hl k
  cases r with
  | nil=>simp at hl
  | cons r1 r2=>exact ⟨_,_,rfl,ih (K.put r1) r2 (by simpa using hl) k⟩
theorem pR {T:Tgt} {σ:L2.St} {env:En} {v:V} {x:PV} {P:En->Prop} {Q:L2.St->Hp->Prop} (K:Sok M Z F σ H env) (r:Rep M.K F v x) (hf:tgW T x env P) (k:∀ env' σ',P env'->Sok M Z F σ' H env'->Q σ' H):tgL M.K T v σ H Q:=by
 cases T with
 | nm i=>exact k _ _ hf (K.put r)
 | tp l =>
  cases r with
  | tup h1 h2 =>
   have hf:_/\_:=hf
   exact ⟨_,_,rfl,az K.sF h1,by rw [h2.len]; exact hf.1,tw K h2 hf.1 fun σ' K'=>k _ σ' hf.2 K'⟩
  | _=>exact (show False from hf).elim
end
noncomputable def lcGo (g:WG) (c:WT) (f:WE) (js:List (Option Nat)) (P:PV->En->Prop):List PV->En->List PV->Prop
 | [],env,acc=>P (.lst acc) env
 | x::xs,env,acc=>g x (capE js env) fun b1=>c b1 fun ok b2=>if ok=true then f b2 fun y b3=>acc.length<=100000/\lcGo g c f js P xs (backE js env b3) (acc++[y]) else lcGo g c f js P xs (backE js env b2) acc
noncomputable def eLC (fi:WA) (T:Tgt) (c:WT) (f:WE) (js:List (Option Nat)):WE:=fun env P=>fi env fun xs e=>lcGo (tgW T) c f js P xs e []
section
variable {ob:ObK} {X:Cx} {tg elt iter kx vx:Expr} {ifs:List Expr} {scope:Scope} {pos:Pos} {fi:WA} {T:Tgt} {c:WT} {f fk:WE} {N:List Str} {js:List (Option Nat)}
theorem Sok.touch {M:Md} {Z:Zn} {F H:Hp} {σ:L2.St} {env:En} {fp:Nat->List Addr} {l:Addr} {o:HO} (K:Sok M Z F σ H env) (L:Slots M Z F σ H env fp) (hF:F l=none) (h0:Z.H₀ l=none) (hl:∀ i,l∉fp i):Sok M Z F σ (upd H l o) env/\Slots M Z F σ (upd H l o) env fp:=by
 have S:Slots M Z F σ (upd H l o) env fp:=by
  refine ⟨fun i s e=>?_,fun i a h=>?_,L.dj,L.oa⟩
  ·obtain ⟨v,h1,h2⟩:=L.at' i s e
   exact ⟨v,h1,h2.mono ao fun c hc=>ah fun z:c=l=>hl i (by rw [<- z]; exact hc)⟩
  ·have:=L.al i a h
   refine ⟨?_,this.2⟩
   rw [ah (fun z:a=l=>hl i (by rw [<- z]; exact h))]; exact this.1
 refine ⟨⟨fun a u e=>?_,fun b u h1 h2=>?_,fun b h=>?_,K.gr,K.nw,K.len,fp,S⟩,S⟩
 ·rw [ah (ay e hF)]; exact K.sF a u e
 ·rw [ah (ay h1 h0)]; exact K.sG b u h1 h2
 ·by_cases q:b=l
  ·subst q; rw [am]; simp
  ·rw [ah q]; exact K.pr b h
theorem nY {Z:Zn} {F:Hp} {σ:L2.St} {H:Hp} {env:En} {P:PV->En->Prop} {Q:VK} {xs:List PV} {J:It} (hj:jsOk js=true) (hT:tgFree js T=true) (K:Sok (md ob X) Z F σ H env) (I1:ItOk (md ob X) J F xs) (hf:lcGo (tgW T) c f js P xs env [])
  (kk:∀ x env' v F' H',P x env'->Same F F'->(∀ xs,x≠.set xs)->Sok (md ob X) Z F' (σ++[some v]) H' (env'++[some ⟨1,x⟩])->Q v H') (l:Addr) (hl:H l=none) :
  ∃ W:Nat->Nat->List V->Hp->Prop,(∃ m,W 0 m [] (upd H l (.lst [])))/\∀ i m ys H2,W i m ys H2 ->
  (J.stop i H2/\Q (.ref l) H2)\/(J.go i H2/\∀ x H3,J.yld i H2 x H3->tgL X.K T x (capS js σ) H3 fun σ4 H4=>rdT (md ob X) c σ4 H4 fun b H5 =>
   if b=true then rdE (md ob X) f σ4 H5 fun y H6=>H6 l=some (.lst ys)/\ys.length<sizeLine/\∃ m',m'<m/\W (i+1) m' (ys++[y]) (upd H6 l (.lst (ys++[y]))) else ∃ m',m'<m/\W (i+1) m' ys H5):=by
 refine ⟨fun i m ys H'=>m=xs.length - i/\H' l=some (.lst ys)/\∃ F' env' yps fp,Same F F'/\Sok (md ob X) Z F' σ H' env'/\Slots (md ob X) Z F' σ H' env' fp/\F' l=none/\(∀ i,l∉fp i)/\Reps X.K F' ys yps/\lcGo (tgW T) c f js P (xs.drop i) env' yps,?_,?_⟩
 ·obtain ⟨fp,L⟩:=K.sl
  have hF:F l=none:=Same.none_of K.sF hl
  have hn:∀ i,l∉fp i:=fun i h=>(L.al i l h).1 hl
  obtain ⟨K1,L1⟩:=K.touch (o:=.lst []) L hF (K.h0 hl) hn
  exact ⟨_,rfl,am,F,env,[],fp,ao,K1,L1,hF,hn,.nil,hf⟩
 rintro i m ys H2 ⟨rfl,hl2,F',env',yps,fp,s,K',L',hF',hn,ry,hg⟩
 have h0:Z.H₀ l=none:=K.h0 hl
 by_cases hlt:i<xs.length
 ·rw [List.drop_eq_getElem_cons hlt] at hg
  obtain ⟨h1,h2⟩:=I1.go Z i σ env' F' H2 xs[i] s K' (by simp [hlt])
  refine .inr ⟨h1,fun v H3 y=>?_⟩
  obtain ⟨F2,s2,K2,r2,sH,nw⟩:=h2 v H3 y
  have L2':Slots (md ob X) Z F2 σ H3 env' fp:=L'.move s2 (fun _ c o _ e=>sH c o e) nw
  have hF2:F2 l=none:=by
   cases e:F2 l with
   | none=>rfl
   | some o =>
    rcases nw l (by rw [e]; simp) with q | q
    ·exact absurd hF' q
    ·rw [hl2] at q; cases q
  have hl3:H3 l=some (.lst ys):=sH _ _ hl2
  have Kb:=mS hj K2 L2'
  have hσ4:∀ {σ4:L2.St},(∀ (k j:Nat),js[k]?=some (some j)->σ4[k]?=(capS js σ)[k]?)->True:=fun _=>trivial
  have tg':=cw (K:=X.K) hT v (capS js σ) H3 _ (pR (M:=md ob X) (Q:=fun σ4 H4=>H4=H3/\∃ b1,Sok (md ob X) (Zb js env' fp F2 H3) F2 σ4 H3 b1/\c b1 fun ok b2=>if ok=true then f b2 fun y b3=>yps.length<=100000/\lcGo (tgW T) c f js P (xs.drop (i+1)) (backE js env' b3) (yps++[y]) else lcGo (tgW T) c f js P (xs.drop (i+1)) (backE js env' b2) yps) Kb r2 hg fun e4 σ4 p4 K4=>⟨rfl,e4,K4,p4⟩)
  have mono:∀ (Q1 Q2:L2.St->Hp->Prop),(∀ a b,Q1 a b->Q2 a b)->tgL X.K T v (capS js σ) H3 Q1->tgL X.K T v (capS js σ) H3 Q2:=by
   have monoL:∀ (l:List Nat),∀ x σ H (Q Q':L2.St->Hp->Prop),(∀ a b,Q a b->Q' a b)->tgLs l x σ H Q->tgLs l x σ H Q':=by
    intro l
    induction l with
    | nil=>exact fun x σ H Q Q' h q=>⟨q.1,h _ _ q.2⟩
    | cons i l ih=>exact jU gM ih
   intro Q1 Q2 hq q
   cases T with
   | nm i=>exact hq _ _ q
   | tp l =>
    obtain ⟨a,xs,e1,e2,e3,e4⟩:=q
    exact ⟨a,xs,e1,e2,e3,monoL l _ _ _ _ _ hq e4⟩
  refine mono _ _ ?_ tg'
  rintro σ4 H4 ⟨⟨rfl,b1,K4,p4⟩,hlen,hcap⟩
  refine ⟨_,F2,b1,_,K4,p4,fun b b2 F5 H5 p5 s5 K5=>?_⟩
  have again:∀ {F6 H6:Hp} {b3:En} {ys':List V} {yps':List PV},Same F2 F6->Sok (md ob X) (Zb js env' fp F2 H4) F6 σ4 H6 b3->lcGo (tgW T) c f js P (xs.drop (i+1)) (backE js env' b3) yps'->Reps X.K F6 ys' yps' ->
    H6 l=some (.lst ys)/\(∃ m',m'<xs.length - i/\m'=xs.length - (i+1)/\(upd H6 l (.lst ys')) l=some (.lst ys')/\∃ F' env' yps fp,Same F F'/\Sok (md ob X) Z F' σ (upd H6 l (.lst ys')) env'/\Slots (md ob X) Z F' σ (upd H6 l (.lst ys')) env' fp/\F' l=none/\(∀ i,l∉fp i)/\Reps X.K F' ys' yps/\lcGo (tgW T) c f js P (xs.drop (i+1)) env' yps):=fun {F6 H6 b3 ys' yps'} s6 K6 p6 r6=>by
   obtain ⟨fp',L6,K6',hnew⟩:=kU hj K2 L2' K6 hcap
   have hl6:H6 l=some (.lst ys):=K6.sG l _ hl3 fun z=>by
    obtain ⟨_,j,_,_,_,hm⟩:=di z
    exact hn j hm
   have hF6:F6 l=none:=by
    cases e:F6 l with
    | none=>rfl
    | some o =>
     rcases K6.nw l (by rw [e]; simp) with q | q
     ·exact absurd hF2 q
     ·exact absurd q (by show H4 l≠none; rw [hl3]; simp)
   have hn6:∀ i,l∉fp' i:=fun i h=>by
    rcases hnew i l h with ⟨i',q⟩ | q
    ·exact hn i' q
    ·rw [hl3] at q; cases q
   obtain ⟨K7,L7⟩:=K6'.touch (o:=.lst ys') L6 hF6 h0 hn6
   exact ⟨hl6,_,by omega,rfl,am,F6,_,_,fp',aj s (aj s2 s6),K7,L7,hF6,hn6,r6,p6⟩
  cases b with
  | false =>
   refine iteF ?_
   obtain ⟨hl5,m',h1,h2,h3,F',env',yps,fp,q1,q2,q3,q4⟩:=again (ys':=ys) s5 K5 p5 ((ry.mono s2).mono s5)
   have e:upd H5 l (.lst ys)=H5:=by
    funext a
    by_cases z:a=l
    ·subst z; rw [am,hl5]
    ·rw [ah z]
   rw [e] at h3 q2 q3
   exact ⟨m',h1,h2,h3,F',env',yps,fp,q1,q2,q3,q4⟩
  | true =>
   refine iteT ⟨_,F5,b2,_,K5,p5,fun y b3 v6 F6 H6 p6 s6 K6 r6=>?_⟩
   obtain ⟨hl6,q⟩:=again (ys':=ys++[v6]) (aj s5 s6) K6 p6.2 ((((ry.mono s2).mono s5).mono s6).app (.cons r6 .nil))
   refine ⟨hl6,?_,q⟩
   have:=p6.1
   rw [ry.len,sizeLine_eq]; omega
 ·rw [List.drop_eq_nil_of_le (by omega)] at hg
  refine .inl ⟨I1.stop Z i σ env' F' H2 s K' (by omega),kk _ env' _ F' H2 hg s (fun _=>by simp) ?_⟩
  refine K'.slots (by simp [K'.len]) (L'.push (l:=[l]) (by simp) K'.len (.inr (.inl ⟨rfl,l,rfl,rfl,h0,ys,hl2,ry⟩)) (fun a ha=>?_) fun j a ha=>?_)
  ·simp at ha; subst ha
   exact ⟨by rw [hl2]; simp,hF'⟩
  ·simp at ha; subst ha
   exact hn j
theorem cE (hi:EvI ob X tg iter fi) (hg:∀ C s₀ H₀ ex pn,PG (cxComp X scope N C s₀ H₀ ex pn) tg (tgL X.K T)) (ht:∀ C s₀ H₀ ex pn,EvC ob (cxComp X scope N C s₀ H₀ ex pn) ifs c) (he:∀ C s₀ H₀ ex pn,EvS ob (cxComp X scope N C s₀ H₀ ex pn) elt f)
  (hj:autoParam (jsOk js=true) Z2._auto_1) (hT:autoParam (tgFree js T=true) Z2._auto_1)
  (hc:autoParam (X.calm=true) Z2._auto_1) (hx:autoParam (X.xe=(fun _ _=>False)) Z2._auto_1) (hsc:autoParam (scOk X.env scope=true) Z2._auto_1) (hcap:autoParam (capOk X.N scope N js=true) Z2._auto_1) (hkind:autoParam (scope.kind=.function) Z2._auto_1) (hs:autoParam (∀ x,foldedSetIterable iter X.env x=pure x) Z3._auto_1) :
  EvF ob X (.ListComp elt [⟨tg,iter,ifs,0⟩] scope pos) (eLC fi T c f js):=by
 obtain ⟨wi,hwi,k⟩:=hi.ex
 refine ⟨_,wv (wi:=wi) (g:=tgL X.K T) (tc:=rdT (md ob X) c) (te:=rdE (md ob X) f) (js:=js) hwi hg (fun C s₀ H₀ ex pn=>(ht C s₀ H₀ ex pn).ex) (fun C s₀ H₀ ex pn=>(he C s₀ H₀ ex pn).pe) (cw hT) hc hx hsc hcap hkind hs,fun Z F σ H env P Q K hf kk=>?_⟩
 refine k Z F σ H env _ _ K hf fun xs e1 J F1 H1 p s1 K1 I1 l hl=>?_
 exact nY hj hT K1 I1 p (fun x e2 v F2 H2 p2 s2 hx2 K2=>kk x e2 v F2 H2 p2 (aj s1 s2) hx2 K2) l hl
end
end Q
namespace Q
open PySem L2 PyProof.Rows
noncomputable def dcGo (g:WG) (c:WT) (fk f:WE) (js:List (Option Nat)) (P:PV->En->Prop):List PV->En->List (Key×PV)->Prop
 | [],env,acc=>P (.dic acc) env
 | x::xs,env,acc=>g x (capE js env) fun b1=>c b1 fun ok b2=>if ok=true then fk b2 fun kk b3=>f b3 fun y b4=>acc.length<=100000/\opt (keyP kk) fun key=>dcGo g c fk f js P xs (backE js env b4) (putP acc key y) else dcGo g c fk f js P xs (backE js env b2) acc
noncomputable def eDC (fi:WA) (T:Tgt) (c:WT) (fk f:WE) (js:List (Option Nat)):WE:=fun env P=>fi env fun xs e=>dcGo (tgW T) c fk f js P xs e []
section
variable {ob:ObK} {X:Cx} {tg elt iter kx vx:Expr} {ifs:List Expr} {scope:Scope} {pos:Pos} {fi:WA} {T:Tgt} {c:WT} {f fk:WE} {N:List Str} {js:List (Option Nat)}
theorem oq {Z:Zn} {F:Hp} {σ:L2.St} {H:Hp} {env:En} {P:PV->En->Prop} {Q:VK} {xs:List PV} {J:It} (hj:jsOk js=true) (hT:tgFree js T=true) (K:Sok (md ob X) Z F σ H env) (I1:ItOk (md ob X) J F xs) (hf:dcGo (tgW T) c fk f js P xs env [])
  (kk:∀ x env' v F' H',P x env'->Same F F'->(∀ xs,x≠.set xs)->Sok (md ob X) Z F' (σ++[some v]) H' (env'++[some ⟨1,x⟩])->Q v H') (l:Addr) (hl:H l=none) :
  ∃ W:Nat->Nat->List (Key×V)->Hp->Prop,(∃ m,W 0 m [] (upd H l (.dK [])))/\∀ i m ys H2,W i m ys H2 ->
  (J.stop i H2/\Q (.ref l) H2)\/(J.go i H2/\∀ x H3,J.yld i H2 x H3->tgL X.K T x (capS js σ) H3 fun σ4 H4=>rdT (md ob X) c σ4 H4 fun b H5 =>
   if b=true then rdE (md ob X) fk σ4 H5 fun kk H6=>rdE (md ob X) f σ4 H6 fun y H7=>∃ key,kk=kV key/\H7 l=some (.dK ys)/\ys.length<sizeLine/\∃ m',m'<m/\W (i+1) m' (putK ys key y) (upd H7 l (.dK (putK ys key y))) else ∃ m',m'<m/\W (i+1) m' ys H5):=by
 refine ⟨fun i m ys H'=>m=xs.length - i/\H' l=some (.dK ys)/\∃ F' env' yps fp,Same F F'/\Sok (md ob X) Z F' σ H' env'/\Slots (md ob X) Z F' σ H' env' fp/\F' l=none/\(∀ i,l∉fp i)/\RepsK X.K F' ys yps/\dcGo (tgW T) c fk f js P (xs.drop i) env' yps,?_,?_⟩
 ·obtain ⟨fp,L⟩:=K.sl
  have hF:F l=none:=Same.none_of K.sF hl
  have hn:∀ i,l∉fp i:=fun i h=>(L.al i l h).1 hl
  obtain ⟨K1,L1⟩:=K.touch (o:=.dK []) L hF (K.h0 hl) hn
  exact ⟨_,rfl,am,F,env,[],fp,ao,K1,L1,hF,hn,.nil,hf⟩
 rintro i m ys H2 ⟨rfl,hl2,F',env',yps,fp,s,K',L',hF',hn,ry,hg⟩
 have h0:Z.H₀ l=none:=K.h0 hl
 by_cases hlt:i<xs.length
 ·rw [List.drop_eq_getElem_cons hlt] at hg
  obtain ⟨h1,h2⟩:=I1.go Z i σ env' F' H2 xs[i] s K' (by simp [hlt])
  refine .inr ⟨h1,fun v H3 y=>?_⟩
  obtain ⟨F2,s2,K2,r2,sH,nw⟩:=h2 v H3 y
  have L2':Slots (md ob X) Z F2 σ H3 env' fp:=L'.move s2 (fun _ c o _ e=>sH c o e) nw
  have hF2:F2 l=none:=by
   cases e:F2 l with
   | none=>rfl
   | some o =>
    rcases nw l (by rw [e]; simp) with q | q
    ·exact absurd hF' q
    ·rw [hl2] at q; cases q
  have hl3:H3 l=some (.dK ys):=sH _ _ hl2
  have Kb:=mS hj K2 L2'
  have hσ4:∀ {σ4:L2.St},(∀ (k j:Nat),js[k]?=some (some j)->σ4[k]?=(capS js σ)[k]?)->True:=fun _=>trivial
  have tg':=cw (K:=X.K) hT v (capS js σ) H3 _ (pR (M:=md ob X) (Q:=fun σ4 H4=>H4=H3/\∃ b1,Sok (md ob X) (Zb js env' fp F2 H3) F2 σ4 H3 b1/\c b1 fun ok b2=>if ok=true then fk b2 fun kk b3=>f b3 fun y b4=>yps.length<=100000/\opt (keyP kk) fun key=>dcGo (tgW T) c fk f js P (xs.drop (i+1)) (backE js env' b4) (putP yps key y) else dcGo (tgW T) c fk f js P (xs.drop (i+1)) (backE js env' b2) yps) Kb r2 hg fun e4 σ4 p4 K4=>⟨rfl,e4,K4,p4⟩)
  have mono:∀ (Q1 Q2:L2.St->Hp->Prop),(∀ a b,Q1 a b->Q2 a b)->tgL X.K T v (capS js σ) H3 Q1->tgL X.K T v (capS js σ) H3 Q2:=by
   have monoL:∀ (l:List Nat),∀ x σ H (Q Q':L2.St->Hp->Prop),(∀ a b,Q a b->Q' a b)->tgLs l x σ H Q->tgLs l x σ H Q':=by
    intro l
    induction l with
    | nil=>exact fun x σ H Q Q' h q=>⟨q.1,h _ _ q.2⟩
    | cons i l ih=>exact jU gM ih
   intro Q1 Q2 hq q
   cases T with
   | nm i=>exact hq _ _ q
   | tp l =>
    obtain ⟨a,xs,e1,e2,e3,e4⟩:=q
    exact ⟨a,xs,e1,e2,e3,monoL l _ _ _ _ _ hq e4⟩
  refine mono _ _ ?_ tg'
  rintro σ4 H4 ⟨⟨rfl,b1,K4,p4⟩,hlen,hcap⟩
  refine ⟨_,F2,b1,_,K4,p4,fun b b2 F5 H5 p5 s5 K5=>?_⟩
  have again:∀ {F6 H6:Hp} {b3:En} {ys':List (Key×V)} {yps':List (Key×PV)},Same F2 F6->Sok (md ob X) (Zb js env' fp F2 H4) F6 σ4 H6 b3->dcGo (tgW T) c fk f js P (xs.drop (i+1)) (backE js env' b3) yps'->RepsK X.K F6 ys' yps' ->
    H6 l=some (.dK ys)/\(∃ m',m'<xs.length - i/\m'=xs.length - (i+1)/\(upd H6 l (.dK ys')) l=some (.dK ys')/\∃ F' env' yps fp,Same F F'/\Sok (md ob X) Z F' σ (upd H6 l (.dK ys')) env'/\Slots (md ob X) Z F' σ (upd H6 l (.dK ys')) env' fp/\F' l=none/\(∀ i,l∉fp i)/\RepsK X.K F' ys' yps/\dcGo (tgW T) c fk f js P (xs.drop (i+1)) env' yps):=fun {F6 H6 b3 ys' yps'} s6 K6 p6 r6=>by
   obtain ⟨fp',L6,K6',hnew⟩:=kU hj K2 L2' K6 hcap
   have hl6:H6 l=some (.dK ys):=K6.sG l _ hl3 fun z=>by
    obtain ⟨_,j,_,_,_,hm⟩:=di z
    exact hn j hm
   have hF6:F6 l=none:=by
    cases e:F6 l with
    | none=>rfl
    | some o =>
     rcases K6.nw l (by rw [e]; simp) with q | q
     ·exact absurd hF2 q
     ·exact absurd q (by show H4 l≠none; rw [hl3]; simp)
   have hn6:∀ i,l∉fp' i:=fun i h=>by
    rcases hnew i l h with ⟨i',q⟩ | q
    ·exact hn i' q
    ·rw [hl3] at q; cases q
   obtain ⟨K7,L7⟩:=K6'.touch (o:=.dK ys') L6 hF6 h0 hn6
   exact ⟨hl6,_,by omega,rfl,am,F6,_,_,fp',aj s (aj s2 s6),K7,L7,hF6,hn6,r6,p6⟩
  cases b with
  | false =>
   refine iteF ?_
   obtain ⟨hl5,m',h1,h2,h3,F',env',yps,fp,q1,q2,q3,q4⟩:=again (ys':=ys) s5 K5 p5 ((ry.mono s2).mono s5)
   have e:upd H5 l (.dK ys)=H5:=by
    funext a
    by_cases z:a=l
    ·subst z; rw [am,hl5]
    ·rw [ah z]
   rw [e] at h3 q2 q3
   exact ⟨m',h1,h2,h3,F',env',yps,fp,q1,q2,q3,q4⟩
  | true =>
   refine iteT ⟨_,F5,b2,_,K5,p5,fun kx b3 v6 F6 H6 p6 s6 K6 r6=>⟨_,F6,b3,_,K6,p6,fun y b4 v7 F7 H7 p7 s7 K7 r7=>?_⟩⟩
   obtain ⟨p7,key,hkey,p8⟩:=p7
   have s67:=aj s5 (aj s6 s7)
   obtain ⟨hl6,q⟩:=again (ys':=putK ys key v7) s67 K7 p8 (((ry.mono s2).mono s67).put r7)
   refine ⟨key,eh hkey r6,hl6,?_,q⟩
   rw [ry.len,sizeLine_eq]; omega
 ·rw [List.drop_eq_nil_of_le (by omega)] at hg
  refine .inl ⟨I1.stop Z i σ env' F' H2 s K' (by omega),kk _ env' _ F' H2 hg s (fun _=>by simp) ?_⟩
  refine K'.slots (by simp [K'.len]) (L'.push (l:=[l]) (by simp) K'.len (.inr (.inl ⟨rfl,l,rfl,rfl,h0,ys,hl2,ry⟩)) (fun a ha=>?_) fun j a ha=>?_)
  ·simp at ha; subst ha
   exact ⟨by rw [hl2]; simp,hF'⟩
  ·simp at ha; subst ha
   exact hn j
theorem sX (hi:EvI ob X tg iter fi) (hg:∀ C s₀ H₀ ex pn,PG (cxComp X scope N C s₀ H₀ ex pn) tg (tgL X.K T)) (ht:∀ C s₀ H₀ ex pn,EvC ob (cxComp X scope N C s₀ H₀ ex pn) ifs c) (hk:∀ C s₀ H₀ ex pn,EvS ob (cxComp X scope N C s₀ H₀ ex pn) kx fk) (he:∀ C s₀ H₀ ex pn,EvS ob (cxComp X scope N C s₀ H₀ ex pn) vx f)
  (hj:autoParam (jsOk js=true) Z2._auto_1) (hT:autoParam (tgFree js T=true) Z2._auto_1)
  (hc:autoParam (X.calm=true) Z2._auto_1) (hx:autoParam (X.xe=(fun _ _=>False)) Z2._auto_1) (hsc:autoParam (scOk X.env scope=true) Z2._auto_1) (hcap:autoParam (capOk X.N scope N js=true) Z2._auto_1) (hkind:autoParam (scope.kind=.function) Z2._auto_1) (hs:autoParam (∀ x,foldedSetIterable iter X.env x=pure x) Z3._auto_1) :
  EvF ob X (.DictComp kx vx [⟨tg,iter,ifs,0⟩] scope pos) (eDC fi T c fk f js):=by
 obtain ⟨wi,hwi,k⟩:=hi.ex
 refine ⟨_,wx (wi:=wi) (g:=tgL X.K T) (tc:=rdT (md ob X) c) (tk:=rdE (md ob X) fk) (te:=rdE (md ob X) f) (js:=js) hwi hg (fun C s₀ H₀ ex pn=>(ht C s₀ H₀ ex pn).ex) (fun C s₀ H₀ ex pn=>(hk C s₀ H₀ ex pn).pe) (fun C s₀ H₀ ex pn=>(he C s₀ H₀ ex pn).pe) (cw hT) hc hx hsc hcap hkind hs,fun Z F σ H env P Q K hf kk=>?_⟩
 refine k Z F σ H env _ _ K hf fun xs e1 J F1 H1 p s1 K1 I1 l hl=>?_
 exact oq hj hT K1 I1 p (fun x e2 v F2 H2 p2 s2 hx2 K2=>kk x e2 v F2 H2 p2 (aj s1 s2) hx2 K2) l hl
theorem sW (i:Nat) {y:Str} {py spos:Pos} (hN:X.N.Nodup) (hy:X.N[i]?=some y) (hl:X.env.scope.names.lookup y=some .local) (hi:EvI ob X tg iter fi) (hg:∀ C s₀ H₀ ex pn,PG (cxComp X scope N C s₀ H₀ ex pn) tg (tgL X.K T)) (ht:∀ C s₀ H₀ ex pn,EvC ob (cxComp X scope N C s₀ H₀ ex pn) ifs c) (hk:∀ C s₀ H₀ ex pn,EvS ob (cxComp X scope N C s₀ H₀ ex pn) kx fk) (he:∀ C s₀ H₀ ex pn,EvS ob (cxComp X scope N C s₀ H₀ ex pn) vx f)
  (hj:autoParam (jsOk js=true) Z2._auto_1) (hT:autoParam (tgFree js T=true) Z2._auto_1)
  (hsw:autoParam (swapsWith (.DictComp kx vx [⟨tg,iter,ifs,0⟩] scope pos) (some (.Name y py)) spos.line X.env=pure true) Z2._auto_1)
  (hc:autoParam (X.calm=true) Z2._auto_1) (hx:autoParam (X.xe=(fun _ _=>False)) Z2._auto_1) (hsc:autoParam (scOk X.env scope=true) Z2._auto_1) (hcap:autoParam (capOk X.N scope N js=true) Z2._auto_1) (hkind:autoParam (scope.kind=.function) Z2._auto_1) (hs:autoParam (∀ x,foldedSetIterable iter X.env x=pure x) Z3._auto_1) :
  EvX ob X (.Assign [.Name y py] (.DictComp kx vx [⟨tg,iter,ifs,0⟩] scope pos) spos) (sSetO i (eDC fi T c fk f js)):=by
 obtain ⟨wi,hwi,k⟩:=hi.ex
 refine ⟨_,sT (i:=i) (wi:=wi) (g:=tgL X.K T) (tc:=rdT (md ob X) c) (tk:=rdE (md ob X) fk) (te:=rdE (md ob X) f) (js:=js) hN hy hl hwi hg (fun C s₀ H₀ ex pn=>(ht C s₀ H₀ ex pn).ex) (fun C s₀ H₀ ex pn=>(hk C s₀ H₀ ex pn).pe) (fun C s₀ H₀ ex pn=>(he C s₀ H₀ ex pn).pe) (cw hT) hsw hc hx hsc hcap hkind hs,fun Z F σ H env P D K hf L=>?_⟩
 refine k Z F σ H env _ _ K hf fun xs e1 J F1 H1 p s1 K1 I1 l hl=>?_
 exact oq (P:=fun x e=>P.nx (e.set i (some ⟨1,x⟩))) (Q:=fun v H'=>D.nx (σ.set i (some v)) H') hj hT K1 I1 p (fun x e2 v F2 H2 p2 s2 hx2 K2=>L.nx _ _ F2 H2 p2 (aj s1 s2) K2.take) l hl
end
end Q
namespace Q
open PySem L2 PyProof.Rows
noncomputable abbrev LM:=List PV->List PV->Option (PV×List PV)
noncomputable def eLM (m:LM) (i:Nat) (fa:WA):WE:=fun env P=>(match env[i]? with | some (some ⟨1,.lst _⟩)=>True | some (some ⟨3,.lst _⟩)=>True | _=>False)/\fa env fun xs e=>match e[i]? with
 | some (some ⟨1,.lst ys⟩)=>opt (m ys xs) fun r=>P r.1 (e.set i (some ⟨1,.lst r.2⟩))
 | some (some ⟨3,.lst ys⟩)=>opt (m ys xs) fun r=>P r.1 (e.set i (some ⟨3,.lst r.2⟩))
 | _=>False
noncomputable def MtQ (K:PySem.W.Frag) (r:V->List V->Hp->VK->Prop) (m:LM):Prop :=
 ∀ (F H:Hp) (l:Addr) (ys vs:List V) (ps xs:List PV) (z:PV) (ps':List PV) (Q:VK),Same F H->H l=some (.lst ys)->Reps K F ys ps->Reps K F vs xs->m ps xs=some (z,ps') ->
  (∀ v ys',Rep K F v z->Reps K F ys' ps'->Q v (upd H l (.lst ys')))->r (.ref l) vs H Q
section
variable {ob:ObK} {X:Cx} {a b c e:Expr} {es:List Expr} {f g h:WE} {fa:WA} {pos p apos cpos:Pos} {x name:Str} {idn:String} {r:V->List V->Hp->VK->Prop} {m:LM}
theorem qu {t:TA} {i:Nat} (hq:MtQ X.K r m) (k:∀ (Z:Zn) (F:Hp) (σ:L2.St) (H:Hp) (env:En) (P:List PV->En->Prop) (Q:List V->Hp->Prop),Sok (md ob X) Z F σ H env->fa env P->(∀ xs env' vs F' H',P xs env'->xs.length=es.length->Same F F'->Sok (md ob X) Z F' σ H' env'->Reps X.K F' vs xs->Q vs H')->t σ H Q) :
  ∀ (Z:Zn) (F:Hp) (σ:L2.St) (H:Hp) (env:En) (P:PV->En->Prop) (Q:VK),Sok (md ob X) Z F σ H env->eLM m i fa env P->(∀ x env' v F' H',P x env'->Same F F'->Sok (md ob X) Z F' σ H' env'->Rep X.K F' v x->Q v H')->tBM X.K "list" r (tVar i) t σ H Q:=by
 intro Z F σ H env P Q K hf kk
 obtain ⟨h0,hf⟩:=hf
 obtain ⟨a,hσ,vs0,ha⟩:∃ a,σ[i]?=some (some (.ref a))/\∃ vs,H a=some (.lst vs):=by
  split at h0
  ·rename_i e
   obtain ⟨a,h1,vs,h2,_⟩:=K.ownAt (.inl rfl) e
   exact ⟨a,h1,vs,h2⟩
  ·rename_i e
   obtain ⟨a,h1,vs,h2,_⟩:=K.ownAt (.inr rfl) e
   exact ⟨a,h1,vs,h2⟩
  ·exact h0.elim
 refine ⟨_,hσ,.inl ⟨rfl,vs0,.inl (.inl ha)⟩,?_⟩
 refine k Z F σ H env _ _ K hf fun xs e1 vs F1 H1 p _ s1 K1 r1=>?_
 have fin:∀ (kd:Nat) (ys:List PV),kd=1\/kd=3->e1[i]?=some (some ⟨kd,.lst ys⟩)->opt (m ys xs) (fun r=>P r.1 (e1.set i (some ⟨kd,.lst r.2⟩)))->r (.ref a) vs H1 Q:=fun kd ys hk ei ⟨⟨z,ys'⟩,hm,p⟩=>by
  obtain ⟨a',h1,ws,h2,h3⟩:=K1.ownAt hk ei
  rw [hσ] at h1; cases h1
  refine hq F1 H1 a ws vs ys xs z ys' Q K1.sF h2 h3 r1 hm fun v us rv ru=>?_
  exact kk z _ v F1 _ p s1 (K1.write (o:=.lst us) hk ei hσ ⟨us,am,ru⟩) rv
 split at p
 ·rename_i ei; exact fin _ _ (.inl rfl) ei p
 ·rename_i ei; exact fin _ _ (.inr rfl) ei p
 ·exact p.elim
theorem cT (i:Nat) (slot:Slot "list" name idn) (hty:typeOf (.builtin idn)=pure (.type "method_descriptor")) (hm:MtR X idn r) (hq:MtQ X.K r m) (ho:PE X (.Name x p) (tVar i)) (ha:EvA ob X (e::es) fa)
  (hbase:autoParam (attributeBase (.Name x p) name X.env (eval (.Name x p) X.env)=eval (.Name x p) X.env) Z2._auto_1)
  (hfew:autoParam (((backTo cpos (starEach (e::es) X.env)).all (fun x=>!x.1) && (backToKw cpos (keywordEach [] X.env)).all (fun x=>x.1.isSome)
   && decide ((e::es).length+([]:List Keyword).length+(if ([]:List Keyword).isEmpty then 0 else 1)<30))=true) Z2._auto_1)
  (hline:autoParam ((apos.endLine==cpos.line)=true) Z2._auto_1) (hs:autoParam (starEach (e::es) X.env=(false,eval e X.env)::starEach es X.env) Z2._auto_1) (hplain:autoParam ((backTo cpos (starEach es X.env)).any (·.1)=false) Z2._auto_1) :
  EvS ob X (.Call (.Attribute (.Name x p) name apos) (e::es) [] cpos) (eLM m i fa):=by
 obtain ⟨t,ht,k⟩:=ha.ex
 exact ⟨_,o0 PySem.F.plainAttrs_list slot hty hm ho ht hbase hfew hline hs hplain,qu hq k⟩
theorem wa (i:Nat) (slot:Slot "list" name idn) (hty:typeOf (.builtin idn)=pure (.type "method_descriptor")) (hm:MtR X idn r) (hq:MtQ X.K r m) (ho:PE X (.Name x p) (tVar i))
  (hbase:autoParam (attributeBase (.Name x p) name X.env (eval (.Name x p) X.env)=eval (.Name x p) X.env) Z2._auto_1) (hline:autoParam ((apos.endLine==cpos.line)=true) Z2._auto_1):EvS ob X (.Call (.Attribute (.Name x p) name apos) [] [] cpos) (eLM m i aNil):=by
 refine ⟨_,vc PySem.F.plainAttrs_list slot hty hm ho hbase hline,fun Z F σ H env P Q K hf kk=>?_⟩
 obtain ⟨v,h1,h2,h3⟩:=qu (es:=[]) (i:=i) (t:=tNil) hq (fun Z F σ H env P Q K hf k=>k [] env [] F H hf rfl ao K .nil) Z F σ H env P Q K hf kk
 exact ⟨v,h1,h2,h3⟩
noncomputable def bv:LM:=fun ys xs=>match xs with
 | [x]=>if ys.length<=100000 then some (.non,ys++[x]) else none
 | _=>none
theorem bC:MtQ X.K nK bv:=by
 intro F H l ys vs ps xs z ps' Q sF hl ry rx hm k
 unfold bv at hm
 split at hm
 ·split at hm
  ·cases hm
   cases rx with
   | cons r1 r2 =>
    cases r2
    refine ⟨l,ys,_,rfl,rfl,hl,?_,k _ _ .non (ry.app (.cons r1 .nil))⟩
    rw [ry.len,sizeLine_eq]; omega
  ·cases hm
 ·cases hm
noncomputable def mPop:LM:=fun ys xs=>match xs with
 | []=>(ys[ys.length - 1]?).map fun y=>(y,ys.dropLast)
 | _=>none
theorem Reps.dl {K:PySem.W.Frag} {F:Hp} {vs:List V} {xs:List PV} (h:Reps K F vs xs):Reps K F vs.dropLast xs.dropLast:=by
 rw [List.dropLast_eq_take,List.dropLast_eq_take,h.len]
 exact h.take _
theorem vq:MtQ X.K rPop mPop:=by
 intro F H l ys vs ps xs z ps' Q sF hl ry rx hm k
 unfold mPop at hm
 split at hm
 ·rw [Option.map_eq_some_iff] at hm
  obtain ⟨y,hy,e⟩:=hm
  cases e
  cases rx
  obtain ⟨v,hv,rv⟩:=ry.get hy
  exact ⟨l,ys,v,rfl,rfl,hl,by rw [ry.len]; exact hv,k _ _ rv ry.dl⟩
 ·cases hm
noncomputable def mPopAt:LM:=fun ys xs=>match xs with
 | [.int i]=>if -1000000<=i/\i<=1000000 then (seqIndex? i ys.length).bind fun k=>(ys[k]?).map fun y=>(y,ys.eraseIdx k) else none
 | _=>none
theorem si:MtQ X.K rPopAt mPopAt:=by
 intro F H l ys vs ps xs z ps' Q sF hl ry rx hm k
 unfold mPopAt at hm
 split at hm
 ·split at hm
  ·rw [Option.bind_eq_some_iff] at hm
   obtain ⟨j,hj,hm⟩:=hm
   rw [Option.map_eq_some_iff] at hm
   obtain ⟨y,hy,e⟩:=hm
   cases e
   cases rx with
   | cons r1 r2 =>
    cases r2
    cases r1
    obtain ⟨v,hv,rv⟩:=ry.get hy
    exact ⟨l,ys,_,j,v,rfl,rfl,hl,by omega,by omega,by rw [ry.len]; exact hj,hv,k _ _ rv (ry.erase j)⟩
  ·cases hm
 ·cases hm
noncomputable def setPV:PV->PV->PV->Option PV
 | .lst xs,.int i,v=>(ixN xs.length i).map fun j=>.lst (xs.set j v)
 | .dic kvs,y,v=>if kvs.length<=100000 then (keyP y).map fun k=>.dic (putP kvs k v) else none
 | _,_,_=>none
noncomputable def sPut (i:Nat) (fv fk:WE):WS:=fun P env=>fv env fun v e1=>(e1[i]?).join.isSome=true/\fk e1 fun y e2=>match e2[i]? with
 | some (some ⟨1,x⟩)=>opt (setPV x y v) fun z=>P.nx (e2.set i (some ⟨1,z⟩))
 | some (some ⟨3,x⟩)=>opt (setPV x y v) fun z=>P.nx (e2.set i (some ⟨3,z⟩))
 | _=>False
end
end Q
namespace Q
open PySem L2 PyProof.Rows
section
variable {ob:ObK} {X:Cx} {a b c e ke:Expr} {es:List Expr} {f g h fk:WE} {fa:WA} {pos p apos cpos:Pos} {x name:Str}
noncomputable def rSetD:TSet:=fun o i v H Q=>∃ a H',o=.ref a/\DPut H a i v H'/\Q H'
theorem set_dict (hu:X.A.units+1<cLine):PSet X rSetD:=by
 intro pins s σ H o i v ov iv u Q I ro ri rv h
 obtain ⟨a,H',rfl,g,q⟩:=h
 cases ro
 exact qS hu I g ri rv fun s4 I4=>⟨H',I4,q⟩
theorem PSet.or {t u:TSet} (h:PSet X t) (h':PSet X u):PSet X (fun o i v H Q=>t o i v H Q\/u o i v H Q):=by
 intro pins s σ H o i v ov iv w Q I ro ri rv q
 rcases q with q | q
 ·exact h pins s σ H o i v ov iv w Q I ro ri rv q
 ·exact h' pins s σ H o i v ov iv w Q I ro ri rv q
theorem vX (i:Nat) {spos:Pos} (hu:X.A.units+1<cLine) (hv:EvS ob X e f) (ho:PE X (.Name x p) (tVar i)) (hk:EvS ob X ke fk)
  (hs:autoParam (swapsWithSole [.Subscript (.Name x p) ke pos] e spos.line X.env=pure false) Z2._auto_1) (hw:autoParam (swappedStores [.Subscript (.Name x p) ke pos] e X.env=pure none) Z2._auto_1)
  (h1:autoParam ((assignEach [.Subscript (.Name x p) ke pos] X.env).map (·.2)=[assign (.Subscript (.Name x p) ke pos) X.env]) Z2._auto_1)
  (ha:autoParam (∀ v,assign (.Subscript (.Name x p) ke pos) X.env v=(do
   let ov <- holding [v] (eval (.Name x p) X.env)
   let iv <- holding [v,ov] (eval ke X.env)
   standAt pos
   holding [v,ov,iv] (setItem ov iv v)
   release [v,ov,iv] [])) Z3._auto_1):EvX ob X (.Assign [.Subscript (.Name x p) ke pos] e spos) (sPut i f fk):=by
 obtain ⟨t,ht,k⟩:=hv.ex
 obtain ⟨t2,ht2,k2⟩:=hk.ex
 refine ⟨_,gf ht (iX ho ht2 (PSet.or rn (set_dict hu)) ha) hs hw h1,fun Z F σ H env P D K hf L=>k Z F σ H env _ _ K hf fun v e1 v' F1 H1 p s1 K1 r1=>?_⟩
 obtain ⟨h0,p⟩:=p
 obtain ⟨w,hw⟩:∃ v,σ[i]?=some (some v):=by
  cases e:e1[i]? with
  | none=>rw [e] at h0; cases h0
  | some w =>
   cases w with
   | none=>rw [e] at h0; cases h0
   | some s =>
    obtain ⟨fp,L⟩:=K1.sl
    obtain ⟨v,hv,_⟩:=L.at' i s e
    exact ⟨v,hv⟩
 refine ⟨w,hw,k2 Z F1 σ H1 e1 _ _ K1 p fun y e2 y' F2 H2 p2 s2 K2 r2=>?_⟩
 have fin:∀ (kd:Nat) (x:PV),kd=1\/kd=3->e2[i]?=some (some ⟨kd,x⟩)->opt (setPV x y v) (fun z=>P.nx (e2.set i (some ⟨kd,z⟩)))->(rSetL w y' v' H2 fun H3=>D.nx σ H3)\/rSetD w y' v' H2 fun H3=>D.nx σ H3:=fun kd x hk ei ⟨z,hz,p⟩=>by
  obtain ⟨a,h1,hx⟩:=K2.ownAt hk ei
  rw [hw] at h1; cases h1
  have r1':=r1.mono s2
  unfold setPV at hz
  split at hz
  ·rw [Option.map_eq_some_iff] at hz
   obtain ⟨j,hj,rfl⟩:=hz
   obtain ⟨vs,h2,h3⟩:=hx
   cases r2
   exact .inl ⟨a,vs,_,j,rfl,rfl,h2,by rw [h3.len]; exact hj,L.nx _ _ F2 _ p (aj s1 s2) (K2.write (o:=.lst (vs.set j v')) hk ei hw ⟨_,am,h3.setL j r1'⟩)⟩
  ·split at hz
   ·rw [Option.map_eq_some_iff] at hz
    obtain ⟨j,hj,rfl⟩:=hz
    obtain ⟨vs,h2,h3⟩:=hx
    have hy:=eh hj r2
    subst hy
    exact .inr ⟨a,_,rfl,DPut.k h2 (by rw [h3.len,sizeLine_eq]; omega),L.nx _ _ F2 _ p (aj s1 s2) (K2.write (o:=.dK (putK vs j v')) hk ei hw ⟨_,am,h3.put r1'⟩)⟩
   ·cases hz
  ·cases hz
 split at p2
 ·rename_i ei; exact fin _ _ (.inl rfl) ei p2
 ·rename_i ei; exact fin _ _ (.inr rfl) ei p2
 ·exact p2.elim
end
noncomputable abbrev Fd:=List PV->(PV->Prop)->Prop
noncomputable def spQ (M:Md) (n:Nat) (D:Fd):Sp:=fun vs H Q _=>∃ (F:Hp) (xs:List PV) (P:PV->Prop),Same F H/\Reps M.K F vs xs/\xs.length=n/\D xs P /\
 ∀ r v F' H',P r->Same H H'->Same F F'->Same F' H'->(∀ a,F' a≠none->F a≠none\/H a=none)->Rep M.K F' v r->Q v H'
noncomputable def startE (n:Nat) (xs:List PV):En:=xs.map (fun x=>some ⟨0,x⟩)++List.replicate (n - xs.length) none
noncomputable def endD (P:PV->Prop):Wd:={ nx:=fun _=>P .non,rt:=fun x _=>P x }
noncomputable def run (n:Nat) (u:WS):Fd:=fun xs P=>u (endD P) (startE n xs)
noncomputable abbrev FdO:=PV->List PV->(PV->PV->Prop)->Prop
noncomputable def spO (M:Md) (n:Nat) (D:FdO):Sp:=fun vs H Q _=>∃ (F:Hp) (a:Addr) (l:List Addr) (c:PV) (ws:List V) (xs:List PV) (P:PV->PV->Prop),vs=.ref a::ws/\Same F H/\Reps M.K F ws xs/\xs.length+1=n /\
 M.ob.P F H a l c/\(∀ b∈l,H b≠none/\F b=none)/\D c xs P /\
 ∀ r c' v F' H' l',P r c'->(∀ b o,H b=some o->b∉l->H' b=some o)->(∀ b,H b≠none->H' b≠none)->Same F F'->Same F' H'->(∀ a,F' a≠none->F a≠none\/H a=none)->M.ob.P F' H' a l' c'->(∀ b∈l',H' b≠none/\F' b=none)->(∀ b∈l',b∈l\/H b=none)->Rep M.K F' v r->Q v H'
noncomputable def ob0 (P:PV->Prop) (e:En):Prop:=match e[(0:Nat)]? with
 | some (some ⟨2,c⟩)=>P c
 | _=>False
noncomputable def endO (P:PV->PV->Prop):Wd:={ nx:=fun e=>ob0 (P .non) e,rt:=fun x e=>ob0 (P x) e }
noncomputable def runO (n:Nat) (u:WS):FdO:=fun c xs P=>u (endO P) (some ⟨2,c⟩::startE (n - 1) xs)
section
variable {M:Md} {F H:Hp}
theorem fS {N:List Str} {vs:List V} (h:vs.length<=N.length):(start N vs).length=N.length:=by
 unfold L2.start
 rw [List.length_append,List.length_map,List.length_replicate]; omega
theorem fh {n:Nat} {xs:List PV} (h:xs.length<=n):(startE n xs).length=n:=by
 unfold startE
 rw [List.length_append,List.length_map,List.length_replicate]; omega
theorem fj {n:Nat} {xs:List PV} {i:Nat} {s:Sl} (h:(startE n xs)[i]?=some (some s)):∃ x,xs[i]?=some x/\s=⟨0,x⟩:=by
 unfold startE at h
 rcases Nat.lt_or_ge i xs.length with q | q
 ·rw [List.getElem?_append_left (by simpa using q),List.getElem?_map,List.getElem?_eq_getElem q] at h
  exact ⟨xs[i],by simp [q],(Option.some.inj (Option.some.inj h)).symm⟩
 ·rw [List.getElem?_append_right (by simpa using q),List.getElem?_replicate] at h
  split at h <;> cases h
theorem cF {N:List Str} {vs:List V} {i:Nat} {v:V} (h:vs[i]?=some v):(start N vs)[i]?=some (some v):=by
 unfold L2.start
 have q:i<vs.length:=by
  rcases Nat.lt_or_ge i vs.length with q | q
  ·exact q
  ·rw [List.getElem?_eq_none q] at h; cases h
 rw [List.getElem?_append_left (by simpa using q),List.getElem?_map,h]; rfl
theorem fT {N:List Str} {vs:List V} {xs:List PV} (sF:Same F H) (r:Reps M.K F vs xs) (hl:xs.length<=N.length):Sok M ⟨H,F,[],fun _=>none,fun _ h=>by simp at h⟩ F (start N vs) H (startE N.length xs):=by
 have hl':vs.length<=N.length:=by rw [r.len]; exact hl
 refine ⟨sF,fun b o h _=>h,fun b h=>h,ao,fun a h=>.inl h,by rw [fh hl,fS hl'],fun _=>[],fun i s h=>?_,fun i a h=>by simp at h,fun i j a _ h=>by simp at h,fun i a s h=>by cases h⟩
 obtain ⟨x,hx,rfl⟩:=fj h
 obtain ⟨v,hv,rv⟩:=r.get hx
 exact ⟨v,cF hv,.inl ⟨rfl,rfl,rv⟩⟩
theorem iR {N:List Str} {ws:List V} {xs:List PV} {a:Addr} {l:List Addr} {c:PV} (sF:Same F H) (r:Reps M.K F ws xs) (hl:xs.length+1<=N.length) (ho:M.ob.P F H a l c) (hb:∀ b∈l,H b≠none/\F b=none) :
  Sok M ⟨H,F,l,fun i=>if i=0 then some a else none,fun b h=>(hb b h).1⟩ F (start N (.ref a::ws)) H (some ⟨2,c⟩::startE (N.length - 1) xs):=by
 have hl':ws.length+1<=N.length:=by rw [r.len]; exact hl
 refine ⟨sF,fun b o h _=>h,fun b h=>h,ao,fun a h=>.inl h,?_,fun i=>if i=0 then l else [],fun i s h=>?_,fun i b h=>?_,fun i j b hij h z=>?_,fun i b s h _ _=>?_⟩
 ·rw [List.length_cons,fh (by omega),fS (by simpa using hl')]; omega
 ·cases i with
  | zero =>
   have h:s=⟨2,c⟩:=by simpa using h.symm
   subst h
   exact ⟨.ref a,cF rfl,.inr (.inr (.inl ⟨.inl rfl,a,rfl,fun c hc=>.inl hc,ho⟩))⟩
  | succ i =>
   have h:(startE (N.length - 1) xs)[i]?=some (some s):=by simpa using h
   obtain ⟨x,hx,rfl⟩:=fj h
   obtain ⟨v,hv,rv⟩:=r.get hx
   exact ⟨v,cF (by simpa using hv),.inl ⟨rfl,rfl,rv⟩⟩
 ·split at h
  ·exact hb b h
  ·simp at h
 ·split at h
  ·split at z
   ·rename_i h1 h2; exact hij (h1.trans h2.symm)
   ·simp at z
  ·simp at h
 ·dsimp only at h
  split at h
  ·rename_i e; subst e; cases h; exact cF rfl
  ·cases h
end
section
variable {P:Program} {w:World} {K:PySem.W.Frag} {mg:Str->Option Value} {base:Heap} {ob:ObK}
theorem bW {x qual:Str} {st:Stmt} {f:Addr} {fd:FuncData} {N ps:List Str} {k:Nat} {u:WS} (F:Fun K x qual st f fd) (S:aD N ps (aq st)) (hn:ps.length<=N.length)
  (hb:∀ (cdv:Value) (A:Around) (outer:List Env) (s:Shared) (H:Hp) (E:XK),Room k (A.deeper (envOfC qual (aq st) s.heap.objs.size f cdv))->EvXs ob (cxOf CX0 P w K mg base N qual (aq st) f cdv A outer s H E).nox (bc st) u) :
  FnOk P w K mg base CX0 (k+1) f fd ps (spQ ⟨P,w,K,ob⟩ ps.length (run N.length u)):=by
 refine F.ok S (fun vs H Q E h=>?_) (fun cdv A outer s H vs Q E hr h=>?_)
 ·obtain ⟨F,xs,P,_,r,hl,_⟩:=h
  rw [r.len]; exact hl
 ·obtain ⟨F,xs,P',sF,r,hl,hD,kk⟩:=h
  obtain ⟨t,ht,kt⟩:=(hb cdv A outer s H E hr).ex
  refine ⟨t,ht,kt ⟨H,F,[],fun _=>none,fun _ h=>by simp at h⟩ F (start N vs) H (startE N.length xs) (endD P') _ (fT (M:=⟨P,w,K,ob⟩) sF r (by omega)) hD ⟨fun env σ F' H' p s1 K1=>?_,fun x env v σ F' H' p s1 K1 rv=>?_,fun _ _ _ _ p=>p.elim,fun _ _ _ _ p=>p.elim,fun _ _ _ _ _ _ p=>p.elim,fun _ _ _ _ _ _ _ p=>p.elim⟩⟩
  ·exact kk .non .non F' H' p (fun b o h=>K1.sG b o h (by simp)) s1 K1.sF K1.nw .non
  ·exact kk x v F' H' p (fun b o h=>K1.sG b o h (by simp)) s1 K1.sF K1.nw rv
theorem mC {x qual:Str} {st:Stmt} {f:Addr} {fd:FuncData} {N ps:List Str} {k:Nat} {u:WS} (F:Fun K x qual st f fd) (S:aD N ps (aq st)) (hn:ps.length<=N.length)
  (hb:∀ (cdv:Value) (A:Around) (outer:List Env) (s:Shared) (H:Hp) (E:XK),Room k (A.deeper (envOfC qual (aq st) s.heap.objs.size f cdv))->EvXs ob (cxOf CX0 P w K mg base N qual (aq st) f cdv A outer s H E).nox (bc st) u) :
  FnOk P w K mg base CX0 (k+1) f fd ps (spO ⟨P,w,K,ob⟩ ps.length (runO N.length u)):=by
 refine F.ok S (fun vs H Q E h=>?_) (fun cdv A outer s H vs Q E hr h=>?_)
 ·obtain ⟨F,a,l,c,ws,xs,P,rfl,_,r,hl,_⟩:=h
  rw [List.length_cons,r.len]; exact hl
 ·obtain ⟨F,a,l,c,ws,xs,P',rfl,sF,r,hl,ho,hbl,hD,kk⟩:=h
  obtain ⟨t,ht,kt⟩:=(hb cdv A outer s H E hr).ex
  have fin:∀ (x:PV) (env:En) (v:V) (σ:L2.St) (F' H':Hp),ob0 (P' x) env->Same F F'->Sok ⟨P,w,K,ob⟩ ⟨H,F,l,fun i=>if i=0 then some a else none,fun b h=>(hbl b h).1⟩ F' σ H' env->Rep K F' v x->Q v H':=fun x env v σ F' H' p s1 K1 rv=>by
   unfold ob0 at p
   split at p
   ·rename_i c' e
    obtain ⟨fp,L⟩:=K1.sl
    obtain ⟨v0,hv0,ok⟩:=L.at' 0 _ e
    have hσ:=L.oa 0 a _ rfl e rfl
    rw [hσ] at hv0; cases hv0
    rcases ok with ⟨k0,_⟩ | ⟨k0,_⟩ | ⟨_,a',e',h1,h2⟩ | ⟨k0,_⟩
    ·cases k0
    ·cases k0
    ·cases e'
     exact kk x _ v F' H' (fp 0) p (fun b o h1 h2=>K1.sG b o h1 h2) (fun b h=>K1.pr b h) s1 K1.sF K1.nw h2 (fun b hb=>L.al 0 b hb) (fun b hb=>h1 b hb) rv
    ·cases k0
   ·exact p.elim
  refine ⟨t,ht,kt ⟨H,F,l,fun i=>if i=0 then some a else none,fun b h=>(hbl b h).1⟩ F (start N (.ref a::ws)) H (some ⟨2,c⟩::startE (N.length - 1) xs) (endO P') _ (iR (M:=⟨P,w,K,ob⟩) sF r (by omega) ho hbl) hD ⟨fun env σ F' H' p s1 K1=>?_,fun x env v σ F' H' p s1 K1 rv=>?_,fun _ _ _ _ p=>p.elim,fun _ _ _ _ p=>p.elim,fun _ _ _ _ _ _ p=>p.elim,fun _ _ _ _ _ _ _ p=>p.elim⟩⟩
  ·exact fin .non env .non σ F' H' p s1 K1 .non
  ·exact fin x env v σ F' H' p s1 K1 rv
end
noncomputable def eCall (D:Fd) (fa:WA):WE:=fun env P=>fa env fun xs e=>D xs fun r=>P r e
noncomputable def eCallO (D:FdO) (i:Nat) (fa:WA):WE:=fun env P=>(env[i]?).join.isSome=true/\fa env fun xs e=>match e[i]? with
 | some (some ⟨2,c⟩)=>D c xs fun r c'=>P r (e.set i (some ⟨2,c'⟩))
 | some (some ⟨4,c⟩)=>D c xs fun r c'=>P r (e.set i (some ⟨4,c'⟩))
 | _=>False
section
variable {ob:ObK} {X:Cx} {k:Nat} {fad:Addr} {fd:FuncData} {ps:List Str} {D:Fd} {DO:FdO} {x:Str} {p p1 pos:Pos} {e:Expr} {es:List Expr} {fa:WA}
theorem ba {n:Nat} (F:FnOk X.prog X.w X.K X.mg X.base CX0 k fad fd ps (spQ (md ob X) n D)) (hr:Room k X.A) (hm:X.mg x=some (.ref fad)) (hk:PySem.W.keepIn X.K (.ref fad)=true) (hb:Binds X.K fd ps []) (ha:EvA ob X (e::es) fa) (hn:autoParam (es.length+1=n) Z2._auto_1) (hg:autoParam (Gl X x) Z2._auto_1)
  (hdb:autoParam ((x==("__debug__" : Str))=false) Z1._auto_1) (he:autoParam (starEach (e::es) X.env=(false,eval e X.env)::starEach es X.env) Z2._auto_1) (hpl:autoParam ((backTo pos (starEach es X.env)).any (·.1)=false) Z2._auto_1) :
  EvS ob X (.Call (.Name x p) (e::es) [] pos) (eCall D fa):=by
 obtain ⟨t,ht,kt⟩:=ha.ex
 refine ⟨_,cY (E:=E0) F hr hg hm hk hb .nil pass0 ht hdb he hpl,fun Z F σ H env P Q K hf kk=>kt Z F σ H env _ _ K hf fun xs e1 vs F1 H1 p hl s1 K1 r1=>?_⟩
 rw [List.append_nil]
 refine ⟨F1,xs,fun r=>P r e1,K1.sF,r1,by rw [hl]; exact hn,p,fun r v F' H' pr sH sF sFH nw rv=>?_⟩
 exact kk r e1 v F' H' pr (aj s1 sF) (K1.move sF sFH sH nw) rv
theorem Sok.objS {M:Md} {Z:Zn} {F F' H H':Hp} {σ:L2.St} {env:En} {fp:Nat->List Addr} {i kd:Nat} {a:Addr} {c c':PV} {l':List Addr} (hk:kd=2\/kd=4) (K:Sok M Z F σ H env) (L:Slots M Z F σ H env fp) (hi:env[i]?=some (some ⟨kd,c⟩)) (hv:σ[i]?=some (some (.ref a)))
  (kp:∀ b o,H b=some o->b∉fp i->H' b=some o) (pr:∀ b,H b≠none->H' b≠none) (sF:Same F F') (sFH:Same F' H') (nw:∀ a,F' a≠none->F a≠none\/H a=none) (ho:M.ob.P F' H' a l' c') (hl:∀ b∈l',H' b≠none/\F' b=none) (hn:∀ b∈l',b∈fp i\/H b=none) :
  Sok M Z F' σ H' (env.set i (some ⟨kd,c'⟩))/\Slots M Z F' σ H' (env.set i (some ⟨kd,c'⟩)) (fun j=>if j=i then l' else fp j):=by
 obtain ⟨v0,hv0,ok0⟩:=L.at' i _ hi
 have wr:=ok0.wr
 have wr':∀ b∈l',b∈Z.S\/Z.H₀ b=none:=fun b hb=>by
  rcases hn b hb with q | q
  ·exact wr b q
  ·exact .inr (K.h0 q)
 have hlt:i<env.length:=by
  rcases Nat.lt_or_ge i env.length with q | q
  ·exact q
  ·rw [List.getElem?_eq_none q] at hi; cases hi
 suffices S:Slots M Z F' σ H' (env.set i (some ⟨kd,c'⟩)) (fun j=>if j=i then l' else fp j) from ⟨⟨sFH,fun b o h1 h2=>kp b o (K.sG b o h1 h2) fun z=>(wr b z).elim h2 fun q=>(by rw [q] at h1; cases h1),fun b h=>pr b (K.pr b h),aj K.gr sF,fun a h=>(nw a h).elim (K.nw a) fun q=>.inr (K.h0 q),by simp [K.len],_,S⟩,S⟩
 refine ⟨fun j s e=>?_,fun j b h=>?_,fun j j2 b hjj h z=>?_,fun j b s e1 e2 e3=>?_⟩
 ·by_cases q:j=i
  ·subst q
   rw [List.getElem?_set] at e
   simp only [if_true,hlt] at e
   cases e
   exact ⟨_,hv,by rw [if_pos rfl]; exact .inr (.inr (.inl ⟨hk,a,rfl,wr',ho⟩))⟩
  ·rw [List.getElem?_set_ne (Ne.symm q)] at e
   obtain ⟨v,h1,h2⟩:=L.at' j s e
   have h3:=h2.mono (H':=H') sF fun c hc=>by
    obtain ⟨o,ho⟩:=cn (L.al j c hc).1
    rw [ho]
    exact kp c o ho (L.dj j i c q hc)
   exact ⟨v,h1,by rw [if_neg q]; exact h3⟩
 ·by_cases q:j=i
  ·rw [if_pos q] at h; exact hl b h
  ·rw [if_neg q] at h
   have:=L.al j b h
   refine ⟨pr b this.1,?_⟩
   cases e:F' b with
   | none=>rfl
   | some o =>
    rcases nw b (by rw [e]; simp) with y | y
    ·exact absurd this.2 y
    ·exact absurd y this.1
 ·have mix:∀ j,j≠i->b∈l'->b∈fp j->False:=fun j hj m1 m2=>by
   rcases hn b m1 with y | y
   ·exact L.dj j i b hj m2 y
   ·exact (L.al j b m2).1 y
  by_cases q:j=i
  ·rw [if_pos q] at h
   rw [if_neg (fun y=>hjj (q.trans y.symm))] at z
   exact mix j2 (fun y=>hjj (q.trans y.symm)) h z
  ·rw [if_neg q] at h
   by_cases q2:j2=i
   ·rw [if_pos q2] at z; exact mix j q z h
   ·rw [if_neg q2] at z; exact L.dj j j2 b hjj h z
 ·by_cases q:j=i
  ·subst q
   rw [List.getElem?_set] at e2
   simp only [if_true,hlt] at e2
   cases e2
   exact L.oa j b _ e1 hi e3
  ·rw [List.getElem?_set_ne (Ne.symm q)] at e2
   exact L.oa j b s e1 e2 e3
theorem aF (i:Nat) {y:Str} {n:Nat} (F:FnOk X.prog X.w X.K X.mg X.base CX0 k fad fd ps (spO (md ob X) n DO)) (hr:Room k X.A) (hm:X.mg x=some (.ref fad)) (hk:PySem.W.keepIn X.K (.ref fad)=true) (hb:Binds X.K fd ps []) (ho:PE X (.Name y p1) (tVar i)) (ha:EvA ob X es fa) (hn:autoParam (es.length+1=n) Z2._auto_1) (hg:autoParam (Gl X x) Z2._auto_1)
  (hdb:autoParam ((x==("__debug__" : Str))=false) Z1._auto_1) (he:autoParam (starEach (.Name y p1::es) X.env=(false,eval (.Name y p1) X.env)::starEach es X.env) Z2._auto_1) (hpl:autoParam ((backTo pos (starEach es X.env)).any (·.1)=false) Z2._auto_1) :
  EvS ob X (.Call (.Name x p) (.Name y p1::es) [] pos) (eCallO DO i fa):=by
 obtain ⟨t,ht,kt⟩:=ha.ex
 refine ⟨_,cY (E:=E0) F hr hg hm hk hb .nil pass0 (bh ho ht he) hdb he hpl,fun Z F σ H env P Q K hf kk=>?_⟩
 obtain ⟨h0,hf⟩:=hf
 obtain ⟨w,hw⟩:∃ v,σ[i]?=some (some v):=by
  cases e:env[i]? with
  | none=>rw [e] at h0; cases h0
  | some w =>
   cases w with
   | none=>rw [e] at h0; cases h0
   | some s =>
    obtain ⟨fp,L⟩:=K.sl
    obtain ⟨v,hv,_⟩:=L.at' i s e
    exact ⟨v,hv⟩
 refine ⟨w,hw,kt Z F σ H env _ _ K hf fun xs e1 vs F1 H1 p hl s1 K1 r1=>?_⟩
 show spO (md ob X) n DO ((w::vs)++[]) H1 Q E0
 rw [List.append_nil]
 have fin:∀ (kd:Nat) (c:PV),kd=2\/kd=4->e1[i]?=some (some ⟨kd,c⟩)->DO c xs (fun r c'=>P r (e1.set i (some ⟨kd,c'⟩)))->spO (md ob X) n DO (w::vs) H1 Q E0:=fun kd c hkd ei p=>by
  obtain ⟨fp,L⟩:=K1.sl
  obtain ⟨v0,hv0,ok⟩:=L.at' i _ ei
  rw [hw] at hv0; cases hv0
  rcases ok with ⟨k0,_⟩ | ⟨k0,_⟩ | ⟨_,a,rfl,_,ho⟩ | ⟨k0,_⟩
  ·rcases hkd with rfl | rfl <;> cases k0
  ·rcases hkd with rfl | rfl <;> cases k0
  ·refine ⟨F1,a,fp i,c,vs,xs,_,rfl,K1.sF,r1,by rw [hl]; exact hn,ho,fun b hb=>L.al i b hb,p,fun r c' v F' H' l' pr kp pre sF sFH nw ho' hl' hn' rv=>?_⟩
   exact kk r _ v F' H' pr (aj s1 sF) (K1.objS hkd L ei hw kp pre sF sFH nw ho' hl' hn').1 rv
  ·rcases hkd with rfl | rfl <;> cases k0
 split at p
 ·rename_i ei; exact fin _ _ (.inl rfl) ei p
 ·rename_i ei; exact fin _ _ (.inr rfl) ei p
 ·exact p.elim
theorem bw {P:Program} {w:World} {K:PySem.W.Frag} {mg:Str->Option Value} {base:Heap} {n:Nat} {D D':Fd} (F:FnOk P w K mg base CX0 k fad fd ps (spQ ⟨P,w,K,ob⟩ n D)) (h:∀ xs P,D' xs P->D xs P):FnOk P w K mg base CX0 k fad fd ps (spQ ⟨P,w,K,ob⟩ n D') :=
 F.imp fun vs H Q E ⟨F,xs,P,a,b,c,d,e⟩=>⟨F,xs,P,a,b,c,h _ _ d,e⟩
theorem jX {P:Program} {w:World} {K:PySem.W.Frag} {mg:Str->Option Value} {base:Heap} {n:Nat} {D D':FdO} (F:FnOk P w K mg base CX0 k fad fd ps (spO ⟨P,w,K,ob⟩ n D)) (h:∀ c xs P,D' c xs P->D c xs P):FnOk P w K mg base CX0 k fad fd ps (spO ⟨P,w,K,ob⟩ n D') :=
 F.imp fun vs H Q E q=>by
  obtain ⟨F,a,l,c,ws,xs,P,a1,a2,a3,a4,a5,a6,a7,a8⟩:=q
  exact ⟨F,a,l,c,ws,xs,P,a1,a2,a3,a4,a5,a6,h _ _ _ a7,a8⟩
end
end Q
namespace Q
open PySem L2 PyProof.Rows
theorem hu1 {k:Nat} {A:Around} (r:Room k A):A.units+1<cLine:=by have:=r.un; omega
theorem hu0 {k:Nat} {A:Around} (r:Room k A):A.units<cLine:=by have:=r.un; omega
theorem hu60 {k:Nat} {A:Around} (r:Room k A):A.units+60<cLine:=by have:=r.un; omega
theorem hu62 {k:Nat} {A:Around} (r:Room k A):A.units+62<cLine:=by have:=r.un; omega
noncomputable def tyPV:PV->Option String
 | .non=>some "NoneType"
 | .bl _=>some "bool"
 | .int _=>some "int"
 | .str _=>some "str"
 | .tup _=>some "tuple"
 | .lst _=>some "list"
 | .dic _=>some "dict"
 | _=>none
noncomputable def isaP (T c:String):Bool:=T==c || (T == "bool" && c == "int")
noncomputable def isiPV (c:String) (x:PV):Option PV:=(tyPV x).map fun T=>.bl (isaP T c)
noncomputable def eIsi (c:String) (a:WE):WE:=eUn (isiPV c) a
section
variable {ob:ObK} {X:Cx} {a b c e:Expr} {es:List Expr} {f g h:WE} {fa:WA} {pos p p1:Pos} {x:Str}
noncomputable def eChain (o o':PV->PV->Option PV) (fa fb fc:WE):WE:=fun env P=>fa env fun x e1=>fb e1 fun y e2=>opt (o x y) fun z=>opt (blPV z) fun k=>if k=true then fc e2 fun w e3=>opt (o' y w) fun z'=>P z' e3 else P (.bl false) e2
end
end Q
namespace Q
open PySem L2 PyProof.Rows
section
variable {ob:ObK} {X:Cx} {a b c e:Expr} {es:List Expr} {f g h:WE} {fa:WA} {pos p p1:Pos} {x:Str}
end
section
variable {ob:ObK} {X:Cx} {tg elt iter kx vx:Expr} {ifs:List Expr} {scope:Scope} {pos:Pos} {fi:WA} {T:Tgt} {c:WT} {f fk:WE} {N:List Str} {js:List (Option Nat)}
theorem Sok.takeV {M:Md} {Z:Zn} {F H:Hp} {σ:L2.St} {env:En} {v:V} {x:PV} {i:Nat} (K:Sok M Z F (σ++[some v]) H (env++[some ⟨1,x⟩])) (hx:∀ xs,x≠.set xs):∃ F',Same F F'/\Sok M Z F' (σ.set i (some v)) H (env.set i (some ⟨0,x⟩)):=by
 obtain ⟨F',s,K',r⟩:=K.freezeL hx
 exact ⟨F',s,K'.put r⟩
theorem jd (i:Nat) {y:Str} {py spos:Pos} (hN:X.N.Nodup) (hy:X.N[i]?=some y) (hk:X.env.scope.names.lookup y=some .local) (hi:EvI ob X tg iter fi) (hg:∀ C s₀ H₀ ex pn,PG (cxComp X scope N C s₀ H₀ ex pn) tg (tgL X.K T)) (ht:∀ C s₀ H₀ ex pn,EvC ob (cxComp X scope N C s₀ H₀ ex pn) ifs c) (he:∀ C s₀ H₀ ex pn,EvS ob (cxComp X scope N C s₀ H₀ ex pn) elt f)
  (hj:autoParam (jsOk js=true) Z2._auto_1) (hT:autoParam (tgFree js T=true) Z2._auto_1)
  (hsw:autoParam (swapsWith (.ListComp elt [⟨tg,iter,ifs,0⟩] scope pos) (some (.Name y py)) spos.line X.env=pure true) Z2._auto_1)
  (hc:autoParam (X.calm=true) Z2._auto_1) (hx:autoParam (X.xe=(fun _ _=>False)) Z2._auto_1) (hsc:autoParam (scOk X.env scope=true) Z2._auto_1) (hcap:autoParam (capOk X.N scope N js=true) Z2._auto_1) (hkind:autoParam (scope.kind=.function) Z2._auto_1) (hs:autoParam (∀ x,foldedSetIterable iter X.env x=pure x) Z3._auto_1) :
  EvX ob X (.Assign [.Name y py] (.ListComp elt [⟨tg,iter,ifs,0⟩] scope pos) spos) (sSet i (eLC fi T c f js)):=by
 obtain ⟨wi,hwi,k⟩:=hi.ex
 refine ⟨_,wt (i:=i) (wi:=wi) (g:=tgL X.K T) (tc:=rdT (md ob X) c) (te:=rdE (md ob X) f) (js:=js) hN hy hk hwi hg (fun C s₀ H₀ ex pn=>(ht C s₀ H₀ ex pn).ex) (fun C s₀ H₀ ex pn=>(he C s₀ H₀ ex pn).pe) (cw hT) hsw hc hx hsc hcap hkind hs,fun Z F σ H env P D K hf L=>?_⟩
 refine k Z F σ H env _ _ K hf fun xs e1 J F1 H1 p s1 K1 I1 l hl=>?_
 refine nY (P:=fun x e=>P.nx (e.set i (some ⟨0,x⟩))) (Q:=fun v H'=>D.nx (σ.set i (some v)) H') hj hT K1 I1 p (fun x e2 v F2 H2 p2 s2 hx2 K2=>?_) l hl
 obtain ⟨F3,s3,K3⟩:=K2.takeV (i:=i) hx2
 exact L.nx _ _ F3 H2 p2 (aj s1 (aj s2 s3)) K3
end
noncomputable def sRetF (a:WE):WS:=fun P env=>a env P.rf
section
variable {ob:ObK} {X:Cx} {a b c e:Expr} {es:List Expr} {f g h:WE} {fa:WA} {pos p p1:Pos} {x:Str}
theorem n9 (h:EvF ob X e f):EvX ob X (.Return (some e) pos) (sRetF f):=by
 obtain ⟨t,ht,k⟩:=h.ex
 exact ⟨_,dU ht,fun Z F σ H env P D K hf L=>k Z F σ H env _ _ K hf fun x e1 v F1 H1 p s1 hx K1=>L.rf x e1 v σ F1 H1 p s1 hx K1⟩
end
noncomputable def spF (M:Md) (n:Nat) (D:Fd):Sp:=fun vs H Q _=>∃ (F:Hp) (xs:List PV) (P:PV->Prop),Same F H/\Reps M.K F vs xs/\xs.length=n/\D xs P /\
 ∀ r a F' H',P r->Same H H'->Same F F'->Same F' H'->(∀ a,F' a≠none->F a≠none\/H a=none)->(∀ xs,r≠.set xs)->OwnAt M F' H' a r->F' a=none->H a=none->Q (.ref a) H'
noncomputable def endF (P:PV->Prop):Wd:={ nx:=fun _=>False,rt:=fun _ _=>False,rf:=fun x _=>P x }
noncomputable def runF (n:Nat) (u:WS):Fd:=fun xs P=>u (endF P) (startE n xs)
noncomputable def spOF (M:Md) (n:Nat) (D:FdO):Sp:=fun vs H Q _=>∃ (F:Hp) (a:Addr) (l:List Addr) (c:PV) (ws:List V) (xs:List PV) (P:PV->PV->Prop),vs=.ref a::ws/\Same F H/\Reps M.K F ws xs/\xs.length+1=n /\
 M.ob.P F H a l c/\(∀ b∈l,H b≠none/\F b=none)/\D c xs P /\
 ∀ r c' q F' H' l',P r c'->(∀ b o,H b=some o->b∉l->H' b=some o)->(∀ b,H b≠none->H' b≠none)->Same F F'->Same F' H'->(∀ a,F' a≠none->F a≠none\/H a=none)->M.ob.P F' H' a l' c'->(∀ b∈l',H' b≠none/\F' b=none)->(∀ b∈l',b∈l\/H b=none) ->
  (∀ xs,r≠.set xs)->OwnAt M F' H' q r->F' q=none->H q=none->q∉l'->Q (.ref q) H'
noncomputable def endOF (P:PV->PV->Prop):Wd:={ nx:=fun _=>False,rt:=fun _ _=>False,rf:=fun x e=>ob0 (P x) e }
noncomputable def runOF (n:Nat) (u:WS):FdO:=fun c xs P=>u (endOF P) (some ⟨2,c⟩::startE (n - 1) xs)
section
variable {P:Program} {w:World} {K:PySem.W.Frag} {mg:Str->Option Value} {base:Heap} {ob:ObK}
theorem mq {M:Md} {Z:Zn} {F H:Hp} {σ:L2.St} {env:En} {v:V} {x:PV} (K:Sok M Z F (σ++[some v]) H (env++[some ⟨1,x⟩])):∃ a fp,v=.ref a/\OwnAt M F H a x/\F a=none/\Z.H₀ a=none/\Slots M Z F σ H env fp/\∀ i,i<env.length->a∉fp i:=by
 have hn:env.length=σ.length:=by have:=K.len; simpa using this
 obtain ⟨fp,L⟩:=K.sl
 rcases L.last hn with ⟨e,_⟩ | ⟨_,a,rfl,hf,h0,hw⟩ | ⟨e,_⟩ | ⟨e,_⟩
 ·cases e
 ·have ha:=L.al env.length a (by rw [hf]; simp)
  exact ⟨a,fp,rfl,hw,ha.2,h0,L.drop hn,fun i hi z=>L.dj env.length i a (by omega) (by rw [hf]; simp) z⟩
 ·rcases e with e | e <;> cases e
 ·cases e
theorem vV {x qual:Str} {st:Stmt} {f:Addr} {fd:FuncData} {N ps:List Str} {k:Nat} {u:WS} (F:Fun K x qual st f fd) (S:aD N ps (aq st)) (hn:ps.length<=N.length)
  (hb:∀ (cdv:Value) (A:Around) (outer:List Env) (s:Shared) (H:Hp) (E:XK),Room k (A.deeper (envOfC qual (aq st) s.heap.objs.size f cdv))->EvXs ob (cxOf CX0 P w K mg base N qual (aq st) f cdv A outer s H E).nox (bc st) u) :
  FnOk P w K mg base CX0 (k+1) f fd ps (spF ⟨P,w,K,ob⟩ ps.length (runF N.length u)):=by
 refine F.ok S (fun vs H Q E h=>?_) (fun cdv A outer s H vs Q E hr h=>?_)
 ·obtain ⟨F,xs,P,_,r,hl,_⟩:=h
  rw [r.len]; exact hl
 ·obtain ⟨F,xs,P',sF,r,hl,hD,kk⟩:=h
  obtain ⟨t,ht,kt⟩:=(hb cdv A outer s H E hr).ex
  refine ⟨t,ht,kt ⟨H,F,[],fun _=>none,fun _ h=>by simp at h⟩ F (start N vs) H (startE N.length xs) (endF P') _ (fT (M:=⟨P,w,K,ob⟩) sF r (by omega)) hD ⟨fun _ _ _ _ p=>p.elim,fun _ _ _ _ _ _ p=>p.elim,fun _ _ _ _ p=>p.elim,fun _ _ _ _ p=>p.elim,fun x env v σ F' H' p s1 hx K1=>?_,fun _ _ _ _ _ _ _ p=>p.elim⟩⟩
  obtain ⟨a,fp,rfl,h1,h2,h3,_⟩:=mq K1
  exact kk x a F' H' p (fun b o h=>K1.sG b o h (by simp)) s1 K1.sF K1.nw hx h1 h2 h3
theorem uy {x qual:Str} {st:Stmt} {f:Addr} {fd:FuncData} {N ps:List Str} {k:Nat} {u:WS} (F:Fun K x qual st f fd) (S:aD N ps (aq st)) (hn:ps.length<=N.length)
  (hb:∀ (cdv:Value) (A:Around) (outer:List Env) (s:Shared) (H:Hp) (E:XK),Room k (A.deeper (envOfC qual (aq st) s.heap.objs.size f cdv))->EvXs ob (cxOf CX0 P w K mg base N qual (aq st) f cdv A outer s H E).nox (bc st) u) :
  FnOk P w K mg base CX0 (k+1) f fd ps (spOF ⟨P,w,K,ob⟩ ps.length (runOF N.length u)):=by
 refine F.ok S (fun vs H Q E h=>?_) (fun cdv A outer s H vs Q E hr h=>?_)
 ·obtain ⟨F,a,l,c,ws,xs,P,rfl,_,r,hl,_⟩:=h
  rw [List.length_cons,r.len]; exact hl
 ·obtain ⟨F,a,l,c,ws,xs,P',rfl,sF,r,hl,ho,hbl,hD,kk⟩:=h
  obtain ⟨t,ht,kt⟩:=(hb cdv A outer s H E hr).ex
  refine ⟨t,ht,kt ⟨H,F,l,fun i=>if i=0 then some a else none,fun b h=>(hbl b h).1⟩ F (start N (.ref a::ws)) H (some ⟨2,c⟩::startE (N.length - 1) xs) (endOF P') _ (iR (M:=⟨P,w,K,ob⟩) sF r (by omega) ho hbl) hD ⟨fun _ _ _ _ p=>p.elim,fun _ _ _ _ _ _ p=>p.elim,fun _ _ _ _ p=>p.elim,fun _ _ _ _ p=>p.elim,fun x env v σ F' H' p s1 hx K1=>?_,fun _ _ _ _ _ _ _ p=>p.elim⟩⟩
  obtain ⟨q,fp,rfl,h1,h2,h3,L,h4⟩:=mq K1
  have p:ob0 (P' x) env:=p
  unfold ob0 at p
  split at p
  ·rename_i c' e
   obtain ⟨v0,hv0,ok⟩:=L.at' 0 _ e
   have hσ:=L.oa 0 a _ rfl e rfl
   rw [hσ] at hv0; cases hv0
   rcases ok with ⟨k0,_⟩ | ⟨k0,_⟩ | ⟨_,a',e',g1,g2⟩ | ⟨k0,_⟩
   ·cases k0
   ·cases k0
   ·cases e'
    have hlt:0<env.length:=by
     rcases Nat.lt_or_ge 0 env.length with y | y
     ·exact y
     ·rw [List.getElem?_eq_none y] at e; cases e
    exact kk x _ q F' H' (fp 0) p (fun b o h1 h2=>K1.sG b o h1 h2) (fun b h=>K1.pr b h) s1 K1.sF K1.nw g2 (fun b hb=>L.al 0 b hb) (fun b hb=>g1 b hb) hx h1 h2 h3 (h4 0 hlt)
   ·cases k0
  ·exact p.elim
end
section
variable {ob:ObK} {X:Cx} {k:Nat} {fad:Addr} {fd:FuncData} {ps:List Str} {D:Fd} {DO:FdO} {x:Str} {p p1 pos:Pos} {e:Expr} {es:List Expr} {fa:WA}
theorem mG {n:Nat} (F:FnOk X.prog X.w X.K X.mg X.base CX0 k fad fd ps (spF (md ob X) n D)) (hr:Room k X.A) (hm:X.mg x=some (.ref fad)) (hk:PySem.W.keepIn X.K (.ref fad)=true) (hb:Binds X.K fd ps []) (ha:EvA ob X (e::es) fa) (hn:autoParam (es.length+1=n) Z2._auto_1) (hg:autoParam (Gl X x) Z2._auto_1)
  (hdb:autoParam ((x==("__debug__" : Str))=false) Z1._auto_1) (he:autoParam (starEach (e::es) X.env=(false,eval e X.env)::starEach es X.env) Z2._auto_1) (hpl:autoParam ((backTo pos (starEach es X.env)).any (·.1)=false) Z2._auto_1) :
  EvF ob X (.Call (.Name x p) (e::es) [] pos) (eCall D fa):=by
 obtain ⟨t,ht,kt⟩:=ha.ex
 refine ⟨_,cY (E:=E0) F hr hg hm hk hb .nil pass0 ht hdb he hpl,fun Z F σ H env P Q K hf kk=>kt Z F σ H env _ _ K hf fun xs e1 vs F1 H1 p hl s1 K1 r1=>?_⟩
 rw [List.append_nil]
 refine ⟨F1,xs,fun r=>P r e1,K1.sF,r1,by rw [hl]; exact hn,p,fun r a F' H' pr sH sF sFH nw hx ho hF ha=>?_⟩
 refine kk r e1 _ F' H' pr (aj s1 sF) hx ?_
 have K2:=K1.move sF sFH sH nw
 obtain ⟨fp,L⟩:=K1.sl
 have L2:Slots (md ob X) Z F' σ H' e1 fp:=L.move sF (fun _ c o _ e=>sH c o e) nw
 refine K2.slots (by simp [K2.len]) (L2.push (l:=[a]) (by simp) K2.len (.inr (.inl ⟨rfl,a,rfl,rfl,K1.h0 ha,ho⟩)) (fun b hb=>?_) fun j b hb hj=>?_)
 ·simp at hb; subst hb
  refine ⟨?_,hF⟩
  cases r <;> try exact ho.elim
  ·obtain ⟨vs,h,_⟩:=ho; rw [h]; simp
  ·obtain ⟨vs,h,_⟩:=ho; rw [h]; simp
  ·rw [show H' _=_ from ho]; simp
 ·simp at hb; subst hb
  exact (L.al j b hj).1 ha
theorem kN (i:Nat) {y:Str} {n:Nat} (F:FnOk X.prog X.w X.K X.mg X.base CX0 k fad fd ps (spOF (md ob X) n DO)) (hr:Room k X.A) (hm:X.mg x=some (.ref fad)) (hk:PySem.W.keepIn X.K (.ref fad)=true) (hb:Binds X.K fd ps []) (ho:PE X (.Name y p1) (tVar i)) (ha:EvA ob X es fa) (hn:autoParam (es.length+1=n) Z2._auto_1) (hg:autoParam (Gl X x) Z2._auto_1)
  (hdb:autoParam ((x==("__debug__" : Str))=false) Z1._auto_1) (he:autoParam (starEach (.Name y p1::es) X.env=(false,eval (.Name y p1) X.env)::starEach es X.env) Z2._auto_1) (hpl:autoParam ((backTo pos (starEach es X.env)).any (·.1)=false) Z2._auto_1) :
  EvF ob X (.Call (.Name x p) (.Name y p1::es) [] pos) (eCallO DO i fa):=by
 obtain ⟨t,ht,kt⟩:=ha.ex
 refine ⟨_,cY (E:=E0) F hr hg hm hk hb .nil pass0 (bh ho ht he) hdb he hpl,fun Z F σ H env P Q K hf kk=>?_⟩
 obtain ⟨h0,hf⟩:=hf
 obtain ⟨w,hw⟩:∃ v,σ[i]?=some (some v):=by
  cases e:env[i]? with
  | none=>rw [e] at h0; cases h0
  | some w =>
   cases w with
   | none=>rw [e] at h0; cases h0
   | some s =>
    obtain ⟨fp,L⟩:=K.sl
    obtain ⟨v,hv,_⟩:=L.at' i s e
    exact ⟨v,hv⟩
 refine ⟨w,hw,kt Z F σ H env _ _ K hf fun xs e1 vs F1 H1 p hl s1 K1 r1=>?_⟩
 show spOF (md ob X) n DO ((w::vs)++[]) H1 Q E0
 rw [List.append_nil]
 have fin:∀ (kd:Nat) (c:PV),kd=2\/kd=4->e1[i]?=some (some ⟨kd,c⟩)->DO c xs (fun r c'=>P r (e1.set i (some ⟨kd,c'⟩)))->spOF (md ob X) n DO (w::vs) H1 Q E0:=fun kd c hkd ei p=>by
  obtain ⟨fp,L⟩:=K1.sl
  obtain ⟨v0,hv0,ok⟩:=L.at' i _ ei
  rw [hw] at hv0; cases hv0
  rcases ok with ⟨k0,_⟩ | ⟨k0,_⟩ | ⟨_,a,rfl,_,ho⟩ | ⟨k0,_⟩
  ·rcases hkd with rfl | rfl <;> cases k0
  ·rcases hkd with rfl | rfl <;> cases k0
  ·refine ⟨F1,a,fp i,c,vs,xs,_,rfl,K1.sF,r1,by rw [hl]; exact hn,ho,fun b hb=>L.al i b hb,p,fun r c' q F' H' l' pr kp pre sF sFH nw ho' hl' hn' hx hq hF hqn hql=>?_⟩
   obtain ⟨K2,L2⟩:=K1.objS hkd L ei hw kp pre sF sFH nw ho' hl' hn'
   refine kk r _ _ F' H' pr (aj s1 sF) hx ?_
   refine K2.slots (by simp [K1.len]) (L2.push (l:=[q]) (by simp) (by simp [K1.len]) (.inr (.inl ⟨rfl,q,rfl,rfl,K1.h0 hqn,hq⟩)) (fun b hb=>?_) fun j b hb hj=>?_)
   ·simp at hb; subst hb
    refine ⟨?_,hF⟩
    cases r <;> try exact hq.elim
    ·obtain ⟨vs,h,_⟩:=hq; rw [h]; simp
    ·obtain ⟨vs,h,_⟩:=hq; rw [h]; simp
    ·rw [show H' _=_ from hq]; simp
   ·simp at hb; subst hb
    split at hj
    ·exact hql hj
    ·exact (L.al j b hj).1 hqn
  ·rcases hkd with rfl | rfl <;> cases k0
 split at p
 ·rename_i ei; exact fin _ _ (.inl rfl) ei p
 ·rename_i ei; exact fin _ _ (.inr rfl) ei p
 ·exact p.elim
end
end Q
namespace L2
open PySem PySem.Spec PyProof.Rows PySem.W
noncomputable def tabE (P:Addr) (ps:Array Value):HO:=.ext fun h=>h.get? P=some (tabObj ps)
noncomputable def codeE (c:Addr) (lq:Str):HO:=.ext fun h=>h.CodeRec (.ref c) lq
theorem lB {P:Program} {w:World} {H:Hp} {h:Heap} {a:Addr} {ps:Array Value} (e:h.get? a=some (tabObj ps)):ObjOk P w H h a (tabE a ps):=⟨e,⟨_,e⟩,fun h1 h2 x k=>k _ x⟩
end L2
namespace Pre
open PySem L2
structure Sta (H:Hp) (a b:Addr):Prop where
 st:∃ (ns:List Int) (z:Int),H a=some (.lst [.ref b,.int z])/\H b=some (.lst (ns.map V.int))/\(∀ n∈ns,0<=n)/\0<=z/\z<2305843009213693951
noncomputable def But (a b:Addr) (H H':Hp):Prop:=∀ c o,H c=some o->c≠a->c≠b->H' c=some o
theorem But.refl (a b:Addr) (H:Hp):But a b H H:=fun _ _ h _ _=>h
theorem But.grow {a b p:Addr} {H H':Hp} {o:HO} (x:But a b H H') (hp:H' p=none):But a b H (upd H' p o):=fun c u h h1 h2=>by
 have q:=x c u h h1 h2
 rw [ah (ay q hp)]; exact q
theorem But.seta {a b:Addr} {H H':Hp} {o:HO} (x:But a b H H'):But a b H (upd H' a o):=fun c u h h1 h2=>by rw [ah h1]; exact x c u h h1 h2
theorem But.setb {a b:Addr} {H H':Hp} {o:HO} (x:But a b H H'):But a b H (upd H' b o):=fun c u h h1 h2=>by rw [ah h2]; exact x c u h h1 h2
noncomputable def stK (b:Addr) (left seed many:Int):List (Key×V):=[(.inr (Str.ofString "cells"),.ref b),(.inr (Str.ofString "left"),.int left),(.inr (Str.ofString "seed"),.int seed),(.inr (Str.ofString "many"),.int many)]
structure StD (H:Hp) (a b:Addr) (f:Nat):Prop where
 st:∃ (ns:List Int) (left seed many:Int),H a=some (.dK (stK b left seed many))/\H b=some (.lst (ns.map V.int))/\0<=left/\0<=seed/\seed<2305843009213693951/\0<=many/\many+f<=1152921504606846976
end Pre
namespace Q
open PySem L2 PyProof.Rows
noncomputable def DolAt (K:PySem.W.Frag) (F H:Hp) (a:Addr) (l:List Addr) (x:PV):Prop:=∃ ks:List (Key×Addr×List PV),x=.dic (ks.map fun t=>(t.1,.lst t.2.2))/\l=a::ks.map (·.2.1)/\H a=some (.dK (ks.map fun t=>(t.1,.ref t.2.1))) /\
 (ks.map (·.2.1)).Nodup/\∀ t∈ks,∃ vs,H t.2.1=some (.lst vs)/\Reps K F vs t.2.2
noncomputable def tabPV (lq:Str) (ln co:Nat) (P:Addr):PV:=.tup [.str lq,.int ln,.int co,.int (P:Nat)]
noncomputable def TabAt (H:Hp) (a:Addr) (l:List Addr) (x:PV):Prop:=∃ (lq:Str) (ln co:Nat) (ps:Array Value),x=tabPV lq ln co a/\H a=some (tabE a ps)/\PySem.TriplesOk ps.toList /\
 ((l=[a]/\codeAmong ⟨ln,co,0,0⟩ ps.toList=none)\/∃ c',c'≠a/\l=[a,c']/\codeAmong ⟨ln,co,0,0⟩ ps.toList=some (.ref c')/\H c'=some (codeE c' lq))
noncomputable def StaAt (H:Hp) (a:Addr) (l:List Addr) (x:PV):Prop:=(x=.non/\∃ b,l=[a,b]/\Pre.Sta H a b)\/∃ (f:Nat) (b:Addr),x=.int f/\l=[a,b]/\Pre.StD H a b f
noncomputable def obG (K:PySem.W.Frag):ObK where
 P:=fun F H a l x=>StaAt H a l x\/DolAt K F H a l x\/TabAt H a l x
 mono:=fun F F' H H' a l x h s e=>by
  rcases h with (⟨h0,b,rfl,ns,z,h1,h2,h3⟩ | ⟨f,b,h0,rfl,ns,q1,q2,q3,h1,h2,h3⟩) | ⟨ks,rfl,rfl,h1,h2,h3⟩ | ⟨lq,ln,co,ps,rfl,h1,h2,h3⟩
  ·exact .inl (.inl ⟨h0,b,rfl,ns,z,(e a (by simp)).trans h1,(e b (by simp)).trans h2,h3⟩)
  ·exact .inl (.inr ⟨f,b,h0,rfl,ns,q1,q2,q3,(e a (by simp)).trans h1,(e b (by simp)).trans h2,h3⟩)
  ·refine .inr (.inl ⟨ks,rfl,rfl,(e a (by simp)).trans h1,h2,fun t ht=>?_⟩)
   obtain ⟨vs,q1,q2⟩:=h3 t ht
   exact ⟨vs,(e _ (List.mem_cons_of_mem _ (List.mem_map_of_mem (f:=fun t=>t.2.1) ht))).trans q1,q2.mono s⟩
  ·refine .inr (.inr ⟨lq,ln,co,ps,rfl,?_,h2,?_⟩)
   ·rcases h3 with ⟨rfl,_⟩ | ⟨c',_,rfl,_⟩
    ·exact (e a (by simp)).trans h1
    ·exact (e a (by simp)).trans h1
   ·rcases h3 with ⟨rfl,h4⟩ | ⟨c',h4,rfl,h5,h6⟩
    ·exact .inl ⟨rfl,h4⟩
    ·exact .inr ⟨c',h4,rfl,h5,(e c' (by simp)).trans h6⟩
theorem lJ {K:PySem.W.Frag} {F:Hp} {ns:List Int} {vs:List V} (h:Reps K F vs (ns.map PV.int)):vs=ns.map V.int:=by
 induction ns generalizing vs with
 | nil=>cases h; rfl
 | cons n ns ih=>cases h with
  | cons a r=>cases a; exact congrArg (List.cons _) (ih r)
section
variable {X:Cx} {k:Nat} {fad:Addr} {fd:FuncData} {ps:List Str} {x y:Str} {p p1 pos pos':Pos}
end
end Q
namespace Q
open PySem L2 PyProof.Rows
section
variable {M:Md} {Z:Zn} {F H:Hp} {σ:L2.St} {env:En} {p:Addr} {o:HO}
theorem uP {Z:Zn} {p:Addr} {o:HO}:∀ b∈Z.S,upd Z.H₀ p o b≠none:=fun b hb=>by
 by_cases e:b=p
 ·subst e; rw [am]; simp
 ·rw [ah e]; exact Z.sS b hb
noncomputable def Zn.add (Z:Zn) (p:Addr) (o:HO):Zn:={ Z with H₀:=upd Z.H₀ p o,sS:=uP }
theorem Sok.guard (K:Sok M Z F σ H env) (hp:H p=none):Sok M (Z.add p o) F σ (upd H p o) env:=by
 have hF:F p=none:=Same.none_of K.sF hp
 have h0:Z.H₀ p=none:=K.h0 hp
 have hS:p∉Z.S:=fun h=>Z.sS p h h0
 obtain ⟨fp,L⟩:=K.sl
 have hn:∀ i,p∉fp i:=fun i h=>(L.al i p h).1 hp
 obtain ⟨K1,L1⟩:=K.touch (o:=o) L hF h0 hn
 have ne:∀ {c:Addr},Z.H₀ c=none->c≠p->(Z.add p o).H₀ c=none:=fun {c} h q=>by show upd Z.H₀ p o c=none; rw [ah q]; exact h
 refine ⟨K1.sF,fun b u h1 h2=>?_,fun b h=>?_,K1.gr,fun a h=>?_,K1.len,fp,fun i s e=>?_,L1.al,L1.dj,L1.oa⟩
 ·by_cases q:b=p
  ·subst q
   have h1:upd Z.H₀ b o b=some u:=h1
   rw [am] at h1 ⊢; exact h1
  ·have h1:upd Z.H₀ p o b=some u:=h1
   rw [ah q] at h1
   exact K1.sG b u h1 h2
 ·by_cases q:b=p
  ·subst q; rw [am]; simp
  ·have h:upd Z.H₀ p o b≠none:=h
   rw [ah q] at h
   exact K1.pr b h
 ·rcases K1.nw a h with q | q
  ·exact .inl q
  ·refine .inr (ne q fun z=>?_)
   subst z; exact h hF
 ·obtain ⟨v,hv,ok⟩:=L1.at' i s e
  refine ⟨v,hv,?_⟩
  rcases ok with k | ⟨k,a,e1,e2,h1,h2⟩ | ⟨k,a,e1,h1,h2⟩ | k
  ·exact .inl k
  ·exact .inr (.inl ⟨k,a,e1,e2,ne h1 fun z=>hn i (by rw [e2,z]; simp),h2⟩)
  ·exact .inr (.inr (.inl ⟨k,a,e1,fun c hc=>(h1 c hc).elim .inl fun q=>.inr (ne q fun z=>hn i (by rw [<- z]; exact hc)),h2⟩))
  ·exact .inr (.inr (.inr k))
theorem Sok.unguard (K:Sok M (Z.add p o) F σ H env) (h0:Z.H₀ p=none) (hF0:Z.F₀ p=none):Sok M Z F σ H env/\H p=some o/\F p=none/\∃ fp,Slots M Z F σ H env fp/\∀ i s,env[i]?=some (some s)->p∉fp i:=by
 have hS:p∉Z.S:=fun h=>Z.sS p h h0
 have hp0:(Z.add p o).H₀ p=some o:=am
 have back:∀ {c:Addr},(Z.add p o).H₀ c=none->Z.H₀ c=none/\c≠p:=fun {c} h=>by
  have h:upd Z.H₀ p o c=none:=h
  by_cases q:c=p
  ·subst q; rw [am] at h; cases h
  ·rw [ah q] at h; exact ⟨h,q⟩
 have hF:F p=none:=by
  cases e:F p with
  | none=>rfl
  | some u =>
   rcases K.nw p (by rw [e]; simp) with q | q
   ·exact absurd hF0 q
   ·exact absurd rfl (back q).2
 obtain ⟨fp,L⟩:=K.sl
 have S:Slots M Z F σ H env fp:=by
  refine ⟨fun i s e=>?_,L.al,L.dj,L.oa⟩
  obtain ⟨v,hv,ok⟩:=L.at' i s e
  refine ⟨v,hv,?_⟩
  rcases ok with k | ⟨k,a,e1,e2,h1,h2⟩ | ⟨k,a,e1,h1,h2⟩ | k
  ·exact .inl k
  ·exact .inr (.inl ⟨k,a,e1,e2,(back h1).1,h2⟩)
  ·exact .inr (.inr (.inl ⟨k,a,e1,fun c hc=>(h1 c hc).elim .inl fun q=>.inr (back q).1,h2⟩))
  ·exact .inr (.inr (.inr k))
 have up:∀ {b:Addr} {u:HO},Z.H₀ b=some u->(Z.add p o).H₀ b=some u:=fun {b u} h=>by
  show upd Z.H₀ p o b=some u
  rw [ah (ay h h0)]; exact h
 refine ⟨⟨K.sF,fun b u h1 h2=>K.sG b u (up h1) h2,fun b h=>?_,K.gr,fun a h=>?_,K.len,fp,S⟩,K.sG p o hp0 hS,hF,fp,S,fun i s e hi=>?_⟩
 ·obtain ⟨u,hu⟩:=cn h
  exact K.pr b (by rw [up hu]; simp)
 ·rcases K.nw a h with q | q
  ·exact .inl q
  ·exact .inr (back q).1
 ·obtain ⟨v,hv,ok⟩:=L.at' i s e
  rcases ok.wr p hi with q | q
  ·exact hS q
  ·exact (back q).2 rfl
noncomputable def tidy (env:En) (fp:Nat->List Addr) (i:Nat):List Addr:=match env[i]? with
 | some (some _)=>fp i
 | _=>[]
theorem Slots.tidy {fp:Nat->List Addr} (L:Slots M Z F σ H env fp):Slots M Z F σ H env (Q.tidy env fp):=by
 have sub:∀ i a,a∈Q.tidy env fp i->a∈fp i:=fun i a h=>by
  unfold Q.tidy at h
  split at h
  ·exact h
  ·simp at h
 refine ⟨fun i s e=>?_,fun i a h=>L.al i a (sub i a h),fun i j a hij h z=>L.dj i j a hij (sub i a h) (sub j a z),L.oa⟩
 obtain ⟨v,hv,ok⟩:=L.at' i s e
 exact ⟨v,hv,by unfold Q.tidy; rw [e]; exact ok⟩
theorem Sok.unguardF {o':HO} {x:PV} (K:Sok M (Z.add p o) F σ H env) (h0:Z.H₀ p=none) (hF0:Z.F₀ p=none) (hx:OwnAt M F (upd H p o') p x):Sok M Z F (σ++[some (.ref p)]) (upd H p o') (env++[some ⟨1,x⟩]):=by
 obtain ⟨K1,hp,hF,fp,L,hn⟩:=K.unguard h0 hF0
 have L1:=L.tidy
 have hn1:∀ i,p∉Q.tidy env fp i:=fun i h=>by
  unfold Q.tidy at h
  split at h
  ·rename_i s e; exact hn i s e h
  ·simp at h
 obtain ⟨K2,L2⟩:=K1.touch (o:=o') L1 hF h0 hn1
 refine K2.slots (by simp [K2.len]) (L2.push (l:=[p]) (by simp) K2.len (.inr (.inl ⟨rfl,p,rfl,rfl,h0,hx⟩)) (fun a ha=>?_) fun j a ha=>?_)
 ·simp at ha; subst ha
  exact ⟨by rw [am]; simp,hF⟩
 ·simp at ha; subst ha
  exact hn1 j
end
noncomputable def dispP:List (Key×PV)->List (Key×PV):=fun kvs=>kvs.foldl (fun acc kv=>putP acc kv.1 kv.2) []
noncomputable def eDs:List (WE×WE)->List (Key×PV)->WE
 | [],acc=>fun env P=>P (.dic (dispP acc)) env
 | (fk,fv)::r,acc=>fun env P=>fk env fun y e1=>fv e1 fun v e2=>opt (keyP y) fun k=>eDs r (acc++[(k,v)]) e2 P
noncomputable def eDisp (l:List (WE×WE)):WE:=eDs l []
inductive EvDs (ob:ObK) (X:Cx):List (Option Expr)->List Expr->List (WE×WE)->Prop where
 | nil:EvDs ob X [] [] []
 | cons {k v:Expr} {ks:List (Option Expr)} {vs:List Expr} {fk fv:WE} {l:List (WE×WE)}:EvS ob X k fk->EvS ob X v fv->EvDs ob X ks vs l->EvDs ob X (some k::ks) (v::vs) ((fk,fv)::l)
theorem kD {K:PySem.W.Frag} {F:Hp} {more:List (Key×V)} {mx:List (Key×PV)} {acc:List (Key×V)} {ax:List (Key×PV)} (h:RepsK K F more mx) (h2:RepsK K F acc ax):RepsK K F (mergeK acc more) (mx.foldl (fun acc kv=>putP acc kv.1 kv.2) ax):=by
 induction h using RepsK.ind generalizing acc ax with
 | nil=>exact h2
 | cons a _ ih=>exact ih (h2.put a)
section
variable {ob:ObK} {X:Cx} {pos:Pos}
theorem EvDs.facts {keys:List (Option Expr)} {values:List Expr} {l:List (WE×WE)} (h:EvDs ob X keys values l):keys.all (·.isSome)=true/\keys.length=values.length:=by
 induction h with
 | nil=>exact ⟨rfl,rfl⟩
 | cons _ _ _ ih=>exact ⟨by simp [ih.1],by simp [ih.2]⟩
theorem EvDs.run {keys:List (Option Expr)} {values:List Expr} {l:List (WE×WE)} (h:EvDs ob X keys values l):∃ trs,PPs X pos keys values trs/\∀ (Z:Zn) (F:Hp) (σ:L2.St) (H:Hp) (env:En) (P:PV->En->Prop) (acc:List (Key×PV)) (va:List (Key×V)) (Q:List (V×V)->Hp->Prop),Sok (md ob X) Z F σ H env->RepsK X.K F va acc->eDs l acc env P ->
  (∀ kvs vs env' F' H',P (.dic (dispP kvs)) env'->Same F F'->Sok (md ob X) Z F' σ H' env'->RepsK X.K F' (va++vs) kvs->vs.length=keys.length->Q (vs.map fun kv=>(kV kv.1,kv.2)) H')->tPairs trs σ H Q:=by
 induction h with
 | nil=>exact ⟨[],nM,fun Z F σ H env P acc va Q K ra hf kk=>kk acc [] env F H hf ao K (by rw [List.append_nil]; exact ra) rfl⟩
 | cons hk hv _ ih =>
  obtain ⟨tk,htk,kk⟩:=hk.ex
  obtain ⟨tv,htv,kv⟩:=hv.ex
  obtain ⟨trs,htr,kr⟩:=ih
  refine ⟨_,dg htk htv htr,fun Z F σ H env P acc va Q K ra hf fin=>?_⟩
  refine kk Z F σ H env _ _ K hf fun y e1 y' F1 H1 p1 s1 K1 r1=>kv Z F1 σ H1 e1 _ _ K1 p1 fun v e2 v' F2 H2 p2 s2 K2 r2=>?_
  obtain ⟨k,hk,p2⟩:=p2
  have hy:=eh hk (r1.mono s2)
  subst hy
  refine kr Z F2 σ H2 e2 P _ (va++[(k,v')]) _ K2 ((ra.mono (aj s1 s2)).app (.cons r2 .nil)) p2 fun kvs vs e3 F3 H3 p3 s3 K3 r3 hl=>?_
  exact fin kvs ((k,v')::vs) e3 F3 H3 p3 (aj s1 (aj s2 s3)) K3 (by simpa using r3) (by simp [hl])
theorem uB {keys:List (Option Expr)} {values:List Expr} {l:List (WE×WE)} (h:EvDs ob X keys values l) (h0:autoParam (keys≠[]) Z5._auto_1) (h15:autoParam (keys.length<=15) Z1._auto_1):EvF ob X (.Dict keys values pos) (eDisp l):=by
 obtain ⟨trs,htr,kr⟩:=h.run (pos:=pos)
 obtain ⟨ha,hl⟩:=h.facts
 refine ⟨_,nQ htr ha hl h0 h15,fun Z F σ H env P Q K hf kk p hp=>?_⟩
 refine kr (Z.add p (.dK [])) F σ _ env P [] [] _ (K.guard hp) .nil hf fun kvs vs e1 F1 H1 p1 s1 K1 r1 hl1=>?_
 have h0:Z.H₀ p=none:=K.h0 hp
 have hF0:Z.F₀ p=none:=Same.none_of K.gr (Same.none_of K.sF hp)
 have hS:=(K1.unguard h0 hF0).2.1
 refine ⟨hS,vs,rfl,by omega,kk _ e1 _ F1 _ p1 s1 (fun _=>by simp) (K1.unguardF h0 hF0 ⟨_,am,kD (by simpa using r1) .nil⟩)⟩
variable {e:Expr} {f:WE} {x:Str} {p apos cpos spos pos':Pos}
end
end Q
namespace Q
open PySem L2 PyProof.Rows
noncomputable def only0 (env:En):En:=env.map fun o=>match o with
 | some ⟨0,x⟩=>some ⟨0,x⟩
 | _=>none
noncomputable def zPure (F H:Hp):Zn:=⟨H,F,[],fun _=>none,fun _ h=>by simp at h⟩
section
variable {M:Md} {Z:Zn} {F F' H H':Hp} {σ:L2.St} {env env':En}
theorem Sok.pure (K:Sok M Z F σ H env):Sok M (zPure F H) F σ H (only0 env):=by
 refine ⟨K.sF,fun b o h _=>h,fun b h=>h,ao,fun a h=>.inl h,by simp [only0,K.len],fun _=>[],fun i s e=>?_,fun i a h=>by simp at h,fun i j a _ h=>by simp at h,fun i a s h=>by cases h⟩
 unfold only0 at e
 rw [List.getElem?_map] at e
 cases ei:env[i]? with
 | none=>rw [ei] at e; cases e
 | some o =>
  rw [ei] at e
  have e:=Option.some.inj e
  dsimp only at e
  split at e
  ·cases e
   obtain ⟨v,hv,r⟩:=K.val ei
   exact ⟨v,hv,.inl ⟨rfl,rfl,r⟩⟩
  ·cases e
theorem Sok.unpure (K:Sok M Z F σ H env) (K':Sok M (zPure F H) F' σ H' env'):Sok M Z F' σ H' env/\Same H H'/\∀ fp,Slots M Z F σ H env fp->Slots M Z F' σ H' env fp:=by
 have sH:Same H H':=fun b o h=>K'.sG b o h (by simp [zPure])
 have nw:∀ a,F' a≠none->F a≠none\/H a=none:=K'.nw
 exact ⟨K.move K'.gr K'.sF sH nw,sH,fun fp L=>L.move K'.gr (fun _ c o _ e=>sH c o e) nw⟩
end
noncomputable def jE (i:Nat) (it:WA):WS:=fun P env=>it env fun xs e=>∃ ks,xs.mapM keyP=some ks/\ks.Nodup/\ks.length<=1000/\P.nx (e.set i (some ⟨4,.dic (ks.map fun k=>(k,.lst []))⟩))
noncomputable def lstAt (kvs:List (Key×PV)) (k:Key):Option (List PV):=match valP kvs k with
 | some (.lst xs)=>some xs
 | _=>none
noncomputable def appAt (kvs:List (Key×PV)) (k:Key) (xs:List PV):List (Key×PV):=kvs.map fun kv=>if kv.1=k then (k,.lst xs) else kv
noncomputable def dR (i:Nat) (fk fv:WE):WS:=fun P env=>match env[i]? with
 | some (some ⟨4,.dic kvs⟩)=>(kvs.map (·.1)).Nodup/\fk (only0 env) fun y _=>opt (keyP y) fun k=>opt (lstAt kvs k) fun xs=>fv (only0 env) fun v _=>xs.length<=100000/\P.nx (env.set i (some ⟨4,.dic (appAt kvs k (xs++[v]))⟩))
 | _=>False
noncomputable def jD (i:Nat):WS:=fun P env=>match env[i]? with
 | some (some ⟨4,x⟩)=>P.ro x i env
 | _=>False
theorem mj {α β:Type} {f:α->Option β} {l:List α} {m:List β} (h:l.mapM f=some m) (i:Nat) (b:β) (hb:m[i]?=some b):∃ a,l[i]?=some a/\f a=some b:=by
 obtain ⟨hl,h2⟩:=bo h
 have hi:i<l.length:=by
  rw [<- hl]
  rcases Nat.lt_or_ge i m.length with q | q
  ·exact q
  ·rw [List.getElem?_eq_none q] at hb; cases hb
 obtain ⟨b',e1,e2⟩:=h2 i l[i] (by simp [hi])
 rw [hb] at e1; cases e1
 exact ⟨l[i],by simp [hi],e2⟩
theorem rJ {kvs:List (Key×V)} {k:Key} {v:V} (h:k∉kvs.map (·.1)):putK kvs k v=kvs++[(k,v)]:=by
 unfold putK
 rw [if_neg]
 intro z
 obtain ⟨p,hp,e⟩:=List.any_eq_true.mp z
 exact h (List.mem_map.mpr ⟨p,hp,of_decide_eq_true e⟩)
section
variable {X:Cx} {iter:Expr} {scope:Scope} {pos p1 p2 p3:Pos} {fi:WA} {x t:Str}
theorem qK (i:Nat) {y:Str} {py spos:Pos} (hN:X.N.Nodup) (hy:X.N[i]?=some y) (hl:X.env.scope.names.lookup y=some .local) (hi:EvI (obG X.K) X (.Name t p1) iter fi) (hg:∀ C s₀ H₀ ex pn,PG (cxComp X scope [t] C s₀ H₀ ex pn) (.Name t p1) (gName 0)) (hk:∀ C s₀ H₀ ex pn,PE (cxComp X scope [t] C s₀ H₀ ex pn) (.Name t p2) (tVar 0))
  (hsw:autoParam (swapsWith (.DictComp (.Name t p2) (.List [] p3) [⟨.Name t p1,iter,[],0⟩] scope pos) (some (.Name y py)) spos.line X.env=pure true) Z2._auto_1)
  (hc:autoParam (X.calm=true) Z2._auto_1) (hx:autoParam (X.xe=(fun _ _=>False)) Z2._auto_1) (hsc:autoParam (scOk X.env scope=true) Z2._auto_1) (hcap:autoParam (capOk X.N scope [t] [none]=true) Z2._auto_1) (hkind:autoParam (scope.kind=.function) Z2._auto_1) (hs:autoParam (∀ x,foldedSetIterable iter X.env x=pure x) Z3._auto_1) :
  EvX (obG X.K) X (.Assign [.Name y py] (.DictComp (.Name t p2) (.List [] p3) [⟨.Name t p1,iter,[],0⟩] scope pos) spos) (jE i fi):=by
 obtain ⟨wi,hwi,k⟩:=hi.ex
 refine ⟨_,sT (i:=i) (wi:=wi) (g:=gName 0) (tc:=tYes) (tk:=tVar 0) (te:=tLst tNil) (N:=[t]) (js:=[none]) hN hy hl hwi hg (fun C s₀ H₀ ex pn=>qf) hk (fun C s₀ H₀ ex pn=>lP bu) jT hsw hc hx hsc hcap hkind hs,fun Z F σ H env P D K hf L=>?_⟩
 refine k Z F σ H env _ _ K hf fun xs e1 J F1 H1 pp s1 K1 I1 l hl=>?_
 obtain ⟨ks,hks,hnd,hlen,pp⟩:=pp
 obtain ⟨hkl,_⟩:=bo hks
 obtain ⟨fp,L1⟩:=K1.sl
 have hl0:Z.H₀ l=none:=K1.h0 hl
 refine ⟨fun j m ys H'=>m=xs.length - j/\j<=xs.length/\∃ (as:List Addr) (F':Hp),Same F1 F'/\as.length=j/\ys=((ks.take j).zip as).map (fun t=>(t.1,V.ref t.2))/\H' l=some (.dK ys)/\as.Nodup/\(∀ a∈as,H' a=some (.lst [])/\(Z.H₀ a=none/\∀ i,a∉fp i)/\F' a=none/\a≠l) /\
   Sok (md (obG X.K) X) Z F' σ H' e1/\Slots (md (obG X.K) X) Z F' σ H' e1 fp/\F' l=none,?_,?_⟩
 ·have hF:F1 l=none:=Same.none_of K1.sF hl
  have hn:∀ i,l∉fp i:=fun i h=>(L1.al i l h).1 hl
  obtain ⟨K2,L2⟩:=K1.touch (o:=.dK []) L1 hF hl0 hn
  exact ⟨_,rfl,Nat.zero_le _,[],F1,ao,rfl,by simp,am,by simp,fun a h=>by simp at h,K2,L2,hF⟩
 rintro j m ys H' ⟨rfl,hj,as,F',sF,hal,rfl,hly,hand,has,K',L',hFl⟩
 by_cases hlt:j<xs.length
 ·have hkj:j<ks.length:=by omega
  obtain ⟨h1,h2⟩:=I1.go Z j σ e1 F' H' xs[j] sF K' (by simp [hlt])
  refine .inr ⟨h1,fun v H3 yv=>?_⟩
  obtain ⟨F3,s3,K3,r3,sH,nw⟩:=h2 v H3 yv
  obtain ⟨a0,ea,ek⟩:=mj hks j ks[j] (by simp [hkj])
  rw [List.getElem?_eq_getElem hlt] at ea
  cases ea
  have hv:=eh ek r3
  subst hv
  have L3:Slots (md (obG X.K) X) Z F3 σ H3 e1 fp:=L'.move s3 (fun _ c o _ e=>sH c o e) nw
  unfold gName tYes
  dsimp only
  rw [if_pos rfl]
  refine ⟨_,rfl,Nat.zero_le _,fun q hq=>⟨ks[j],rfl,?_⟩⟩
  have hlq:l≠q:=ay (sH _ _ hly) hq
  have hl3:(upd H3 q (.lst [])) l=some (.dK (((ks.take j).zip as).map fun t=>(t.1,V.ref t.2))):=by rw [ah hlq]; exact sH _ _ hly
  have hysl:(((ks.take j).zip as).map fun t=>((t.1:Key),V.ref t.2)).length=j:=by simp [hal]; omega
  have nF:∀ {b:Addr},F' b=none->H' b≠none->F3 b=none:=fun {b} q1 q2=>by
   cases e:F3 b with
   | none=>rfl
   | some o =>
    rcases nw b (by rw [e]; simp) with z | z
    ·exact absurd q1 z
    ·exact absurd z q2
  have hF3l:F3 l=none:=nF hFl (by rw [hly]; simp)
  have hF3q:F3 q=none:=Same.none_of K3.sF hq
  have hnq:∀ i,q∉fp i:=fun i h=>(L3.al i q h).1 hq
  obtain ⟨K4,L4⟩:=K3.touch (o:=.lst []) L3 hF3q (K3.h0 hq) hnq
  have hnl:∀ i,l∉fp i:=fun i h=>(L1.al i l h).1 hl
  have enew:putK (((ks.take j).zip as).map fun t=>((t.1:Key),V.ref t.2)) ks[j] (.ref q)=((ks.take (j+1)).zip (as++[q])).map fun t=>(t.1,V.ref t.2):=by
   rw [rJ,List.take_succ,List.getElem?_eq_getElem hkj]
   ·rw [List.zip_append (by simp [hal]; omega)]
    simp
   ·intro z
    rw [List.map_map] at z
    obtain ⟨⟨kk,aa⟩,hm,e⟩:=List.mem_map.mp z
    have hm1:=(List.of_mem_zip hm).1
    have e:kk=ks[j]:=e
    subst e
    obtain ⟨n,hn,en⟩:=List.mem_take_iff_getElem.mp hm1
    have:=(List.getElem_inj hnd).mp en
    omega
  obtain ⟨K5,L5⟩:=K4.touch (o:=.dK (putK (((ks.take j).zip as).map fun t=>((t.1:Key),V.ref t.2)) ks[j] (.ref q))) L4 hF3l hl0 hnl
  refine ⟨hl3,by rw [hysl,sizeLine_eq]; omega,xs.length - (j+1),by omega,rfl,hlt,as++[q],F3,aj sF s3,by simp [hal],enew,am,?_,fun a ha=>?_,K5,L5,hF3l⟩
  ·rw [List.nodup_append]
   refine ⟨hand,by simp,fun a ha b hb z=>?_⟩
   simp at hb; subst hb; subst z
   have:=sH _ _ (has a ha).1
   rw [hq] at this; cases this
  ·rcases List.mem_append.mp ha with ha | ha
   ·obtain ⟨q1,q2,q3,q4⟩:=has a ha
    have:a≠q:=ay (sH _ _ q1) hq
    exact ⟨by rw [ah q4,ah this]; exact sH _ _ q1,q2,nF q3 (by rw [q1]; simp),q4⟩
   ·simp at ha; subst ha
    exact ⟨by rw [ah hlq.symm]; exact am,⟨K3.h0 hq,hnq⟩,hF3q,hlq.symm⟩
 ·have e:j=xs.length:=by omega
  subst e
  refine .inl ⟨I1.stop Z _ σ e1 F' H' sF K' (Nat.le_refl _),L.nx _ _ F' H' pp (aj s1 sF) ?_⟩
  have hnl:∀ i,l∉fp i:=fun i h=>(L1.al i l h).1 hl
  rcases Nat.lt_or_ge i e1.length with hlt2 | hge
  case inr =>
   rw [List.set_eq_of_length_le hge,List.set_eq_of_length_le (by have:=K'.len; omega)]
   exact K'
  have ht:ks.take xs.length=ks:=List.take_of_length_le (by omega)
  rw [ht] at hly
  refine K'.slots (by simp [K'.len]) (L'.put (l:=l::as) (by simp) (by have:=K'.len; omega) (.inr (.inr (.inl ⟨.inr rfl,l,rfl,fun c hc=>.inr ?_,.inr (.inl ⟨(ks.zip as).map fun t=>(t.1,t.2,[]),?_,?_,?_,?_,?_⟩)⟩))) (fun c hc=>?_) fun j c _ hc=>?_)
  ·rcases List.mem_cons.mp hc with rfl | hc
   ·exact hl0
   ·exact (has c hc).2.1.1
  ·rw [List.map_map]
   have:(ks.map fun k=>((k:Key),PV.lst []))=(ks.zip as).map ((fun t:Key×Addr×List PV=>(t.1,PV.lst t.2.2)) ∘ fun t=>(t.1,t.2,[])):=by
    have e1:(fun t:Key×Addr×List PV=>(t.1,PV.lst t.2.2)) ∘ (fun t:Key×Addr=>(t.1,t.2,[]))=(fun k=>((k:Key),PV.lst [])) ∘ Prod.fst:=rfl
    rw [e1,<- List.map_map,List.map_fst_zip (by omega)]
   rw [this]
  ·rw [List.map_map]
   have e1:(fun t:Key×Addr×List PV=>t.2.1) ∘ (fun t:Key×Addr=>(t.1,t.2,[]))=Prod.snd:=rfl
   rw [e1,List.map_snd_zip (by omega)]
  ·rw [List.map_map]; exact hly
  ·rw [List.map_map]
   have e1:(fun t:Key×Addr×List PV=>t.2.1) ∘ (fun t:Key×Addr=>(t.1,t.2,[]))=Prod.snd:=rfl
   rw [e1,List.map_snd_zip (by omega)]; exact hand
  ·intro t ht
   obtain ⟨⟨kk,aa⟩,hm,rfl⟩:=List.mem_map.mp ht
   exact ⟨[],(has aa (List.of_mem_zip hm).2).1,.nil⟩
  ·rcases List.mem_cons.mp hc with rfl | hc
   ·exact ⟨by rw [hly]; simp,hFl⟩
   ·exact ⟨by rw [(has c hc).1]; simp,(has c hc).2.2.1⟩
  ·rcases List.mem_cons.mp hc with rfl | hc
   ·exact hnl j
   ·exact (has c hc).2.1.2 j
theorem qL (i:Nat) {ke e:Expr} {fk fv:WE} {px ps apos cpos spos:Pos} (hu:X.A.units+1<cLine) (ho:PE X (.Name x px) (tVar i)) (hk:EvS (obG X.K) X ke fk) (hv:EvS (obG X.K) X e fv) (hns:autoParam (NoSl ke) Z6._auto_1)
  (hbase:autoParam (attributeBase (.Subscript (.Name x px) ke ps) "append" X.env (eval (.Subscript (.Name x px) ke ps) X.env)=eval (.Subscript (.Name x px) ke ps) X.env) Z2._auto_1)
  (hfew:autoParam (((backTo cpos (starEach [e] X.env)).all (fun x=>!x.1) && (backToKw cpos (keywordEach [] X.env)).all (fun x=>x.1.isSome)
   && decide ([e].length+([]:List Keyword).length+(if ([]:List Keyword).isEmpty then 0 else 1)<30))=true) Z2._auto_1)
  (hline:autoParam ((apos.endLine==cpos.line)=true) Z2._auto_1) (hst:autoParam (starEach [e] X.env=(false,eval e X.env)::starEach [] X.env) Z2._auto_1) (hplain:autoParam ((backTo cpos (starEach [] X.env)).any (·.1)=false) Z2._auto_1)
  (hs:autoParam (swapsWith (.Call (.Attribute (.Subscript (.Name x px) ke ps) "append" apos) [e] [] cpos) none spos.line X.env=pure false) Z2._auto_1) :
  EvX (obG X.K) X (.Expr (.Call (.Attribute (.Subscript (.Name x px) ke ps) "append" apos) [e] [] cpos) spos) (dR i fk fv):=by
 obtain ⟨tk,htk,kk⟩:=hk.ex
 obtain ⟨tv,htv,kv⟩:=hv.ex
 refine ⟨_,nL (o0 PySem.F.plainAttrs_list PySem.F.slot_list_append PySem.F.type_list_append bg (tS hu ho htk hns) (bh htv bu hst) hbase hfew hline hst hplain) hs,fun Z F σ H env P D K hf L=>?_⟩
 unfold dR at hf
 split at hf
 case h_2=>exact hf.elim
 rename_i kvs ei
 obtain ⟨hnd,hf⟩:=hf
 obtain ⟨fp,L0⟩:=K.sl
 obtain ⟨w,hw,ok⟩:=L0.at' i _ ei
 obtain ⟨a,rfl,hd⟩:∃ a,w=.ref a/\DolAt X.K F H a (fp i) (.dic kvs):=by
  rcases ok with ⟨k0,_⟩ | ⟨k0,_⟩ | ⟨_,a,e,_,h⟩ | ⟨k0,_⟩
  ·cases k0
  ·cases k0
  ·rcases h with (⟨h,_⟩ | ⟨_,_,h,_⟩) | h | ⟨_,_,_,_,h,_⟩
   ·cases h
   ·cases h
   ·exact ⟨a,e,h⟩
   ·cases h
  ·cases k0
 refine ⟨_,hw,kk (zPure F H) F σ H (only0 env) _ _ K.pure hf fun y e1 y' F1 H1 p1 s1 K1 r1=>?_⟩
 obtain ⟨K2,sH1,hL1⟩:=K.unpure K1
 obtain ⟨k,hkey,xs,hxs,p1⟩:=p1
 have hy:=eh hkey r1
 subst hy
 obtain ⟨ks,e1',e2,e3,e4,e5⟩:=hd
 cases e1'
 have hmem:∃ t∈ks,t.1=k/\t.2.2=xs:=by
  unfold lstAt at hxs
  split at hxs
  ·rename_i zs hz
   cases hxs
   unfold valP at hz
   rw [Option.map_eq_some_iff] at hz
   obtain ⟨kv,hf,hv⟩:=hz
   have hm:=List.mem_of_find?_eq_some hf
   have hp:=List.find?_some hf
   obtain ⟨t,ht,rfl⟩:=List.mem_map.mp hm
   exact ⟨t,ht,of_decide_eq_true hp,by injection hv⟩
  ·cases hxs
 obtain ⟨t,ht,rfl,rfl⟩:=hmem
 have hks:(ks.map (·.1)).Nodup:=by rw [List.map_map] at hnd; exact hnd
 have inj:∀ t'∈ks,t'.1=t.1->t'=t:=fun t' h' e=>by
  obtain ⟨n,hn,rfl⟩:=List.mem_iff_getElem.mp ht
  obtain ⟨n',hn',rfl⟩:=List.mem_iff_getElem.mp h'
  have:n'=n:=(List.getElem_inj (h₀:=by simpa using hn') (h₁:=by simpa using hn) hks).mp (by simpa using e)
  subst this; rfl
 have hval:valV (ks.map fun t=>(t.1,V.ref t.2.1)) t.1=some (.ref t.2.1):=by
  unfold valV
  rw [Option.map_eq_some_iff]
  cases hf:(ks.map fun t=>(t.1,V.ref t.2.1)).find? fun kv=>decide (kv.1=t.1) with
  | none =>
   have:=List.find?_eq_none.mp hf (t.1,V.ref t.2.1) (List.mem_map.mpr ⟨t,ht,rfl⟩)
   simp at this
  | some q =>
   have hm:=List.mem_of_find?_eq_some hf
   have hp:=List.find?_some hf
   obtain ⟨t',ht',rfl⟩:=List.mem_map.mp hm
   have:=inj t' ht' (of_decide_eq_true hp)
   subst this
   exact ⟨_,rfl,rfl⟩
 obtain ⟨vs0,hv0,rv0⟩:=e5 t ht
 refine ⟨a,.ref t.2.1,rfl,by rw [<- hval]; exact DGet.k (sH1 _ _ e3),.inl ⟨rfl,vs0,.inl (.inl (sH1 _ _ hv0))⟩,?_⟩
 refine kv (zPure F1 H1) F1 σ H1 (only0 env) _ _ K2.pure p1 fun v e2' v' F2 H2 p2 s2 K3 r2=>?_
 obtain ⟨K4,sH2,hL2⟩:=K2.unpure K3
 have L4:=hL2 fp (hL1 fp L0)
 have hv2:=sH2 _ _ (sH1 _ _ hv0)
 have s12:=aj s1 s2
 refine ⟨t.2.1,vs0,v',rfl,rfl,hv2,by rw [rv0.len,sizeLine_eq]; have:=p2.1; omega,L.nx _ _ F2 _ p2.2 s12 ?_⟩
 have hin:t.2.1∈fp i:=by rw [e2]; exact List.mem_cons_of_mem _ (List.mem_map_of_mem (f:=fun t=>t.2.1) ht)
 have ne_a:t.2.1≠a:=sU hv0 e3 (by intro z; cases z)
 refine (K4.objS (.inr rfl) L4 ei hw (l':=fp i) (F':=F2) (H':=upd H2 t.2.1 (.lst (vs0++[v']))) (fun b o h1 h2=>?_) (fun b h=>?_) ao (fun b o h=>?_) (fun b h=>.inl h) (.inr (.inl ⟨ks.map fun t'=>if t'.1=t.1 then (t.1,t.2.1,t.2.2++[v]) else t',?_,?_,?_,?_,?_⟩)) (fun b hb=>?_) (fun b hb=>.inl hb)).1
 ·rw [ah fun z:b=t.2.1=>h2 (by rw [z]; exact hin)]; exact h1
 ·by_cases q:b=t.2.1
  ·subst q; rw [am]; simp
  ·rw [ah q]; exact h
 ·have:b≠t.2.1:=ay h (L4.al i _ hin).2
  rw [ah this]; exact K4.sF b o h
 ·unfold appAt
  rw [List.map_map,List.map_map]
  congr 1
  apply List.map_congr_left
  intro t' _
  show (if t'.1=t.1 then (t.1,PV.lst (t.2.2++[v])) else (t'.1,PV.lst t'.2.2))=((if t'.1=t.1 then (t.1,t.2.1,t.2.2++[v]) else t').1,PV.lst (if t'.1=t.1 then (t.1,t.2.1,t.2.2++[v]) else t').2.2)
  split <;> rfl
 ·rw [e2,List.map_map]
  congr 1
  apply List.map_congr_left
  intro t' h'
  show t'.2.1=(if t'.1=t.1 then (t.1,t.2.1,t.2.2++[v]) else t').2.1
  split
  ·rename_i q; rw [inj t' h' q]
  ·rfl
 ·rw [ah ne_a.symm,sH2 _ _ (sH1 _ _ e3),List.map_map]
  congr 2
  apply List.map_congr_left
  intro t' h'
  show (t'.1,V.ref t'.2.1)=((if t'.1=t.1 then (t.1,t.2.1,t.2.2++[v]) else t').1,V.ref (if t'.1=t.1 then (t.1,t.2.1,t.2.2++[v]) else t').2.1)
  split
  ·rename_i q; rw [inj t' h' q]
  ·rfl
 ·rw [List.map_map]
  have:(ks.map ((fun t=>t.2.1) ∘ fun t'=>if t'.1=t.1 then (t.1,t.2.1,t.2.2++[v]) else t'))=ks.map fun t=>t.2.1:=by
   apply List.map_congr_left
   intro t' h'
   show (if t'.1=t.1 then (t.1,t.2.1,t.2.2++[v]) else t').2.1=t'.2.1
   split
   ·rename_i q; rw [inj t' h' q]
   ·rfl
  rw [this]; exact e4
 ·intro q hq
  obtain ⟨t',h',rfl⟩:=List.mem_map.mp hq
  by_cases e:t'.1=t.1
  ·rw [if_pos e]
   exact ⟨_,am,(rv0.mono s12).app (.cons r2 .nil)⟩
  ·rw [if_neg e]
   obtain ⟨vs',q1,q2⟩:=e5 t' h'
   have hne:t'.2.1≠t.2.1:=fun z=>by
    obtain ⟨n,hn,rfl⟩:=List.mem_iff_getElem.mp ht
    obtain ⟨n',hn',rfl⟩:=List.mem_iff_getElem.mp h'
    have:n'=n:=(List.getElem_inj (h₀:=by simpa using hn') (h₁:=by simpa using hn) e4).mp (by simpa using z)
    subst this; exact e rfl
   exact ⟨vs',by rw [ah hne]; exact sH2 _ _ (sH1 _ _ q1),q2.mono s12⟩
 ·have:=L4.al i b hb
  refine ⟨?_,this.2⟩
  by_cases q:b=t.2.1
  ·subst q; rw [am]; simp
  ·rw [ah q]; exact this.1
theorem qJ (i:Nat) {ob:ObK} {px spos:Pos} (ho:PE X (.Name x px) (tVar i)):EvX ob X (.Return (some (.Name x px)) spos) (jD i):=by
 refine ⟨_,dU ho,fun Z F σ H env P D K hf L=>?_⟩
 unfold jD at hf
 split at hf
 case h_2=>exact hf.elim
 rename_i y ei
 obtain ⟨fp,L0⟩:=K.sl
 obtain ⟨w,hw,ok⟩:=L0.at' i _ ei
 exact ⟨_,hw,L.ro _ i env w σ F H hf ao K ei hw⟩
end
noncomputable def endDl (P:PV->Prop):Wd:={ nx:=fun _=>P .non,rt:=fun x _=>P x,ro:=fun x _ _=>(∃ kvs,x=.dic kvs)/\P x }
noncomputable def runDl (n:Nat) (u:WS):Fd:=fun xs P=>u (endDl P) (startE n xs)
section
variable {P:Program} {w:World} {K:PySem.W.Frag} {mg:Str->Option Value} {base:Heap}
theorem vW {x qual:Str} {st:Stmt} {f:Addr} {fd:FuncData} {N ps:List Str} {k:Nat} {u:WS} (F:Fun K x qual st f fd) (S:aD N ps (aq st)) (hn:ps.length<=N.length)
  (hb:∀ (cdv:Value) (A:Around) (outer:List Env) (s:Shared) (H:Hp) (E:XK),Room k (A.deeper (envOfC qual (aq st) s.heap.objs.size f cdv))->EvXs (obG K) (cxOf CX0 P w K mg base N qual (aq st) f cdv A outer s H E).nox (bc st) u) :
  FnOk P w K mg base CX0 (k+1) f fd ps (spQ ⟨P,w,K,obG K⟩ ps.length (runDl N.length u)):=by
 refine F.ok S (fun vs H Q E h=>?_) (fun cdv A outer s H vs Q E hr h=>?_)
 ·obtain ⟨F,xs,P,_,r,hl,_⟩:=h
  rw [r.len]; exact hl
 ·obtain ⟨F,xs,P',sF,r,hl,hD,kk⟩:=h
  obtain ⟨t,ht,kt⟩:=(hb cdv A outer s H E hr).ex
  refine ⟨t,ht,kt ⟨H,F,[],fun _=>none,fun _ h=>by simp at h⟩ F (start N vs) H (startE N.length xs) (endDl P') _ (fT (M:=⟨P,w,K,obG K⟩) sF r (by omega)) hD ⟨fun env σ F' H' p s1 K1=>?_,fun x env v σ F' H' p s1 K1 rv=>?_,fun _ _ _ _ p=>p.elim,fun _ _ _ _ p=>p.elim,fun _ _ _ _ _ _ p=>p.elim,fun x i env v σ F' H' p s1 K1 ei hv=>?_⟩⟩
  ·exact kk .non .non F' H' p (fun b o h=>K1.sG b o h (by simp)) s1 K1.sF K1.nw .non
  ·exact kk x v F' H' p (fun b o h=>K1.sG b o h (by simp)) s1 K1.sF K1.nw rv
  ·obtain ⟨hx0,p⟩:=p
   obtain ⟨fp,L⟩:=K1.sl
   obtain ⟨v',hv',ok⟩:=L.at' i _ ei
   rw [hv] at hv'; cases hv'
   rcases ok with ⟨k0,_⟩ | ⟨k0,_⟩ | ⟨_,a,rfl,hwr,h⟩ | ⟨k0,_⟩
   ·cases k0
   ·cases k0
   ·obtain ⟨kv0,hx0⟩:=hx0
    rcases h with (⟨h,_⟩ | ⟨_,_,h,_⟩) | ⟨ks,rfl,e2,e3,e4,e5⟩ | ⟨_,_,_,_,h,_⟩
    ·rw [hx0] at h; cases h
    ·rw [hx0] at h; cases h
    rotate_left
    ·rw [hx0] at h; cases h
    ·let F2:Hp:=fun b=>if b∈fp i then H' b else F' b
     have sF2:Same F' F2:=fun b o hb=>by
      show (if b∈fp i then H' b else F' b)=some o
      split
      ·exact K1.sF b o hb
      ·exact hb
     have at2:∀ b,b∈fp i->F2 b=H' b:=fun b hb=>if_pos hb
     refine kk _ _ F2 H' p (fun b o h=>K1.sG b o h (by simp)) (aj s1 sF2) (fun b o hb=>?_) (fun b hb=>?_) ?_
     ·have hb:(if b∈fp i then H' b else F' b)=some o:=hb
      split at hb
      ·exact hb
      ·exact K1.sF b o hb
     ·have hb:(if b∈fp i then H' b else F' b)≠none:=hb
      split at hb
      ·rename_i q
       rcases hwr b q with z | z
       ·simp at z
       ·exact .inr z
      ·exact K1.nw b hb
     ·have ha:F2 a=some (.dK (ks.map fun t=>(t.1,V.ref t.2.1))):=by rw [at2 a (by rw [e2]; simp)]; exact e3
      refine .dic ha ?_
      have go:∀ (l:List (Key×Addr×List PV)),(∀ t∈l,t∈ks)->RepsK K F2 (l.map fun t=>(t.1,V.ref t.2.1)) (l.map fun t=>(t.1,PV.lst t.2.2)):=by
       intro l
       induction l with
       | nil=>intro _; exact .nil
       | cons t l ih =>
        intro hs
        obtain ⟨vs',q1,q2⟩:=e5 t (hs t (by simp))
        refine .cons (.lst ?_ (q2.mono sF2)) (ih fun t' h'=>hs t' (List.mem_cons_of_mem _ h'))
        rw [at2 _ (by rw [e2]; exact List.mem_cons_of_mem _ (List.mem_map_of_mem (f:=fun t=>t.2.1) (hs t (by simp))))]
        exact q1
      exact go ks fun _ h=>h
   ·cases k0
end
end Q
namespace Q
open PySem L2 PyProof.Rows
noncomputable def StrsUp (ss ts:List Str):Prop:=ts.Perm ss/\ts.Pairwise fun a b=>¬ ltS b a
noncomputable def keyStr:Key->Option Str
 | .inr s=>some s
 | .inl _=>none
noncomputable def eSortS (fa:WA):WE:=fun env P=>fa env fun xs e=>match xs with
 | [.lst ys]=>∃ ss,ys.mapM strPV=some ss/\ss.length<64/\∀ ts,StrsUp ss ts->P (.lst (ts.map .str)) e
 | [.dic kvs]=>∃ ss,(kvs.map (·.1)).mapM keyStr=some ss/\ss.length<64/\∀ ts,StrsUp ss ts->P (.lst (ts.map .str)) e
 | _=>False
theorem fY {K:PySem.W.Frag} {F:Hp}:∀ (ss:List Str),Reps K F (ss.map V.str) (ss.map PV.str)
 | []=>.nil
 | s::ss=>.cons (.str s) (fY ss)
theorem i8:∀ {ks:List Key} {ss:List Str},ks.mapM keyStr=some ss->ks=ss.map Sum.inr
 | [],ss,h=>by simp at h; subst h; rfl
 | k::ks,ss,h=>by
  rw [List.mapM_cons] at h
  cases ea:keyStr k with
  | none=>rw [ea] at h; cases h
  | some a =>
   rw [ea] at h
   cases el:ks.mapM keyStr with
   | none=>rw [el] at h; cases h
   | some bs =>
    rw [el] at h
    have h:some (a::bs)=some ss:=h
    cases h
    rw [i8 el,List.map_cons]
    cases k <;> cases ea
    rfl
section
variable {ob:ObK} {X:Cx} {a b c e:Expr} {es:List Expr} {f g h:WE} {fa:WA} {pos p p1:Pos} {x:Str}
theorem fx (hc:X.calm=true) (hg:Gl X "sorted") (hm:X.mg "sorted" = none) (ha:EvAW ob X (e::es) fa)
  (he:autoParam (starEach (e::es) X.env=(false,eval e X.env)::starEach es X.env) Z2._auto_1) (hpl:autoParam ((backTo pos (starEach es X.env)).any (·.1)=false) Z2._auto_1):EvF ob X (.Call (.Name "sorted" p) (e::es) [] pos) (eSortS fa):=by
 obtain ⟨t,ht,k⟩:=ha.ex
 refine ⟨_,b8 (CallR.or pA (pD hc)) hg hm boot_sorted ht (by decide) (by decide) he hpl,fun Z F σ H env P Q K hf kk=>k Z F σ H env _ _ K hf fun xs e1 vs F1 H1 p s1 K1 r1=>?_⟩
 split at p
 ·obtain ⟨ss,hs,hl,p⟩:=p
  obtain ⟨v,rfl,r⟩:=r1.one
  obtain ⟨q,vs,rfl,h1,h2⟩:=r.lst K1.sF
  have:=de jw hs h2
  subst this
  exact .inl ⟨q,ss,rfl,.inl (.inl h1),hl,fun l ts hn hp hw=>kk _ e1 _ F1 _ (p ts ⟨hp,hw⟩) s1 (fun _=>by simp) (K1.own hn ⟨_,am,fY ts⟩)⟩
 ·obtain ⟨ss,hs,hl,p⟩:=p
  obtain ⟨v,rfl,r⟩:=r1.one
  obtain ⟨q,vs,rfl,h1,h2⟩:=r.dic K1.sF
  refine .inr ⟨q,vs,ss,rfl,h1,by rw [h2.keys]; exact i8 hs,hl,fun l ts hn hp hw=>kk _ e1 _ F1 _ (p ts ⟨hp,hw⟩) s1 (fun _=>by simp) (K1.own hn ⟨_,am,fY ts⟩)⟩
 ·exact p.elim
noncomputable def pairK:PV->Option (Key×PV)
 | .tup [.str s,v]=>some (.inr s,v)
 | _=>none
noncomputable def dictPV:List PV->Option PV
 | [.lst xs]=>if xs.length<=1000 then (xs.mapM pairK).map fun kvs=>.dic (dispP kvs) else none
 | _=>none
noncomputable def rDictP (K:PySem.W.Frag):List V->Hp->VK->Prop:=fun xs H Q=>∃ (l:Addr) (ys:List V) (prs:List (Str×V)),xs=[.ref l]/\H l=some (.lst ys)/\ys.length=prs.length/\prs.length<=1000 /\
  (∀ j (hj:j<prs.length),∃ p,ys[j]?=some (.ref p)/\SqT K H p [.str prs[j].1,prs[j].2])/\∀ d,H d=none->Q (.ref d) (upd H d (.dK (prs.foldl (fun kvs kv=>putK kvs (Sum.inr kv.1:Key) kv.2) [])))
theorem oA (hc:X.calm=true):CallR X (.type "dict") (rDictP X.K):=by
 intro pins s σ H xs us Q I r h
 obtain ⟨l,ys,prs,rfl,hl,hlen,hsz,hp,q⟩:=h
 obtain ⟨u,rfl,ru⟩:=r.one
 cases ru
 obtain ⟨z,its,n,rv,g⟩:=I.hok l _ hl
 have each:∀ j,∃ vv:Value,∀ hj:j<prs.length,∃ (p:Addr) (t:Tok),its[j]?=some (.ref p)/\s.heap.IsTuple p #[.str prs[j].1 t,vv]/\RelV prs[j].2 vv:=fun j=>by
  by_cases hj:j<prs.length
  ·obtain ⟨p,ey,hP⟩:=hp j hj
   obtain ⟨v1,e1,r1⟩:=rv.get ey
   cases r1
   obtain ⟨us2,rv2,g2,_⟩:=I.tuple hP
   cases rv2 with
   | cons ra rr =>
    cases rr with
    | cons rb rr =>
     cases rr
     obtain ⟨t,rfl⟩:=ra
     exact ⟨_,fun _=>⟨p,t,e1,g2,rb⟩⟩
  ·exact ⟨.none,fun h=>absurd h hj⟩
 obtain ⟨vf,hv⟩:=Classical.skolem.mp each
 have hli:its.length=prs.length:=by rw [<- hlen]; exact rv.length.symm
 refine jr (knd:=aI X.prog X.w) (items:=its.toArray) (n:=n) (fun j=>(Sum.inr ((prs[j]?.getD (Str.empty,V.non)).1):Key)) vf (by simp; omega) (I.ok.hd hc) g (fun j hj=>?_) fun h' tk D kk=>?_
 ·have hj':j<prs.length:=by simp at hj; omega
  obtain ⟨p,t,e1,g2,_⟩:=hv j hj'
  refine ⟨p,.str prs[j].1 t,by simpa using e1,g2,?_⟩
  rw [List.getElem?_eq_getElem hj',Option.getD_some]
  exact hV _ _ _ _
 ·have hk:=n5 prs vf (fun j hj=>(hv j hj).choose_spec.choose_spec.2.2) prs.length (Nat.le_refl _)
  rw [List.take_length] at hk
  have ez:its.toArray.size=prs.length:=by simp; exact hli
  rw [ez] at D
  refine ⟨.ref s.heap.objs.size,_,I.laid (a:=s.heap.objs.size) (t':=tk) (o:=.dK (prs.foldl (fun kvs kv=>putK kvs (Sum.inr kv.1:Key) kv.2) [])) kk (Nat.le_refl _) ⟨?_,beq_eq_false_iff_ne.mpr (Ne.symm (Nat.ne_of_lt I.big)),_,hk,D⟩,rfl,q _ (I.hok.fresh (Nat.le_refl _))⟩
  refine Nat.le_trans (sB prs []) ?_
  rw [sizeLine_eq,List.length_nil]
  omega
theorem lQ {K:PySem.W.Frag} {F:Hp}:∀ {xs:List PV} {vs:List V} {kvs:List (Key×PV)},xs.mapM pairK=some kvs->Reps K F vs xs->∃ prs:List (Str×V),prs.length=vs.length/\(∀ j (hj:j<prs.length),∃ p,vs[j]?=some (.ref p)/\SqT K F p [.str prs[j].1,prs[j].2])/\RepsK K F (prs.map fun q=>(Sum.inr q.1,q.2)) kvs
 | [],vs,kvs,h,r=>by simp at h; subst h; cases r; exact ⟨[],rfl,fun j hj=>by simp at hj,.nil⟩
 | x::xs,vs,kvs,h,r=>by
  rw [List.mapM_cons] at h
  cases ea:pairK x with
  | none=>rw [ea] at h; cases h
  | some a =>
   rw [ea] at h
   cases el:xs.mapM pairK with
   | none=>rw [el] at h; cases h
   | some bs =>
    rw [el] at h
    have h:some (a::bs)=some kvs:=h
    cases h
    cases r with
    | cons r1 r2 =>
     obtain ⟨prs,q1,q2,q3⟩:=lQ el r2
     unfold pairK at ea
     split at ea
     ·cases ea
      cases r1 with
      | tup h1 h2 =>
       cases h2 with
       | cons h2 h3 =>
        cases h3 with
        | cons h3 h4 =>
         cases h4
         cases h2
         refine ⟨(_,_)::prs,by simp [q1],fun j hj=>?_,.cons h3 q3⟩
         cases j with
         | zero=>exact ⟨_,rfl,h1⟩
         | succ j=>simpa using q2 j (by simpa using hj)
     ·cases ea
theorem fK:∀ (prs:List (Str×V)) (acc:List (Key×V)),prs.foldl (fun kvs kv=>putK kvs (Sum.inr kv.1:Key) kv.2) acc=mergeK acc (prs.map fun q=>(Sum.inr q.1,q.2))
 | [],acc=>rfl
 | q::prs,acc=>by
  rw [List.foldl_cons,fK prs]
  rfl
theorem oD:CallQF ob X (rDictP X.K) dictPV:=by
 intro Z F σ H env vs xs z Q K rv hz k
 unfold dictPV at hz
 split at hz
 ·split at hz
  ·rename_i hlen
   rw [Option.map_eq_some_iff] at hz
   obtain ⟨kvs,hk,rfl⟩:=hz
   obtain ⟨v,rfl,r⟩:=rv.one
   obtain ⟨q,vs,rfl,h1,h2⟩:=r.lst K.sF
   obtain ⟨prs,q1,q2,q3⟩:=lQ hk h2
   refine ⟨q,vs,prs,rfl,h1,q1.symm,by rw [q1,h2.len]; exact hlen,fun j hj=>?_,fun d hd=>?_⟩
   ·obtain ⟨p,e1,e2⟩:=q2 j hj
    exact ⟨p,e1,az K.sF e2⟩
   ·refine k _ _ (fun _=>by simp) (K.own hd ⟨_,am,?_⟩)
    rw [fK]
    exact kD q3 .nil
  ·cases hz
 ·cases hz
end
end Q
namespace Q
open PySem L2 PyProof.Rows
section
variable {ob:ObK} {X:Cx} {a b:Expr} {f g:WE} {pos:Pos}
end
end Q
namespace L2
open PySem PySem.Spec PyProof.Rows
section
variable {prog:Program} {w:World} {A:Around} {E:Value->Shared->Prop} {s:Shared}
structure ZipL (h:Heap) (z u o i1 i2 t1 t2:Addr) (n:Nat):Prop where
 zz:IsZip h z u o .none
 uu:IsPair h u (.ref i1) (.ref i2)
 oo:∃ a b,IsPair h o a b
 a1:h.IsListIter i1 t1 n
 a2:h.IsListIter i2 t2 n
end
end L2
namespace L2
open PySem PySem.Spec PyProof.Rows
section
variable {prog:Program} {w:World} {A:Around} {E:Value->Shared->Prop} {s:Shared}
end
section
variable {X:Cx}
end
end L2
namespace L2
open PySem PySem.Spec PyProof.Rows
section
variable {X:Cx}
end
end L2
namespace Q
open PySem L2
section
variable {ob:ObK} {X:Cx} {a b:Expr} {fa:WA} {pos p:Pos}
noncomputable def iZE (a:WA):WA:=fun env P=>a env fun xs e=>match xs with
 | [.tup xs,.tup ys]=>P (zipP xs ys) e
 | [.lst xs,.lst ys]=>P (zipP xs ys) e
 | _=>False
end
end Q
namespace Q
open PySem L2
theorem bQ {α:Type} {z:α} {P:α->Prop}:opt (some z) P=P z:=propext opt_some
theorem rZ {α:Type} {P:α->Prop}:opt none P=False:=propext ⟨fun ⟨_,e,_⟩=>(nomatch e),fun h=>h.elim⟩
theorem ae {α:Type} {o:Option α} {z:α} {P:α->Prop} (h:o=some z) (k:P z):opt o P:=⟨z,h,k⟩
theorem ow {α:Type} (xs:List α) (n:Nat):cutP xs none (some (n:Int))=xs.take n:=by
 unfold cutP
 rw [HT.sIx_none,HT.sIx_nat,List.drop_zero,Nat.sub_zero]
 by_cases h:n<=xs.length
 ·rw [Nat.min_eq_left h]
 ·rw [Nat.min_eq_right (by omega),List.take_length,List.take_of_length_le (by omega)]
theorem qT {α:Type} (xs:List α) (n:Nat):cutP xs (some (n:Int)) none=xs.drop n:=by
 unfold cutP
 rw [HT.sIx_none,HT.sIx_nat]
 by_cases h:n<=xs.length
 ·rw [Nat.min_eq_left h,List.take_of_length_le (by simp)]
 ·rw [Nat.min_eq_right (by omega),List.drop_length,List.drop_of_length_le (by omega)]
  simp
theorem cv {g:WG} {c:WT} {f:WE} {js:List (Option Nat)} {P:PV->En->Prop} {env:En} (G:PV->Option PV):∀ {xs acc:List PV},(∀ x∈xs,∀ R:Option PV->En->Prop,R (G x) env ->
   g x (capE js env) fun b1=>c b1 fun ok b2=>if ok=true then f b2 fun y b3=>R (some y) (backE js env b3) else R none (backE js env b2))->acc.length+xs.length<=100000->P (.lst (acc++xs.filterMap G)) env->lcGo g c f js P xs env acc
 | [],acc,_,_,k=>by simpa [lcGo] using k
 | x::xs,acc,h,hl,k=>by
  have hl':acc.length+xs.length+1<=100000:=by simpa [Nat.add_assoc] using hl
  have hm:∀ {a b:Prop},(a->b)->a->b:=fun h=>h
  have:=h x (by simp) (fun o e=>(match o with | some y=>acc.length<=100000/\lcGo g c f js P xs e (acc++[y]) | none=>lcGo g c f js P xs e acc)) (by
   cases e:G x with
   | none =>
    refine cv G (fun y hy=>h y (by simp [hy])) (by omega) ?_
    simpa [List.filterMap_cons,e] using k
   | some y =>
    refine ⟨by omega,cv G (fun y hy=>h y (by simp [hy])) (by simp; omega) ?_⟩
    simpa [List.filterMap_cons,e] using k)
  exact this
theorem b9 {g:WG} {f:WE} {js:List (Option Nat)} {P:PV->En->Prop} {env:En} (G:PV->PV):∀ {xs acc:List PV},(∀ x∈xs,∀ R:PV->En->Prop,R (G x) env->g x (capE js env) fun b1=>f b1 fun y b3=>R y (backE js env b3))->acc.length+xs.length<=100000->P (.lst (acc++xs.map G)) env->lcGo g tYs f js P xs env acc
 | [],acc,_,_,k=>by simpa [lcGo] using k
 | x::xs,acc,h,hl,k=>by
  have hl':acc.length+xs.length+1<=100000:=by simpa [Nat.add_assoc] using hl
  simp only [lcGo,tYs,if_true]
  exact h x (by simp) (fun y e=>acc.length<=100000/\lcGo g tYs f js P xs e (acc++[y])) ⟨by omega,b9 G (fun y hy=>h y (by simp [hy])) (by simp; omega) (by simpa using k)⟩
theorem bE {g:WG} {b:WS} {P:Wd} (I:Nat->En->Prop):∀ {xs:List PV} {i:Nat} {env:En},I i env->(∀ (j:Nat) (x:PV) (e:En) (N:En->Prop),xs[j]?=some x->I (i+j) e->(∀ e',I (i+j+1) e'->N e')->g x e fun e1=>b { P with nx:=N,ct:=N,bk:=P.nx } e1)->(∀ e,I (i+xs.length) e->P.nx e)->forGo g b P xs env
 | [],i,env,h0,_,hd=>hd env (by simpa using h0)
 | x::xs,i,env,h0,hs,hd=>hs 0 x env (forGo g b P xs) rfl h0 fun e' h'=>bE I (i:=i+1) h' (fun j y e N hj hI k=>hs (j+1) y e N (by simpa using hj) (by rwa [Nat.add_assoc,Nat.add_comm 1 j] at hI) fun e' h=>k e' (by rwa [Nat.add_assoc i 1 j,Nat.add_comm 1 j])) fun e h=>hd e (by rwa [List.length_cons,Nat.add_comm xs.length 1,<- Nat.add_assoc])
theorem oI:∀ (bs:List Bool),(bs.map PV.bl).mapM blPV=some bs
 | []=>rfl
 | b::bs=>by
  rw [List.map_cons,List.mapM_cons,oI bs]; rfl
theorem qZ (bs:List Bool):allPV [.lst (bs.map .bl)]=some (.bl (bs.all id)):=by
 show ((bs.map PV.bl).mapM blPV).map _=_
 rw [oI]; rfl
theorem au {a b:WS} {P:Wd} {env:En} (h:∀ N:En->Prop,N=b P->a { P with nx:=N } env):sSeq a b P env:=h _ rfl
theorem cx {it:WA} {g:WG} {b:WS} {P:Wd} {env:En} (h:∀ (G:WG) (B:WS),G=g->B=b->it env fun xs e=>forGo G B P xs e):sFor it g b P env:=h _ _ rfl rfl
theorem vG {s:Sl}:(some (some s):Option (Option Sl)).join.isSome=true:=rfl
theorem mApp {zs:List PV} {x:PV} (h:zs.length<=100000):bv zs [x]=some (.non,zs++[x]):=if_pos h
section
variable {ob:ObK} {X:Cx} {k:Nat} {fad:Addr} {fd:FuncData} {ps:List Str} {x y:Str} {p p1 pos pos':Pos}
end
end Q
set_option hygiene false in
local macro_rules | `(tactic| lia)=>`(tactic| simp only [Q.run,Q.runO,Q.startE,Q.endD,Q.endO,Q.ob0,Q.sSeq,Q.sIf,Q.sRet,Q.sNil,Q.sSet,Q.sSetO,Q.sDrop,Q.sAsg,Q.tOr,Q.tAnd,Q.tNot,Q.tTru,Q.tBool,Q.eIsi,Q.eUn,Q.eOp,Q.eCB,Q.eC,Q.eV,Q.eVW,Q.a1,Q.aNil,Q.aCons,Q.eChain,Q.eAnd,Q.eOr,Q.eNot,Q.eTup,Q.eLst,Q.eLC,Q.iStrP,Q.iS,Q.iZE,Q.eSl,Q.oNone,Q.oSome,Q.eCall,Q.isiPV,Q.tyPV,Q.isaP,Q.lenPV,Q.lePV,Q.ltPV,Q.gtPV,Q.truPV,Q.blPV,Q.bQ,Q.rZ,List.map_cons,List.map_nil,List.replicate,List.cons_append,List.nil_append,List.length_cons,List.length_nil,List.getElem?_cons_zero,List.getElem?_cons_succ,List.set_cons_zero,List.set_cons_succ,Option.map_some,if_true,Bool.not_true,Bool.not_false,Bool.false_eq_true,if_false,decide_true,decide_false,ite_true,ite_false,Q.tgW,Q.gT,Q.gN,Q.gsCons,Q.gsNil,Q.intPV,Q.slPV,String.reduceBEq,Bool.false_and,Bool.or_false,Bool.false_or,Bool.true_or,Bool.and_true,Bool.true_and,Nat.reduceAdd,Nat.reduceSub,Q.eCallO,Q.vG,true_and,Q.eLM,Q.negPV,Q.iR1,Q.iR2])
namespace Q
open PySem L2 PyProof.Rows
section
variable {ob:ObK} {X:Cx} {iter:Expr} {scope:Scope} {pos p1 p2 p3:Pos} {fi:WA} {x t:Str}
theorem pj (i:Nat) {y:Str} {py spos:Pos} (hN:X.N.Nodup) (hy:X.N[i]?=some y) (hl:X.env.scope.names.lookup y=some .local) (hi:EvI ob X (.Name t p1) iter fi) (hg:∀ C s₀ H₀ ex pn,PG (cxComp X scope [t] C s₀ H₀ ex pn) (.Name t p1) (gName 0)) (hk:∀ C s₀ H₀ ex pn,PE (cxComp X scope [t] C s₀ H₀ ex pn) (.Name t p2) (tVar 0))
  (hob:autoParam (ob=obG X.K) Z2._auto_1)
  (hsw:autoParam (swapsWith (.DictComp (.Name t p2) (.List [] p3) [⟨.Name t p1,iter,[],0⟩] scope pos) (some (.Name y py)) spos.line X.env=pure true) Z2._auto_1)
  (hc:autoParam (X.calm=true) Z2._auto_1) (hx:autoParam (X.xe=(fun _ _=>False)) Z2._auto_1) (hsc:autoParam (scOk X.env scope=true) Z2._auto_1) (hcap:autoParam (capOk X.N scope [t] [none]=true) Z2._auto_1) (hkind:autoParam (scope.kind=.function) Z2._auto_1) (hs:autoParam (∀ x,foldedSetIterable iter X.env x=pure x) Z3._auto_1) :
  EvX ob X (.Assign [.Name y py] (.DictComp (.Name t p2) (.List [] p3) [⟨.Name t p1,iter,[],0⟩] scope pos) spos) (jE i fi):=by
 subst hob
 exact qK i hN hy hl hi hg hk hsw hc hx hsc hcap hkind hs
theorem je (i:Nat) {ke e:Expr} {fk fv:WE} {px ps apos cpos spos:Pos} (hu:X.A.units+1<cLine) (ho:PE X (.Name x px) (tVar i)) (hk:EvS ob X ke fk) (hv:EvS ob X e fv) (hob:autoParam (ob=obG X.K) Z2._auto_1) (hns:autoParam (NoSl ke) Z6._auto_1)
  (hbase:autoParam (attributeBase (.Subscript (.Name x px) ke ps) "append" X.env (eval (.Subscript (.Name x px) ke ps) X.env)=eval (.Subscript (.Name x px) ke ps) X.env) Z2._auto_1)
  (hfew:autoParam (((backTo cpos (starEach [e] X.env)).all (fun x=>!x.1) && (backToKw cpos (keywordEach [] X.env)).all (fun x=>x.1.isSome)
   && decide ([e].length+([]:List Keyword).length+(if ([]:List Keyword).isEmpty then 0 else 1)<30))=true) Z2._auto_1)
  (hline:autoParam ((apos.endLine==cpos.line)=true) Z2._auto_1) (hst:autoParam (starEach [e] X.env=(false,eval e X.env)::starEach [] X.env) Z2._auto_1) (hplain:autoParam ((backTo cpos (starEach [] X.env)).any (·.1)=false) Z2._auto_1)
  (hs:autoParam (swapsWith (.Call (.Attribute (.Subscript (.Name x px) ke ps) "append" apos) [e] [] cpos) none spos.line X.env=pure false) Z2._auto_1) :
  EvX ob X (.Expr (.Call (.Attribute (.Subscript (.Name x px) ke ps) "append" apos) [e] [] cpos) spos) (dR i fk fv):=by
 subst hob
 exact qL i hu ho hk hv hns hbase hfew hline hst hplain hs
end
section
variable {P:Program} {w:World} {K:PySem.W.Frag} {mg:Str->Option Value} {base:Heap} {ob:ObK} {k:Nat} {fad:Addr} {fd:FuncData} {ps:List Str}
theorem uz {n:Nat} {D D':Fd} (F:FnOk P w K mg base CX0 k fad fd ps (spF ⟨P,w,K,ob⟩ n D)) (h:∀ xs P,D' xs P->D xs P):FnOk P w K mg base CX0 k fad fd ps (spF ⟨P,w,K,ob⟩ n D') :=
 F.imp fun vs H Q E ⟨F,xs,P,a,b,c,d,e⟩=>⟨F,xs,P,a,b,c,h _ _ d,e⟩
theorem sC {n:Nat} {D D':FdO} (F:FnOk P w K mg base CX0 k fad fd ps (spOF ⟨P,w,K,ob⟩ n D)) (h:∀ c xs P,D' c xs P->D c xs P):FnOk P w K mg base CX0 k fad fd ps (spOF ⟨P,w,K,ob⟩ n D') :=
 F.imp fun vs H Q E q=>by
  obtain ⟨F,a,l,c,ws,xs,P,a1,a2,a3,a4,a5,a6,a7,a8⟩:=q
  exact ⟨F,a,l,c,ws,xs,P,a1,a2,a3,a4,a5,a6,h _ _ _ a7,a8⟩
end
end Q
namespace Q
open PySem L2
theorem fV {c:WT} {b:WS} {P:Wd} (I:Nat->En->Prop) (step:∀ (k:Nat) (e:En) (N:En->Prop),I k e->(∀ k' e',k'<k->I k' e'->N e')->c e fun v e1=>if v=true then b { P with nx:=N,ct:=N,bk:=P.nx } e1 else P.nx e1) {k:Nat} {env:En} (h:I k env):sWhile c b P env:=by
 refine ⟨k+1,?_⟩
 have aux:∀ n k env,k<n->I k env->whGo c b P n env:=by
  intro n
  induction n with
  | zero=>intro k env h _; omega
  | succ n ih=>intro k env hk hI; exact step k env (whGo c b P n) hI fun k' e' h1 h2=>ih k' e' (by omega) h2
 exact aux _ k env (by omega) h
theorem er {c:WT} {a b:WS} {P:Wd} {env:En} (h:∀ (A B:WS),A=a->B=b->c env fun k e=>if k=true then A P e else B P e):sIf c a b P env:=h _ _ rfl rfl
theorem fN {c:WT} {b:WS} {P:Wd} {env:En} (h:∀ (C:WT) (B:WS),C=c->B=b->sWhile C B P env):sWhile c b P env:=h _ _ rfl rfl
theorem bF {α:Type} {f:α->Str} {g:α->PV}:∀ {l:List α} {a:α},(l.map f).Nodup->a∈l->valP (l.map fun x=>((Sum.inr (f x):Key),g x)) (Sum.inr (f a))=some (g a)
 | b::l,a,nd,h=>by
  unfold valP
  rw [List.map_cons,List.find?_cons]
  rw [List.map_cons,List.nodup_cons] at nd
  rcases List.mem_cons.mp h with rfl | h
  ·simp
  ·have hne:f b≠f a:=fun e=>nd.1 (by rw [e]; exact List.mem_map_of_mem h)
   have:decide ((Sum.inr (f b):Key)=Sum.inr (f a))=false:=by simp [hne]
   simp only [this]
   exact bF nd.2 h
theorem kj {α:Type} {f:α->Str} {g:α->PV}:∀ {l:List α} {y:Str},y∉l.map f->valP (l.map fun x=>((Sum.inr (f x):Key),g x)) (Sum.inr y)=none
 | [],_,_=>rfl
 | b::l,y,h=>by
  rw [List.map_cons,List.mem_cons,not_or] at h
  unfold valP
  rw [List.map_cons,List.find?_cons]
  have:decide ((Sum.inr (f b):Key)=Sum.inr y)=false:=by simp; exact fun e=>h.1 e.symm
  simp only [this]
  exact kj h.2
theorem io {α:Type} {f:α->Str} {g:α->PV} {l:List α} {y:Str} {v:PV} (h:y∉l.map f):putP (l.map fun x=>((Sum.inr (f x):Key),g x)) (Sum.inr y) v=(l.map fun x=>((Sum.inr (f x):Key),g x))++[(Sum.inr y,v)]:=by
 unfold putP
 rw [if_neg]
 rw [List.any_map]
 intro z
 rw [List.any_eq_true] at z
 obtain ⟨x,hx,e⟩:=z
 simp at e
 exact h (by rw [<- e]; exact List.mem_map_of_mem hx)
theorem ub {ys:List Str} {x:Str}:(ys.map PV.str).mapM (fun y=>eqPV 60 y (.str x))=some (ys.map fun y=>y==x):=by
 induction ys with
 | nil=>rfl
 | cons y ys ih =>
  rw [List.map_cons,List.mapM_cons,ih]
  rfl
theorem jS {ys:List Str} {x:Str}:inB (.str x) (.tup (ys.map .str))=some (decide (x∈ys)):=by
 show ((ys.map PV.str).mapM (fun y=>eqPV 60 y (.str x))).map (fun ks=>ks.any id)=_
 rw [ub]
 show some ((ys.map fun y=>y==x).any id)=_
 congr 1
 rw [List.any_map,Bool.eq_iff_iff,List.any_eq_true]
 simp
theorem sm {ys:List Str} {x:Str}:inB (.str x) (.lst (ys.map .str))=some (decide (x∈ys)):=jS
theorem ce {ys:List Str} {x:Str}:inPV (.str x) (.tup (ys.map .str))=some (.bl (decide (x∈ys))):=by
 show (inB _ _).map _=_
 rw [jS]; rfl
theorem ph {ys:List Str} {x:Str}:inPV (.str x) (.lst (ys.map .str))=some (.bl (decide (x∈ys))):=by
 show (inB _ _).map _=_
 rw [sm]; rfl
end Q
namespace L2
open PySem PySem.Spec PyProof.Rows
section
variable {X:Cx}
end
end L2
namespace Q
open PySem L2 PyProof.Rows
section
variable {ob:ObK} {X:Cx} {a b c e:Expr} {es:List Expr} {f g h:WE} {fa:WA} {pos p p1:Pos} {x:Str}
end
end Q
namespace Q
open PySem L2 PyProof.Rows
noncomputable def fstS:PV->Option Str
 | .tup (.str s::_)=>some s
 | _=>none
noncomputable def eSortR (fa:WA):WE:=fun env P=>fa env fun xs e=>match xs with
 | [.lst ys]=>∃ nm:List Str,ys.mapM fstS=some nm/\nm.Nodup/\ys.length<64/\∀ ix:List Nat,ix.length=ys.length->(∀ i∈ix,i<ys.length)->(ix.map fun i=>nm.getD i ⟨#[]⟩).Pairwise ltS->P (.lst (ix.map fun i=>ys.getD i .non)) e
 | _=>False
theorem ux {K:PySem.W.Frag} {F H:Hp} (sF:Same F H) {v:V} {y:PV} {x:Str} (r:Rep K F v y) (h:fstS y=some x):∃ a t,v=.ref a/\SqT K H a (.str x::t):=by
 unfold fstS at h
 split at h
 ·cases h
  cases r with
  | tup h1 h2=>cases h2 with
   | cons r1 r2=>cases r1; exact ⟨_,_,rfl,az sF h1⟩
 ·cases h
theorem fZ {K:PySem.W.Frag} {F:Hp} {vs:List V} {ys:List PV} (r:Reps K F vs ys):∀ ix:List Nat,(∀ i∈ix,i<ys.length)->Reps K F (ix.map fun i=>vs.getD i .non) (ix.map fun i=>ys.getD i .non)
 | [],_=>.nil
 | i::ix,h=>by
  refine .cons ?_ (fZ r ix fun j hj=>h j (List.mem_cons_of_mem _ hj))
  have hi:=h i List.mem_cons_self
  obtain ⟨v,hv,rv⟩:=r.get (List.getElem?_eq_getElem hi)
  show Rep K F (vs.getD i .non) (ys.getD i .non)
  rw [List.getD_eq_getElem?_getD,List.getD_eq_getElem?_getD,hv,List.getElem?_eq_getElem hi]
  exact rv
section
variable {ob:ObK} {X:Cx} {e:Expr} {es:List Expr} {fa:WA} {pos p:Pos}
theorem sD (hg:Gl X "sorted") (hm:X.mg "sorted" = none) (ha:EvAW ob X (e::es) fa)
  (he:autoParam (starEach (e::es) X.env=(false,eval e X.env)::starEach es X.env) Z2._auto_1) (hpl:autoParam ((backTo pos (starEach es X.env)).any (·.1)=false) Z2._auto_1):EvF ob X (.Call (.Name "sorted" p) (e::es) [] pos) (eSortR fa):=by
 obtain ⟨t,ht,k⟩:=ha.ex
 refine ⟨_,b8 pB hg hm boot_sorted ht (by decide) (by decide) he hpl,fun Z F σ H env P Q K hf kk=>k Z F σ H env _ _ K hf fun xs e1 vs F1 H1 p s1 K1 r1=>?_⟩
 split at p
 ·obtain ⟨nm,hs,nd,hl,p⟩:=p
  obtain ⟨v,rfl,r⟩:=r1.one
  obtain ⟨q,vs,rfl,h1,h2⟩:=r.lst K1.sF
  have g1:=(bo hs).1
  have hlen:=h2.len
  refine ⟨q,vs,nm,rfl,.inl (.inl h1),by omega,⟨by omega,fun i v x hv hx=>?_,nd⟩,fun l ix hn i1 i2 i3 i4=>?_⟩
  ·obtain ⟨y,hy,ry⟩:=h2.getV hv
   obtain ⟨y',e1,e2⟩:=mj hs i x hx
   rw [hy] at e1; cases e1
   exact ux K1.sF ry e2
  ·exact kk _ e1 _ F1 _ (p ix (by omega) (fun i hi=>by have:=i3 i hi; omega) i4) s1 (fun _=>by simp) (K1.own hn ⟨_,am,fZ h2 ix fun i hi=>by have:=i3 i hi; omega⟩)
 ·exact p.elim
end
end Q
namespace L2
open PySem PySem.Spec PyProof.Rows
section
variable {prog:Program} {w:World} {A:Around} {E:Value->Shared->Prop} {s:Shared}
end
end L2
namespace L2
open PySem PySem.Spec PyProof.Rows
section
variable {X:Cx}
theorem gR:CallR X (.type "int") (fun xs H Q=>∃ b:Bool,xs=[.bl b]/\Q (.int (if b then 1 else 0)) H):=by
 intro pins s σ H xs us Q I r h
 obtain ⟨b,rfl,q⟩:=h
 obtain ⟨u,rfl,ru⟩:=r.one
 cases ru
 exact call_int_bool ⟨.int _,H,I.tok _,⟨_,rfl⟩,q⟩
end
end L2
namespace Q
open PySem L2 PyProof.Rows
noncomputable def intBP:List PV->Option PV
 | [.bl b]=>some (.int (if b then 1 else 0))
 | _=>none
section
variable {ob:ObK} {X:Cx} {a b c e:Expr} {es:List Expr} {f g h:WE} {fa:WA} {pos pos2 p p1 p2:Pos} {x:Str}
theorem jY:CallQ ob X (fun xs H Q=>∃ b:Bool,xs=[.bl b]/\Q (.int (if b then 1 else 0)) H) intBP:=by
 intro Z F σ H env vs xs z Q K rv hz k
 unfold intBP at hz
 split at hz
 ·cases hz
  obtain ⟨v,rfl,r⟩:=rv.one
  rw [r.bl]
  exact ⟨_,rfl,k _ F H ao K (.int _)⟩
 ·cases hz
end
end Q
namespace L2
open PySem PySem.Spec PyProof.Rows PySem.W
noncomputable def PairAt (h:Heap) (a:Addr) (k:Int×Str):Prop:=∃ o n t u,h.get? a=some o/\o.cls=.type "tuple" /\ o.data=.seq #[.int k.1 t,.str k.2 u] n
theorem PairAt.mono {h h':Heap} {a:Addr} {k:Int×Str} (x:PairAt h a k) (g:∀ o,h.get? a=some o->h'.get? a=some o):PairAt h' a k:=by
 obtain ⟨o,n,t,u,e,r⟩:=x
 exact ⟨o,n,t,u,g o e,r⟩
noncomputable def ltK (ks:List (Int×Str)) (i j:Nat):Bool:=decide ((ks.getD i (0,⟨#[]⟩)).1<(ks.getD j (0,⟨#[]⟩)).1\/((ks.getD i (0,⟨#[]⟩)).1=(ks.getD j (0,⟨#[]⟩)).1/\ltS (ks.getD i (0,⟨#[]⟩)).2 (ks.getD j (0,⟨#[]⟩)).2))
theorem nW {ks:List (Int×Str)} (nd:(ks.map (·.2)).Nodup):Srt.Ord (ltK ks) ks.length:=by
 have inj:∀ i j,i<ks.length->j<ks.length->(ks.getD i (0,⟨#[]⟩)).2=(ks.getD j (0,⟨#[]⟩)).2->i=j:=fun i j hi hj e=>by
  have a:(ks.map (·.2))[i]'(by simpa using hi)=(ks.map (·.2))[j]'(by simpa using hj):=by
   rw [List.getElem_map,List.getElem_map]
   rw [List.getD_eq_getElem?_getD,List.getD_eq_getElem?_getD,List.getElem?_eq_getElem hi,List.getElem?_eq_getElem hj] at e
   exact e
  exact (List.getElem_inj nd).mp a
 refine ⟨fun i _=>?_,fun i j k _ _ _ a b=>?_,fun i j hi hj ne e=>?_⟩
 ·unfold ltK
  rw [decide_eq_false_iff_not]
  rintro (h | ⟨_,h⟩)
  ·omega
  ·exact List.lt_irrefl _ h
 ·have a:=of_decide_eq_true a
  have b:=of_decide_eq_true b
  refine decide_eq_true ?_
  rcases a with a | ⟨a1,a2⟩ <;> rcases b with b | ⟨b1,b2⟩
  ·exact .inl (by omega)
  ·exact .inl (by omega)
  ·exact .inl (by omega)
  ·exact .inr ⟨by omega,List.lt_trans a2 b2⟩
 ·have e:=of_decide_eq_false e
  rw [not_or] at e
  refine decide_eq_true ?_
  rcases Int.lt_trichotomy (ks.getD i (0,⟨#[]⟩)).1 (ks.getD j (0,⟨#[]⟩)).1 with z | z | z
  ·exact absurd z e.1
  ·refine .inr ⟨z.symm,?_⟩
   have e2:¬ ltS (ks.getD i (0,⟨#[]⟩)).2 (ks.getD j (0,⟨#[]⟩)).2:=fun h=>e.2 ⟨z,h⟩
   unfold ltS at e2 ⊢
   rcases List.le_iff_lt_or_eq.mp (List.not_lt.mp e2) with q | q
   ·exact q
   ·exfalso
    refine ne (inj i j hi hj ?_)
    generalize (ks.getD i (0,⟨#[]⟩)).2=x at q ⊢
    generalize (ks.getD j (0,⟨#[]⟩)).2=y at q ⊢
    obtain ⟨x⟩:=x
    obtain ⟨y⟩:=y
    exact congrArg Str.mk (Array.toList_inj.mp q.symm)
  ·exact .inl z
section
variable {prog:Program} {w:World} {A:Around} {E:Value->Shared->Prop} {s:Shared}
theorem tT {x y:Addr} {k l:Int×Str} {Q:Bool->Shared->Prop} (hx:PairAt s.heap x k) (hy:PairAt s.heap y l) (hne:k.2≠l.2) (h:Q (decide (k.1<l.1\/(k.1=l.1/\ltS k.2 l.2))) s):wpAny (model prog w) A (keyLt' (tuples' true) (.ref x) (.ref y)) Q E s:=by
 obtain ⟨ox,n,t,u,e1,_,e2⟩:=hx
 obtain ⟨oy,n',t',u',f1,_,f2⟩:=hy
 refine kat_lt e1 e2 f1 f2 ?_
 refine kat_cons (wpAny_eqBool_int ?_)
 by_cases e:k.1=l.1
 ·rw [show (k.1==l.1)=true by simp [e]]
  refine kat_yes (kat_cons (wpAny_eqBool_str ?_))
  rw [decide_eq_false hne]
  refine kat_no ?_
  show wpAny _ _ (oneLt' false _ _) _ _ _
  refine kat_one _ _ (lt_str ?_)
  have:decide (k.1<l.1\/(k.1=l.1/\ltS k.2 l.2))=decide (k.2.cps.toList<l.2.cps.toList):=by
   rw [Bool.eq_iff_iff,decide_eq_true_eq,decide_eq_true_eq]
   constructor
   ·rintro (z | ⟨_,z⟩)
    ·omega
    ·exact z
   ·intro z; exact .inr ⟨e,z⟩
  rw [this] at h
  exact h
 ·rw [show (k.1==l.1)=false by simp [e]]
  refine kat_no ?_
  show wpAny _ _ (oneLt' true _ _) _ _ _
  refine oneLt_int ?_
  have:decide (k.1<l.1\/(k.1=l.1/\ltS k.2 l.2))=decide (k.1<l.1):=by
   rw [Bool.eq_iff_iff,decide_eq_true_eq,decide_eq_true_eq]
   exact ⟨fun z=>z.elim id fun q=>absurd q.1 e,.inl⟩
  rw [this] at h
  exact h
theorem n6 {a kS:Addr} {e e1 n:Nat} {keys:Array Value} {st:SortSt} {out:List Value} {P:PySem.Fin->Shared->Prop} (hk:s.heap.get? kS=some (seqObj "list" keys e)) (ha:s.heap.get? a=some (seqObj "list" #[] e1)) (hne:kS≠a) (hkz:keys.size<=100)
  (ho:(arrOf st).map (·.2)=out.toArray) (hf:failedOf st=none) (hz:out.length<=100)
  (h:∀ (h':Heap) (c:Nat),h'.get? a=some (seqObj "list" out.toArray c)->(∀ b o,b≠a->b≠kS->s.heap.get? b=some o->h'.get? b=some o)->P (.done (.ret .none)) { s with heap:=h' }) :
  wpAny (model prog w) A (ksk_tail a false e1 (.ref kS) st) P E s:=by
 have s1:=Heap.SameBut.update s.heap kS (Obj.mapSeq fun _=>(#[]:Array Value))
 have ha1:(s.heap.update kS (Obj.mapSeq fun _=>(#[]:Array Value))).get? a=some (seqObj "list" #[] e1):=(s1.2 a hne.symm).trans ha
 unfold ksk_tail
 dsimp only
 rw [ho]
 refine wpAny_bind (listUpdate_at hk rfl ?_ (by rw [sizeLine_eq]; omega) (Nat.zero_le _))
 refine wpAny_bind (wpAny_letGo ?_)
 refine wpAny_bind (seqEpoch_at ha1 rfl ?_)
 refine wpAny_bind (listUpdate_at ha1 rfl ?_ (Nat.zero_le _) (by simp only [Bool.false_eq_true,if_false,List.size_toArray]; rw [sizeLine_eq]; omega))
 rw [hf]
 simp only [bne_self_eq_false,Bool.false_eq_true,if_false]
 have s2:=Heap.SameBut.update (s.heap.update kS (Obj.mapSeq fun _=>(#[]:Array Value))) a (Obj.mapSeq fun _=>out.toArray)
 exact wpAny_pure (h _ _ (get?_update_seq ha1 fun _=>out.toArray) fun b o h1 h2 g=>(s2.2 b h1).trans ((s1.2 b h2).trans g))
theorem kF {h:Heap}:∀ ad:List Addr,(∀ a∈ad,∃ k,PairAt h a k)->∃ fs:List Value,KatTups h (ad.map Value.ref) fs/\fs.length=ad.length/\∀ v∈fs,∃ c t,v=.int c t
 | [],_=>⟨[],trivial,rfl,fun _ z=>by simp at z⟩
 | a::ad,hp=>by
  obtain ⟨fs,h1,h2,h3⟩:=kF ad fun b hb=>hp b (List.mem_cons_of_mem _ hb)
  obtain ⟨k,o,n,t,u,e1,e2,e3⟩:=hp a List.mem_cons_self
  refine ⟨.int k.1 t::fs,⟨⟨a,o,_,n,rfl,e1,e2,e3,rfl⟩,h1⟩,by simp [h2],fun v hv=>?_⟩
  rcases List.mem_cons.mp hv with rfl | hv
  ·exact ⟨_,_,rfl⟩
  ·exact h3 v hv
theorem jO {ad:List Addr} {vs:List Value} (hl:ad.length=vs.length) {i:Nat} (hi:i<vs.length):kas_item ((ad.map Value.ref).toArray.zip vs.toArray) i=(.ref (ad.getD i 0),vs.getD i Value.none):=by
 unfold kas_item
 have hi':i<ad.length:=by omega
 have hz:i<((ad.map Value.ref).toArray.zip vs.toArray).size:=by rw [Array.size_zip,List.size_toArray,List.size_toArray,List.length_map]; omega
 rw [Array.getD,dif_pos hz]
 show ((ad.map Value.ref).toArray.zip vs.toArray)[i]=_
 rw [Array.getElem_zip,List.getElem_toArray,List.getElem_toArray,List.getElem_map,List.getD_eq_getElem?_getD,List.getD_eq_getElem?_getD,List.getElem?_eq_getElem hi',List.getElem?_eq_getElem hi]
 rfl
theorem vz {a kS:Addr} {e e1:Nat} {vs:List Value} {ad:List Addr} {ks:List (Int×Str)} {P:PySem.Fin->Shared->Prop} (hk:s.heap.get? kS=some (seqObj "list" (ad.map Value.ref).toArray e)) (ha:s.heap.get? a=some (seqObj "list" #[] e1)) (hne:kS≠a)
  (l1:ad.length=vs.length) (l2:ks.length=vs.length) (h64:vs.length<64) (nd:(ks.map (·.2)).Nodup) (hp:∀ i,i<vs.length->PairAt s.heap (ad.getD i 0) (ks.getD i (0,⟨#[]⟩)))
  (h:∀ (h':Heap) (c:Nat) (ix:List Nat),ix.length=vs.length->ix.Nodup->(∀ i∈ix,i<vs.length)->ix.Pairwise (fun i j=>ltK ks i j=true)->h'.get? a=some (seqObj "list" (ix.map fun i=>vs.getD i Value.none).toArray c)->(∀ b o,b≠a->b≠kS->s.heap.get? b=some o->h'.get? b=some o)->P (.done (.ret .none)) { s with heap:=h' }) :
  wpAny (model prog w) A (ksk_end a false vs.toArray e1 (.ref kS) (ad.map Value.ref).toArray) P E s:=by
 have kz:(ad.map Value.ref).toArray.size<=100:=by rw [List.size_toArray,List.length_map]; omega
 unfold ksk_end
 dsimp only
 simp only [Bool.false_eq_true,if_false]
 by_cases h2:vs.toArray.size<2
 ·rw [if_pos h2,if_pos h2]
  rw [List.size_toArray] at h2
  refine wpAny_bind (wpAny_pure ?_)
  rw [StateT.run_pure]
  refine wpAny_bind (wpAny_pure ?_)
  dsimp only
  have ei:(List.range vs.length).map (fun i=>vs.getD i Value.none)=vs:=by
   apply List.ext_getElem?
   intro i
   rw [List.getElem?_map]
   by_cases hi:i<vs.length
   ·rw [List.getElem?_range hi]; simp [hi]
   ·rw [List.getElem?_eq_none (by simpa using hi),List.getElem?_eq_none (by omega)]; rfl
  refine n6 (st:=SortSt.mk' general' ((ad.map Value.ref).toArray.zip vs.toArray) #[] 7 none) (out:=vs) (n:=0) hk ha hne kz ?_ rfl (by omega) fun h' c g1 g2=>?_
  ·apply Array.toList_inj.mp
   show (((ad.map Value.ref).toArray.zip vs.toArray).map (·.2)).toList=vs
   rw [Array.toList_map,Array.toList_zip]
   show ((ad.map Value.ref).zip vs).map (·.2)=vs
   exact List.map_snd_zip (by rw [List.length_map]; omega)
  ·refine h h' c (List.range vs.length) (by simp) List.nodup_range (fun i hi=>List.mem_range.mp hi) ?_ (by rw [ei]; exact g1) g2
   match hv:vs.length,h2 with
   | 0,_=>simp
   | 1,_=>simp [List.range_succ]
 ·rw [if_neg h2,if_neg h2]
  rw [List.size_toArray] at h2
  obtain ⟨fs,f1,f2,f3⟩:=kF ad fun b hb=>by
   obtain ⟨i,hi,rfl⟩:=List.mem_iff_getElem.mp hb
   have:=hp i (by omega)
   rw [List.getD_eq_getElem?_getD,List.getElem?_eq_getElem hi] at this
   exact ⟨_,this⟩
  refine wpAny_bind (kat_kind (T:=.type "int") f1 (by omega) (fun v hv=>?_) rfl ?_)
  ·obtain ⟨c,t,rfl⟩:=f3 v hv
   exact Looks.of_pure rfl
  have hT:((Value.type "int") != (Value.type "tuple"))=true:=by decide
  rw [hT]
  have isz:((ad.map Value.ref).toArray.zip vs.toArray).size=vs.length:=by rw [Array.size_zip,List.size_toArray,List.size_toArray,List.length_map]; omega
  have est:SortSt.mk' (tuples' true) ((ad.map Value.ref).toArray.zip vs.toArray) #[] 7 none=kas_st (tuples' true) ((ad.map Value.ref).toArray.zip vs.toArray) (List.toArray (List.range vs.length)):=by
   have q:=kas_range ((ad.map Value.ref).toArray.zip vs.toArray)
   rw [isz] at q
   show _=SortSt.mk' (tuples' true) ((List.toArray (List.range vs.length)).map (kas_item _)) #[] 7 none
   rw [q]
  have o:Srt.Ord (ltK ks) vs.length:=l2 ▸ nW nd
  have snd_ne:∀ i j,i<vs.length->j<vs.length->i≠j->(ks.getD i (0,⟨#[]⟩)).2≠(ks.getD j (0,⟨#[]⟩)).2:=fun i j hi hj ne q=>by
   have a:(ks.map (·.2))[i]'(by rw [List.length_map]; omega)=(ks.map (·.2))[j]'(by rw [List.length_map]; omega):=by
    rw [List.getElem_map,List.getElem_map]
    rw [List.getD_eq_getElem?_getD,List.getD_eq_getElem?_getD,List.getElem?_eq_getElem (by omega),List.getElem?_eq_getElem (by omega)] at q
    exact q
   exact ne ((List.getElem_inj nd).mp a)
  have ask:(kas_sort vs.length).kasWp (kas_cmp prog w A (tuples' true) ((ad.map Value.ref).toArray.zip vs.toArray)) (fun p z=>z=s/\Srt.Pm p vs.length/\Srt.Asc (ltK ks) p vs.length) s:=by
   refine Srt.pw_wp (lt:=ltK ks) (n:=vs.length) (Q:=fun p=>Srt.Pm p vs.length/\Srt.Asc (ltK ks) p vs.length) (J:=fun z=>z=s) ?_ (fun p z hz q=>⟨hz,q⟩) (kas_sort vs.length) _ rfl (Srt.jz o (by omega) fun p a b=>⟨a,b⟩)
   rintro i j C z hi hj ne rfl hC
   show wpAny _ _ (keyLt' (tuples' true) (kas_item _ i).1 (kas_item _ j).1) _ _ _
   rw [jO l1 hi,jO l1 hj]
   exact tT (hp i hi) (hp j hj) (snd_ne i j hi hj ne) (hC _ rfl)
  have run:=kas_runs (E:=E) (Q:=fun _ st' z=>∃ p:Array Nat,p.size=vs.length/\arrOf st'=p.map (kas_item ((ad.map Value.ref).toArray.zip vs.toArray))/\failedOf st'=none/\z=s/\Srt.Pm p vs.length/\Srt.Asc (ltK ks) p vs.length)
   (by omega) h64 (fun p' st' z a1 a2 a3 a4=>⟨p',a1,a2,a3,a4⟩) ask
  rw [<- est] at run
  refine wpAny_bind (wpAny_mono run ?_ fun _ _ q=>q)
  rintro ⟨⟨⟩,st'⟩ z ⟨p,psz,har,hf,rfl,Pm,As⟩
  dsimp only
  have hlt:∀ i∈p.toList,i<vs.length:=fun i hi=>by
   obtain ⟨j,hj,rfl⟩:=Array.mem_iff_getElem.mp (Array.mem_toList_iff.mp hi)
   have:=Pm.lt j (by rw [<- Pm.sz]; exact hj)
   rw [Srt.aP] at this
   simpa only [Array.getElem?_eq_getElem hj,Option.getD_some] using this
  refine n6 (st:=st') (out:=p.toList.map fun i=>vs.getD i Value.none) (n:=0) hk ha hne kz ?_ hf (by rw [List.length_map,Array.length_toList,psz]; omega) fun h' c g1 g2=>h h' c p.toList (by rw [Array.length_toList,psz]) ?_ hlt ?_ g1 g2
  ·apply Array.toList_inj.mp
   rw [har,Array.map_map,Array.toList_map]
   exact List.map_congr_left fun i hi=>by show (kas_item _ i).2=_; rw [jO l1 (hlt i hi)]
  ·rw [List.nodup_iff_pairwise_ne,List.pairwise_iff_getElem]
   intro i j hi hj hij q
   have hi':i<p.size:=by simpa using hi
   have hj':j<p.size:=by simpa using hj
   have:=Pm.nd i j (by rw [<- Pm.sz]; exact hi') (by rw [<- Pm.sz]; exact hj') (by rw [Srt.aP,Srt.aP]; simpa [hi',hj'] using q)
   omega
  ·rw [List.pairwise_iff_getElem]
   intro i j hi hj hij
   have hi':i<p.size:=by simpa using hi
   have hj':j<p.size:=by simpa using hj
   have:=As i j hij (by rw [<- Pm.sz]; exact hj')
   rw [Srt.aP,Srt.aP] at this
   simpa [hi',hj'] using this
end
end L2
namespace L2
open PySem PySem.Spec PyProof.Rows PySem.W
section
variable {prog:Program} {w:World} {A:Around} {E:Value->Shared->Prop} {s:Shared}
noncomputable def j7 (prog:Program) (w:World) (A:Around) (s:Shared) (f:Value) (keep:Addr->Prop) (v:Value) (a:Addr):Prop :=
 ∀ (h:Heap) (tk:Nat),(∀ b o,keep b->s.heap.get? b=some o->h.get? b=some o)->wpAny (model prog w) A (call f [v]) (fun r z=>r=.ref a/\∃ h' tk',z={ s with heap:=h',toks:=tk' }/\∀ b o,h.get? b=some o->h'.get? b=some o) (fun _ _=>False) { s with heap:=h,toks:=tk }
theorem ui {a kS:Addr} {e1:Nat} {f:Value} {vs:List Value} {ad:List Addr} {ks:List (Int×Str)} {P:PySem.Fin->Shared->Prop} (hk:s.heap.get? kS=some (seqObj "list" #[] 0)) (ha:s.heap.get? a=some (seqObj "list" #[] e1)) (hne:kS≠a)
  (l1:ad.length=vs.length) (l2:ks.length=vs.length) (h64:vs.length<64) (nd:(ks.map (·.2)).Nodup) (hp:∀ i,i<vs.length->PairAt s.heap (ad.getD i 0) (ks.getD i (0,⟨#[]⟩))) (hpk:∀ i,i<vs.length->ad.getD i 0≠kS)
  (turn:∀ i,i<vs.length->j7 prog w A s f (fun b=>b≠kS) (vs.getD i .none) (ad.getD i 0))
  (h:∀ (h':Heap) (tk c:Nat) (ix:List Nat),ix.length=vs.length->ix.Nodup->(∀ i∈ix,i<vs.length)->ix.Pairwise (fun i j=>ltK ks i j=true)->h'.get? a=some (seqObj "list" (ix.map fun i=>vs.getD i Value.none).toArray c)->(∀ b o,b≠a->b≠kS->s.heap.get? b=some o->h'.get? b=some o)->P (.done (.ret .none)) { s with heap:=h',toks:=tk }) :
  wpAny (model prog w) A (ksk_rest a f false vs.toArray e1 (.ref kS)) P E s:=by
 unfold ksk_rest
 refine wpAny_bind (wpAny_rule ?_)
 rw [List.forIn_toArray]
 refine wpAny_bind (ksk_fold (fun i z=>∃ h' tk e,z={ s with heap:=h',toks:=tk }/\(∀ b o,b≠kS->s.heap.get? b=some o->h'.get? b=some o)/\h'.get? kS=some (seqObj "list" ((ad.take i).map Value.ref).toArray e)) vs 0 s
  ⟨s.heap,s.toks,0,rfl,fun b o _ g=>g,hk⟩ ?_ ?_)
 ·rintro j x z hx ⟨h',tk,e,rfl,g1,g2⟩
  rw [Nat.zero_add] at g2 ⊢
  have hj:j<vs.length:=(List.getElem?_eq_some_iff.mp hx).1
  have ev:vs.getD j .none=x:=by rw [List.getD_eq_getElem?_getD,hx]; rfl
  have t:=turn j hj h' tk fun b o hb g=>g1 b o hb g
  rw [ev] at t
  refine wpAny_bind (wpAny_attempt (wpAny_mono t (fun v z hz=>?_) fun _ _ q=>q.elim))
  obtain ⟨rfl,h2,tk2,rfl,g3⟩:=hz
  dsimp only
  have gk:=g3 _ _ g2
  have s1:=Heap.SameBut.update h2 kS (Obj.mapSeq (·.push (.ref (ad.getD j 0))))
  refine wpAny_bind (listUpdate_at gk rfl ?_ (by rw [List.size_toArray,List.length_map,List.length_take,sizeLine_eq]; omega) (Nat.le_trans (Nat.le_of_eq (Array.size_push ..)) (by rw [List.size_toArray,List.length_map,List.length_take,sizeLine_eq]; omega)))
  have ej:(((ad.take j).map Value.ref).toArray.push (.ref (ad.getD j 0)))=((ad.take (j+1)).map Value.ref).toArray:=by
   have hja:j<ad.length:=by omega
   apply Array.toList_inj.mp
   rw [Array.toList_push]
   show (ad.take j).map Value.ref++[.ref (ad.getD j 0)]=(ad.take (j+1)).map Value.ref
   rw [List.take_succ,List.getElem?_eq_getElem hja,List.getD_eq_getElem?_getD,List.getElem?_eq_getElem hja,List.map_append]
   rfl
  obtain ⟨c2,hc2⟩:∃ c2,(h2.update kS (Obj.mapSeq (·.push (.ref (ad.getD j 0))))).get? kS=some (seqObj "list" (((ad.take j).map Value.ref).toArray.push (.ref (ad.getD j 0))) c2):=⟨_,get?_update_seq gk (·.push (.ref (ad.getD j 0)))⟩
  rw [ej] at hc2
  exact wpAny_pure ⟨rfl,_,tk2,c2,rfl,fun b o hb g=>(s1.2 b hb).trans (g3 b o (g1 b o hb g)),hc2⟩
 ·rintro z ⟨h',tk,e,rfl,g1,g2⟩
  rw [Nat.zero_add,List.take_of_length_le (by omega)] at g2
  refine wpAny_bind (listItems_at g2 rfl ?_)
  refine vz (s:={ s with heap:=h',toks:=tk }) g2 (g1 a _ hne.symm ha) hne l1 l2 h64 nd (fun i hi=>(hp i hi).mono fun o q=>g1 _ o (hpk i hi) q) fun h2 c ix i1 i2 i3 i4 i5 i6=>h h2 tk c ix i1 i2 i3 i4 i5 fun b o b1 b2 g=>i6 b o b1 b2 (g1 b o b2 g)
theorem uh {a:Addr} {n:Nat} {f:Value} {vs:List Value} {ad:List Addr} {ks:List (Int×Str)} {P:PySem.Fin->Shared->Prop} (ha:s.heap.get? a=some (seqObj "list" vs.toArray n))
  (l1:ad.length=vs.length) (l2:ks.length=vs.length) (h64:vs.length<64) (nd:(ks.map (·.2)).Nodup) (hp:∀ i,i<vs.length->PairAt s.heap (ad.getD i 0) (ks.getD i (0,⟨#[]⟩))) (hpa:∀ i,i<vs.length->ad.getD i 0≠a)
  (turn:∀ i,i<vs.length->j7 prog w A s f (fun b=>b≠a) (vs.getD i .none) (ad.getD i 0))
  (h:∀ (h':Heap) (tk c:Nat) (ix:List Nat),ix.length=vs.length->ix.Nodup->(∀ i∈ix,i<vs.length)->ix.Pairwise (fun i j=>ltK ks i j=true)->h'.get? a=some (seqObj "list" (ix.map fun i=>vs.getD i Value.none).toArray c)->(∀ b o,b≠a->s.heap.get? b=some o->h'.get? b=some o)->P (.done (.ret .none)) { s with heap:=h',toks:=tk }) :
  wpAny (model prog w) A (ksk_tree a f false) P E s:=by
 have haz:a<s.heap.objs.size:=Heap.lt_size ha
 have s1:=Heap.SameBut.update s.heap a (Obj.mapSeq fun _=>(#[]:Array Value))
 have ha1:=get?_update_seq ha fun _=>(#[]:Array Value)
 unfold ksk_tree
 refine wpAny_bind (listItems_at ha rfl ?_)
 refine wpAny_bind (listUpdate_at ha rfl ?_ (by rw [List.size_toArray,sizeLine_eq]; omega) (Nat.zero_le _))
 refine wpAny_bind (seqEpoch_at ha1 rfl ?_)
 refine wpAny_bind (wpAny_newTuple ?_ (by show vs.length<=_; rw [sizeLine_eq]; omega))
 refine wpAny_bind (wpAny_newList ?_ (Nat.zero_le _))
 refine wpAny_holding ?_
 generalize hH:((s.heap.update a (Obj.mapSeq fun _=>(#[]:Array Value))).push (seqObj "tuple" vs.toArray 0))=H1
 have kz:H1.objs.size=s.heap.objs.size+1:=by rw [<- hH,size_push',Heap.size_update]
 have old:∀ b o,b≠a->s.heap.get? b=some o->(H1.push (seqObj "list" #[] 0)).get? b=some o:=fun b o hb g=>by
  rw [<- hH]
  exact Heap.get?_push_of_some _ (Heap.get?_push_of_some _ ((s1.2 b hb).trans g))
 have lt:∀ b o,s.heap.get? b=some o->b≠H1.objs.size:=fun b o g=>by
  have:=Heap.lt_size g
  rw [kz]; exact Nat.ne_of_lt (Nat.lt_succ_of_lt this)
 refine ui (s:={ s with heap:=H1.push (seqObj "list" #[] 0) }) (kS:=H1.objs.size) (a:=a) (Heap.get?_push_size _ rfl) ?_ ?_ l1 l2 h64 nd (fun i hi=>?_) (fun i hi=>?_) (fun i hi=>?_) fun h' tk c ix i1 i2 i3 i4 i5 i6=>h h' tk c ix i1 i2 i3 i4 i5 fun b o hb g=>i6 b o hb (lt b o g) (old b o hb g)
 ·rw [<- hH]
  exact Heap.get?_push_of_some _ (Heap.get?_push_of_some _ ha1)
 ·exact (lt a _ ha).symm
 ·exact (hp i hi).mono fun o q=>old _ o (hpa i hi) q
 ·obtain ⟨o,_,_,_,g,_⟩:=hp i hi
  exact lt _ o g
 ·intro h2 tk g
  exact turn i hi h2 tk fun b o hb q=>g b o (lt b o q) (old b o hb q)
theorem qx {l q:Addr} {ob:Obj} {n0:Nat} {vs:List Value} {ad:List Addr} {ks:List (Int×Str)} {Q:Value->Shared->Prop} (ho:s.heap.get? l=some ob) (hc:ob.cls=.type "tuple") (hd:ob.data=.seq vs.toArray n0)
  (l1:ad.length=vs.length) (l2:ks.length=vs.length) (h64:vs.length<64) (nd:(ks.map (·.2)).Nodup) (hp:∀ i,i<vs.length->PairAt s.heap (ad.getD i 0) (ks.getD i (0,⟨#[]⟩)))
  (turn:∀ i,i<vs.length->j7 prog w A.in1.in1 s (.ref q) (fun _=>True) (vs.getD i .none) (ad.getD i 0))
  (h:∀ (D:Addr) (h1 h':Heap) (tk c:Nat) (ix:List Nat),(∀ b o,s.heap.get? b=some o->h1.get? b=some o)->h1.objs.size<=D->ix.length=vs.length->ix.Nodup->(∀ i∈ix,i<vs.length)->ix.Pairwise (fun i j=>ltK ks i j=true)->h'.get? D=some (seqObj "list" (ix.map fun i=>vs.getD i Value.none).toArray c)->(∀ b o,s.heap.get? b=some o->h'.get? b=some o)->Q (.ref D) { s with heap:=h',toks:=tk }) :
  wpAny (model prog w) A (call (.builtin "sorted") [.ref l] [(Str.ofString "key",.ref q)]) Q E s:=by
 refine call_function_entry_kw kind_sorted plain_sorted entry_sorted (ksk_s1 _ _) ?_
 unfold Builtin.«sorted»
 refine wpAny_bind (m:=checkCount "sorted" 1 1 _) (wpAny_pure ?_)
 refine wpAny_bind (wpAny_collect_seq l (.inr rfl) ho hc hd (fun h1 kk=>?_) (by rw [List.size_toArray,sizeLine_eq]; omega))
 refine wpAny_bind (wpAny_newList ?_ (by show vs.length<=_; rw [sizeLine_eq]; omega))
 have hoL:(h1.push (seqObj "list" vs.toArray 0)).get? h1.objs.size=some (seqObj "list" vs.toArray 0):=Heap.get?_push_size _ rfl
 have old:∀ b o,s.heap.get? b=some o->(h1.push (seqObj "list" vs.toArray 0)).get? b=some o:=fun b o g=>Heap.get?_push_of_some _ (kk b o g)
 have ne:∀ b o,s.heap.get? b=some o->b≠h1.objs.size:=fun b o g=>Nat.ne_of_lt (Heap.lt_size (kk b o g))
 refine wpAny_bind (wpAny_holding (wpAny_call_entry_kw slot_list_sort ⟨_,hoL,rfl⟩ entry_list_sort ?_ (ksk_l1 _ _)))
 show wpAny (model prog w) A.in1.in1 (Builtin.«list.sort» ⟨[.ref h1.objs.size],[(Str.ofString "key",.ref q)]⟩) _ _ _
 rw [ksk_t1]
 refine uh (s:={ s with heap:=h1.push (seqObj "list" vs.toArray 0) }) hoL l1 l2 h64 nd (fun i hi=>(hp i hi).mono fun o g=>old _ o g) (fun i hi=>?_) (fun i hi h2 tk g=>turn i hi h2 tk fun b o _ z=>g b o (ne b o z) (old b o z)) fun h' tk c ix i1 i2 i3 i4 i5 i6=>⟨_,rfl,?_⟩
 ·obtain ⟨o,_,_,_,g,_⟩:=hp i hi
  exact ne _ o g
 ·exact wpAny_pure ⟨_,rfl,h h1.objs.size h1 h' tk c ix kk (Nat.le_refl _) i1 i2 i3 i4 i5 fun b o g=>i6 b o (ne b o g) (old b o g)⟩
end
end L2
namespace L2
open PySem PySem.Spec PyProof.Rows PySem.W
structure LamSc (x d:Str) (params:Arguments) (scope:Scope):Prop where
 kind:scope.kind=.function
 co:scope.isCoroutine=false
 gen:scope.isGenerator=false
 nc:∀ y∈scope.names,y.2≠.cell
 lx:scope.names.lookup x=some .local
 ld:scope.names.lookup d=some .free
 ne:(x==d)=false
 dx:(x==("__debug__" : Str))=false
 dd:(d==("__debug__" : Str))=false
 dc:(d==("__classdict__" : Str))=false
 bd:∀ (qual:Str) (body:Expr) (cl:List (Str×Addr)) (pm cdv ct v:Value),bindArgs (kla_fn "<lambda>" qual params body scope cl pm cdv ct) ⟨[v],[]⟩=pure [(x,v)]
section
variable {X:Cx} {pins:List (Addr×Obj)} {σ:St} {H:Hp} {z:Shared} {B:Around}
theorem sk {q c' cell dd a:Addr} {x d nm:Str} {scope:Scope} {params:Arguments} {p1 p2 p3:Pos} {qual:Str} {pm ctv:Value} {t:Tok} {kvs:List (Key×V)} (S:LamSc x d params scope) (I:Inv X pins σ H z) (hroom:B.depth<recursionLimit)
  (ho:z.heap.get? q=some (kla_obj "<lambda>" qual params (.Subscript (.Name d p1) (.Name x p2) p3) scope [(d,cell)] pm c' ctv)) (hcd:z.heap.CodeRec (.ref c') qual) (hlim:z.heap.NoLimit) (hcell:z.heap.IsCell cell (some (.ref dd)))
  (hD:H dd=some (.dK kvs)) (hv:valV kvs (Sum.inr nm)=some (.ref a)) :
  wpAny (model X.prog X.w) B (call (.ref q) [.str nm t]) (fun v z'=>v=.ref a/\∃ h' tk',z'={ z with heap:=h',toks:=tk' }/\∀ b o,z.heap.get? b=some o->h'.get? b=some o) (fun _ _=>False) z:=by
 refine wpAny_call (kla_callFunE hroom ho rfl S.co S.gen rfl hcd ?_)
 rw [S.bd]
 refine wpAny_pure (wpAny_newFunctionEnv S.nc (fun y hy=>by rw [List.mem_singleton] at hy; subst hy; exact S.lx) (fun h1 hns hsb=>?_) S.kind)
 have kk:∀ b o,z.heap.get? b=some o->h1.get? b=some o:=fun b o g=>(hsb.2 b (Nat.ne_of_lt (Heap.lt_size g))).trans (Heap.get?_push_of_some _ g)
 refine ⟨hlim.keeps kk,kla_codeExpr ?_⟩
 have I1:Inv X pins σ H { z with heap:=h1,toks:=z.toks+1 }:=I.kept kk
 obtain ⟨z1,z2,vs,rel,dD⟩:=jl I1.hok hD
 obtain ⟨u,hu,ru⟩:=RelO.some_of (v:=V.ref a) (o:=valueAt vs (Sum.inr nm)) (by rw [<- hv]; exact rel.val _)
 cases ru
 have hcell1:h1.IsCell cell (some (.ref dd)):=by
  obtain ⟨o,e,r⟩:=hcell
  exact ⟨o,kk _ _ e,r⟩
 refine Subscript_ ?_
 refine wpAny_Name (wpAny_loadName_free S.kind S.ld (c:=cell) (show List.lookup d [(d,cell)]=some cell by simp) hcell1 ?_ S.dc) S.dd
 refine wpAny_Name (wpAny_loadName_local S.kind S.lx hns (show List.lookup x [(x,Value.str nm t)]=some (Value.str nm t) by simp) ?_) S.dx
 refine tail_any dD.typeIs PySem.F.slot_dict_getitem.lookup (wpAny_getItem_of (dE (k:=Sum.inr nm) (show RelV (.str nm) (.str nm t) from ⟨t,rfl⟩)) dD.mapOf hu ?_) rfl
 exact ⟨rfl,h1,_,rfl,kk⟩
end
end L2
namespace L2
open PySem PySem.Spec PyProof.Rows PySem.W
noncomputable def lamE (f:Addr) (ob:Obj):HO:=.ext fun h=>h.get? f=some ob
theorem qw {P:Program} {w:World} {H:Hp} {h:Heap} {a:Addr} {ob:Obj} (e:h.get? a=some ob):ObjOk P w H h a (lamE a ob):=⟨e,⟨_,e⟩,fun h1 h2 x k=>k _ x⟩
theorem uM {P:Program} {w:World} {H:Hp} {h:Heap} {a:Addr} {lq:Str} (e:h.CodeRec (.ref a) lq):ObjOk P w H h a (codeE a lq):=by
 refine ⟨e,?_,fun h1 h2 x k=>?_⟩
 ·obtain ⟨c,oc,vs,tq,hc,hoc,r⟩:=e
  cases hc
  exact ⟨_,hoc⟩
 ·obtain ⟨c,oc,vs,tq,hc,hoc,r⟩:=x
  cases hc
  exact ⟨_,oc,vs,tq,rfl,k _ hoc,r⟩
structure LamIs (X:Cx) (lq d:Str) (params:Arguments) (body:Expr) (scope:Scope) (c':Addr) (ob:Obj):Prop where
 ex:∃ cell ctv,X.env.cells.lookup d=some cell/\ob=kla_obj "<lambda>" lq params body scope [(d,cell)] ((X.mg "__name__").getD .none) c' ctv
noncomputable def tLam (X:Cx) (lq d:Str) (lpos:Pos) (P:Addr) (params:Arguments) (body:Expr) (scope:Scope):TE:=fun _ H Q=>∃ ps:Array Value,H P=some (tabE P ps)/\TriplesOk ps.toList /\
 ((codeAmong lpos ps.toList=none/\∀ c' f ob,H c'=none->H f=none->c'≠f->c'≠P->f≠P->LamIs X lq d params body scope c' ob->Q (.ref f) (upd (upd (upd H P (tabE P (ps++#[rawInt lpos.line,rawInt lpos.col,.ref c']))) c' (codeE c' lq)) f (lamE f ob))) \/
  (∃ c',codeAmong lpos ps.toList=some (.ref c')/\H c'=some (codeE c' lq)/\∀ f ob,H f=none->LamIs X lq d params body scope c' ob->Q (.ref f) (upd H f (lamE f ob))))
structure BMain (mg:Str->Option Value) (h:Heap):Prop where
 ex:∃ bm o,mg "__builtins__" = some (.ref bm)/\bm≠builtinsNs/\h.get? bm=some o/\o.cls=.type "module" /\ o.dict=some builtinsNs/\o.data=.plain
structure LamDf (d:Str) (params:Arguments) (scope:Scope):Prop where
 df:∀ env,defaultsOf params env=([],[])
 cl:∀ (env:Env) (cell:Addr),env.cells.lookup d=some cell->closureFor scope env=pure [(d,cell)]
section
variable {X:Cx} {lq d:Str} {lpos:Pos} {P c:Addr} {params:Arguments} {body:Expr} {scope:Scope}
theorem vb (S:LamDf d params scope) (hq:X.env.qual ++ "<lambda>" = lq) (hcode:X.env.code=.ref c) (hC:PySem.W.codeHdIn X.K c P=true) (hB:BMain X.mg X.base) (hd:X.env.kindOf d=some .cell):PE X (.Lambda params body scope lpos) (tLam X lq d lpos P params body scope):=by
 intro pins s σ H Q I h
 obtain ⟨ps,eP,ht,h⟩:=h
 obtain ⟨cell,hcell⟩:=I.ok.has d (.inl hd)
 have hP:s.heap.get? P=some (tabObj ps):=(I.hok P _ eP).1
 have hg:s.heap.Ns mainGlobals X.mg:=I.mod.glob.keeps I.bk
 have C:CodeHd s.heap c P:=PySem.W.codeHd_of_K I.kIn hC
 have hgP:mainGlobals≠P:=fun e=>by
  obtain ⟨o,es,ep,g1,g2,_⟩:=hg
  rw [e,hP] at g1; cases g1; cases g2
 have hb:s.heap.BuiltinsAt X.mg P:=by
  obtain ⟨bm,o,b1,b2,b3,b4,b5,b6⟩:=hB.ex
  refine ⟨bm,o,b1,b2,fun e=>?_,fun e=>?_,I.bk _ _ b3,b4,b5,b6⟩
  ·obtain ⟨o',es,ep,g1,g2,_⟩:=hg
   rw [<- e,I.bk _ _ b3] at g1; cases g1
   rw [b6] at g2; cases g2
  ·have:=I.bk _ _ b3
   rw [e,hP] at this; cases this; cases b4
 refine kla_eval (S.df _) ?_
 rw [hq]
 rcases h with ⟨hnf,h⟩ | ⟨c',hf,hc',h⟩
 ·refine kla_makeFunction (mg:=X.mg) (S.cl _ _ hcell) I.ok.glob hg hcode C hP ht hnf hgP hb fun c' ctv h' tk hx hge hlt hrec htb=>?_
  have hc0:H c'=none:=I.hok.fresh hge
  have nP:∀ b,H b=none->b≠P:=fun b n z=>by rw [z,eP] at n; cases n
  have nc:∀ b o,s.heap.get? b=some o->b≠c':=fun b o g=>Nat.ne_of_lt (Nat.lt_of_lt_of_le (Heap.lt_size g) hge)
  have ncP:c'≠P:=fun z=>by rw [z,eP] at hc0; cases hc0
  have un:Un X.fs [] H (upd (upd H P (tabE P (ps++#[rawInt lpos.line,rawInt lpos.col,.ref c']))) c' (codeE c' lq)) s.heap h':=by
   refine ⟨fun b o q n _ _=>hx b o (nP b n) q,fun b o q n _ _=>⟨o.slots,hx b o (nP b n) q⟩,fun b o q n _=>?_,fun b o q _=>?_,fun b xs q=>?_,fun b o u q=>?_,fun b qs q=>?_⟩
   ·rw [ah (nc b o q),ah (nP b n)]; exact n
   ·by_cases z:b=P
    ·subst z; exact ⟨_,htb⟩
    ·exact ⟨o,hx b o z q⟩
   ·rw [ah (ay q hc0),ah (fun z=>by rw [z,eP] at q; cases q)]; exact q
   ·rw [ah (ay q hc0),ah (fun z=>by rw [z,eP] at q; cases q)]; exact q
   ·refine ⟨#[],?_⟩
    rw [ah (ay q hc0),ah (fun z=>by rw [z,eP] at q; cases q),q]; simp
  have hok:HOk X.prog X.w (upd (upd H P (tabE P (ps++#[rawInt lpos.line,rawInt lpos.col,.ref c']))) c' (codeE c' lq)) h':=fun b u q=>by
   by_cases z:b=c'
   ·subst z
    rw [am] at q; cases q
    exact uM hrec
   ·rw [ah z] at q
    by_cases z2:b=P
    ·subst z2
     rw [am] at q; cases q
     exact lB htb
    ·rw [ah z2] at q
     refine (I.hok b u q).stay (fun e o he g=>hx e o (fun y=>?_) g) (fun e he=>?_) fun e xs he=>?_
     ·subst y
      rcases he with y | y
      ·exact z2 y.symm
      ·rw [eP] at y; cases y
     ·rw [ah (ay he hc0),ah (fun y=>by rw [y,eP] at he; cases he)]; exact he
     ·rw [ah (ay he hc0),ah (fun y=>by rw [y,eP] at he; cases he)]; exact he
  have I1:Inv X pins σ _ { s with heap:=h',toks:=tk }:=I.un un hok
  have hf0:=I1.hok.fresh (a:=h'.objs.size) (Nat.le_refl _)
  have fc:h'.objs.size≠c':=Nat.ne_of_gt hlt
  have fP:h'.objs.size≠P:=Nat.ne_of_gt (Heap.lt_size htb)
  have hf1:H h'.objs.size=none:=by rw [ah fc,ah fP] at hf0; exact hf0
  refine ⟨.ref h'.objs.size,_,I1.laid (t':=tk) (a:=h'.objs.size) (o:=lamE h'.objs.size (kla_obj "<lambda>" lq params body scope [(d,cell)] ((X.mg "__name__").getD .none) c' ctv)) (fun b u g=>Heap.get?_push_of_some _ g) (Nat.le_refl _) (qw (Heap.get?_push_size _ rfl)),rfl,h c' _ _ hc0 hf1 (Ne.symm fc) ncP fP ⟨cell,ctv,hcell,rfl⟩⟩
 ·refine kla_makeFunctionHit (mg:=X.mg) (S.cl _ _ hcell) I.ok.glob hg hcode C hP ht hf hb fun ctv h' tk kk hsz=>?_
  exact ⟨.ref h'.objs.size,_,I.laid (t':=tk) (a:=h'.objs.size) (o:=lamE h'.objs.size (kla_obj "<lambda>" lq params body scope [(d,cell)] ((X.mg "__name__").getD .none) c' ctv)) (fun b u g=>Heap.get?_push_of_some _ (kk b u g)) hsz (qw (Heap.get?_push_size _ rfl)),rfl,h _ _ (I.hok.fresh hsz) ⟨cell,ctv,hcell,rfl⟩⟩
end
end L2
namespace L2
open PySem PySem.Spec PyProof.Rows PySem.W
structure IxOk (ks:List (Int×Str)) (n:Nat) (ix:List Nat):Prop where
 len:ix.length=n
 nd:ix.Nodup
 lt:∀ i∈ix,i<n
 up:ix.Pairwise fun i j=>ltK ks i j=true
noncomputable abbrev k0:Int×Str:=(0,⟨#[]⟩)
noncomputable def sortKR (X:Cx) (lq d:Str) (lpos:Pos) (P:Addr) (params:Arguments) (body:Expr) (scope:Scope) (i:Nat) (σ:St) (Q:VK):VK:=fun v H1=>∃ (l:Addr) (ss:List Str) (dd:Addr) (kvs:List (Key×V)) (ad:List Addr) (ks:List (Int×Str)),
 v=.ref l/\SqT X.K H1 l (ss.map V.str)/\ss.length<64/\σ[i]?=some (some (.ref dd))/\H1 dd=some (.dK kvs)/\ad.length=ss.length/\ks.length=ss.length/\(ks.map (·.2)).Nodup /\
 (∀ j,j<ss.length->valV kvs (Sum.inr (ss.getD j ⟨#[]⟩))=some (.ref (ad.getD j 0))/\SqT X.K H1 (ad.getD j 0) [.int (ks.getD j k0).1,.str (ks.getD j k0).2]) /\
 tLam X lq d lpos P params body scope σ H1 fun _ H2=>∀ D ix,H2 D=none->IxOk ks ss.length ix->Q (.ref D) (upd H2 D (.lst (ix.map fun j=>V.str (ss.getD j ⟨#[]⟩))))
noncomputable def tSortK (X:Cx) (lq d:Str) (lpos:Pos) (P:Addr) (params:Arguments) (body:Expr) (scope:Scope) (i:Nat) (te:TE):TE:=fun σ H Q=>te σ H (sortKR X lq d lpos P params body scope i σ Q)
theorem nA {K:PySem.W.Frag} {H H2:Hp} {P a:Addr} {xs:List V} {ps:Array Value} (eP:H P=some (tabE P ps)) (k:∀ b o,H b=some o->b≠P->H2 b=some o) (h:SqT K H a xs):SqT K H2 a xs:=by
 rcases h with (h | ⟨o,h⟩) | h
 ·exact .inl (.inl (k a _ h fun z=>by rw [z,eP] at h; cases h))
 ·exact .inl (.inr ⟨o,k a _ h fun z=>by rw [z,eP] at h; cases h⟩)
 ·exact .inr h
section
variable {X:Cx} {lq d x:Str} {lpos p p1 p2 p3 kpos pos:Pos} {P c:Addr} {params:Arguments} {scope:Scope} {e:Expr} {te:TE} {i k:Nat}
theorem tU {h:Heap} {a:Addr} {its:List Value} {m:Int} {s:Str} (rv:Vals [.int m,.str s] its) (t:IsTup h a its.toArray):PairAt h a (m,s):=by
 obtain ⟨o,g1,g2,n,g3⟩:=t
 cases rv with
 | cons r1 r2 =>
  cases r2 with
  | cons r2 r3 =>
   cases r3
   obtain ⟨t,rfl⟩:=r1
   obtain ⟨u,rfl⟩:=r2
   exact ⟨o,n,t,u,g1,g2,g3⟩
theorem rQ (S:LamSc x d params scope) (S2:LamDf d params scope) (hr:Room k X.A) (hg:Gl X "sorted") (hm:X.mg "sorted" = none) (hq:X.env.qual ++ "<lambda>" = lq) (hcode:X.env.code=.ref c) (hC:PySem.W.codeHdIn X.K c P=true) (hB:BMain X.mg X.base)
  (hi:X.N[i]?=some d) (hd:X.env.kindOf d=some .cell) (hv:Vis X.env.scope d) (he:PE X e te)
  (hs:autoParam (starEach [e] X.env=(false,eval e X.env)::starEach [] X.env) Z2._auto_1)
  (h1:autoParam (backTo pos (starEach [e] X.env)=(false,eval e X.env)::backTo pos (starEach [] X.env)) Z2._auto_1) (h2:autoParam ((backTo pos (starEach [e] X.env)).any (·.1)=false) Z2._auto_1) :
  PE X (.Call (.Name "sorted" p) [e] [⟨some "key",.Lambda params (.Subscript (.Name d p1) (.Name x p2) p3) scope lpos,kpos⟩] pos) (tSortK X lq d lpos P params (.Subscript (.Name d p1) (.Name x p2) p3) scope i te):=by
 intro pins s σ H Q I h
 refine wpAny_Call_Name_kw (ed I hg hm boot_sorted ?_)
 refine callWith_kw (thn ((bh he bu hs) pos pins s σ H (fun vs H1=>match vs with | [v]=>sortKR X lq d lpos P params (.Subscript (.Name d p1) (.Name x p2) p3) scope i σ Q v H1 | _=>False) I h) fun us s1 ⟨vs,H1,I1,r1,q1⟩=>?_) h1 h2
 dsimp only at q1
 split at q1
 case h_2=>exact q1.elim
 obtain ⟨l,ss,dd,kvs,ad,ks,rfl,hl,h64,hσ,hdd,l1,l2,nd,hk,hL⟩:=q1
 obtain ⟨u,rfl,ru⟩:=r1.one
 cases ru
 obtain ⟨ps,eP,hL⟩:=hL
 have ddP:dd≠P:=fun z=>by rw [z,eP] at hdd; cases hdd
 have lam:tLam X lq d lpos P params (.Subscript (.Name d p1) (.Name x p2) p3) scope σ H1 fun fv H2=>∃ f c' ob,fv=.ref f/\H2 f=some (lamE f ob)/\LamIs X lq d params (.Subscript (.Name d p1) (.Name x p2) p3) scope c' ob/\H2 c'=some (codeE c' lq)/\(∀ b o,H1 b=some o->b≠P->H2 b=some o) /\
   ∀ D ix,H2 D=none->IxOk ks ss.length ix->Q (.ref D) (upd H2 D (.lst (ix.map fun j=>V.str (ss.getD j ⟨#[]⟩)))):=by
  refine ⟨ps,eP,hL.1,?_⟩
  rcases hL.2 with ⟨g1,g2⟩ | ⟨c',g1,g2,g3⟩
  ·refine .inl ⟨g1,fun c' f ob a1 a2 a3 a4 a5 a6=>⟨f,c',ob,rfl,am,a6,?_,fun b o hb hP=>?_,g2 c' f ob a1 a2 a3 a4 a5 a6⟩⟩
   ·rw [ah a3,am]
   ·rw [ah (ay hb a2),ah (ay hb a1),ah hP]; exact hb
  ·refine .inr ⟨c',g1,g2,fun f ob a1 a2=>⟨f,c',ob,rfl,am,a2,?_,fun b o hb _=>?_,g3 f ob a1 a2⟩⟩
   ·rw [ah (ay g2 a1)]; exact g2
   ·rw [ah (ay hb a1)]; exact hb
 refine thn ((tN (vb S2 hq hcode hC hB hd) uZ) pos pins s1 σ H1 (fun vs H2=>match vs with | [fv]=>∃ f c' ob,fv=.ref f/\H2 f=some (lamE f ob)/\LamIs X lq d params (.Subscript (.Name d p1) (.Name x p2) p3) scope c' ob/\H2 c'=some (codeE c' lq)/\(∀ b o,H1 b=some o->b≠P->H2 b=some o) /\
   (∀ D ix,H2 D=none->IxOk ks ss.length ix->Q (.ref D) (upd H2 D (.lst (ix.map fun j=>V.str (ss.getD j ⟨#[]⟩))))) | _=>False) I1 lam) fun ws s2 ⟨zs,H2,I2,rz,q2⟩=>?_
 dsimp only at q2
 split at q2
 case h_2=>exact q2.elim
 obtain ⟨f,c',ob,rfl,ef,⟨cell,ctv,hcell,rfl⟩,ec,keep,hQ⟩:=q2
 obtain ⟨u,rfl,ru⟩:=rz.one
 cases ru
 show wpAny _ _ (call (.builtin "sorted") [.ref l] [(Str.ofString "key",.ref f)]) _ _ _
 obtain ⟨its,rv,⟨o,g1,g2,n0,g3⟩,hz⟩:=I2.tuple (nA eP keep hl)
 have hlen:its.length=ss.length:=by have:=rv.length; rw [List.length_map] at this; exact this.symm
 have itm:∀ j,j<ss.length->∃ t,its.getD j Value.none=.str (ss.getD j ⟨#[]⟩) t:=fun j hj=>by
  obtain ⟨u,hu,ru⟩:=rv.get (i:=j) (show (ss.map V.str)[j]?=some (.str (ss.getD j ⟨#[]⟩)) by rw [List.getElem?_map,List.getElem?_eq_getElem hj,List.getD_eq_getElem?_getD,List.getElem?_eq_getElem hj]; rfl)
  obtain ⟨t,rfl⟩:=ru
  exact ⟨t,by rw [List.getD_eq_getElem?_getD,hu]; rfl⟩
 have cellAt:s2.heap.IsCell cell (some (.ref dd)):=by
  obtain ⟨m,_,hloc⟩:=I2.loc
  obtain ⟨u,ru,lk⟩:=hloc i d _ hi hσ hv
  cases ru
  rcases lk with ⟨y,_⟩ | ⟨_,c2,y1,y2⟩
  ·rw [hd] at y; cases y
  ·rw [hcell] at y1; cases y1; exact y2
 have lim:s2.heap.NoLimit:=I2.mod.nolimit.keeps I2.bk
 refine qx (vs:=its) (ad:=ad) (ks:=ks) g1 g2 g3 (by omega) (by omega) (by omega) nd (fun j hj=>?_) (fun j hj h tk kk=>?_) fun D hh1 h' tk cc ix k1 k2 i1 i2 i3 i4 i5 i6=>?_
 ·obtain ⟨its2,rv2,tp2,_⟩:=I2.tuple (nA eP keep (hk j (by omega)).2)
  exact tU rv2 tp2
 ·obtain ⟨t,et⟩:=itm j (by omega)
  rw [et]
  have kk':∀ b o,s2.heap.get? b=some o->h.get? b=some o:=fun b o g=>kk b o trivial g
  have I3:Inv X pins σ H2 { s2 with heap:=h,toks:=tk }:=I2.kept kk'
  refine sk (z:={ s2 with heap:=h,toks:=tk }) S I3 ?_ (kk' _ _ (I2.hok f _ ef).1) ?_ (lim.keeps kk') ?_ (keep _ _ hdd ddP) (hk j (by omega)).1
  ·have:=hr.dp
   show X.A.depth<recursionLimit
   omega
  ·exact (I2.hok c' _ ec).2.2 _ _ (I2.hok c' _ ec).1 fun o g=>kk' _ _ g
  ·obtain ⟨o,y,r⟩:=cellAt
   exact ⟨o,kk' _ _ y,r⟩
 ·have hD0:s2.heap.get? D=none:=by
   cases y:s2.heap.get? D with
   | none=>rfl
   | some o=>exact absurd (Nat.lt_of_lt_of_le (Heap.lt_size (k1 D o y)) k2) (Nat.lt_irrefl _)
  have J:Inv X pins σ H2 { s2 with heap:=s2.heap,toks:=tk }:=I2.kept fun _ _ g=>g
  obtain ⟨m,hm,_⟩:=I2.loc
  have hlt:∀ y∈ix,y<ss.length:=fun y hy=>by have:=i3 y hy; omega
  have pick:=rv.pick ix fun y hy=>by rw [List.length_map]; exact hlt y hy
  have ep:(ix.map fun y=>(ss.map V.str).getD y V.non)=ix.map fun j=>V.str (ss.getD j ⟨#[]⟩):=List.map_congr_left fun y hy=>by
   have hy':=hlt y hy
   rw [List.getD_eq_getElem?_getD,List.getElem?_map,List.getElem?_eq_getElem hy',List.getD_eq_getElem?_getD,List.getElem?_eq_getElem hy']; rfl
  rw [ep] at pick
  refine ⟨.ref D,_,J.laidL (xs:=ix.map fun j=>V.str (ss.getD j ⟨#[]⟩)) hm (hm.keeps i6) (fun b o _ g=>i6 b o g) hD0 ⟨?_,ix.map fun y=>its.getD y Value.none,cc,pick,i5⟩,rfl,hQ D ix (I2.hok.dead hD0) ⟨by omega,i2,hlt,i4⟩⟩
  rw [List.length_map,i1,sizeLine_eq]; omega
end
end L2
namespace L2
open PySem PySem.Spec PyProof.Rows
section
variable {P:Program} {w:World} {K:PySem.W.Frag} {mg:Str->Option Value} {base:Heap}
theorem Fun.okC {x qual:Str} {st:Stmt} {f:Addr} {fd:FuncData} {N ps:List Str} {k:Nat} {sp:Sp} (F:Fun K x qual st f fd) (S:aD N ps (aq st)) (len:∀ vs H Q E,sp vs H Q E->vs.length=ps.length)
  (hbody:∀ (cdv:Value),fd.code=cdv->∀ (A:Around) (outer:List Env) (s:Shared) (H:Hp) (vs:List V) (Q:VK) (E:XK),Room k (A.deeper (envOfC qual (aq st) s.heap.objs.size f cdv))->sp vs H Q E ->
   ∃ t,PSs (cxOf CX0 P w K mg base N qual (aq st) f cdv A outer s H E).nox (bc st) t/\t { nx:=fun _ H'=>Q .non H',rt:=Q } (start N vs) H):FnOk P w K mg base CX0 (k+1) f fd ps sp:=by
 obtain ⟨oc,od,kV,doc,pm,an,cdv,ct,osl,rfl,lk,hcd⟩:=F.ex
 refine sV lk hcd S len fun A outer s H vs Q E hr hsp=>?_
 obtain ⟨t,h,q⟩:=hbody cdv rfl A outer s H vs Q E hr hsp
 exact ⟨t,h.nox,q⟩
end
theorem Inv.hide {X:Cx} {pins:List (Addr×Obj)} {σ:St} {H:Hp} {s:Shared} (I:Inv X pins σ H s) {n:Nat} {nm:Str} {v:V} (hN:X.N[n]?=some nm) (hv:¬ Vis X.env.scope nm):Inv X pins (σ.set n (some v)) H s:=by
 refine ⟨I.ok,I.os,I.bare,I.base,?_,I.cell,I.free,I.freeC,I.pin,I.hok,by rw [List.length_set]; exact I.len⟩
 obtain ⟨m,hn,hl⟩:=I.loc
 refine ⟨m,hn,fun i x u e1 e2 e3=>?_⟩
 by_cases z:n=i
 ·subst z
  rw [hN] at e1; cases e1
  exact absurd e3 hv
 ·rw [List.getElem?_set_ne z] at e2
  exact hl i x u e1 e2 e3
end L2
namespace Q
open PySem L2 PyProof.Rows
noncomputable def hid (n:Nat) (c:PV) (xs:List PV):En:=startE n xs++[some ⟨2,c⟩]
noncomputable def obN (n:Nat) (P:PV->Prop) (e:En):Prop:=match e[n]? with
 | some (some ⟨2,c⟩)=>P c
 | _=>False
noncomputable def endT (n:Nat) (P:PV->PV->Prop):Wd:={ nx:=fun e=>obN n (P .non) e,rt:=fun x e=>obN n (P x) e }
noncomputable def runT (n:Nat) (u:WS):FdO:=fun c xs P=>u (endT n P) (hid n c xs)
noncomputable def spT (M:Md) (n:Nat) (D:FdO):Sp:=fun vs H Q _=>∃ (F:Hp) (a:Addr) (l:List Addr) (c:PV) (xs:List PV) (P:PV->PV->Prop),Same F H/\Reps M.K F vs xs/\xs.length=n /\
 M.ob.P F H a l c/\(∀ b∈l,H b≠none/\F b=none)/\D c xs P /\
 ∀ r c' v F' H' l',P r c'->(∀ b o,H b=some o->b∉l->H' b=some o)->(∀ b,H b≠none->H' b≠none)->Same F F'->Same F' H'->(∀ a,F' a≠none->F a≠none\/H a=none)->M.ob.P F' H' a l' c'->(∀ b∈l',H' b≠none/\F' b=none)->(∀ b∈l',b∈l\/H b=none)->Rep M.K F' v r->Q v H'
theorem oU {M:Md} {F H:Hp} {N:List Str} {ws:List V} {xs:List PV} {a:Addr} {l:List Addr} {c:PV} {n:Nat} (sF:Same F H) (r:Reps M.K F ws xs) (hN:N.length=n+1) (hl:xs.length<=n) (ho:M.ob.P F H a l c) (hb:∀ b∈l,H b≠none/\F b=none) :
  Sok M ⟨H,F,l,fun i=>if i=n then some a else none,fun b h=>(hb b h).1⟩ F ((start N ws).set n (some (.ref a))) H (hid n c xs):=by
 have hl':ws.length<=n:=by rw [r.len]; exact hl
 have hs:(start N ws).length=n+1:=by rw [fS (by omega),hN]
 have he:(startE n xs).length=n:=fh hl
 refine ⟨sF,fun b o h _=>h,fun b h=>h,ao,fun a h=>.inl h,?_,fun i=>if i=n then l else [],fun i s h=>?_,fun i b h=>?_,fun i j b hij h z=>?_,fun i b s h _ _=>?_⟩
 ·unfold hid
  rw [List.length_append,he,List.length_set,hs]; rfl
 ·rcases Nat.lt_trichotomy i n with z | z | z
  ·unfold hid at h
   rw [List.getElem?_append_left (by omega)] at h
   obtain ⟨x,hx,rfl⟩:=fj h
   obtain ⟨v,hv,rv⟩:=r.get hx
   refine ⟨v,?_,.inl ⟨rfl,if_neg (by omega),rv⟩⟩
   rw [List.getElem?_set_ne (by omega)]
   exact cF hv
  ·subst z
   unfold hid at h
   rw [List.getElem?_append_right (by omega),he,Nat.sub_self] at h
   have h:s=⟨2,c⟩:=by simpa using h.symm
   subst h
   refine ⟨.ref a,?_,.inr (.inr (.inl ⟨.inl rfl,a,rfl,fun c hc=>.inl (by rwa [if_pos rfl] at hc),by rw [if_pos rfl]; exact ho⟩))⟩
   rw [List.getElem?_set_self (by omega)]
  ·unfold hid at h
   rw [List.getElem?_eq_none (by rw [List.length_append,he]; simp; omega)] at h; cases h
 ·split at h
  ·exact hb b h
  ·simp at h
 ·split at h
  ·split at z
   ·rename_i h1 h2; exact hij (h1.trans h2.symm)
   ·simp at z
  ·simp at h
 ·dsimp only at h
  split at h
  ·rename_i e; subst e; cases h
   rw [List.getElem?_set_self (by omega)]
  ·cases h
section
variable {P:Program} {w:World} {K:PySem.W.Frag} {mg:Str->Option Value} {base:Heap} {ob:ObK}
theorem jc {x qual:Str} {st:Stmt} {f:Addr} {fd:FuncData} {N ps:List Str} {k n:Nat} {nm:Str} {u:WS} (F:Fun K x qual st f fd) (S:aD N ps (aq st)) (hN:N.length=n+1) (hn:ps.length<=n) (hnm:N[n]?=some nm) (hv:¬ Vis (aq st) nm)
  (hb:∀ (cdv:Value),fd.code=cdv->∀ (A:Around) (outer:List Env) (s:Shared) (H:Hp) (E:XK),Room k (A.deeper (envOfC qual (aq st) s.heap.objs.size f cdv))->EvXs ob (cxOf CX0 P w K mg base N qual (aq st) f cdv A outer s H E).nox (bc st) u) :
  FnOk P w K mg base CX0 (k+1) f fd ps (spT ⟨P,w,K,ob⟩ ps.length (runT n u)):=by
 refine F.okC S (fun vs H Q E h=>?_) (fun cdv hcdv A outer s H vs Q E hr h=>?_)
 ·obtain ⟨F,a,l,c,xs,P,_,r,hl,_⟩:=h
  rw [r.len]; exact hl
 ·obtain ⟨F,a,l,c,xs,P',sF,r,hl,ho,hbl,hD,kk⟩:=h
  obtain ⟨t,ht,kt⟩:=(hb cdv hcdv A outer s H E hr).ex
  have fin:∀ (x:PV) (env:En) (v:V) (σ:L2.St) (F' H':Hp),obN n (P' x) env->Same F F'->Sok ⟨P,w,K,ob⟩ ⟨H,F,l,fun i=>if i=n then some a else none,fun b h=>(hbl b h).1⟩ F' σ H' env->Rep K F' v x->Q v H':=fun x env v σ F' H' p s1 K1 rv=>by
   unfold obN at p
   split at p
   ·rename_i c' e
    obtain ⟨fp,L⟩:=K1.sl
    obtain ⟨v0,hv0,ok⟩:=L.at' n _ e
    have hσ:=L.oa n a _ (if_pos rfl) e rfl
    rw [hσ] at hv0; cases hv0
    rcases ok with ⟨k0,_⟩ | ⟨k0,_⟩ | ⟨_,a',e',h1,h2⟩ | ⟨k0,_⟩
    ·cases k0
    ·cases k0
    ·cases e'
     exact kk x _ v F' H' (fp n) p (fun b o h1 h2=>K1.sG b o h1 h2) (fun b h=>K1.pr b h) s1 K1.sF K1.nw h2 (fun b hb=>L.al n b hb) (fun b hb=>h1 b hb) rv
    ·cases k0
   ·exact p.elim
  refine ⟨fun D σ H=>t D (σ.set n (some (.ref a))) H,fun pins s' σ H' D I q=>ht pins s' _ H' D (I.hide hnm hv) q,kt ⟨H,F,l,fun i=>if i=n then some a else none,fun b h=>(hbl b h).1⟩ F ((start N vs).set n (some (.ref a))) H (hid n c xs) (endT n P') _ (oU (M:=⟨P,w,K,ob⟩) sF r hN (by omega) ho hbl) hD ⟨fun env σ F' H' p s1 K1=>?_,fun x env v σ F' H' p s1 K1 rv=>?_,fun _ _ _ _ p=>p.elim,fun _ _ _ _ p=>p.elim,fun _ _ _ _ _ _ p=>p.elim,fun _ _ _ _ _ _ _ p=>p.elim⟩⟩
  ·exact fin .non env .non σ F' H' p s1 K1 .non
  ·exact fin x env v σ F' H' p s1 K1 rv
theorem jW {k n:Nat} {fad:Addr} {fd:FuncData} {ps:List Str} {D D':FdO} (F:FnOk P w K mg base CX0 k fad fd ps (spT ⟨P,w,K,ob⟩ n D)) (h:∀ c xs P,D' c xs P->D c xs P):FnOk P w K mg base CX0 k fad fd ps (spT ⟨P,w,K,ob⟩ n D') :=
 F.imp fun vs H Q E q=>by
  obtain ⟨F,a,l,c,xs,P,a1,a2,a3,a4,a5,a6,a7⟩:=q
  exact ⟨F,a,l,c,xs,P,a1,a2,a3,a4,a5,h _ _ _ a6,a7⟩
end
noncomputable def eCallT (D:FdO) (j:Nat) (fa:WA):WE:=fun env P=>fa env fun xs e=>match e[j]? with
 | some (some ⟨2,c⟩)=>D c xs fun r c'=>P r (e.set j (some ⟨2,c'⟩))
 | some (some ⟨4,c⟩)=>D c xs fun r c'=>P r (e.set j (some ⟨4,c'⟩))
 | _=>False
section
variable {ob:ObK} {X:Cx} {k:Nat} {fad:Addr} {fd:FuncData} {ps:List Str} {DO:FdO} {x:Str} {p pos:Pos} {e:Expr} {es:List Expr} {fa:WA}
theorem iH (j:Nat) {n:Nat} (F:FnOk X.prog X.w X.K X.mg X.base CX0 k fad fd ps (spT (md ob X) n DO)) (hr:Room k X.A) (hm:X.mg x=some (.ref fad)) (hk:PySem.W.keepIn X.K (.ref fad)=true) (hb:Binds X.K fd ps []) (ha:EvA ob X (e::es) fa) (hn:autoParam (es.length+1=n) Z2._auto_1) (hg:autoParam (Gl X x) Z2._auto_1)
  (hdb:autoParam ((x==("__debug__" : Str))=false) Z1._auto_1) (he:autoParam (starEach (e::es) X.env=(false,eval e X.env)::starEach es X.env) Z2._auto_1) (hpl:autoParam ((backTo pos (starEach es X.env)).any (·.1)=false) Z2._auto_1) :
  EvS ob X (.Call (.Name x p) (e::es) [] pos) (eCallT DO j fa):=by
 obtain ⟨t,ht,kt⟩:=ha.ex
 refine ⟨_,cY (E:=E0) F hr hg hm hk hb .nil pass0 ht hdb he hpl,fun Z F σ H env P Q K hf kk=>?_⟩
 refine kt Z F σ H env _ _ K hf fun xs e1 vs F1 H1 p hl s1 K1 r1=>?_
 show spT (md ob X) n DO (vs++[]) H1 Q E0
 rw [List.append_nil]
 have fin:∀ (kd:Nat) (c:PV),kd=2\/kd=4->e1[j]?=some (some ⟨kd,c⟩)->DO c xs (fun r c'=>P r (e1.set j (some ⟨kd,c'⟩)))->spT (md ob X) n DO vs H1 Q E0:=fun kd c hkd ei p=>by
  obtain ⟨fp,L⟩:=K1.sl
  obtain ⟨v0,hv0,ok⟩:=L.at' j _ ei
  rcases ok with ⟨k0,_⟩ | ⟨k0,_⟩ | ⟨_,a,rfl,_,ho⟩ | ⟨k0,_⟩
  ·rcases hkd with rfl | rfl <;> cases k0
  ·rcases hkd with rfl | rfl <;> cases k0
  ·refine ⟨F1,a,fp j,c,xs,_,K1.sF,r1,by rw [hl]; exact hn,ho,fun b hb=>L.al j b hb,p,fun r c' v F' H' l' pr kp pre sF sFH nw ho' hl' hn' rv=>?_⟩
   exact kk r _ v F' H' pr (aj s1 sF) (K1.objS hkd L ei hv0 kp pre sF sFH nw ho' hl' hn').1 rv
  ·rcases hkd with rfl | rfl <;> cases k0
 split at p
 ·rename_i ei; exact fin _ _ (.inl rfl) ei p
 ·rename_i ei; exact fin _ _ (.inr rfl) ei p
 ·exact p.elim
end
end Q
namespace Q
open PySem L2 PyProof.Rows PySem.W
noncomputable def eSortK (j i:Nat) (lq:Str) (ln co:Nat) (T:Addr) (f:WE):WE:=fun env P=>f env fun x e=>match x,e[i]?,e[j]? with
 | .tup ys,some (some ⟨0,.dic kvs⟩),some (some ⟨2,c⟩)=>∃ (ss:List Str) (ks:List (Int×Str)),c=tabPV lq ln co T/\ys.mapM strPV=some ss/\ss.length<64/\ks.length=ss.length/\(ks.map (·.2)).Nodup /\
  (∀ m,m<ss.length->valP kvs (Sum.inr (ss.getD m ⟨#[]⟩))=some (.tup [.int (ks.getD m k0).1,.str (ks.getD m k0).2]))/\∀ ix,IxOk ks ss.length ix->P (.lst (ix.map fun m=>.str (ss.getD m ⟨#[]⟩))) e
 | _,_,_=>False
theorem ic {p q:Pos} (h1:p.line=q.line) (h2:p.col=q.col) (l:List Value):codeAmong p l=codeAmong q l:=by
 fun_induction codeAmong p l with
 | case1 line t col u c rest h=>rw [codeAmong,<- h1,<- h2,if_pos h]
 | case2 line t col u c rest h ih=>rw [codeAmong,<- h1,<- h2,if_neg h]; exact ih
 | case3 l h => 
  unfold codeAmong
  split
  ·rename_i a b c d e f
   exact absurd rfl (h _ _ _ _ _ _)
  ·rfl
theorem rm {α:Type} {l:List α} {j:Nat} {y:α} (h:l[j]?=some y):l.set j y=l:=by
 apply List.ext_getElem?
 intro i
 by_cases z:j=i
 ·subst z
  rw [List.getElem?_set_self (List.getElem?_eq_some_iff.mp h).1,h]
 ·rw [List.getElem?_set_ne z]
theorem tz {lq lq':Str} {ln ln' co co':Nat} {a b:Addr} (h:tabPV lq ln co a=tabPV lq' ln' co' b):lq=lq'/\ln=ln'/\co=co'/\a=b:=by
 unfold tabPV at h
 injection h with h
 injection h with h1 h
 injection h with h2 h
 injection h with h3 h
 injection h with h4 _
 injection h1 with h1
 injection h2 with h2
 injection h3 with h3
 injection h4 with h4
 exact ⟨h1,by omega,by omega,by exact Int.ofNat.inj h4⟩
section
variable {X:Cx} {lq d x:Str} {lpos p p1 p2 p3 kpos pos:Pos} {T c:Addr} {params:Arguments} {scope:Scope} {e:Expr} {f:WE} {i j k:Nat} {ob:ObK}
theorem sI (j i:Nat) (S:LamSc x d params scope) (S2:LamDf d params scope) (hr:Room k X.A) (hg:Gl X "sorted") (hm:X.mg "sorted" = none) (hq:X.env.qual ++ "<lambda>" = lq) (hcode:X.env.code=.ref c) (hC:PySem.W.codeHdIn X.K c T=true) (hB:BMain X.mg X.base)
  (hi:X.N[i]?=some d) (hd:X.env.kindOf d=some .cell) (hv:Vis X.env.scope d) (ha:EvS ob X e f) (hob:autoParam (ob=obG X.K) Z2._auto_1)
  (hs:autoParam (starEach [e] X.env=(false,eval e X.env)::starEach [] X.env) Z2._auto_1)
  (h1:autoParam (backTo pos (starEach [e] X.env)=(false,eval e X.env)::backTo pos (starEach [] X.env)) Z2._auto_1) (h2:autoParam ((backTo pos (starEach [e] X.env)).any (·.1)=false) Z2._auto_1) :
  EvF ob X (.Call (.Name "sorted" p) [e] [⟨some "key",.Lambda params (.Subscript (.Name d p1) (.Name x p2) p3) scope lpos,kpos⟩] pos) (eSortK j i lq lpos.line lpos.col T f):=by
 subst hob
 obtain ⟨te,hte,kte⟩:=ha.ex
 refine ⟨_,rQ (i:=i) S S2 hr hg hm hq hcode hC hB hi hd hv hte hs h1 h2,fun Z F σ H env Pp Q K hf kk=>?_⟩
 refine kte Z F σ H env _ _ K hf fun y e1 v F1 H1 p s1 K1 r1=>?_
 split at p
 case h_2=>exact p.elim
 rename_i ys kvs cc ei ej
 obtain ⟨ss,ks,rfl,hss,h64,l2,nd,hval,p⟩:=p
 cases r1 with
 | tup hl hr1 =>
 have:=de jw hss hr1
 subst this
 obtain ⟨fp,L⟩:=K1.sl
 obtain ⟨vr,hσ,okr⟩:=L.at' i _ ei
 obtain ⟨dd,vs',rfl,hdd,rk⟩:∃ dd vs',vr=.ref dd/\F1 dd=some (.dK vs')/\RepsK X.K F1 vs' kvs:=by
  rcases okr with ⟨_,_,r⟩ | ⟨q,_⟩ | ⟨q,_⟩ | ⟨q,_⟩
  ·cases r with
   | dic a b=>exact ⟨_,_,rfl,a,b⟩
  ·cases q
  ·rcases q with q | q <;> cases q
  ·cases q
 obtain ⟨vt,hσt,okt⟩:=L.at' j _ ej
 obtain ⟨rfl,ps,ht1,ht2,ht3⟩:vt=.ref T/\∃ ps:Array Value,H1 T=some (tabE T ps)/\TriplesOk ps.toList/\((fp j=[T]/\codeAmong lpos ps.toList=none)\/∃ c',c'≠T/\fp j=[T,c']/\codeAmong lpos ps.toList=some (.ref c')/\H1 c'=some (codeE c' lq)):=by
  rcases okt with ⟨q,_⟩ | ⟨q,_⟩ | ⟨_,a,rfl,_,ho⟩ | ⟨q,_⟩
  ·cases q
  ·cases q
  ·rcases ho with (⟨q,_⟩ | ⟨_,_,q,_⟩) | ⟨_,q,_⟩ | ⟨lq',ln,co,ps,q,t1,t2,t3⟩
   ·cases q
   ·cases q
   ·cases q
   ·obtain ⟨rfl,e2,e3,rfl⟩:=tz q
    refine ⟨rfl,ps,t1,t2,?_⟩
    have ec:∀ l,codeAmong ⟨ln,co,0,0⟩ l=codeAmong lpos l:=ic e2.symm e3.symm
    rcases t3 with ⟨g1,g2⟩ | ⟨c',g1,g2,g3,g4⟩
    ·exact .inl ⟨g1,(ec _).symm.trans g2⟩
    ·exact .inr ⟨c',g1,g2,(ec _).symm.trans g3,g4⟩
  ·cases q
 have hT0:T∈fp j:=by
  rcases ht3 with ⟨q,_⟩ | ⟨_,_,q,_⟩ <;> rw [q] <;> simp
 have hFT:F1 T=none:=(L.al j T hT0).2
 have ex:∀ m:Nat,∃ a:Addr,m<ss.length->valV vs' (Sum.inr (ss.getD m ⟨#[]⟩))=some (.ref a)/\SqT X.K F1 a [.int (ks.getD m k0).1,.str (ks.getD m k0).2]:=fun m=>by
  by_cases hm:m<ss.length
  ·have hv:=hval m hm
   rcases rk.val (k:=Sum.inr (ss.getD m ⟨#[]⟩)) with ⟨_,q⟩ | ⟨v,x,q1,q2,q3⟩
   ·rw [q] at hv; cases hv
   ·rw [hv] at q2; cases q2
    cases q3 with
    | tup g1 g2 =>
     cases g2 with
     | cons g2 g3=>cases g3 with
      | cons g3 g4=>cases g4; cases g2; cases g3; exact ⟨_,fun _=>⟨q1,g1⟩⟩
  ·exact ⟨0,fun h=>absurd h hm⟩
 obtain ⟨g,hgk⟩:=Classical.axiomOfChoice ex
 have adl:∀ m,m<ss.length->((List.range ss.length).map g).getD m 0=g m:=fun m hm=>by
  rw [List.getD_eq_getElem?_getD,List.getElem?_map,List.getElem?_range hm]; rfl
 refine ⟨_,ss,dd,vs',(List.range ss.length).map g,ks,rfl,az K1.sF hl,h64,hσ,K1.sF _ _ hdd,by simp,l2,nd,fun m hm=>?_,ps,ht1,ht2,?_⟩
 ·rw [adl m hm]
  exact ⟨(hgk m hm).1,az K1.sF (hgk m hm).2⟩
 have reps:∀ ix:List Nat,Reps X.K F1 (ix.map fun m=>V.str (ss.getD m ⟨#[]⟩)) (ix.map fun m=>PV.str (ss.getD m ⟨#[]⟩)):=fun ix=>by
  induction ix with
  | nil=>exact .nil
  | cons a r ih=>exact .cons (.str _) ih
 rcases ht3 with ⟨hfp,hnone⟩ | ⟨c',hne,hfp,hsome,hcode'⟩
 ·refine .inl ⟨hnone,fun c' f' ob a1 a2 a3 a4 a5 _ D ix hD ok=>?_⟩
  have old:∀ b o,H1 b=some o->b≠T->(upd (upd (upd H1 T (tabE T (ps++#[rawInt lpos.line,rawInt lpos.col,.ref c']))) c' (codeE c' lq)) f' (lamE f' ob)) b=some o:=fun b o hb hbT=>by
   rw [ah (ay hb a2),ah (ay hb a1),ah hbT]; exact hb
  have eT:(upd (upd (upd H1 T (tabE T (ps++#[rawInt lpos.line,rawInt lpos.col,.ref c']))) c' (codeE c' lq)) f' (lamE f' ob)) T=some (tabE T (ps++#[rawInt lpos.line,rawInt lpos.col,.ref c'])):=by
   rw [ah (Ne.symm a5),ah (Ne.symm a4),am]
  have eC:(upd (upd (upd H1 T (tabE T (ps++#[rawInt lpos.line,rawInt lpos.col,.ref c']))) c' (codeE c' lq)) f' (lamE f' ob)) c'=some (codeE c' lq):=by
   rw [ah a3,am]
  generalize (upd (upd (upd H1 T (tabE T (ps++#[rawInt lpos.line,rawInt lpos.col,.ref c']))) c' (codeE c' lq)) f' (lamE f' ob))=H2 at hD old eT eC ⊢
  have tl:(ps++#[rawInt lpos.line,rawInt lpos.col,Value.ref c']).toList=ps.toList++[rawInt lpos.line,rawInt lpos.col,Value.ref c']:=by simp
  have K2:=(K1.objS (.inl rfl) L ej hσt (l':=[T,c']) (F':=F1) (H':=H2) (c':=tabPV lq lpos.line lpos.col T) (fun b o hb hn=>old b o hb fun z=>hn (z ▸ hT0)) (fun b hb=>?_) ao (fun b o hb=>old b o (K1.sF b o hb) fun z=>by rw [z,hFT] at hb; cases hb) (fun b hb=>.inl hb)
   (.inr (.inr ⟨lq,lpos.line,lpos.col,_,rfl,eT,by rw [tl]; exact TriplesOk_snoc _ _ _ _ ht2,.inr ⟨c',a4,rfl,by rw [tl]; exact (ic (p:=⟨lpos.line,lpos.col,0,0⟩) (q:=lpos) rfl rfl _).trans (codeAmong_snoc _ ht2 hnone),eC⟩⟩)) (fun b hb=>?_) (fun b hb=>?_)).1
  ·rw [rm ej] at K2
   exact kk _ e1 _ F1 _ (p ix ok) s1 (fun _=>by simp) (K2.own hD ⟨_,am,reps ix⟩)
  ·by_cases z:b=T
   ·rw [z,eT]; simp
   ·obtain ⟨o,ho⟩:=cn hb
    rw [old b o ho z]; simp
  ·rcases List.mem_cons.mp hb with rfl | hb
   ·exact ⟨by rw [eT]; simp,hFT⟩
   ·rw [List.mem_singleton.mp hb]
    exact ⟨by rw [eC]; simp,Same.none_of K1.sF a1⟩
  ·rcases List.mem_cons.mp hb with rfl | hb
   ·exact .inl hT0
   ·rw [List.mem_singleton.mp hb]; exact .inr a1
 ·refine .inr ⟨c',hsome,hcode',fun f' ob a1 _ D ix hD ok=>?_⟩
  have sH:Same H1 (upd H1 f' (lamE f' ob)):=aA a1
  have K2:=K1.move ao (aj K1.sF sH) sH fun _ h=>.inl h
  exact kk _ e1 _ F1 _ (p ix ok) s1 (fun _=>by simp) (K2.own hD ⟨_,am,reps ix⟩)
end
end Q
namespace L2
open PySem PySem.Spec PyProof.Rows
theorem qv {P:Program} {w:World} {K:PySem.W.Frag} {mg mb:Str->Option Value} {k:Nat} {fa a c T:Addr} {fd:FuncData} {x:Str} {sp:Sp} {s₁:Shared} {vs:List Value} {ns:List Int}
  (KX:K.In s₁.heap) (hns:s₁.heap.Ns mainGlobals mg) (hb:s₁.heap.Ns builtinsNs mb) (hbb:∀ x:Str,x ≠ "__name__" -> mb x=bootBuiltins x) (hlim:s₁.heap.NoLimit) (hg:s₁.gens=#[])
  (ha:s₁.heap.get? a=some { cls:=.type "list",data:=.seq vs.toArray }) (hi:IntsAre vs ns) (hl:ns.length<=sizeLine) (hr:Room k callerA) (hC:PySem.W.codeHdIn K c T=true) (hT:s₁.heap.get? T=some (PySem.W.tabObj #[])) (hKT:K.lookup T=none) (hB:BMain mg s₁.heap)
  (F:∀ base:Heap,K.In base->base.Ns mainGlobals mg->BMain mg base->FnOk P w K mg base CX0 k fa fd [x] sp) (hbind:∀ (s:Shared) (u:Value),BindsTo s fd ⟨[u],[]⟩ [(x,u)])
  (hsp:∀ H:Hp,SqL K H a (ns.map V.int)->H T=some (tabE T #[])->sp [.ref a] H (fun v H'=>v=.bl true/\∃ ps,H' T=some (tabE T ps)) fun _ _ _=>False) :
  codeAny (model P w) callerA (.call (.ref fa) ⟨[.ref a],[]⟩) (fun r s'=>r=.ok (.ret (.bool true))/\OldK s₁.heap s'.heap/\s'.os=s₁.os/\AllBare s'.gens) s₁:=by
 have rv:=kh hi
 have lenV:=hi.length
 have haT:a≠T:=fun z=>by rw [z,hT] at ha; cases ha
 have core:∀ H:Hp,(∀ b,H b=none\/(∃ o xs,H b=some (.frz o (.lst xs)))\/b=T)->SqL K H a (ns.map V.int)->H T=some (tabE T #[])->HOk P w H s₁.heap->(∀ b,H b≠none->b=a\/b=T)->(H a≠none->K.lookup a=none) ->
   codeAny (model P w) callerA (.call (.ref fa) ⟨[.ref a],[]⟩) (fun r s'=>r=.ok (.ret (.bool true))/\OldK s₁.heap s'.heap/\s'.os=s₁.os/\AllBare s'.gens) s₁:=by
  intro H hO hS hHT hok hA hK
  have base_of:∀ {b:Addr} {o:Obj},s₁.heap.get? b=some o->H b=none->(hidT s₁.heap H).get? b=some o:=fun e n=>so e n
  have plain:∀ {b:Addr} {o:Obj},s₁.heap.get? b=some o->o≠{ cls:=.type "list",data:=.seq vs.toArray }->o≠PySem.W.tabObj #[]->H b=none:=fun {b o} e n1 n2=>by
   cases q:H b with
   | none=>rfl
   | some u =>
    rcases hA b (by rw [q]; simp) with z | z
    ·rw [z,ha] at e; cases e; exact absurd rfl n1
    ·rw [z,hT] at e; cases e; exact absurd rfl n2
  have noA:∀ {b:Addr} {o:Obj} {es:Array DictEntry} {ep:Nat},s₁.heap.get? b=some o->o.data=.dict es ep->H b=none:=fun {b o es ep} e d=>plain e (fun z=>by rw [z] at d; cases d) (fun z=>by rw [z] at d; cases d)
  have nsK:∀ {b:Addr} {m:Str->Option Value},s₁.heap.Ns b m->(hidT s₁.heap H).Ns b m:=fun {b m} ⟨o,es,ep,e,d,r⟩=>⟨o,es,ep,base_of e (noA e d),d,r⟩
  have hKb:K.In (hidT s₁.heap H):=fun b o e=>base_of (KX b o e) (by
   cases q:H b with
   | none=>rfl
   | some u =>
    rcases hA b (by rw [q]; simp) with z | z
    ·subst z
     rw [hK (by rw [q]; simp)] at e; cases e
    ·rw [z,hKT] at e; cases e)
  have hBb:BMain mg (hidT s₁.heap H):=by
   obtain ⟨bm,o,b1,b2,b3,b4,b5,b6⟩:=hB.ex
   exact ⟨bm,o,b1,b2,base_of b3 (plain b3 (fun z=>by rw [z] at b6; cases b6) (fun z=>by rw [z] at b6; cases b6)),b4,b5,b6⟩
  have hM:Mod K mg (hidT s₁.heap H):=⟨hKb,nsK hns,⟨mb,nsK hb,hbb⟩,let ⟨mc,h1,h2⟩:=hlim; ⟨mc,nsK h1,h2⟩⟩
  have e0:Env0 P w K mg (hidT s₁.heap H) callerA [] s₁ H:=⟨rfl,hM,fun b o e=>t8 e,Nat.le_of_eq (qE _ _),trivial,fun b hb=>absurd (show b∈([]:List Addr) from hb) (by simp),hok,.of_eq hg⟩
  refine codeAny_mono ((F _ hKb (nsK hns) hBb).run callerA [] s₁ H ⟨[.ref a],[]⟩ [.ref a] [.ref a] _ _ hr e0 (hbind s₁ (.ref a)) (.cons rfl .nil) (hsp H hS hHT)) fun r s' h=>?_
  cases r with
  | error e=>exact (show False from h).elim
  | ok fl =>
   cases fl with
   | next=>exact False.elim h
   | brk=>exact False.elim h
   | cont=>exact False.elim h
   | ret u =>
    obtain ⟨v,H',os,bare,un,hok',r',q,ps,hT'⟩:=h
    subst q
    obtain rfl:u=Value.bool true:=r'
    have gT:s'.heap.get? T=some (PySem.W.tabObj ps):=(hok' T _ hT').1
    have keep:∀ b o,s₁.heap.get? b=some o->b≠T->s'.heap.get? b=some o:=fun b o e hbT=>by
     cases q:H b with
     | none=>exact un.keep b o e q (by intro z; exact absurd (show b∈([]:List Addr) from z) (by simp)) (by simp)
     | some u =>
      rcases hO b with z | ⟨ob,xs,z⟩ | z
      ·rw [q] at z; cases z
      ·have z2:=un.frzs b ob _ z
       obtain ⟨e1,_⟩:=hok b _ z
       obtain ⟨e2,_⟩:=hok' b _ z2
       rw [e] at e1; cases e1
       exact e2
      ·exact absurd z hbT
    have C:=PySem.W.codeHd_of_K KX hC
    refine ⟨rfl,⟨fun b o e=>?_,fun b o e=>?_⟩,os,bare⟩
    ·by_cases z:b=T
     ·subst z
      rw [hT] at e; cases e
      exact .inr (.inl ⟨(C.tab hT).isCodeTable,rfl,#[],ps,rfl,by rw [Array.empty_append]; exact gT⟩)
     ·exact .inl (keep b o e z)
    ·by_cases z:b=T
     ·subst z; exact ⟨_,gT⟩
     ·exact ⟨o,keep b o e z⟩
 cases hk:K.lookup a with
 | some o =>
  have e:=KX a o hk
  rw [ha] at e
  cases e
  refine core (fun b=>if b=T then some (tabE T #[]) else none) (fun b=>?_) (.inr ⟨_,vs.toArray,_,hk,rfl,rfl,rfl,by rw [List.size_toArray,lenV]; exact hl,by simpa using rv⟩) (if_pos rfl) (fun b u z=>?_) (fun b z=>?_) fun z=>absurd (if_neg haT) z
  ·by_cases hb:b=T
   ·exact .inr (.inr hb)
   ·exact .inl (if_neg hb)
  ·by_cases hb:b=T
   ·have z':=(if_pos hb).symm.trans z
    cases z'
    subst hb
    exact lB hT
   ·have z':=(if_neg hb).symm.trans z
    cases z'
  ·by_cases hb:b=T
   ·exact .inr hb
   ·exact absurd (if_neg hb) z
 | none =>
  refine core (fun b=>if b=T then some (tabE T #[]) else if b=a then some (.frz { cls:=.type "list",data:=.seq vs.toArray } (.lst (ns.map V.int))) else none) (fun b=>?_) (.inl (.inr ⟨{ cls:=.type "list",data:=.seq vs.toArray },(if_neg haT).trans (if_pos rfl)⟩)) (if_pos rfl) (fun b u z=>?_) (fun b z=>?_) fun _=>hk
  ·by_cases hb:b=T
   ·exact .inr (.inr hb)
   ·by_cases hb2:b=a
    ·exact .inr (.inl ⟨_,_,(if_neg hb).trans (if_pos hb2)⟩)
    ·exact .inl ((if_neg hb).trans (if_neg hb2))
  ·by_cases hb:b=T
   ·have z':=(if_pos hb).symm.trans z
    cases z'
    subst hb
    exact lB hT
   ·have z:=(if_neg hb).symm.trans z
    by_cases hb2:b=a
    ·have z:=(if_pos hb2).symm.trans z
     cases z
     subst hb2
     exact ⟨ha,by rw [List.length_map]; exact hl,vs,_,rv,ha⟩
    ·have z:=(if_neg hb2).symm.trans z
     cases z
  ·by_cases hb:b=T
   ·exact .inr hb
   ·by_cases hb2:b=a
    ·exact .inl hb2
    ·exact absurd ((if_neg hb).trans (if_neg hb2)) z
theorem rg {l:PySem.W.OpenLaw} {n k:Nat} {q:Program} {loose:List Str} {XP:(Str->Option Value)->Heap->Prop} {YP:World->Heap->Prop} {d:DefRec} {K:Params->PySem.W.Frag} {sp:World->Sp} {x:Str} {T:Addr}
  (hn:l.most=some n) (hn2:n<=sizeLine) (hdf:d.params.defaults=[]) (hr:Room k callerA)
  (hY:∀ (w:World) (h:Heap),YP w h->(K w.params).In h/\h.get? T=some (PySem.W.tabObj #[])) (hKT:∀ w:World,(K w.params).lookup T=none)
  (F:∀ (w:World) (mg:Str->Option Value) (fa:Addr) (h:Heap),(K w.params).In h->h.Ns mainGlobals mg->mg d.name=some (.ref fa) ->
   ∃ fd:FuncData,(∀ (s:Shared) (u:Value),BindsTo s fd ⟨[u],[]⟩ [(x,u)])/\(∃ c,PySem.W.codeHdIn (K w.params) c T=true) /\
    ∀ base:Heap,(K w.params).In base->base.Ns mainGlobals mg->BMain mg base->FnOk l.prog w (K w.params) mg base CX0 k fa fd [x] (sp w))
  (hsp:∀ (w:World) (H:Hp) (a:Addr) (ns:List Int),ns.length<=n->SqL (K w.params) H a (ns.map V.int)->H T=some (tabE T #[])->sp w [.ref a] H (fun v H'=>v=.bl true/\∃ ps,H' T=some (tabE T ps)) fun _ _ _=>False) :
  PySem.W.WalkO q loose XP YP l.row.toRowW d [] (fun f vs=>PySem.call f vs):=by
 refine Att.attach_call hn hdf fun w s₀ s₁ mg mb fa o pm cd doc a vs ns G Y ho hd hcd hmg hobj hints hlen hg=>?_
 obtain ⟨KX,hT⟩:=hY w _ Y
 obtain ⟨fd,hb,⟨c,hC⟩,hF⟩:=F w mg fa _ KX G.T.g hmg
 have hB:BMain mg s₁.heap:=by
  obtain ⟨bm,ob,b1,b2,b3,b4,b5,b6⟩:=G.T.bmain
  exact ⟨bm,ob,b1,b2,b3,b4,b5,b6⟩
 exact qv KX G.T.g G.T.b G.T.builtins G.T.nolimit hg hobj hints (Nat.le_trans hlen hn2) hr hC hT (hKT w) hB hF hb (fun H hS hHT=>hsp w H a ns hlen hS hHT)
end L2
namespace Q
open PySem L2 PyProof.Rows
noncomputable def spLawT (K:PySem.W.Frag) (T:Addr):Sp:=fun vs H Q _=>∃ (a:Addr) (ns:List Int),vs=[.ref a]/\SqL K H a (ns.map V.int)/\ns.length<=63/\H T=some (tabE T #[])/\∀ (H':Hp) (ps:Array Value),H' T=some (tabE T ps)->Q (.bl true) H'
theorem ug {P:Program} {w:World} {K:PySem.W.Frag} {mg:Str->Option Value} {base:Heap} {D:FdO} {k:Nat} {fad T:Addr} {fd:FuncData} {ps:List Str} {lq:Str} {ln co:Nat} (F:FnOk P w K mg base CX0 k fad fd ps (spT ⟨P,w,K,obG K⟩ 1 D))
  (h:∀ (ns:List Int) (x:PV),ns.length<=63->(x=.scr ns\/x=.lst (ns.map .int))->D (tabPV lq ln co T) [x] fun r c=>r=.bl true/\c=tabPV lq ln co T):FnOk P w K mg base CX0 k fad fd ps (spLawT K T):=by
 refine F.imp fun vs H Q E q=>?_
 obtain ⟨a,ns,rfl,hs,hn,hT,kq⟩:=q
 let F0:Hp:=fun b=>if b=T then none else H b
 have sF:Same F0 H:=fun b o e=>by
  by_cases z:b=T
  ·have:=(if_pos z).symm.trans e; cases this
  ·exact (if_neg z).symm.trans e
 have f0:∀ b o,H b=some o->b≠T->F0 b=some o:=fun b o e z=>(if_neg z).trans e
 have fin:∀ x,(x=.scr ns\/x=.lst (ns.map .int))->Rep K F0 (.ref a) x->spT ⟨P,w,K,obG K⟩ 1 D [.ref a] H Q E:=fun x hx r =>
  ⟨F0,T,[T],tabPV lq ln co T,[x],_,sF,.cons r .nil,rfl,.inr (.inr ⟨lq,ln,co,#[],rfl,hT,trivial,.inl ⟨rfl,rfl⟩⟩),fun b hb=>by rw [List.mem_singleton.mp hb]; exact ⟨by rw [hT]; simp,if_pos rfl⟩,h ns x hn hx,fun r c' v F' H' l' e _ _ _ _ _ ho _ _ rv=>by
   obtain ⟨rfl,rfl⟩:=e
   cases rv
   rcases ho with (⟨q,_⟩ | ⟨_,_,q,_⟩) | ⟨_,q,_⟩ | ⟨lq',ln',co',ps',q,t1,_⟩
   ·cases q
   ·cases q
   ·cases q
   ·exact kq H' ps' t1⟩
 rcases hs with (hs | ⟨o,hs⟩) | hs
 ·exact fin _ (.inr rfl) (.lst (f0 _ _ hs fun z=>by rw [z,hT] at hs; cases hs) (ga ns))
 ·exact fin _ (.inl rfl) (.scr (.inl ⟨o,f0 _ _ hs fun z=>by rw [z,hT] at hs; cases hs⟩))
 ·exact fin _ (.inl rfl) (.scr (.inr hs))
end Q
namespace L2
open PySem PySem.Spec PyProof.Rows
theorem Inv.shut {X:Cx} {pins:List (Addr×Obj)} {σ:St} {H:Hp} {s:Shared} {d:Addr} {kvs:List (Key×V)} {o:Obj} (I:Inv X pins σ H s) (e:H d=some (.dK kvs)) (ho:s.heap.get? d=some o):Inv X pins σ (upd H d (.frz o (.dK kvs))) s:=by
 have un:Un X.fs [] H (upd H d (.frz o (.dK kvs))) s.heap s.heap:=by
  refine ⟨fun b u q n _ _=>q,fun b u q n _ _=>⟨u.slots,q⟩,fun b u q n _=>?_,fun b u q _=>⟨u,q⟩,fun b xs q=>?_,fun b u v q=>?_,fun b qs q=>⟨#[],?_⟩⟩
  ·rw [ah (fun z=>by rw [z,e] at n; cases n)]; exact n
  ·rw [ah (fun z=>by rw [z,e] at q; cases q)]; exact q
  ·rw [ah (fun z=>by rw [z,e] at q; cases q)]; exact q
  ·rw [ah (fun z=>by rw [z,e] at q; cases q),q]; simp
 have hok:HOk X.prog X.w (upd H d (.frz o (.dK kvs))) s.heap:=fun b u q=>by
  have st:∀ c v,H c=some v->ObjOk X.prog X.w (upd H d (.frz o (.dK kvs))) s.heap c v:=fun c v hc =>
   (I.hok c v hc).stay (fun _ _ _ g=>g) (fun x hx=>by rw [ah (fun z=>by rw [z,e] at hx; cases hx)]; exact hx) fun x xs hx=>by rw [ah (fun z=>by rw [z,e] at hx; cases hx)]; exact hx
  by_cases z:b=d
  ·subst z
   rw [am] at q; cases q
   exact ⟨ho,st b _ e⟩
  ·rw [ah z] at q
   exact st b u q
 have:=I.un (t':=s.toks) un hok
 exact this
noncomputable def Iti (d:Addr) (o:Obj) (kvs:List (Key×V)):It :=
 ⟨fun i H=>H d=some (.frz o (.dK kvs))/\i<kvs.length,
  fun i H v H'=>∃ p k x,v=.ref p/\H p=none/\H'=upd H p (.tup [kV k,x])/\kvs[i]?=some (k,x),
  fun i H=>H d=some (.frz o (.dK kvs))/\kvs.length<=i⟩
theorem vy {kvs:List (Key×V)} {vs:List (Key×Value)} (r:KV kvs vs):∀ {i:Nat} {k:Key} {x:V},kvs[i]?=some (k,x)->∃ u,vs[i]?=some (k,u)/\RelV x u:=by
 induction r with
 | nil=>intro i k x e; simp at e
 | @cons p q ps qs h t ih =>
  intro i k x e
  cases i with
  | zero =>
   simp only [List.getElem?_cons_zero,Option.some.injEq] at e
   subst e
   obtain ⟨k',u⟩:=q
   obtain ⟨h1,h2⟩:=h
   dsimp only at h1 h2
   subst h1
   exact ⟨u,rfl,h2⟩
  | succ i =>
   simp only [List.getElem?_cons_succ] at e ⊢
   exact ih e
theorem oP {P:Program} {w:World} {K:PySem.W.Frag} {elts:List Expr} {x1:_} {pos:Pos} {d it:Addr} {o:Obj} {kvs:List (Key×V)} {vs:List (Key×Value)} {es:Array DictEntry} {ep:Nat} (r:KV kvs vs) (hx:o.ExactDict) (hdat:o.data=.dict es ep) (hk:KeysOf (aI P w) es) (hp:Pairs (aI P w) es.toList vs) (hn:(vs.map (·.1)).Nodup) :
  Turn P w K (.Tuple elts x1 pos) (Iti d o kvs) [it] it (fun n h=>∃ a b,IsItemIter h it d n vs.length ep a b) where
 mem:=by simp
 obj:=fun n h ⟨a,b,Z⟩ c hc=>by
  rw [List.mem_singleton.mp hc]
  exact ⟨_,Z,fun v e=>by cases (show Data.fields _=Data.cell v from e)⟩
 keep:=fun n h h' ⟨a,b,Z⟩ k=>⟨a,b,k it (by simp) _ Z⟩
 item:=by
  intro X hP hw hK hc n pins s σ H E I hf Z hg
  subst hP hw hK
  obtain ⟨ka,kb,Z⟩:=Z
  obtain ⟨hd,hlt⟩:=hg
  have ho:s.heap.get? d=some o:=(I.hok d _ hd).1
  have D:s.heap.DictAt (aI X.prog X.w) d vs ep:=⟨o,es,ho,hx,hdat,hk,hp,hn⟩
  obtain ⟨⟨k,x⟩,hkx⟩:∃ q,kvs[n]?=some q:=⟨_,List.getElem?_eq_getElem hlt⟩
  obtain ⟨u,hu,ru⟩:=vy r hkx
  have hfree:H s.heap.objs.size=none:=I.hok.fresh (Nat.le_refl _)
  have hil:it<s.heap.objs.size:=Heap.lt_size Z
  have hni:s.heap.objs.size≠it:=Nat.ne_of_gt hil
  refine wpAny_pyNext_items_item Z D hu fun key h' q1 q2 q3 q4 kk=>?_
  have rk:RelV (kV k) key:=by
   rcases aX q1 with ⟨i,t,rfl,rfl⟩ | ⟨y,t,rfl,rfl⟩
   ·exact ⟨t,rfl⟩
   ·exact ⟨t,rfl⟩
  refine ⟨_,rfl,wpAny_letOwnedTupleGo_items (s:={ s with heap:=h' }) q2 fun h2 w1 w2=>?_⟩
  have I1:Inv X pins σ (upd H s.heap.objs.size (.tup [kV k,x])) { s with heap:=s.heap.push { cls:=.type "tuple",data:=.seq #[key,u] } } :=
   I.laid (t':=s.toks) (fun b u e=>Heap.get?_push_of_some _ e) (Nat.le_refl _) ⟨by show 2<=sizeLine; decide,[key,u],.cons rk (.cons ru .nil),⟨_,Heap.get?_push_size _ rfl,rfl,_,rfl⟩⟩
  have hf1:∀ c∈[it],FpOk X pins (upd H s.heap.objs.size (.tup [kV k,x])) c:=fun c hc=>by
   rw [List.mem_singleton.mp hc]
   have:=hf it (by simp)
   exact ⟨by rw [ah (Ne.symm hni)]; exact this.1,this.2⟩
  have I2:Inv X pins σ (upd H s.heap.objs.size (.tup [kV k,x])) { s with heap:=h2 }:=by
   refine I1.turnedL (t':=s.toks) (h':=h2) (fun c q hc e=>?_) hf1
   have hcz:c≠it:=fun e=>hc (by simp [e])
   refine w2.extBut _ _ hcz ?_
   by_cases hcs:c=s.heap.objs.size
   ·subst hcs
    have:(s.heap.push { cls:=.type "tuple",data:=.seq #[key,u] }).get? s.heap.objs.size=some { cls:=.type "tuple",data:=.seq #[key,u] }:=Heap.get?_push_size _ rfl
    have e':some { cls:=.type "tuple",data:=.seq #[key,u] }=some q:=this.symm.trans e
    rw [<- e']; exact q3
   ·exact kk c q hcz ((Heap.get?_push_ne _ _ _ hcs).symm.trans e)
  exact ⟨.ref s.heap.objs.size,_,I2,rfl,⟨_,k,x,rfl,hfree,rfl,hkx⟩,⟨_,_,w1⟩,fun c hc=>(hf1 c hc).1⟩
 done:=by
  intro X hP hw hK hc n pins s σ H E I hf Z hg
  subst hP hw hK
  obtain ⟨ka,kb,Z⟩:=Z
  obtain ⟨hd,hle⟩:=hg
  have ho:s.heap.get? d=some o:=(I.hok d _ hd).1
  have D:s.heap.DictAt (aI X.prog X.w) d vs ep:=⟨o,es,ho,hx,hdat,hk,hp,hn⟩
  have hl:=r.length
  refine wpAny_pyNext_items_end (I.ok.hd hc) Z D (List.getElem?_eq_none (by omega)) fun h' kk=>⟨rfl,I.turnedL (t':=s.toks) (fun c q hc e=>kk c q (fun z=>hc (by simp [z])) e) hf⟩
 self:=fun _ _ _ _ _ ⟨_,_,Z⟩ h=>PySem.W.kcp_self Z h
section
variable {X:Cx}
noncomputable def iItems (to:TE):TI:=fun σ H R=>to σ H fun v H1=>∃ d kvs,v=.ref d/\H1 d=some (.dK kvs)/\∀ o,R (Iti d o kvs) (upd H1 d (.frz o (.dK kvs)))
theorem rO {elts:List Expr} {x1:_} {tpos:Pos} {o:Expr} {to:TE} {apos pos:Pos} (ho:PE X o to)
  (hbase:autoParam (attributeBase o "items" X.env (eval o X.env)=eval o X.env) Z2._auto_1) (hline:autoParam ((apos.endLine==pos.line)=true) Z2._auto_1) :
  PI X (.Tuple elts x1 tpos) (.Call (.Attribute o "items" apos) [] [] pos) (iItems to):=by
 intro pins s σ H R I h
 refine wpAny_Call_method0_late hbase hline (thn (ho pins s σ H _ I h) fun v s1 ⟨x,H1,I1,r1,q1⟩=>?_)
 obtain ⟨d,kvs,ex,hd,q1⟩:=q1
 subst ex
 cases r1
 obtain ⟨t1,t2,t3⟩:=vP I1 (.inl ⟨kvs,.inl hd⟩)
 refine ⟨"dict", "dict.items",PySem.F.plainAttrs_dict,PySem.F.slot_dict_items,PySem.F.type_dict_items,t1,t2,Calls.callWith_builtin rfl (PySem.evalArgs_none ?_)⟩
 obtain ⟨hz,_,vs,rel,dd⟩:=jl I1.hok hd
 refine call_meetsIn PySem.F.slot_dict_items dd.typeIs PySem.F.entry_dict_items (PySem.F.args_dict_items_1 _) (meets_dict_items (aI X.prog X.w) d t3) ⟨⟨vs,dd⟩,?_⟩
 obtain ⟨o,es,ep,ho,hx,hdat,hk,hp,hn⟩:=dd
 have D:s1.heap.DictAt (aI X.prog X.w) d vs ep:=⟨o,es,ho,hx,hdat,hk,hp,hn⟩
 refine wpAny_pyIter_items (s:={ s1 with heap:=s1.heap.push { cls:=.type "dict_items",data:=.fields #[.ref d] } }) (v:=s1.heap.objs.size) (d:=d) ⟨_,Heap.get?_push_size _ rfl,rfl,rfl⟩ (D.push _) ?_
 have I2:Inv X pins σ H1 { s1 with heap:=(s1.heap.push { cls:=.type "dict_items",data:=.fields #[.ref d] }).push { cls:=.type "dict_itemiterator",data:=.fields #[.none,.bool false,.ref d,.int 0 0,.int vs.length 0,.int ep 0,.none,.none] } } :=
  I1.kept (t':=s1.toks) fun b u e=>Heap.get?_push_of_some _ (Heap.get?_push_of_some _ e)
 have I3:=I2.shut hd (o:=o) (Heap.get?_push_of_some _ (Heap.get?_push_of_some _ ho))
 have hsz:(s1.heap.push { cls:=.type "dict_items",data:=.fields #[.ref d] }).objs.size=s1.heap.objs.size+1:=Heap.size_push ..
 have hge:s1.heap.objs.size<=(s1.heap.push { cls:=.type "dict_items",data:=.fields #[.ref d] }).objs.size:=by omega
 have hfr:H1 (s1.heap.push { cls:=.type "dict_items",data:=.fields #[.ref d] }).objs.size=none:=I1.hok.fresh hge
 refine ⟨_,[_],_,_,_,rfl,I3,oP (it:=(s1.heap.push { cls:=.type "dict_items",data:=.fields #[.ref d] }).objs.size) rel hx hdat hk hp hn,⟨_,_,Heap.get?_push_size _ rfl⟩,fun b hb=>?_,q1 o⟩
 rw [List.mem_singleton.mp hb]
 exact I1.fpOk hge (by rw [ah (fun z=>by rw [z,hd] at hfr; cases hfr)]; exact hfr)
end
end L2
namespace Q
open PySem L2 PyProof.Rows
noncomputable def kP:Key->PV
 | .inl i=>.int i
 | .inr x=>.str x
noncomputable def pairP (q:Key×PV):PV:=.tup [kP q.1,q.2]
theorem vF {K:PySem.W.Frag} {F:Hp}:∀ k:Key,Rep K F (kV k) (kP k)
 | .inl i=>.int i
 | .inr x=>.str x
theorem RepsK.get {K:PySem.W.Frag} {F:Hp} {vs:List (Key×V)} {xs:List (Key×PV)} (h:RepsK K F vs xs):∀ {i:Nat} {k:Key} {x:PV},xs[i]?=some (k,x)->∃ v,vs[i]?=some (k,v)/\Rep K F v x:=by
 induction h using RepsK.ind with
 | nil=>intro i k x e; simp at e
 | cons a r ih =>
  intro i k x e
  cases i with
  | zero =>
   simp only [List.getElem?_cons_zero,Option.some.injEq,Prod.mk.injEq] at e ⊢
   obtain ⟨rfl,rfl⟩:=e
   exact ⟨_,⟨rfl,rfl⟩,a⟩
  | succ i =>
   simp only [List.getElem?_cons_succ] at e ⊢
   exact ih e
theorem vN {M:Md} {F:Hp} {d:Addr} {o:Obj} {vs:List (Key×V)} {xs:List (Key×PV)} (h:F d=some (.frz o (.dK vs))) (r:RepsK M.K F vs xs):ItOk M (Iti d o vs) F (xs.map pairP):=by
 refine ⟨fun Z i σ env F' H x s K e=>?_,fun Z i σ env F' H s K hl=>⟨K.sF _ _ (s _ _ h),by rw [r.len]; simpa using hl⟩⟩
 rw [List.getElem?_map] at e
 cases ez:xs[i]? with
 | none=>rw [ez] at e; cases e
 | some q =>
  rw [ez] at e
  obtain ⟨k,y⟩:=q
  have e:x=pairP (k,y):=(Option.some.inj e).symm
  subst e
  obtain ⟨v,hv,rv⟩:=r.get ez
  refine ⟨⟨K.sF _ _ (s _ _ h),(List.getElem?_eq_some_iff.mp hv).1⟩,fun v' H' y'=>?_⟩
  obtain ⟨p,k',x',rfl,hp,rfl,q⟩:=y'
  rw [hv] at q; cases q
  have hF:F' p=none:=Same.none_of K.sF hp
  refine ⟨upd F' p (.tup [kV k,v]),aA hF,K.lay hp,.tup (.inl (.inl am)) (.cons (vF k) (.cons ((rv.mono s).mono (aA hF)) .nil)),aA hp,fun c hc=>?_⟩
  by_cases z:c=p
  ·subst z; exact .inr hp
  ·rw [ah z] at hc; exact .inl hc
noncomputable def eD (i:Nat):WA:=fun env P=>match env[i]? with
 | some (some ⟨1,.dic kvs⟩)=>P (kvs.map pairP) (env.set i none)
 | _=>False
theorem Sok.shut {M:Md} {Z:Zn} {F H:Hp} {σ:L2.St} {env:En} {i:Nat} {kvs:List (Key×PV)} (K:Sok M Z F σ H env) (hi:env[i]?=some (some ⟨1,.dic kvs⟩)) :
  ∃ d vs,σ[i]?=some (some (.ref d))/\H d=some (.dK vs)/\F d=none/\RepsK M.K F vs kvs/\∀ o,Sok M Z (upd F d (.frz o (.dK vs))) σ (upd H d (.frz o (.dK vs))) (env.set i none):=by
 obtain ⟨fp,L⟩:=K.sl
 obtain ⟨v,hv,ok⟩:=L.at' i _ hi
 rcases ok with ⟨e,_⟩ | ⟨_,d,rfl,hf,h0,vs,hd,rk⟩ | ⟨e,_⟩ | ⟨e,_⟩
 ·cases e
 ·have ha:=L.al i d (by rw [hf]; simp)
  refine ⟨d,vs,hv,hd,ha.2,rk,fun o=>?_⟩
  have s1:Same F (upd F d (.frz o (.dK vs))):=aA ha.2
  have ot:∀ j b,j≠i->b∈fp j->b≠d:=fun j b hj hb z=>L.dj j i b hj hb (by rw [hf,z]; simp)
  refine ⟨fun b u e=>?_,fun b u e hb=>?_,fun b e=>?_,aj K.gr s1,fun b e=>?_,by simp [K.len],fun j=>if j=i then [] else fp j,fun j s h=>?_,fun j b h=>?_,fun j k b hjk h z=>?_,fun j b t e1 e2 e3=>?_⟩
  ·by_cases z:b=d
   ·subst z; rw [am] at e ⊢; exact e
   ·rw [ah z] at e ⊢; exact K.sF b u e
  ·rw [ah (fun z=>by rw [z,h0] at e; cases e)]
   exact K.sG b u e hb
  ·by_cases z:b=d
   ·subst z; rw [am]; simp
   ·rw [ah z]; exact K.pr b e
  ·by_cases z:b=d
   ·subst z; exact .inr h0
   ·rw [ah z] at e; exact K.nw b e
  ·by_cases z:j=i
   ·subst z
    rw [List.getElem?_set] at h
    simp only [if_true] at h
    split at h <;> cases h
   ·rw [List.getElem?_set_ne (Ne.symm z)] at h
    rw [if_neg z]
    obtain ⟨v,g1,g2⟩:=L.at' j s h
    exact ⟨v,g1,g2.mono s1 fun c hc=>ah (ot j c z hc)⟩
  ·split at h
   ·simp at h
   ·rename_i z
    have:=L.al j b h
    rw [ah (ot j b z h),ah (ot j b z h)]; exact this
  ·split at h
   ·simp at h
   ·split at z
    ·simp at z
    ·exact L.dj j k b hjk h z
  ·by_cases z:j=i
   ·subst z
    rw [List.getElem?_set] at e2
    simp only [if_true] at e2
    split at e2 <;> cases e2
   ·rw [List.getElem?_set_ne (Ne.symm z)] at e2
    exact L.oa j b t e1 e2 e3
 ·rcases e with e | e <;> cases e
 ·cases e
theorem kR {ob:ObK} {X:Cx} (i:Nat) {x:Str} {p apos pos tpos:Pos} {elts:List Expr} {x1:_} (ho:PE X (.Name x p) (tVar i))
  (hbase:autoParam (attributeBase (.Name x p) "items" X.env (eval (.Name x p) X.env)=eval (.Name x p) X.env) Z2._auto_1) (hline:autoParam ((apos.endLine==pos.line)=true) Z2._auto_1) :
  EvI ob X (.Tuple elts x1 tpos) (.Call (.Attribute (.Name x p) "items" apos) [] [] pos) (eD i):=by
 refine ⟨_,rO ho hbase hline,fun Z F σ H env P R K hf kk=>?_⟩
 unfold eD at hf
 split at hf
 ·rename_i kvs ei
  obtain ⟨d,vs,hv,hd,hF,rk,kz⟩:=K.shut ei
  exact ⟨_,hv,d,vs,rfl,hd,fun o=>kk _ _ _ _ _ hf (aA hF) (kz o) (vN am (rk.mono (aA hF)))⟩
 ·exact hf.elim
end Q
namespace L2
open PySem PySem.Spec PyProof.Rows PySem.W
section
variable {prog:Program} {w:World} {A:Around} {E:Value->Shared->Prop} {s:Shared}
end
theorem kf:∀ {ad:List Addr} {us:List Value},Vals (ad.map V.ref) us->us=ad.map Value.ref
 | [],us,h=>by cases h; rfl
 | a::ad,us,h=>by
  cases h with
  | cons r t=>cases r; rw [kf t]; rfl
theorem kB:∀ ad:List Addr,Vals (ad.map V.ref) (ad.map Value.ref)
 | []=>.nil
 | a::ad=>.cons rfl (kB ad)
end L2
namespace Q
open PySem L2 PyProof.Rows
section
variable {ob:ObK} {X:Cx} {e:Expr} {f:WE} {p pos kpos p1:Pos} {kd:_}
end
end Q
namespace L2
open PySem PySem.Spec PyProof.Rows
section
open PySem.SeqAt
open PySem.AutoSeq1 (wpAny_loadPart')
open PySem.MeetsSeq PySem.MeetsSeq2 PySem.MeetsSeq3
end
end L2
namespace Q
open PySem L2 PyProof.Rows
section
variable {X:Cx} {pins:List (Addr×Obj)} {σ:L2.St} {H F:Hp} {s:Shared}
end
section
variable {ob:ObK} {X:Cx}
end
end Q
namespace L2
open PySem PySem.Spec PyProof.Rows
section
variable {prog:Program} {w:World} {A:Around} {E:Value->Shared->Prop} {s:Shared} {a₀:Array Keyed} {κ:KeyKind}
end
section
variable {X:Cx}
end
end L2
namespace Q
open PySem L2 PyProof.Rows
section
variable {ob:ObK} {X:Cx} {a b c e:Expr} {es:List Expr} {f g h:WE} {fa:WA} {pos p p1:Pos} {x:Str}
end
section
variable {ob:ObK} {X:Cx}
end
section
variable {ob:ObK} {X:Cx} {a:Expr} {pos:Pos} {f:WE}
noncomputable def rSlS:V->Option Int->Option Int->Hp->VK->Prop:=fun x lo hi H Q=>∃ s:Str,x=.str s/\s.length<=1000/\Q (.str (Txt.slice s lo hi)) H
theorem uU:SlR X rSlS:=by
 intro pins s σ H x v vl vu lo hi sl Q I rx hs pl pu h
 obtain ⟨y,rfl,hl,q⟩:=h
 obtain ⟨t,rfl⟩:=rx
 obtain ⟨l,el,rfl⟩:∃ l:Option (Int×Tok),partValue l=vl/\l.map (·.1)=lo:=by
  cases pl with
  | none=>exact ⟨none,rfl,rfl⟩
  | int i t=>exact ⟨some (i,t),rfl,rfl⟩
 obtain ⟨u,eu,rfl⟩:∃ u:Option (Int×Tok),partValue u=vu/\u.map (·.1)=hi:=by
  cases pu with
  | none=>exact ⟨none,rfl,rfl⟩
  | int i t=>exact ⟨some (i,t),rfl,rfl⟩
 subst el eu
 refine ⟨"str",_,F.slot_str_getitem.lookup,typeIs_str _ _ _,wpAny_getItem_str_slice (l:=l) (u:=u) (st:=none) hs rfl (post_val_or_str ⟨?_,fun t' k=>?_⟩)⟩
 ·exact Nat.le_trans (Txt.slice_le y (l.map (·.1)) (u.map (·.1))) (by rw [sizeLine_eq]; omega)
 ·exact ⟨.str (Txt.slice y (l.map (·.1)) (u.map (·.1))),H,I.kept (t':=k) (fun b o e=>e),⟨t',rfl⟩,q⟩
noncomputable def slSPV:PV->Option Int->Option Int->Option PV
 | .str s,lo,hi=>if s.length<=1000 then some (.str (Txt.slice s lo hi)) else none
 | _,_,_=>none
noncomputable def eSlS (a:WE) (lo hi:WO):WE:=fun env P=>a env fun x e1=>lo e1 fun l e2=>hi e2 fun u e3=>opt (slSPV x l u) fun z=>P z e3
theorem qO {l u:Option Expr} {lo hi:WO} {p2:Pos} (ha:EvS ob X a f) (hl:EvO ob X l lo) (hu:EvO ob X u hi):EvS ob X (.Subscript a (.Slice l u none p2) pos) (eSlS f lo hi):=by
 obtain ⟨t,ht,k⟩:=ha.ex
 obtain ⟨t1,ht1,k1⟩:=hl.ex
 obtain ⟨t2,ht2,k2⟩:=hu.ex
 refine ⟨_,ir uU ht ht1 ht2,fun Z F σ H env P Q K hf kk=>k Z F σ H env _ _ K hf fun x e1 v F1 H1 p s1 K1 r1=>?_⟩
 refine k1 Z F1 σ H1 e1 _ _ K1 p fun i e2 F2 H2 p2 s2 K2=>k2 Z F2 σ H2 e2 _ _ K2 p2 fun j e3 F3 H3 p3 s3 K3=>?_
 obtain ⟨z,hz,p3⟩:=p3
 have r3:=(r1.mono s2).mono s3
 have s4:=aj s1 (aj s2 s3)
 unfold slSPV at hz
 split at hz
 ·split at hz
  ·rename_i hl
   cases hz
   cases r3
   exact ⟨_,rfl,hl,kk _ e3 _ F3 H3 p3 s4 K3 (.str _)⟩
  ·cases hz
 ·cases hz
end
end Q
namespace L2
open PySem PySem.Spec PyProof.Rows
section
variable {X:Cx} {o e:Expr} {to te:TE} {apos pos:Pos}
end
section
open Builtin Builtin.Str
variable {prog:Program} {w:World} {A:Around} {E:Value->Shared->Prop} {s:Shared}
end
section
variable {X:Cx} {o e:Expr} {to te:TE} {apos pos:Pos}
noncomputable def tJoin (K:PySem.W.Frag) (to te:TE):TE:=fun σ H Q=>to σ H fun x H1=>∃ a:Str,x=.str a/\te σ H1 fun y H2=>∃ (p:Addr) (ss:List Str),y=.ref p/\SqL K H2 p (ss.map V.str)/\JoinOk a ss=true/\Q (.str (Txt.join a ss)) H2
theorem iP:∀ {ss:List Str} {us:List Value},Vals (ss.map V.str) us->∃ l:List (Str×Tok),l.map (·.1)=ss/\strValues l=us
 | [],_,h=>by cases h; exact ⟨[],rfl,rfl⟩
 | s::ss,_,h=>by
  cases h with
  | cons a b =>
   obtain ⟨t,rfl⟩:=a
   obtain ⟨l,e1,e2⟩:=iP b
   exact ⟨(s,t)::l,by rw [List.map_cons,e1],by rw [<- e2]; rfl⟩
theorem tR (ho:PE X o to) (he:PE X e te) (hbase:autoParam (attributeBase o "join" X.env (eval o X.env)=eval o X.env) Z2._auto_1) (hs:autoParam (starEach [e] X.env=[(false,eval e X.env)]) Z2._auto_1) (hline:autoParam ((apos.endLine==pos.line)=true) Z2._auto_1) :
  PE X (.Call (.Attribute o "join" apos) [e] [] pos) (tJoin X.K to te):=by
 intro pins s σ H Q I h
 refine Call_method1 hbase hs hline (thn (ho pins s σ H _ I h) fun v s1 ⟨x,H1,I1,r1,a,e1,q1⟩=>?_)
 subst e1
 obtain ⟨t,rfl⟩:=r1
 refine SB.join (thn (he pins s1 σ H1 _ I1 q1) fun u s2 ⟨y,H2,I2,r2,p,ss,e2,hp,hj,q2⟩=>?_)
 subst e2
 cases r2
 obtain ⟨its,rv,pl,_⟩:=I2.list hp
 obtain ⟨l,e1,e2⟩:=iP rv
 refine ⟨p,l,rfl,by rw [e2]; exact pl.isList,ss,e1,hj,fun t' k=>?_⟩
 exact ⟨.str _,H2,I2.kept (t':=k) (fun b o e=>e),⟨t',rfl⟩,q2⟩
end
end L2
namespace Q
open PySem L2 PyProof.Rows
section
variable {ob:ObK} {X:Cx} {a b e:Expr} {f g:WE} {apos pos:Pos}
noncomputable def eJoin (f g:WE):WE:=fun env P=>f env fun x e1=>match x with
 | .str a=>g e1 fun y e2=>match y with
  | .lst ys=>∃ ss,ys.mapM strPV=some ss/\JoinOk a ss=true/\P (.str (Txt.join a ss)) e2
  | _=>False
 | _=>False
theorem uA (ha:EvS ob X a f) (hb:EvW ob X b g) (hbase:autoParam (attributeBase a "join" X.env (eval a X.env)=eval a X.env) Z2._auto_1) (hs:autoParam (starEach [b] X.env=[(false,eval b X.env)]) Z2._auto_1) (hline:autoParam ((apos.endLine==pos.line)=true) Z2._auto_1) :
  EvS ob X (.Call (.Attribute a "join" apos) [b] [] pos) (eJoin f g):=by
 obtain ⟨ta,ha,ka⟩:=ha.ex
 obtain ⟨tb,hb,kb⟩:=hb.ex
 refine ⟨_,tR ha hb hbase hs hline,fun Z F σ H env P Q K hf kk=>ka Z F σ H env _ _ K hf fun x e1 v F1 H1 p s1 K1 r1=>?_⟩
 split at p
 ·cases r1
  refine ⟨_,rfl,kb Z F1 σ H1 e1 _ _ K1 p fun y e2 u F2 H2 p2 s2 K2 r2=>?_⟩
  split at p2
  ·obtain ⟨ss,es,hj,p2⟩:=p2
   obtain ⟨q,vs,rfl,h1,h2⟩:=r2.lst K2.sF
   have:=de jw es h2
   subst this
   exact ⟨q,ss,rfl,.inl (.inl h1),hj,kk _ e2 _ F2 H2 p2 (aj s1 s2) K2 (.str _)⟩
  ·exact p2.elim
 ·exact p.elim
end
end Q
namespace L2
open PySem PySem.Spec PyProof.Rows
section
variable {prog:Program} {w:World} {A:Around} {E:Value->Shared->Prop} {s:Shared} {l b:Addr} {items items2:Array Value} {n n2:Nat}
end
section
variable {X:Cx}
end
end L2
namespace Q
open PySem L2 PyProof.Rows
section
variable {ob:ObK} {X:Cx} {e:Expr} {g:WE} {pos pos':Pos}
end
end Q
set_option maxHeartbeats 400000
namespace L2
open PySem PySem.Spec PyProof.Rows
noncomputable def Ite (K:PySem.W.Frag) (l:Addr):It :=
 ⟨fun i H=>∃ xs x,SqL K H l xs/\xs[i]?=some x,
  fun i H v H'=>∃ p x,v=.ref p/\H p=none/\H'=upd H p (.tup [.int i,x])/\∀ xs,SqL K H l xs->xs[i]?=some x,
  fun i H=>∃ xs,SqL K H l xs/\xs.length<=i⟩
structure EnT (h:Heap) (e it l:Addr) (i:Nat):Prop where
 en:∃ old,IsEnum h e it i old
 li:h.IsListIter it l i
theorem pJ {P:Program} {w:World} {K:PySem.W.Frag} {elts:List Expr} {x1:_} {pos:Pos} (l e it:Addr) (hne:e≠it) :
  Turn P w K (.Tuple elts x1 pos) (Ite K l) [e,it] e (fun n h=>EnT h e it l n) where
 mem:=by simp
 obj:=fun n h Z c hc=>by
  obtain ⟨⟨old,ee⟩,o,eo,r1,r2⟩:=Z
  simp only [List.mem_cons,List.not_mem_nil,or_false] at hc
  rcases hc with rfl | rfl
  ·exact ⟨_,ee,fun v q=>(by cases (show Data.fields _=Data.cell v from q))⟩
  ·exact ⟨_,eo,fun v q=>(by rw [r2] at q; cases q)⟩
 keep:=fun n h h' Z k=>by
  obtain ⟨⟨old,ee⟩,o,eo,r⟩:=Z
  exact ⟨⟨old,k e (by simp) _ ee⟩,o,k it (by simp) _ eo,r⟩
 item:=by
  intro X hP hw hK hc n pins s σ H E I hf Z hg
  subst hP hw hK
  obtain ⟨⟨old,ee⟩,hli⟩:=Z
  obtain ⟨xs,x,hx,ex⟩:=hg
  obtain ⟨its,rv,pl,hz⟩:=I.list hx
  obtain ⟨v,ev,r⟩:=rv.get ex
  have hfree:H s.heap.objs.size=none:=I.hok.fresh (Nat.le_refl _)
  have ol:∀ c∈[e,it],c<s.heap.objs.size:=fun c hc=>by
   obtain ⟨o,eo,r⟩:=hli
   simp only [List.mem_cons,List.not_mem_nil,or_false] at hc
   rcases hc with rfl | rfl
   ·exact Heap.lt_size ee
   ·exact Heap.lt_size eo
  have nze:s.heap.objs.size≠e:=Nat.ne_of_gt (ol e (by simp))
  have nzi:s.heap.objs.size≠it:=Nat.ne_of_gt (ol it (by simp))
  refine wpAny_pyNext_enum_item ee hli pl.isList (x:=v) (by simpa using ev) hne fun h' q1 q2 q3 q4 kk=>?_
  refine ⟨_,rfl,wpAny_letOwnedTupleGo_enum (s:={ s with heap:=h',toks:=s.toks+1 }) q1 fun h2 w1 w2=>?_⟩
  have I1:Inv X pins σ (upd H s.heap.objs.size (.tup [.int n,x])) { s with heap:=s.heap.push { cls:=.type "tuple",data:=.seq #[.int n s.toks,v] } } :=
   I.laid (t':=s.toks) (fun b u e=>Heap.get?_push_of_some _ e) (Nat.le_refl _) ⟨by show 2<=sizeLine; decide,[.int n s.toks,v],.cons ⟨s.toks,rfl⟩ (.cons r .nil),⟨_,Heap.get?_push_size _ rfl,rfl,_,rfl⟩⟩
  have hf1:∀ c∈[e,it],FpOk X pins (upd H s.heap.objs.size (.tup [.int n,x])) c:=fun c hc=>⟨by rw [ah (Nat.ne_of_lt (ol c hc))]; exact (hf c hc).1,(hf c hc).2⟩
  have I2:Inv X pins σ (upd H s.heap.objs.size (.tup [.int n,x])) { s with heap:=h2,toks:=s.toks+1 }:=by
   refine I1.turnedL (t':=s.toks+1) (h':=h2) (fun c q hc eq=>?_) hf1
   have hce:c≠e:=fun z=>hc (by simp [z])
   have hci:c≠it:=fun z=>hc (by simp [z])
   refine w2.extBut _ _ hce ?_
   by_cases hcs:c=s.heap.objs.size
   ·subst hcs
    have:(s.heap.push { cls:=.type "tuple",data:=.seq #[.int n s.toks,v] }).get? s.heap.objs.size=some { cls:=.type "tuple",data:=.seq #[.int n s.toks,v] }:=Heap.get?_push_size _ rfl
    have e':some { cls:=.type "tuple",data:=.seq #[.int n s.toks,v] }=some q:=this.symm.trans eq
    rw [<- e']; exact q3
   ·exact kk c q hce hci ((Heap.get?_push_ne _ _ _ hcs).symm.trans eq)
  refine ⟨.ref s.heap.objs.size,_,I2,rfl,⟨_,x,rfl,hfree,rfl,fun xs' g=>?_⟩,?_,fun c hc=>(hf1 c hc).1⟩
  ·rw [I.list_inj g hx]; exact ex
  ·refine ⟨⟨_,w1⟩,?_⟩
   obtain ⟨o,eo,r⟩:=q2
   exact ⟨o,w2.extBut _ _ (Ne.symm hne) eo,r⟩
 done:=by
  intro X hP hw hK hc n pins s σ H E I hf Z hg
  subst hP hw hK
  obtain ⟨⟨old,ee⟩,hli⟩:=Z
  obtain ⟨xs,hx,hl⟩:=hg
  obtain ⟨its,rv,pl,hz⟩:=I.list hx
  have l1:=rv.length
  refine wpAny_pyNext_enum_end (I.ok.hd hc) ee hli pl.isList (by simp; omega) fun h' kk=>⟨rfl,I.turnedL (t':=s.toks) (fun c q hc eq=>kk c q (fun z=>hc (by simp [z])) eq) hf⟩
 self:=fun A i s Q E Z h=>by
  obtain ⟨⟨old,ee⟩,_⟩:=Z
  exact wpAny_pyIter_enum ee h
section
variable {X:Cx}
noncomputable def iEnum (K:PySem.W.Frag) (ta:TA):TI:=fun σ H R=>ta σ H fun vs H1=>∃ l xs,vs=[.ref l]/\SqL K H1 l xs/\R (Ite K l) H1
theorem tQ {elts:List Expr} {x1:_} {tpos:Pos} {a:Expr} {ta:TA} {p pos:Pos} (hg:Gl X "enumerate") (hm:X.mg "enumerate" = none) (ha:PA X [a] ta) (hs:autoParam (starEach [a] X.env=[(false,eval a X.env)]) Z2._auto_1) :
  PI X (.Tuple elts x1 tpos) (.Call (.Name "enumerate" p) [a] [] pos) (iEnum X.K ta):=by
 intro pins s σ H R I h
 refine Call_ (ed I hg hm boot_enumerate (PyProof.Rows.callWith_type1 (thn (ha pos pins s σ H _ I h) fun us s1 ⟨vs,H1,I1,r1,q1⟩=>?_) (by rw [hs]; rfl) rfl))
 obtain ⟨l,xs,e,hx,q⟩:=q1
 subst e
 cases r1 with
 | cons ra rr =>
  cases rr
  cases ra
  obtain ⟨its,rv,pl,hz⟩:=I1.list hx
  refine call_enumerate_list pl.isList fun h' he hi sz kk=>?_
  have I2:Inv X pins σ H1 { s1 with heap:=h' }:=I1.kept (t':=s1.toks) kk
  refine wpAny_pyIter_enum he ⟨_,_,_,_,H1,rfl,I2,pJ l _ _ (Nat.succ_ne_self _),⟨⟨_,he⟩,hi⟩,fun b' hb=>?_,q⟩
  have hge:s1.heap.objs.size<=b':=by
   simp only [List.mem_cons,List.not_mem_nil,or_false] at hb
   rcases hb with rfl | rfl
   ·exact Nat.le_succ _
   ·exact Nat.le_refl _
  exact I1.fpOk hge (I1.hok.fresh hge)
end
end L2
namespace Q
open PySem L2 PyProof.Rows
noncomputable def enumP (xs:List PV):List PV:=xs.zipIdx.map fun p=>.tup [.int p.2,p.1]
theorem vO {M:Md} {F:Hp} {a:Addr} {vs:List V} {xs:List PV} (h1:SqL M.K F a vs) (r1:Reps M.K F vs xs):ItOk M (Ite M.K a) F (enumP xs):=by
 refine ⟨fun Z i σ env F' H x s K e=>?_,fun Z i σ env F' H s K hl=>⟨vs,bt K.sF (bt s h1),?_⟩⟩
 ·unfold enumP at e
  rw [List.getElem?_map,List.getElem?_zipIdx] at e
  cases ez:xs[i]? with
  | none=>rw [ez] at e; cases e
  | some x1 =>
   rw [ez] at e
   have e:x=.tup [.int ((0+i:Nat):Int),x1]:=(Option.some.inj e).symm
   rw [Nat.zero_add] at e
   subst e
   obtain ⟨v1,q1,q2⟩:=r1.get ez
   have g1:=bt K.sF (bt s h1)
   refine ⟨⟨vs,v1,g1,q1⟩,fun v' H' y=>?_⟩
   obtain ⟨p,w1,rfl,hp,rfl,y⟩:=y
   have y1:=y vs g1
   rw [q1] at y1; cases y1
   have hF:F' p=none:=Same.none_of K.sF hp
   refine ⟨upd F' p (.tup [.int i,v1]),aA hF,K.lay hp,.tup (.inl (.inl am)) (.cons (.int _) (.cons ((q2.mono s).mono (aA hF)) .nil)),aA hp,fun c hc=>?_⟩
   by_cases z:c=p
   ·subst z; exact .inr hp
   ·rw [ah z] at hc; exact .inl hc
 ·have:=r1.len
  simp only [enumP,List.length_map,List.length_zipIdx] at hl
  omega
section
variable {ob:ObK} {X:Cx} {a:Expr} {fa:WA} {p pos:Pos}
noncomputable def iE (a:WA):WA:=fun env P=>a env fun xs e=>match xs with
 | [.lst xs]=>P (enumP xs) e
 | _=>False
theorem uF {elts:List Expr} {x1:_} {tpos:Pos} (hg:Gl X "enumerate") (hm:X.mg "enumerate" = none) (ha:EvA ob X [a] fa) (hs:autoParam (starEach [a] X.env=[(false,eval a X.env)]) Z2._auto_1) :
  EvI ob X (.Tuple elts x1 tpos) (.Call (.Name "enumerate" p) [a] [] pos) (iE fa):=by
 obtain ⟨t,ht,k⟩:=ha.ex
 refine ⟨_,tQ hg hm ht hs,fun Z F σ H env P R K hf kk=>k Z F σ H env _ _ K hf fun xs e1 vs F1 H1 p _ s1 K1 r1=>?_⟩
 split at p
 ·cases r1 with
  | cons r1 r2 =>
   cases r2
   cases r1 with
   | lst g1 g2=>exact ⟨_,_,rfl,bt K1.sF (.inl (.inl g1)),kk _ e1 _ F1 H1 p s1 K1 (vO (.inl (.inl g1)) g2)⟩
 ·exact p.elim
end
end Q
namespace Q
open PySem L2 PyProof.Rows
section
variable {ob:ObK} {X:Cx} {pos p p2:Pos} {x:Str}
end
end Q
namespace Pre
open PySem L2
noncomputable def nB:Sp:=fun vs H Q _=>∃ (a b:Addr) (m:Int) (f:Nat),vs=[.ref a,.int m]/\StD H a b (f+1)/\0<m/\m<1073741824/\∀ (r:Int) (H':Hp),0<=r->r<m->StD H' a b f->But a b H H'->Q (.int r) H'
noncomputable def fm (K:PySem.W.Frag):Sp:=fun vs H Q _=>∃ (s:Addr) (ns:List Int),vs=[.ref s]/\SqL K H s (ns.map V.int)/\ns.length<=63/\∀ (a b:Addr) (H':Hp),H a=none->H b=none->StD H' a b 1000000->Same H H'->Q (.ref a) H'
end Pre
namespace Q
open PySem L2 PyProof.Rows
noncomputable def la:FdO:=fun c xs P=>∃ (f:Nat) (m:Int),c=.int ((f+1:Nat):Int)/\xs=[.int m]/\0<m/\m<1073741824/\∀ r:Int,0<=r->r<m->P (.int r) (.int (f:Int))
theorem nz {H:Hp} {a b:Addr} {f:Nat} (s:Pre.StD H a b f):H a≠none/\H b≠none:=by
 obtain ⟨ns,_,_,_,h1,h2,_⟩:=s.st
 exact ⟨by rw [h1]; simp,by rw [h2]; simp⟩
theorem qq {P:Program} {w:World} {K:PySem.W.Frag} {mg:Str->Option Value} {base:Heap} {k:Nat} {fad:Addr} {fd:FuncData} {ps:List Str} (F:FnOk P w K mg base CX0 k fad fd ps Pre.nB):FnOk P w K mg base CX0 k fad fd ps (spO ⟨P,w,K,obG K⟩ 2 la):=by
 refine F.imp fun vs H Q E h=>?_
 obtain ⟨F,a,l,c,ws,xs,P',rfl,sF,r,hl,ho,hb,⟨f,m,rfl,rfl,m0,m1,hP⟩,kk⟩:=h
 obtain ⟨b,rfl,S⟩:∃ b,l=[a,b]/\Pre.StD H a b (f+1):=by
  rcases ho with (⟨h,_⟩ | ⟨g,b,h,h2,h3⟩) | ⟨ks,h,_⟩ | ⟨_,_,_,_,h,_⟩
  ·cases h
  ·injection h with h
   have e:f+1=g:=by omega
   subst e
   exact ⟨b,h2,h3⟩
  ·cases h
  ·cases h
 cases r with
 | cons r1 r2 =>
  cases r2
  cases r1
  refine ⟨a,b,m,f,rfl,S,m0,m1,fun r H' r0 r1 S' hB=>?_⟩
  have two:=nz S'
  have keep:∀ c o,H c=some o->c∉[a,b]->H' c=some o:=fun c o h hn=>by
   simp at hn
   exact hB c o h hn.1 hn.2
  refine kk (.int r) (.int (f:Int)) (.int r) F H' [a,b] (hP r r0 r1) keep (fun c h=>?_) ao (fun c o h=>?_) (fun c h=>.inl h) (.inl (.inr ⟨f,b,rfl,rfl,S'⟩)) (fun c hc=>?_) (fun c hc=>.inl hc) (.int r)
  ·by_cases q:c∈[a,b]
   ·simp at q
    rcases q with rfl | rfl
    ·exact two.1
    ·exact two.2
   ·obtain ⟨o,ho⟩:=cn h
    rw [keep c o ho q]; simp
  ·refine keep c o (sF c o h) fun q=>?_
   have:=(hb c q).2
   rw [h] at this; cases this
  ·refine ⟨?_,(hb c hc).2⟩
   simp at hc
   rcases hc with rfl | rfl
   ·exact two.1
   ·exact two.2
noncomputable def dS (i j:Nat):WS:=fun P env=>match env[j]? with
 | some (some ⟨0,x⟩)=>(∃ ns:List Int,(x=.scr ns\/x=.lst (ns.map .int))/\ns.length<=63)/\P.nx (env.set i (some ⟨4,.int ((1000000:Nat):Int)⟩))
 | _=>False
section
variable {X:Cx} {k:Nat} {fad:Addr} {fd:FuncData} {ps:List Str} {x y:Str} {p p1 pos pos':Pos}
theorem qM (i j:Nat) (hN:X.N.Nodup) (hi:X.N[i]?=some y) (hx:Loc X.env.scope y) (F:FnOk X.prog X.w X.K X.mg X.base CX0 k fad fd ps (Pre.fm X.K)) (hr:Room k X.A) (hm:X.mg "_law_begin" = some (.ref fad)) (hk:PySem.W.keepIn X.K (.ref fad)=true) (hb:Binds X.K fd ps []) (ho:PE X (.Name x p1) (tVar j))
  (hg:autoParam (Gl X "_law_begin") Z2._auto_1) (he:autoParam (starEach [.Name x p1] X.env=(false,eval (.Name x p1) X.env)::starEach [] X.env) Z2._auto_1) (hpl:autoParam ((backTo pos (starEach [] X.env)).any (·.1)=false) Z2._auto_1)
  {spos:Pos} (hs:autoParam (swapsWith (.Call (.Name "_law_begin" p) [.Name x p1] [] pos) (some (.Name y pos')) spos.line X.env=pure false) Z2._auto_1) (hf:autoParam (X.fn y=true\/X.env.scope.names.lookup y=some .local) Z0._auto_1) :
  EvX (obG X.K) X (.Assign [.Name y pos'] (.Call (.Name "_law_begin" p) [.Name x p1] [] pos) spos) (dS i j):=by
 refine ⟨_,bO hN hi hx (cY (E:=E0) F hr hg hm hk hb .nil pass0 (bh ho bu he) (by decide) he hpl) hs hf,fun Z F σ H env P D K hf L=>?_⟩
 unfold dS at hf
 split at hf
 ·rename_i v ej
  obtain ⟨⟨ns,hv,hn⟩,hp⟩:=hf
  obtain ⟨w,hw,r⟩:=K.val ej
  obtain ⟨s,rfl,hs⟩:∃ s,w=.ref s/\SqL X.K H s (ns.map V.int):=by
   rcases hv with rfl | rfl
   ·cases r with
    | scr h=>exact ⟨_,rfl,bt K.sF h.sq⟩
   ·cases r with
    | lst h1 h2 =>
     have:=lJ h2
     subst this
     exact ⟨_,rfl,.inl (.inl (K.sF _ _ h1))⟩
  refine ⟨_,hw,s,ns,rfl,hs,hn,fun a b H' ha hb S sH=>?_⟩
  have hFa:F a=none:=Same.none_of K.sF ha
  have hFb:F b=none:=Same.none_of K.sF hb
  have K1:Sok (md (obG X.K) X) Z F σ H' env:=K.move ao (aj K.sF sH) sH fun _ h=>.inl h
  obtain ⟨fp,L0⟩:=K.sl
  have L1:Slots (md (obG X.K) X) Z F σ H' env fp:=L0.move ao (fun _ c o _ e=>sH c o e) fun _ h=>.inl h
  have two:=nz S
  refine L.nx _ _ F H' hp ao ?_
  rcases Nat.lt_or_ge i env.length with hlt | hge
  case inr =>
   rw [List.set_eq_of_length_le hge,List.set_eq_of_length_le (by have:=K.len; omega)]
   exact K1
  refine K1.slots (by simp [K.len]) (L1.put (l:=[a,b]) (by simp) (by have:=K.len; omega) (.inr (.inr (.inl ⟨.inr rfl,a,rfl,fun c hc=>.inr ?_,   .inl (.inr ⟨1000000,b,rfl,rfl,S⟩)⟩))) (fun c hc=>?_) fun j c _ hc hj=>?_)
  ·simp at hc
   rcases hc with rfl | rfl
   ·exact K.h0 ha
   ·exact K.h0 hb
  ·simp at hc
   rcases hc with rfl | rfl
   ·exact ⟨two.1,hFa⟩
   ·exact ⟨two.2,hFb⟩
  ·have:=(L0.al j c hj).1
   simp at hc
   rcases hc with rfl | rfl
   ·exact this ha
   ·exact this hb
 ·exact hf.elim
end
section
variable {ob:ObK} {X:Cx} {k:Nat} {fad:Addr} {fd:FuncData} {ps:List Str} {x y:Str} {p p1 pos pos':Pos}
theorem pk (i j:Nat) (hN:X.N.Nodup) (hi:X.N[i]?=some y) (hx:Loc X.env.scope y) (F:FnOk X.prog X.w X.K X.mg X.base CX0 k fad fd ps (Pre.fm X.K)) (hr:Room k X.A) (hm:X.mg "_law_begin" = some (.ref fad)) (hk:PySem.W.keepIn X.K (.ref fad)=true) (hb:Binds X.K fd ps []) (ho:PE X (.Name x p1) (tVar j))
  (hob:autoParam (ob=obG X.K) Z2._auto_1) (hg:autoParam (Gl X "_law_begin") Z2._auto_1) (he:autoParam (starEach [.Name x p1] X.env=(false,eval (.Name x p1) X.env)::starEach [] X.env) Z2._auto_1) (hpl:autoParam ((backTo pos (starEach [] X.env)).any (·.1)=false) Z2._auto_1)
  {spos:Pos} (hs:autoParam (swapsWith (.Call (.Name "_law_begin" p) [.Name x p1] [] pos) (some (.Name y pos')) spos.line X.env=pure false) Z2._auto_1) (hf:autoParam (X.fn y=true\/X.env.scope.names.lookup y=some .local) Z0._auto_1) :
  EvX ob X (.Assign [.Name y pos'] (.Call (.Name "_law_begin" p) [.Name x p1] [] pos) spos) (dS i j):=by
 subst hob
 exact qM i j hN hi hx F hr hm hk hb ho hg he hpl hs hf
end
theorem dC {g:WG} {c:WT} {f:WE} {js:List (Option Nat)} {P:PV->En->Prop} (I:Nat->List PV->En->Prop):∀ {xs:List PV} {i:Nat} {acc:List PV} {env:En},I i acc env->acc.length<=i->i+xs.length<=100000 ->
  (∀ (j:Nat) (x:PV) (acc:List PV) (env:En) (R:Option PV->En->Prop),xs[j]?=some x->I (i+j) acc env->(∀ (o:Option PV) (env':En),I (i+j+1) (acc++o.toList) env'->R o env')->g x (capE js env) fun b1=>c b1 fun ok b2=>if ok=true then f b2 fun y b3=>R (some y) (backE js env b3) else R none (backE js env b2)) ->
  (∀ acc env,I (i+xs.length) acc env->acc.length<=i+xs.length->P (.lst acc) env)->lcGo g c f js P xs env acc
 | [],i,acc,env,h0,hl,_,_,hd=>hd acc env (by simpa using h0) (by simpa using hl)
 | x::xs,i,acc,env,h0,hl,hb,hs,hd=>by
  have hb':i+xs.length+1<=100000:=by simpa [Nat.add_assoc] using hb
  refine hs 0 x acc env (fun o e=>(match o with | some y=>acc.length<=100000/\lcGo g c f js P xs e (acc++[y]) | none=>lcGo g c f js P xs e acc)) rfl h0 fun o e' ho=>?_
  have rest:∀ acc',I (i+1) acc' e'->acc'.length<=i+1->lcGo g c f js P xs e' acc':=fun acc' h1 h2=>dC I (i:=i+1) h1 h2 (by omega) (fun j y a env R hj hI k=>hs (j+1) y a env R (by simpa using hj) (by rwa [Nat.add_assoc,Nat.add_comm 1 j] at hI) fun o e h=>k o e (by rwa [Nat.add_assoc i 1 j,Nat.add_comm 1 j])) fun a e h h'=>hd a e (by rwa [List.length_cons,Nat.add_comm xs.length 1,<- Nat.add_assoc]) (by rw [List.length_cons]; omega)
  cases o with
  | none=>exact rest acc (by simpa using ho) (by omega)
  | some y=>exact ⟨by omega,rest (acc++[y]) (by simpa using ho) (by simp; omega)⟩
end Q
namespace Q
open PySem L2 PyProof.Rows
noncomputable def toDs (f:PV->Option PyData):List PV->Option (List PyData)
 | []=>some []
 | x::xs=>match f x,toDs f xs with
  | some d,some ds=>some (d::ds)
  | _,_=>none
noncomputable def toD:Nat->PV->Option PyData
 | _,.non=>some .none
 | _,.bl b=>some (.bool b)
 | _,.int i=>if i.natAbs.log2<1920 then some (.int i) else none
 | _,.str x=>some (.str x)
 | n+1,.tup xs=>(toDs (toD n) xs).map .tuple
 | _,_=>none
theorem ie {f:PV->Option PyData} {M:List PV->List PyData->Prop} (h0:M [] []) (h1:∀ x d xs ds,f x=some d->M xs ds->M (x::xs) (d::ds)):∀ {xs:List PV} {ds:List PyData},toDs f xs=some ds->M xs ds
 | [],ds,h=>by unfold toDs at h; cases h; exact h0
 | x::xs,ds,h=>by
  unfold toDs at h
  split at h
  ·rename_i d ds' e1 e2
   cases h
   exact h1 _ _ _ _ e1 (ie h0 h1 e2)
  ·cases h
theorem lA {n:Nat} {x:PV} {d:PyData} (h:toD n x=some d):(x=.non/\d=.none)\/(∃ b,x=.bl b/\d=.bool b)\/(∃ i,x=.int i/\d=.int i/\i.natAbs.log2<1920)\/(∃ s,x=.str s/\d=.str s)\/∃ m xs ds,n=m+1/\x=.tup xs/\d=.tuple ds/\toDs (toD m) xs=some ds:=by
 unfold toD at h
 split at h
 ·cases h; exact .inl ⟨rfl,rfl⟩
 ·cases h; exact .inr (.inl ⟨_,rfl,rfl⟩)
 ·split at h
  ·rename_i hl
   cases h; exact .inr (.inr (.inl ⟨_,rfl,rfl,hl⟩))
  ·cases h
 ·cases h; exact .inr (.inr (.inr (.inl ⟨_,rfl,rfl⟩)))
 ·rw [Option.map_eq_some_iff] at h
  obtain ⟨ds,h1,rfl⟩:=h
  exact .inr (.inr (.inr (.inr ⟨_,_,ds,rfl,rfl,rfl,h1⟩)))
 ·cases h
theorem pP:∀ {n:Nat} {x:PV} {d:PyData},toD n x=some d->d.showable=true/\d.hasDict=false/\d.depth<=n
 | n,x,d,h=>by
  rcases lA h with ⟨rfl,rfl⟩ | ⟨b,rfl,rfl⟩ | ⟨i,rfl,rfl,hl⟩ | ⟨s,rfl,rfl⟩ | ⟨m,xs,ds,rfl,rfl,rfl,h1⟩
  ·exact ⟨rfl,rfl,Nat.zero_le _⟩
  ·exact ⟨rfl,rfl,Nat.zero_le _⟩
  ·exact ⟨by simp only [PyData.showable]; exact decide_eq_true hl,rfl,Nat.zero_le _⟩
  ·exact ⟨rfl,rfl,Nat.zero_le _⟩
  ·have q:=ie (M:=fun _ ds=>PyData.showableAll ds=true/\PyData.hasDictAll ds=false/\PyData.depthAll ds<=m) ⟨rfl,rfl,Nat.zero_le _⟩ (fun x d xs ds e k=>by
    obtain ⟨a,b,c⟩:=pP e
    simp only [PyData.showableAll,PyData.hasDictAll,PyData.depthAll,a,b,k.1,k.2.1,Bool.and_self,Bool.or_self]
    exact ⟨trivial,trivial,Nat.max_le.mpr ⟨c,k.2.2⟩⟩) h1
   simp only [PyData.showable,PyData.hasDict,PyData.depth]
   exact ⟨q.1,q.2.1,by omega⟩
section
variable {X:Cx} {pins:List (Addr×Obj)} {s:Shared} {σ:L2.St} {H:Hp}
theorem ky (I:Inv X pins σ H s):∀ {n:Nat} {x:PV} {d:PyData} {v:V} {u:Value},toD n x=some d->Rep X.K H v x->RelV v u->∃ as,Reads s.heap u d as
 | n,x,d,v,u,h,r,ru=>by
  rcases lA h with ⟨rfl,rfl⟩ | ⟨b,rfl,rfl⟩ | ⟨i,rfl,rfl,hl⟩ | ⟨t,rfl,rfl⟩ | ⟨m,xs,ds,rfl,rfl,rfl,h1⟩
  ·cases r; cases ru; exact ⟨_,.none⟩
  ·cases r; cases ru; exact ⟨_,.bool _⟩
  ·cases r; obtain ⟨t,rfl⟩:=ru; exact ⟨_,.int _ _⟩
  ·cases r; obtain ⟨t,rfl⟩:=ru; exact ⟨_,.str _ _⟩
  ·cases r with
   | tup sq rs =>
    cases ru
    obtain ⟨its,rv,⟨o,ho,hc,k,hd⟩,_⟩:=I.tuple sq
    have q:∀ {vs:List V} {us:List Value},Reps X.K H vs xs->Vals vs us->∃ as,ReadsAll s.heap us ds as :=
     ie (M:=fun xs ds=>∀ {vs:List V} {us:List Value},Reps X.K H vs xs->Vals vs us->∃ as,ReadsAll s.heap us ds as)
      (fun r rv=>by cases r; cases rv; exact ⟨_,.nil⟩)
      (fun x d xs ds e k=>by
       intro vs us r rv
       cases r with
       | cons r1 r2 =>
        cases rv with
        | cons w1 w2 =>
         obtain ⟨as,ha⟩:=ky I e r1 w1
         obtain ⟨bs,hb⟩:=k r2 w2
         exact ⟨_,.cons ha hb⟩) h1
    obtain ⟨as,ha⟩:=q rs rv
    exact ⟨_,.tuple ho hc hd (by simpa using ha)⟩
end
noncomputable def rRepr (K:PySem.W.Frag):List V->Hp->VK->Prop:=fun xs H Q=>∃ (v:V) (ys:List PV) (d:PyData),xs=[v]/\Rep K H v (.tup ys)/\toD 9 (.tup ys)=some d/\d.shown.length<=sizeLine/\Q (.str d.shown) H
noncomputable def reprPV:List PV->Option PV
 | [.tup xs]=>match toD 9 (.tup xs) with
  | some d=>if d.shown.length<=sizeLine then some (.str d.shown) else none
  | none=>none
 | _=>none
section
variable {ob:ObK} {X:Cx} {k:Nat}
theorem jq (hr:Room k X.A):CallR X (.builtin "repr") (rRepr X.K):=by
 intro pins s σ H xs us Q I r h
 obtain ⟨v,ys,d,rfl,rp,hd,hl,q⟩:=h
 obtain ⟨u,rfl,ru⟩:=r.one
 obtain ⟨o1,o2,o3⟩:=pP hd
 obtain ⟨as,ha⟩:=ky I hd rp ru
 cases rp with
 | tup sq rs =>
  cases ru
  have hu:=hr.un
  refine repr_of_reads' ha o1 (fun z=>by rw [o2] at z; cases z) hr.gd (by omega) (fun _ _ e=>e) (fun h' t tk hk=>?_) hl
  exact ⟨.str d.shown,H,I.kept (t':=tk) hk,⟨_,rfl⟩,q⟩
theorem oC:CallQ ob X (rRepr X.K) reprPV:=by
 intro Z F σ H env vs xs z Q K rv hz k
 unfold reprPV at hz
 split at hz
 ·rename_i ys
  obtain ⟨v,rfl,r⟩:=rv.one
  split at hz
  ·rename_i d hd
   split at hz
   ·rename_i hl
    cases hz
    rcases r with r | ⟨a,rfl,r⟩
    ·exact ⟨_,_,_,rfl,r.mono K.sF,hd,hl,k _ F H ao K (.str _)⟩
    ·exact r.elim
   ·cases hz
  ·cases hz
 ·cases hz
end
theorem kw {m:Nat}:∀ ss:List Str,toDs (toD m) (ss.map .str)=some (ss.map .str)
 | []=>by unfold toDs; rfl
 | s::ss=>by
  have e:toD m (.str s)=some (.str s):=by cases m <;> (unfold toD; rfl)
  simp only [List.map_cons,toDs,e,kw ss]
end Q
namespace L2
open PySem PySem.Spec PyProof.Rows PySem.W
noncomputable def TrAt (h:Heap) (a:Addr) (k:Int×Str):Prop:=∃ o n t u rs,h.get? a=some o/\o.cls=.type "tuple" /\ o.data=.seq (Value.int k.1 t::Value.str k.2 u::rs).toArray n
theorem TrAt.mono {h h':Heap} {a:Addr} {k:Int×Str} (x:TrAt h a k) (g:∀ o,h.get? a=some o->h'.get? a=some o):TrAt h' a k:=by
 obtain ⟨o,n,t,u,rs,e,r⟩:=x
 exact ⟨o,n,t,u,rs,g o e,r⟩
section
variable {prog:Program} {w:World} {A:Around} {E:Value->Shared->Prop} {s:Shared}
theorem wo {x y:Addr} {k l:Int×Str} {Q:Bool->Shared->Prop} (hx:TrAt s.heap x k) (hy:TrAt s.heap y l) (hne:k.2≠l.2) (h:Q (decide (k.1<l.1\/(k.1=l.1/\ltS k.2 l.2))) s):wpAny (model prog w) A (keyLt' (tuples' true) (.ref x) (.ref y)) Q E s:=by
 obtain ⟨ox,n,t,u,rs,e1,_,e2⟩:=hx
 obtain ⟨oy,n',t',u',rs',f1,_,f2⟩:=hy
 refine kat_lt e1 e2 f1 f2 ?_
 refine kat_cons (wpAny_eqBool_int ?_)
 by_cases e:k.1=l.1
 ·rw [show (k.1==l.1)=true by simp [e]]
  refine kat_yes (kat_cons (wpAny_eqBool_str ?_))
  rw [decide_eq_false hne]
  refine kat_no ?_
  show wpAny _ _ (oneLt' false _ _) _ _ _
  refine kat_one _ _ (lt_str ?_)
  have:decide (k.1<l.1\/(k.1=l.1/\ltS k.2 l.2))=decide (k.2.cps.toList<l.2.cps.toList):=by
   rw [Bool.eq_iff_iff,decide_eq_true_eq,decide_eq_true_eq]
   constructor
   ·rintro (z | ⟨_,z⟩)
    ·omega
    ·exact z
   ·intro z; exact .inr ⟨e,z⟩
  rw [this] at h
  exact h
 ·rw [show (k.1==l.1)=false by simp [e]]
  refine kat_no ?_
  show wpAny _ _ (oneLt' true _ _) _ _ _
  refine oneLt_int ?_
  have:decide (k.1<l.1\/(k.1=l.1/\ltS k.2 l.2))=decide (k.1<l.1):=by
   rw [Bool.eq_iff_iff,decide_eq_true_eq,decide_eq_true_eq]
   exact ⟨fun z=>z.elim id fun q=>absurd q.1 e,.inl⟩
  rw [this] at h
  exact h
theorem ku {h:Heap}:∀ ad:List Addr,(∀ a∈ad,∃ k,TrAt h a k)->∃ fs:List Value,KatTups h (ad.map Value.ref) fs/\fs.length=ad.length/\∀ v∈fs,∃ c t,v=.int c t
 | [],_=>⟨[],trivial,rfl,fun _ z=>by simp at z⟩
 | a::ad,hp=>by
  obtain ⟨fs,h1,h2,h3⟩:=ku ad fun b hb=>hp b (List.mem_cons_of_mem _ hb)
  obtain ⟨k,o,n,t,u,rs,e1,e2,e3⟩:=hp a List.mem_cons_self
  refine ⟨.int k.1 t::fs,⟨⟨a,o,_,n,rfl,e1,e2,e3,rfl⟩,h1⟩,by simp [h2],fun v hv=>?_⟩
  rcases List.mem_cons.mp hv with rfl | hv
  ·exact ⟨_,_,rfl⟩
  ·exact h3 v hv
theorem tu {a:Addr} {n:Nat} {ad:List Addr} {ks:List (Int×Str)} {P:PySem.Fin->Shared->Prop} (ho:s.heap.get? a=some (seqObj "list" (ad.map Value.ref).toArray n)) (l2:ks.length=ad.length) (h64:ad.length<64) (nd:(ks.map (·.2)).Nodup)
  (hp:∀ i,i<ad.length->TrAt s.heap (ad.getD i 0) (ks.getD i (0,⟨#[]⟩))) (hna:∀ i,i<ad.length->ad.getD i 0≠a)
  (h:∀ ix:List Nat,ix.length=ad.length->ix.Nodup->(∀ i∈ix,i<ad.length)->ix.Pairwise (fun i j=>ltK ks i j=true)->P (.done (.ret .none)) { s with heap:=sortedHeap s.heap a (ad.map Value.ref) (ix.map fun i=>Value.ref (ad.getD i 0)).toArray }) :
  wpAny (model prog w) A (Builtin.«list.sort» ⟨[.ref a],[]⟩) P E s:=by
 rw [list_sort_plain]
 have ha:a<s.heap.objs.size:=Heap.lt_size ho
 have lv:(ad.map Value.ref).length=ad.length:=List.length_map ..
 have hz:(ad.map Value.ref).length<=sizeLine:=by rw [lv,sizeLine_eq]; omega
 generalize hvs:ad.map Value.ref=vs at ho lv hz h ⊢
 have getv:∀ i,i<ad.length->vs.getD i Value.none=.ref (ad.getD i 0):=fun i hi=>by
  rw [<- hvs,List.getD_eq_getElem?_getD,List.getElem?_map,List.getElem?_eq_getElem hi,List.getD_eq_getElem?_getD,List.getElem?_eq_getElem hi]; rfl
 refine wpAny_bind (listItems_at ho rfl ?_)
 refine wpAny_bind (listUpdate_at ho rfl ?_ (by rw [List.size_toArray]; exact hz) (Nat.zero_le _))
 obtain ⟨e1,ho1⟩:∃ e1,(s.heap.update a (Obj.mapSeq fun _=>#[])).get? a=some (seqObj "list" #[] e1):=⟨_,get?_update_seq ho (fun _=>#[])⟩
 refine wpAny_bind (seqEpoch_at ho1 rfl ?_)
 refine wpAny_bind (wpAny_newTuple ?_ (by show vs.length<=_; exact hz))
 refine wpAny_bind (wpAny_newList ?_ (Nat.zero_le _))
 refine wpAny_holding ?_
 have ho6:(((s.heap.update a (Obj.mapSeq fun _=>#[])).push (seqObj "tuple" vs.toArray 0)).push (seqObj "list" #[] 0)).get? a=some (seqObj "list" #[] e1) :=
  Heap.get?_push_of_some _ (Heap.get?_push_of_some _ ho1)
 have old:∀ b o,b≠a->s.heap.get? b=some o->(((s.heap.update a (Obj.mapSeq fun _=>#[])).push (seqObj "tuple" vs.toArray 0)).push (seqObj "list" #[] 0)).get? b=some o:=fun b o hb g =>
  Heap.get?_push_of_some _ (Heap.get?_push_of_some _ ((Heap.get?_update_ne _ _ _ _ hb).trans g))
 show wpAny (model prog w) A _ P E { s with heap:=((s.heap.update a (Obj.mapSeq fun _=>#[])).push (seqObj "tuple" vs.toArray 0)).push (seqObj "list" #[] 0) }
 have sH:∀ out:Array Value,sortedHeap s.heap a vs out=(((s.heap.update a (Obj.mapSeq fun _=>#[])).push (seqObj "tuple" vs.toArray 0)).push (seqObj "list" #[] 0)).update a (Obj.mapSeq fun _=>out):=fun _=>rfl
 simp only [sH] at h
 generalize hh6:((s.heap.update a (Obj.mapSeq fun _=>#[])).push (seqObj "tuple" vs.toArray 0)).push (seqObj "list" #[] 0)=h6 at ho6 old h ⊢
 have hp6:∀ i,i<ad.length->TrAt h6 (ad.getD i 0) (ks.getD i (0,⟨#[]⟩)):=fun i hi=>(hp i hi).mono fun o g=>old _ o (hna i hi) g
 by_cases h2:vs.toArray.size<2
 ·rw [if_pos h2,if_pos h2]
  refine wpAny_bind (wpAny_pure ?_)
  dsimp only
  rw [StateT.run_pure]
  refine wpAny_bind (wpAny_pure ?_)
  dsimp only
  have eo:(arrOf (SortSt.mk' general' (vs.toArray.zip vs.toArray) #[] 7 none)).map (·.2)=vs.toArray:=by
   show (vs.toArray.zip vs.toArray).map (·.2)=vs.toArray
   apply Array.ext
   ·simp
   ·intro i h1 h2; simp
  rw [eo]
  refine wpAny_bind (seqEpoch_at ho6 rfl (wpAny_bind (listUpdate_at ho6 rfl ?_ (Nat.zero_le _) (by rw [List.size_toArray]; exact Nat.le_succ_of_le hz))))
  simp only [bne_self_eq_false,Bool.false_eq_true,if_false]
  rw [List.size_toArray,lv] at h2
  have ei:((List.range ad.length).map fun i=>Value.ref (ad.getD i 0))=vs:=by
   rw [<- hvs]
   apply List.ext_getElem?
   intro i
   rw [List.getElem?_map,List.getElem?_map]
   by_cases hi:i<ad.length
   ·rw [List.getElem?_range hi,List.getElem?_eq_getElem hi]; simp [hi]
   ·rw [List.getElem?_eq_none (by simpa using hi),List.getElem?_eq_none (by omega)]; rfl
  have q:=h (List.range ad.length) (by simp) List.nodup_range (fun i hi=>List.mem_range.mp hi) (by
   match hv:ad.length,h2 with
   | 0,_=>simp
   | 1,_=>simp [List.range_succ])
  rw [ei] at q
  exact wpAny_pure q
 ·rw [if_neg h2,if_neg h2]
  rw [List.size_toArray,lv] at h2
  obtain ⟨fs,f1,f2,f3⟩:=ku (h:=h6) ad fun b hb=>by
   obtain ⟨i,hi,rfl⟩:=List.mem_iff_getElem.mp hb
   have:=hp6 i hi
   rw [List.getD_eq_getElem?_getD,List.getElem?_eq_getElem hi] at this
   exact ⟨_,this⟩
  rw [hvs] at f1
  refine wpAny_bind (kat_kind (s:={ s with heap:=h6 }) (T:=.type "int") f1 (by omega) (fun v hv=>?_) rfl ?_)
  ·obtain ⟨c,t,rfl⟩:=f3 v hv
   exact Looks.of_pure rfl
  have hT:((Value.type "int") != (Value.type "tuple"))=true:=by decide
  rw [hT]
  have isz:(vs.toArray.zip vs.toArray).size=ad.length:=by rw [Array.size_zip,List.size_toArray,lv]; omega
  have est:SortSt.mk' (tuples' true) (vs.toArray.zip vs.toArray) #[] 7 none=kas_st (tuples' true) (vs.toArray.zip vs.toArray) (List.toArray (List.range ad.length)):=by
   have q:=kas_range (vs.toArray.zip vs.toArray)
   rw [isz] at q
   show _=SortSt.mk' (tuples' true) ((List.toArray (List.range ad.length)).map (kas_item _)) #[] 7 none
   rw [q]
  have o:Srt.Ord (ltK ks) ad.length:=by
   have:=nW nd
   rw [l2] at this
   exact this
  have it:∀ i,i<ad.length->kas_item (vs.toArray.zip vs.toArray) i=(.ref (ad.getD i 0),.ref (ad.getD i 0)):=fun i hi=>by
   rw [kat_item rfl i,getv i hi]
  have snd_ne:∀ i j,i<ad.length->j<ad.length->i≠j->(ks.getD i (0,⟨#[]⟩)).2≠(ks.getD j (0,⟨#[]⟩)).2:=fun i j hi hj ne q=>by
   have a:(ks.map (·.2))[i]'(by rw [List.length_map]; omega)=(ks.map (·.2))[j]'(by rw [List.length_map]; omega):=by
    rw [List.getElem_map,List.getElem_map]
    rw [List.getD_eq_getElem?_getD,List.getD_eq_getElem?_getD,List.getElem?_eq_getElem (by omega),List.getElem?_eq_getElem (by omega)] at q
    exact q
   exact ne ((List.getElem_inj nd).mp a)
  have ask:(kas_sort ad.length).kasWp (kas_cmp prog w A (tuples' true) (vs.toArray.zip vs.toArray)) (fun p z=>z={ s with heap:=h6 }/\Srt.Pm p ad.length/\Srt.Asc (ltK ks) p ad.length) { s with heap:=h6 }:=by
   refine Srt.pw_wp (lt:=ltK ks) (n:=ad.length) (Q:=fun p=>Srt.Pm p ad.length/\Srt.Asc (ltK ks) p ad.length) (J:=fun z=>z={ s with heap:=h6 }) ?_ (fun p z hz q=>⟨hz,q⟩) (kas_sort ad.length) _ rfl (Srt.jz o (by omega) fun p a b=>⟨a,b⟩)
   rintro i j C z hi hj ne rfl hC
   show wpAny _ _ (keyLt' (tuples' true) (kas_item _ i).1 (kas_item _ j).1) _ _ _
   rw [it i hi,it j hj]
   refine wo (hp6 _ (by omega)) (hp6 _ (by omega)) (snd_ne _ _ (by omega) (by omega) (by omega)) ?_
   exact hC _ rfl
  have run:=kas_runs (E:=E) (Q:=fun _ st' z=>∃ p:Array Nat,p.size=ad.length/\arrOf st'=p.map (kas_item (vs.toArray.zip vs.toArray))/\failedOf st'=none/\z={ s with heap:=h6 }/\Srt.Pm p ad.length/\Srt.Asc (ltK ks) p ad.length)
   (by omega) h64 (fun p' st' z a1 a2 a3 a4=>⟨p',a1,a2,a3,a4⟩) ask
  rw [<- est] at run
  refine wpAny_bind (wpAny_mono run ?_ fun _ _ q=>q)
  rintro ⟨⟨⟩,st'⟩ z ⟨p,psz,har,hf,rfl,Pm,As⟩
  dsimp only
  have hlt:∀ i∈p.toList,i<ad.length:=fun i hi=>by
   obtain ⟨j,hj,rfl⟩:=Array.mem_iff_getElem.mp (Array.mem_toList_iff.mp hi)
   have:=Pm.lt j (by rw [<- Pm.sz]; exact hj)
   rw [Srt.aP] at this
   simpa only [Array.getElem?_eq_getElem hj,Option.getD_some] using this
  have ndp:p.toList.Nodup:=by
   rw [List.nodup_iff_pairwise_ne,List.pairwise_iff_getElem]
   intro i j hi hj hij q
   have hi':i<p.size:=by simpa using hi
   have hj':j<p.size:=by simpa using hj
   have:=Pm.nd i j (by rw [<- Pm.sz]; exact hi') (by rw [<- Pm.sz]; exact hj') (by rw [Srt.aP,Srt.aP]; simpa [hi',hj'] using q)
   omega
  have upp:p.toList.Pairwise fun i j=>ltK ks i j=true:=by
   rw [List.pairwise_iff_getElem]
   intro i j hi hj hij
   have hi':i<p.size:=by simpa using hi
   have hj':j<p.size:=by simpa using hj
   have:=As i j hij (by rw [<- Pm.sz]; exact hj')
   rw [Srt.aP,Srt.aP] at this
   simpa [hi',hj'] using this
  have eo:(arrOf st').map (·.2)=(p.toList.map fun i=>Value.ref (ad.getD i 0)).toArray:=by
   apply Array.toList_inj.mp
   rw [har,Array.map_map,Array.toList_map]
   exact List.map_congr_left fun i hi=>by show (kas_item _ i).2=_; rw [it i (hlt i hi)]
  rw [eo]
  refine wpAny_bind (seqEpoch_at ho6 rfl (wpAny_bind (listUpdate_at ho6 rfl ?_ (Nat.zero_le _) ?_)))
  ·rw [hf]
   simp only [bne_self_eq_false,Bool.false_eq_true,if_false]
   exact wpAny_pure (h _ (by rw [Array.length_toList,psz]) ndp hlt upp)
  ·rw [List.size_toArray,List.length_map,Array.length_toList,psz,sizeLine_eq]; omega
theorem pN {l:Addr} {ad:List Addr} {ks:List (Int×Str)} {Q:Value->Shared->Prop} (hl:s.heap.IsList l (ad.map Value.ref).toArray) (l2:ks.length=ad.length) (h64:ad.length<64) (nd:(ks.map (·.2)).Nodup)
  (hp:∀ i,i<ad.length->TrAt s.heap (ad.getD i 0) (ks.getD i (0,⟨#[]⟩)))
  (h:∀ ix:List Nat,ix.length=ad.length->ix.Nodup->(∀ i∈ix,i<ad.length)->ix.Pairwise (fun i j=>ltK ks i j=true)->Q (.ref (s.heap.objs.size+1)) { s with heap:=sortedAll s.heap (ad.map Value.ref) (ix.map fun i=>Value.ref (ad.getD i 0)).toArray }) :
  wpAny (model prog w) A (call (.builtin "sorted") [.ref l]) Q E s:=by
 have hz:(ad.map Value.ref).length<=sizeLine:=by rw [List.length_map,sizeLine_eq]; omega
 refine Calls.call_function_entry kind_sorted plain_sorted entry_sorted (args_sorted1 _) (?_:wpAny (model prog w) A.in1 (Builtin.«sorted» ⟨[.ref l],[]⟩) _ _ s)
 unfold Builtin.«sorted»
 refine wpAny_bind (m:=checkCount "sorted" 1 1 _) (wpAny_pure ?_)
 refine wpAny_bind (collect_list hl (wpAny_bind (wpAny_newList ?_ hz)) (by first | exact hz | (rw [List.size_toArray]; exact hz)))
 have hsz:((s.heap.push (seqObj "list" #[] 0)).update s.heap.objs.size (Obj.mapSeq (·++(ad.map Value.ref).toArray))).objs.size=s.heap.objs.size+1:=by
  rw [Heap.size_update,size_push']
 have hoL:(((s.heap.push (seqObj "list" #[] 0)).update s.heap.objs.size (Obj.mapSeq (·++(ad.map Value.ref).toArray))).push (seqObj "list" (ad.map Value.ref).toArray 0)).get? (s.heap.objs.size+1)=some (seqObj "list" (ad.map Value.ref).toArray 0):=by
  rw [<- hsz]; exact Heap.get?_push_size _ rfl
 have old:∀ b o,s.heap.get? b=some o->(((s.heap.push (seqObj "list" #[] 0)).update s.heap.objs.size (Obj.mapSeq (·++(ad.map Value.ref).toArray))).push (seqObj "list" (ad.map Value.ref).toArray 0)).get? b=some o:=fun b o g =>
  Heap.get?_push_of_some _ ((Heap.get?_update_ne _ _ _ _ (Nat.ne_of_lt (Heap.lt_size g))).trans (Heap.get?_push_of_some _ g))
 show wpAny _ _ _ _ _ { s with heap:=((s.heap.push (seqObj "list" #[] 0)).update s.heap.objs.size (Obj.mapSeq (·++(ad.map Value.ref).toArray))).push (seqObj "list" (ad.map Value.ref).toArray 0) }
 dsimp only at hsz ⊢
 rw [hsz]
 refine wpAny_bind (wpAny_holding (wpAny_call_entry slot_list_sort ⟨_,hoL,rfl⟩ entry_list_sort (tu (s:={ s with heap:=((s.heap.push (seqObj "list" #[] 0)).update s.heap.objs.size (Obj.mapSeq (·++(ad.map Value.ref).toArray))).push (seqObj "list" (ad.map Value.ref).toArray 0) }) hoL l2 h64 nd (fun i hi=>(hp i hi).mono fun o g=>old _ o g) (fun i hi=>?_) fun ix i1 i2 i3 i4=>⟨_,rfl,?_⟩) (args_list_sort _)))
 ·obtain ⟨o,_,_,_,_,g,_⟩:=hp i hi
  have:=Heap.lt_size g
  exact Nat.ne_of_lt (Nat.lt_succ_of_lt this)
 ·exact wpAny_pure ⟨_,rfl,h ix i1 i2 i3 i4⟩
end
structure IxUp (ks:List (Int×Str)) (n:Nat) (ix:List Nat):Prop where
 len:ix.length=n
 nd:ix.Nodup
 lt:∀ i∈ix,i<n
 up:ix.Pairwise fun i j=>ltK ks i j=true
noncomputable def rSortQ (K:PySem.W.Frag):List V->Hp->VK->Prop:=fun xs H Q=>∃ (l:Addr) (ad:List Addr) (ks:List (Int×Str)),xs=[.ref l]/\SqL K H l (ad.map V.ref)/\ad.length<64/\ks.length=ad.length/\(ks.map (·.2)).Nodup /\
 (∀ i,i<ad.length->∃ r,SqT K H (ad.getD i 0) (.int (ks.getD i k0).1::.str (ks.getD i k0).2::r))/\∀ D ix,H D=none->IxUp ks ad.length ix->Q (.ref D) (upd H D (.lst (ix.map fun i=>V.ref (ad.getD i 0))))
theorem wq {h:Heap} {a:Addr} {k:Int×Str} {r:List V} {its:List Value} (rv:Vals (.int k.1::.str k.2::r) its) (tp:IsTup h a its.toArray):TrAt h a k:=by
 cases rv with
 | cons a1 a2=>cases a2 with
  | cons b1 b2 =>
   obtain ⟨t,rfl⟩:=a1
   obtain ⟨u,rfl⟩:=b1
   obtain ⟨o,e1,e2,n,e3⟩:=tp
   exact ⟨o,n,t,u,_,e1,e2,e3⟩
theorem pC {X:Cx}:CallR X (.builtin "sorted") (rSortQ X.K):=by
 intro pins s σ H xs us Q I r h
 obtain ⟨l,ad,ks,rfl,hl,h64,l2,nd,hk,hQ⟩:=h
 obtain ⟨u,rfl,ru⟩:=r.one
 cases ru
 obtain ⟨its,rv,pl,hz⟩:=I.list hl
 have:=kf rv
 subst this
 refine pN pl.isList l2 h64 nd (fun i hi=>?_) fun ix i1 i2 i3 i4=>?_
 ·obtain ⟨r,hk⟩:=hk i hi
  obtain ⟨its2,rv2,tp2,_⟩:=I.tuple hk
  exact wq rv2 tp2
 ·have hn:H (s.heap.objs.size+1)=none:=I.hok.fresh (Nat.le_succ _)
  obtain ⟨e,he⟩:=sortedAll_at s.heap (ad.map Value.ref) (ix.map fun i=>Value.ref (ad.getD i 0)).toArray
  refine ⟨.ref (s.heap.objs.size+1),_,I.laid (t':=s.toks) (a:=s.heap.objs.size+1) (o:=.lst (ix.map fun i=>V.ref (ad.getD i 0))) (fun b o q=>sortedAll_old q) (Nat.le_succ _) ⟨?_,ix.map fun i=>Value.ref (ad.getD i 0),e,?_,he⟩,rfl,hQ _ ix hn ⟨i1,i2,i3,i4⟩⟩
  ·rw [List.length_map,i1,sizeLine_eq]; omega
  ·have:=kB (ix.map fun i=>ad.getD i 0)
   rw [List.map_map,List.map_map] at this
   exact this
end L2
namespace Q
open PySem L2 PyProof.Rows
noncomputable def fstQ:PV->Option (Int×Str)
 | .tup (.int c::.str s::_)=>some (c,s)
 | _=>none
noncomputable def eSortQ (fa:WA):WE:=fun env P=>fa env fun xs e=>match xs with
 | [.lst ys]=>∃ ks:List (Int×Str),ys.mapM fstQ=some ks/\(ks.map (·.2)).Nodup/\ys.length<64/\∀ ix:List Nat,IxUp ks ys.length ix->P (.lst (ix.map fun i=>ys.getD i .non)) e
 | _=>False
theorem sy {K:PySem.W.Frag} {F:Hp} {v:V} {y:PV} {x:Int×Str} (r:Rep K F v y) (h:fstQ y=some x):∃ a t,v=.ref a/\SqT K F a (.int x.1::.str x.2::t):=by
 unfold fstQ at h
 split at h
 ·cases h
  cases r with
  | tup h1 h2=>cases h2 with
   | cons r1 r2=>cases r2 with
    | cons r3 r4=>cases r1; cases r3; exact ⟨_,_,rfl,h1⟩
 ·cases h
theorem pK {K:PySem.W.Frag} {F:Hp}:∀ {ys:List PV} {ks:List (Int×Str)} {vs:List V},ys.mapM fstQ=some ks->Reps K F vs ys->∃ ad:List Addr,vs=ad.map V.ref/\ad.length=ys.length/\∀ i,i<ad.length->∃ r,SqT K F (ad.getD i 0) (.int (ks.getD i k0).1::.str (ks.getD i k0).2::r)
 | [],ks,vs,_,h=>by cases h; exact ⟨[],rfl,rfl,fun i hi=>by simp at hi⟩
 | y::ys,ks,vs,hk,h=>by
  cases h with
  | cons r t =>
   rw [List.mapM_cons] at hk
   cases e1:fstQ y with
   | none=>rw [e1] at hk; cases hk
   | some k =>
    cases e2:ys.mapM fstQ with
    | none=>rw [e1,e2] at hk; cases hk
    | some ks' =>
     rw [e1,e2] at hk
     have hk:ks=k::ks':=(Option.some.inj hk).symm
     subst hk
     obtain ⟨ad,rfl,h1,h2⟩:=pK e2 t
     obtain ⟨a,w,rfl,g⟩:=sy r e1
     refine ⟨a::ad,rfl,by simp [h1],fun i hi=>?_⟩
     cases i with
     | zero=>exact ⟨w,g⟩
     | succ i=>exact h2 i (by simpa using hi)
section
variable {ob:ObK} {X:Cx} {e:Expr} {es:List Expr} {fa:WA} {pos p:Pos}
theorem sE (hg:Gl X "sorted") (hm:X.mg "sorted" = none) (ha:EvAW ob X (e::es) fa)
  (he:autoParam (starEach (e::es) X.env=(false,eval e X.env)::starEach es X.env) Z2._auto_1) (hpl:autoParam ((backTo pos (starEach es X.env)).any (·.1)=false) Z2._auto_1):EvF ob X (.Call (.Name "sorted" p) (e::es) [] pos) (eSortQ fa):=by
 obtain ⟨t,ht,k⟩:=ha.ex
 refine ⟨_,b8 pC hg hm boot_sorted ht (by decide) (by decide) he hpl,fun Z F σ H env P Q K hf kk=>k Z F σ H env _ _ K hf fun xs e1 vs F1 H1 p s1 K1 r1=>?_⟩
 split at p
 ·obtain ⟨ks,hs,nd,hl,p⟩:=p
  obtain ⟨v,rfl,r⟩:=r1.one
  obtain ⟨q,vs,rfl,h1,h2⟩:=r.lst K1.sF
  have g1:=(bo hs).1
  obtain ⟨ad,rfl,a1,a2⟩:=pK hs h2
  refine ⟨q,ad,ks,rfl,.inl (.inl h1),by omega,by omega,nd,fun i hi=>?_,fun D ix hD ok=>?_⟩
  ·obtain ⟨r,a2⟩:=a2 i hi
   exact ⟨r,az K1.sF a2⟩
  ·have rp:=fZ h2 ix fun i hi=>by have:=ok.lt i hi; omega
   have ev:(ix.map fun i=>(ad.map V.ref).getD i .non)=ix.map fun i=>V.ref (ad.getD i 0):=List.map_congr_left fun i hi=>by
    have:=ok.lt i hi
    rw [List.getD_eq_getElem?_getD,List.getD_eq_getElem?_getD,List.getElem?_map,List.getElem?_eq_getElem this]; rfl
   rw [ev] at rp
   exact kk _ e1 _ F1 _ (p ix (a1 ▸ ok)) s1 (fun _=>by simp) (K1.own hD ⟨_,am,rp⟩)
 ·exact p.elim
end
end Q
set_option maxHeartbeats 1000000
namespace L2
open PySem PySem.Spec PyProof.Rows
open AutoSeq1 (wpAny_loadPart')
theorem Draws.tup {prog:Program} {w:World} {A:Around} (hh:A.handled=none) (it l:Addr) (hne:l≠it) (items:Array Value) :
  Draws prog w A it [it,l] items.size (fun i v=>items[i]?=some v) (fun i h=>h.IsTupleIter it l i/\h.IsTuple l items) where
 live:=fun _ _ st=>let ⟨o,ho,_⟩:=st.1; ⟨o,ho⟩
 frame:=fun _ _ _ st hk=>⟨by obtain ⟨o,e,r⟩:=st.1; exact ⟨o,hk it (by simp) o e,r⟩,by obtain ⟨o,e,r⟩:=st.2; exact ⟨o,hk l (by simp) o e,r⟩⟩
 item:=fun i s Q E hi st hQ=>by
  refine t9 st.1 st.2 (x:=items[i]) (by simp [hi]) fun h' hit' hs'=>?_
  exact hQ _ h' s.toks (by simp [hi]) ⟨hit',by obtain ⟨o,e,r⟩:=st.2; exact ⟨o,hs'.extBut _ _ hne e,r⟩⟩ hs'
 done:=fun s Q E st hE=>endTup hh st.1 st.2 (by simp) hE
theorem na (l:Addr) (items:Array Value) (n:Nat) (dct:Option Addr) (sl:Array (Option Value)) :
  Meets (Builtin.«enumerate.__new__» ⟨[.type "enumerate",.ref l],[]⟩) (fun _ R s=>s.heap.get? l=some { cls:=.type "tuple",dict:=dct,data:=.seq items n,slots:=sl } /\
   R (.ok (.ret (.ref (s.heap.push { cls:=.type "tuple_iterator",data:=.fields #[.ref l,.int 0 0] }).objs.size)))
    { s with heap:=(s.heap.push { cls:=.type "tuple_iterator",data:=.fields #[.ref l,.int 0 0] }).push { cls:=.type "enumerate",data:=.fields #[.none,.bool false,.ref s.heap.objs.size,rawInt 0,.none,.none] } }) :=
 .of_wp fun prog w A R s h=>by
  obtain ⟨hp,g,d,tk,os⟩:=s; obtain ⟨hl,h⟩:=h
  have hsub:=sub_enumerate
  have hL:Heap.IsTuple (Shared.heap ⟨hp,g,d,tk,os⟩) l items:=⟨_,hl,rfl,n,rfl⟩
  wp_walk using wpAny_loadPart' hl
  refine wpAny_stack_any fun st=>wpAny_pure ?_
  split
  ·rename_i c _ _ _ _ _
   cases (c==Value.type "enumerate")
   ·wp_walk using wpAny_loadPart' hl,wpAny_pyIter_tuple hL
    exact ⟨_,rfl,h⟩
   ·wp_walk using wpAny_loadPart' hl,wpAny_pyIter_tuple hL
    exact ⟨_,rfl,h⟩
  ·wp_walk using wpAny_loadPart' hl,wpAny_pyIter_tuple hL
   exact ⟨_,rfl,h⟩
section
variable {prog:Program} {w:World} {A:Around} {E:Value->Shared->Prop} {s:Shared}
theorem fF {l:Addr} {items:Array Value} {Q:Value->Shared->Prop} (hL:s.heap.IsTuple l items)
  (h:∀ h',IsEnum h' (s.heap.objs.size+1) s.heap.objs.size 0 .none->h'.IsTupleIter s.heap.objs.size l 0->h'.objs.size=s.heap.objs.size+2 ->
   (∀ b o,s.heap.get? b=some o->h'.get? b=some o)->Q (.ref (s.heap.objs.size+1)) { s with heap:=h' }) :
  wpAny (model prog w) A (call (.type "enumerate") [.ref l]) Q E s:=by
 obtain ⟨⟨c,dct,dt,sl⟩,hl,hc,n,hd⟩:=hL
 replace hc:c=.type "tuple" := hc
 replace hd:dt=.seq items n:=hd
 subst hc hd
 refine callType_new F.called_enumerate (by decide) (F.typeCall_enumerate_1 _) (F.newCall_enumerate_1 _) (fun obj=>F.args_object_init_2 obj _) F.entry_enumerate_new
  (na l items n dct sl) ⟨hl,?_⟩
 have hz:(s.heap.push { cls:=.type "tuple_iterator",data:=.fields #[.ref l,.int 0 0] }).objs.size=s.heap.objs.size+1:=Heap.size_push ..
 show _/\_
 rw [hz]
 have he:IsEnum ((s.heap.push { cls:=.type "tuple_iterator",data:=.fields #[.ref l,.int 0 0] }).push
   { cls:=.type "enumerate",data:=.fields #[.none,.bool false,.ref s.heap.objs.size,rawInt 0,.none,.none] }) (s.heap.objs.size+1) s.heap.objs.size 0 .none:=by
  have:=Heap.get?_push_size (s.heap.push { cls:=.type "tuple_iterator",data:=.fields #[.ref l,.int 0 0] })
   (o:={ cls:=.type "enumerate",data:=.fields #[.none,.bool false,.ref s.heap.objs.size,rawInt 0,.none,.none] }) rfl
  rw [hz] at this; exact this
 refine ⟨⟨_,he,rfl⟩,h _ he ⟨_,Heap.get?_push_of_some _ (Heap.get?_push_size _ rfl),rfl,rfl⟩ (by rw [Heap.size_push,hz]) fun b o x=>Heap.get?_push_of_some _ (Heap.get?_push_of_some _ x)⟩
theorem qQ {e it l:Addr} {i:Nat} {items:Array Value} {old:Value} {Q:Option Value->Shared->Prop} (hh:A.handled=none)
  (he:IsEnum s.heap e it i old) (hit:s.heap.IsTupleIter it l i) (hl:s.heap.IsTuple l items) (hx:items[i]?=none)
  (hQ:∀ h',Heap.ExtBut it s.heap h'->Q none { s with heap:=h' }):wpAny (model prog w) A (pyNext (.ref e)) Q E s:=by
 have hT:s.TypeIs (.ref e) "enumerate" := ⟨_,he,rfl⟩
 unfold pyNext
 refine wpAny_bind (wpAny_attempt (wpAny_callSpecial?_slot (name:=Str.ofString "__next__") hT F.slot_enumerate_next
  (wpAny_call_entry F.slot_enumerate_next hT F.entry_enumerate_next ?_ (F.args_enumerate_next_1 _))))
 show wpAny _ _ (field (.ref e) 2 >>= _) _ _ _
 refine wpAny_bind (wpAny_field he rfl (x:=.ref it) rfl ?_)
 refine wpAny_bind (endTup hh hit hl hx fun h' x he' hx'=>?_)
 obtain ⟨o,ho,hc⟩:=hx'
 refine wpAny_bind (wpAny_isInstance (T := "StopIteration") (b:=true) ⟨o,ho,hc⟩ isSubtype_stop ?_)
 exact wpAny_pure (hQ _ he')
end
noncomputable def ItT (K:PySem.W.Frag) (l:Addr):It :=
 ⟨fun i H=>∃ xs x,SqT K H l xs/\xs[i]?=some x,
  fun i H v H'=>∃ p x,v=.ref p/\H p=none/\H'=upd H p (.tup [.int i,x])/\∀ xs,SqT K H l xs->xs[i]?=some x,
  fun i H=>∃ xs,SqT K H l xs/\xs.length<=i⟩
structure EnTT (h:Heap) (e it l:Addr) (i:Nat):Prop where
 en:∃ old,IsEnum h e it i old
 li:h.IsTupleIter it l i
theorem oQ {P:Program} {w:World} {K:PySem.W.Frag} {elts:List Expr} {x1:_} {pos:Pos} (l e it:Addr) (hne:e≠it) :
  Turn P w K (.Tuple elts x1 pos) (ItT K l) [e,it] e (fun n h=>EnTT h e it l n) where
 mem:=by simp
 obj:=fun n h Z c hc=>by
  obtain ⟨⟨old,ee⟩,o,eo,r1,r2⟩:=Z
  simp only [List.mem_cons,List.not_mem_nil,or_false] at hc
  rcases hc with rfl | rfl
  ·exact ⟨_,ee,fun v q=>(by cases (show Data.fields _=Data.cell v from q))⟩
  ·exact ⟨_,eo,fun v q=>(by rw [r2] at q; cases q)⟩
 keep:=fun n h h' Z k=>by
  obtain ⟨⟨old,ee⟩,o,eo,r⟩:=Z
  exact ⟨⟨old,k e (by simp) _ ee⟩,o,k it (by simp) _ eo,r⟩
 item:=by
  intro X hP hw hK hc n pins s σ H E I hf Z hg
  subst hP hw hK
  obtain ⟨⟨old,ee⟩,hli⟩:=Z
  obtain ⟨xs,x,hx,ex⟩:=hg
  obtain ⟨its,rv,pl,hz⟩:=I.tuple hx
  obtain ⟨v,ev,r⟩:=rv.get ex
  have hfree:H s.heap.objs.size=none:=I.hok.fresh (Nat.le_refl _)
  have ol:∀ c∈[e,it],c<s.heap.objs.size:=fun c hc=>by
   obtain ⟨o,eo,r⟩:=hli
   simp only [List.mem_cons,List.not_mem_nil,or_false] at hc
   rcases hc with rfl | rfl
   ·exact Heap.lt_size ee
   ·exact Heap.lt_size eo
  have nze:s.heap.objs.size≠e:=Nat.ne_of_gt (ol e (by simp))
  have nzi:s.heap.objs.size≠it:=Nat.ne_of_gt (ol it (by simp))
  have hiit:l≠it:=fun z=>by
   subst z
   obtain ⟨o,eo,_,r2⟩:=hli
   obtain ⟨o',eo',_,n',r3⟩:=pl
   rw [eo] at eo'; cases eo'
   rw [r2] at r3; cases r3
  have hle:e≠l:=fun z=>by
   subst z
   obtain ⟨o',eo',r4,_⟩:=pl
   have q:_=some o':=(Eq.symm ee).trans eo'
   cases q
   exact absurd (show Value.type "enumerate" = Value.type "tuple" from r4) (by decide)
  refine wpAny_pyNext_enum_itemD (n:=its.toArray.size) (Draws.tup (prog:=X.prog) (w:=X.w) (A:=X.A.in1) (I.ok.hd hc) it l hiit its.toArray) ee ⟨hli,pl⟩ (by have:=List.getElem?_eq_some_iff.mp ev; obtain ⟨z,_⟩:=this; simpa using z) hne (by simp [hne,hle]) fun y h' tk q0 q1 q2 q3 q4 kk=>?_
  obtain rfl:y=v:=by
   have q0:its.toArray[n]?=some y:=q0
   rw [List.getElem?_toArray,ev] at q0; exact (Option.some.inj q0).symm
  replace q2:=q2.1
  refine ⟨_,rfl,wpAny_letOwnedTupleGo_enum (s:={ s with heap:=h',toks:=tk+1 }) q1 fun h2 w1 w2=>?_⟩
  have I1:Inv X pins σ (upd H s.heap.objs.size (.tup [.int n,x])) { s with heap:=s.heap.push { cls:=.type "tuple",data:=.seq #[.int n tk,y] } } :=
   I.laid (t':=s.toks) (fun b u e=>Heap.get?_push_of_some _ e) (Nat.le_refl _) ⟨by show 2<=sizeLine; decide,[.int n tk,y],.cons ⟨tk,rfl⟩ (.cons r .nil),⟨_,Heap.get?_push_size _ rfl,rfl,_,rfl⟩⟩
  have hf1:∀ c∈[e,it],FpOk X pins (upd H s.heap.objs.size (.tup [.int n,x])) c:=fun c hc=>⟨by rw [ah (Nat.ne_of_lt (ol c hc))]; exact (hf c hc).1,(hf c hc).2⟩
  have I2:Inv X pins σ (upd H s.heap.objs.size (.tup [.int n,x])) { s with heap:=h2,toks:=tk+1 }:=by
   refine I1.turnedL (t':=tk+1) (h':=h2) (fun c q hc eq=>?_) hf1
   have hce:c≠e:=fun z=>hc (by simp [z])
   have hci:c≠it:=fun z=>hc (by simp [z])
   refine w2.extBut _ _ hce ?_
   by_cases hcs:c=s.heap.objs.size
   ·subst hcs
    have:(s.heap.push { cls:=.type "tuple",data:=.seq #[.int n tk,y] }).get? s.heap.objs.size=some { cls:=.type "tuple",data:=.seq #[.int n tk,y] }:=Heap.get?_push_size _ rfl
    have e':some { cls:=.type "tuple",data:=.seq #[.int n tk,y] }=some q:=this.symm.trans eq
    rw [<- e']; exact q3
   ·exact kk c q hce hci ((Heap.get?_push_ne _ _ _ hcs).symm.trans eq)
  refine ⟨.ref s.heap.objs.size,_,I2,rfl,⟨_,x,rfl,hfree,rfl,fun xs' g=>?_⟩,?_,fun c hc=>(hf1 c hc).1⟩
  ·rw [I.tuple_inj g hx]; exact ex
  ·refine ⟨⟨_,w1⟩,?_⟩
   obtain ⟨o,eo,r⟩:=q2
   exact ⟨o,w2.extBut _ _ (Ne.symm hne) eo,r⟩
 done:=by
  intro X hP hw hK hc n pins s σ H E I hf Z hg
  subst hP hw hK
  obtain ⟨⟨old,ee⟩,hli⟩:=Z
  obtain ⟨xs,hx,hl⟩:=hg
  obtain ⟨its,rv,pl,hz⟩:=I.tuple hx
  have l1:=rv.length
  have hiit:l≠it:=fun z=>by
   subst z
   obtain ⟨o,eo,_,r2⟩:=hli
   obtain ⟨o',eo',_,n',r3⟩:=pl
   rw [eo] at eo'; cases eo'
   rw [r2] at r3; cases r3
  refine qQ (I.ok.hd hc) ee hli pl (by simp; omega) fun h' kk=>⟨rfl,I.turnedL (t':=s.toks) (fun c q hc eq=>kk c q (fun z=>hc (by simp [z])) eq) hf⟩
 self:=fun A i s Q E Z h=>by
  obtain ⟨⟨old,ee⟩,_⟩:=Z
  exact wpAny_pyIter_enum ee h
section
variable {X:Cx}
noncomputable def iEnumT (K:PySem.W.Frag) (ta:TA):TI:=fun σ H R=>ta σ H fun vs H1=>∃ l xs,vs=[.ref l]/\SqT K H1 l xs/\R (ItT K l) H1
theorem rP {elts:List Expr} {x1:_} {tpos:Pos} {a:Expr} {ta:TA} {p pos:Pos} (hg:Gl X "enumerate") (hm:X.mg "enumerate" = none) (ha:PA X [a] ta) (hs:autoParam (starEach [a] X.env=[(false,eval a X.env)]) Z2._auto_1) :
  PI X (.Tuple elts x1 tpos) (.Call (.Name "enumerate" p) [a] [] pos) (iEnumT X.K ta):=by
 intro pins s σ H R I h
 refine Call_ (ed I hg hm boot_enumerate (PyProof.Rows.callWith_type1 (thn (ha pos pins s σ H _ I h) fun us s1 ⟨vs,H1,I1,r1,q1⟩=>?_) (by rw [hs]; rfl) rfl))
 obtain ⟨l,xs,e,hx,q⟩:=q1
 subst e
 cases r1 with
 | cons ra rr =>
  cases rr
  cases ra
  obtain ⟨its,rv,pl,hz⟩:=I1.tuple hx
  refine fF pl fun h' he hi sz kk=>?_
  have I2:Inv X pins σ H1 { s1 with heap:=h' }:=I1.kept (t':=s1.toks) kk
  refine wpAny_pyIter_enum he ⟨_,_,_,_,H1,rfl,I2,oQ l _ _ (Nat.succ_ne_self _),⟨⟨_,he⟩,hi⟩,fun b' hb=>?_,q⟩
  have hge:s1.heap.objs.size<=b':=by
   simp only [List.mem_cons,List.not_mem_nil,or_false] at hb
   rcases hb with rfl | rfl
   ·exact Nat.le_succ _
   ·exact Nat.le_refl _
  exact I1.fpOk hge (I1.hok.fresh hge)
end
end L2
namespace Q
open PySem L2 PyProof.Rows
theorem uj {M:Md} {F:Hp} {a:Addr} {vs:List V} {xs:List PV} (h1:SqT M.K F a vs) (r1:Reps M.K F vs xs):ItOk M (ItT M.K a) F (enumP xs):=by
 refine ⟨fun Z i σ env F' H x s K e=>?_,fun Z i σ env F' H s K hl=>⟨vs,az K.sF (az s h1),?_⟩⟩
 ·unfold enumP at e
  rw [List.getElem?_map,List.getElem?_zipIdx] at e
  cases ez:xs[i]? with
  | none=>rw [ez] at e; cases e
  | some x1 =>
   rw [ez] at e
   have e:x=.tup [.int ((0+i:Nat):Int),x1]:=(Option.some.inj e).symm
   rw [Nat.zero_add] at e
   subst e
   obtain ⟨v1,q1,q2⟩:=r1.get ez
   have g1:=az K.sF (az s h1)
   refine ⟨⟨vs,v1,g1,q1⟩,fun v' H' y=>?_⟩
   obtain ⟨p,w1,rfl,hp,rfl,y⟩:=y
   have y1:=y vs g1
   rw [q1] at y1; cases y1
   have hF:F' p=none:=Same.none_of K.sF hp
   refine ⟨upd F' p (.tup [.int i,v1]),aA hF,K.lay hp,.tup (.inl (.inl am)) (.cons (.int _) (.cons ((q2.mono s).mono (aA hF)) .nil)),aA hp,fun c hc=>?_⟩
   by_cases z:c=p
   ·subst z; exact .inr hp
   ·rw [ah z] at hc; exact .inl hc
 ·have:=r1.len
  simp only [enumP,List.length_map,List.length_zipIdx] at hl
  omega
section
variable {ob:ObK} {X:Cx} {a:Expr} {fa:WA} {p pos:Pos}
noncomputable def iET (a:WA):WA:=fun env P=>a env fun xs e=>match xs with
 | [.tup xs]=>P (enumP xs) e
 | _=>False
theorem sK {elts:List Expr} {x1:_} {tpos:Pos} (hg:Gl X "enumerate") (hm:X.mg "enumerate" = none) (ha:EvA ob X [a] fa) (hs:autoParam (starEach [a] X.env=[(false,eval a X.env)]) Z2._auto_1) :
  EvI ob X (.Tuple elts x1 tpos) (.Call (.Name "enumerate" p) [a] [] pos) (iET fa):=by
 obtain ⟨t,ht,k⟩:=ha.ex
 refine ⟨_,rP hg hm ht hs,fun Z F σ H env P R K hf kk=>k Z F σ H env _ _ K hf fun xs e1 vs F1 H1 p _ s1 K1 r1=>?_⟩
 split at p
 ·cases r1 with
  | cons r1 r2 =>
   cases r2
   cases r1 with
   | tup g1 g2=>exact ⟨_,_,rfl,az K1.sF g1,kk _ e1 _ F1 H1 p s1 K1 (uj g1 g2)⟩
 ·exact p.elim
end
end Q
namespace Pre
open PySem L2
noncomputable def top (i:Nat):Stmt:=PySem.Challenge.pw_cheaptree_k21_ways.main.body.getD i (.Pass ⟨0,0,0,0⟩)
noncomputable abbrev jC:Stmt:=top 1
noncomputable abbrev dI:Stmt:=top 2
noncomputable abbrev fW:Stmt:=top 3
noncomputable abbrev sRanks:Stmt:=top 4
noncomputable abbrev cR:Stmt:=top 6
noncomputable abbrev cQ:Stmt:=top 7
noncomputable abbrev fX:Stmt:=top 8
noncomputable abbrev dJ:Stmt:=top 10
noncomputable abbrev jF:Stmt:=top 11
noncomputable abbrev sOnly:Stmt:=top 13
noncomputable abbrev sWay:Stmt:=top 14
noncomputable abbrev jB:Stmt:=top 16
noncomputable abbrev sWays:Stmt:=top 17
noncomputable abbrev sBegin:Stmt:=top 19
noncomputable abbrev sNext:Stmt:=top 20
noncomputable abbrev sWords:Stmt:=top 21
noncomputable abbrev sEnds:Stmt:=top 22
noncomputable abbrev sCost:Stmt:=top 23
noncomputable abbrev sNet:Stmt:=top 24
noncomputable abbrev sOpen:Stmt:=top 25
noncomputable abbrev fo:Stmt:=top 26
noncomputable abbrev sWayL:Stmt:=top 27
noncomputable abbrev sWaysL:Stmt:=top 28
noncomputable abbrev sLaw:Stmt:=top 29
structure Named (K:PySem.W.Frag) (mg:Str->Option Value) (x:Str) (f:Addr):Prop where
 mg:mg x=some (.ref f)
 kp:PySem.W.keepIn K (.ref f)=true
structure Df (K:PySem.W.Frag) (mg:Str->Option Value) (name:Str) (st:Stmt) (ps:List Str) where
 f:Addr
 fd:FuncData
 F:Fun K name name st f fd
 b:Binds K fd ps []
 n:Named K mg name f
noncomputable abbrev lamL:Nat:=13
noncomputable abbrev lamC:Nat:=29
section
set_option genInjectivity false
set_option genSizeOf false
structure Ev (K:PySem.W.Frag) (mg:Str->Option Value) where
 fIsOpen:Df K mg "is_open" jC ["net", "tie"]
 fTiesByName:Df K mg "ties_by_name" dI ["net"]
 fOpenTies:Df K mg "open_ties" fW ["net"]
 fRanks:Df K mg "ranks" sRanks ["net"]
 fCheaperFirst:Df K mg "cheaper_first" cR ["net", "names"]
 fWithoutRound:Df K mg "without_round" cQ ["net", "names"]
 fCheapest:Df K mg "cheapest" fX ["net"]
 fNeighbours:Df K mg "neighbours" dJ ["net"]
 fCameBy:Df K mg "came_by" jF ["beside", "start"]
 fOnly:Df K mg "only" sOnly ["net", "names"]
 fWay:Df K mg "way" sWay ["net", "forest", "one", "other"]
 fWaysIn:Df K mg "ways_in" jB ["net", "tree"]
 fWays:Df K mg "ways" sWays ["net"]
 fBegin:Df K mg "_law_begin" sBegin ["_law_script"]
 fNext:Df K mg "_law_next" sNext ["_law_state", "_law_many"]
 fWords:Df K mg "_law_words" sWords ["_law_state", "_law_many"]
 fEnds:Df K mg "_law_ends" sEnds ["_law_state", "_law_words_here", "_law_style", "_law_k"]
 fCost:Df K mg "_law_cost" sCost ["_law_state", "_law_style"]
 fNet:Df K mg "_law_net" sNet ["_law_state", "_law_most", "_law_ties"]
 fOpen:Df K mg "_law_open" sOpen ["_law_net_here"]
 fCheapestL:Df K mg "_law_cheapest" fo ["_law_net_here"]
 fWayL:Df K mg "_law_way" sWayL ["_law_ties", "_law_one", "_law_other"]
 fWaysL:Df K mg "_law_ways" sWaysL ["_law_net_here"]
 fLaw:Df K mg "law" sLaw ["_law_script"]
 fCheaperFirst_T:Addr
 fCheaperFirst_t:∃ c,fCheaperFirst.fd.code=.ref c/\PySem.W.codeHdIn K c fCheaperFirst_T=true
 b_abs:mg "abs" = none
 b_all:mg "all" = none
 b_dict:mg "dict" = none
 b_enumerate:mg "enumerate" = none
 b_int:mg "int" = none
 b_len:mg "len" = none
 b_list:mg "list" = none
 b_max:mg "max" = none
 b_range:mg "range" = none
 b_repr:mg "repr" = none
 b_sorted:mg "sorted" = none
 b_tuple:mg "tuple" = none
end
end Pre
namespace Pre
open PySem L2
noncomputable abbrev kC:Key:=.inr (Str.ofString "cells")
noncomputable abbrev kL:Key:=.inr (Str.ofString "left")
noncomputable abbrev kS:Key:=.inr (Str.ofString "seed")
noncomputable abbrev kM:Key:=.inr (Str.ofString "many")
theorem kne:kC≠kL/\kC≠kS/\kC≠kM/\kL≠kS/\kL≠kM/\kS≠kM:=by decide +kernel
section
variable {b:Addr} {l s m v:Int}
theorem vC:valV (stK b l s m) kC=some (.ref b):=db rfl
theorem vL:valV (stK b l s m) kL=some (.int l):=by
 obtain ⟨h1,h2,h3,h4,h5,h6⟩:=kne
 unfold stK valV
 simp [List.find?_cons,h1]
theorem vS:valV (stK b l s m) kS=some (.int s):=by
 obtain ⟨h1,h2,h3,h4,h5,h6⟩:=kne
 unfold stK valV
 simp [List.find?_cons,h2,h4]
theorem vM:valV (stK b l s m) kM=some (.int m):=by
 obtain ⟨h1,h2,h3,h4,h5,h6⟩:=kne
 unfold stK valV
 simp [List.find?_cons,h3,h5,h6]
theorem pL:putK (stK b l s m) kL (.int v)=stK b v s m:=by
 obtain ⟨h1,h2,h3,h4,h5,h6⟩:=kne
 unfold stK putK
 simp [h1,h4.symm,h5.symm]
theorem pM:putK (stK b l s m) kM (.int v)=stK b l s v:=by
 obtain ⟨h1,h2,h3,h4,h5,h6⟩:=kne
 unfold stK putK
 simp [h3,h5,h6]
end
noncomputable def rdK (x:String):TE:=tOp _root_.Q.rIxD (tVar 0) (tC (V.str (Str.ofString x)))
noncomputable def tNx2:TS:=tSeq
   (tIfS
    (tTest
     (tOp (rI0 fun i j=>V.bl (decide (j<i))) (rdK "left")
      (tC (V.int 0))))
    (tSeq
     (tAsg
      (tOp (rI (fun x j=>0<j) fun i j=>V.int (i % j))
       (rdK "left") (tVar 1))
      (gName 3))
     (tSeq
      (tAsg
       (tOp (rI CDiv fun i j=>V.int (i / j)) (rdK "left")
        (tVar 1))
       (gSub (tVar 0) (tC (V.str (Str.ofString "left"))) _root_.Q.rSetD))
      (tRet (tVar 3))))
    tNext)
   (tSeq
    (tAsg
     (tOp (rI0 fun i j=>V.int (i+j)) (rdK "many")
      (tC (V.int 1)))
     (gName 4))
    (tSeq (tAsg (tVar 4) (gSub (tVar 0) (tC (V.str (Str.ofString "many"))) _root_.Q.rSetD))
     (tSeq
      (tAsg
       (tOp (rI (fun x j=>0<j) fun i j=>V.int (i % j))
        (tOp (rI CMul fun i j=>V.int (i*j))
         (tOp (rI0 fun i j=>V.int (i+j))
          (tOp (rI0 fun i j=>V.int (i+j)) (rdK "seed")
           (tOp (rI CMul fun i j=>V.int (i*j)) (tOp (rI CMul fun i j=>V.int (i*j)) (tVar 4) (tVar 4))
            (tC (V.int 104729))))
          (tC (V.int 11)))
         (tC (V.int 48271)))
        (tC (V.int 2305843009213693921)))
       (gName 5))
      (tSeq
       (tAsg
        (tOp (rI (fun x j=>0<j) fun i j=>V.int (i % j))
         (tOp (rI CMul fun i j=>V.int (i*j)) (tVar 5)
          (tOp (rI0 fun i j=>V.int (i+j))
           (tOp (rI (fun x j=>0<j) fun i j=>V.int (i % j)) (tVar 5) (tC (V.int 1000003)))
           (tC (V.int 39373))))
         (tC (V.int 2305843009213693907)))
        (gName 5))
       (tRet
        (tOp (rI (fun x j=>0<j) fun i j=>V.int (i % j))
         (tOp (rI CDiv fun i j=>V.int (i / j)) (tVar 5) (tC (V.int 8191))) (tVar 1)))))))
section
variable {P:Program} {w:World} {K:PySem.W.Frag} {mg:Str->Option Value} {base:Heap}
theorem scNext:aD ["_law_state", "_law_many", "_law_cell", "_law_digit", "_law_turn", "_law_mixed"] ["_law_state", "_law_many"] (aq sNext):=⟨rfl,rfl,rfl,by decide +kernel,rfl,by decide +kernel,by decide +kernel⟩
theorem se {f:Addr} {fd:FuncData} (F:Fun K "_law_next" "_law_next" sNext f fd) (hA:mg "abs" = none) (hI:mg "int" = none):FnOk P w K mg base CX0 1 f fd ["_law_state", "_law_many"] nB:=by
 refine F.ok scNext (fun vs H Q E h=>?_) (fun cdv A outer s H vs Q E hr h=>?_)
 ·obtain ⟨a,b,m,f,rfl,_⟩:=h
  rfl
 ·obtain ⟨a,b,m,f,rfl,S,m0,m1,k⟩:=h
  have hu:=hr.units0
  have hu1:=_root_.Q.hu1 hr
  refine ⟨_,aZ (oY (PW.pt (pw_and (gF wC (cC (_root_.Q.ix_dict hu1) (pv 0) be (fun _ _=>rfl)) aQ (nomark _)) (pw_and1 (gF (lX hu) (cC (_root_.Q.ix_dict hu1) (pv 0) be (fun _ _=>rfl)) (lP bu) (nomark _)))))
    (aZ (bO (i:=2) scNext.nd rfl (Or.inl rfl) (o0 PySem.F.plainAttrs_list PySem.F.slot_list_pop PySem.F.type_list_pop mi (cC (_root_.Q.ix_dict hu1) (pv 0) be (fun _ _=>rfl)) (bh aQ bu)))
    (cX (gf (aV cG (b8 mR (by rfl) hA PyProof.Rows.boot_abs (bh (pv 2) bu)) (dy gR (by rfl) hI PyProof.Rows.boot_int (bh (jI wB (b8 mR (by rfl) hA PyProof.Rows.boot_abs (bh (pv 2) bu)) (aV qj aQ aQ) (nomark _)) bu))) (iX (pv 0) be (_root_.Q.set_dict hu1)))))
    jH)
   (aZ (oY (gF o5 (cC (_root_.Q.ix_dict hu1) (pv 0) be (fun _ _=>rfl)) aQ (nomark _))
    (aZ (bO (i:=3) scNext.nd rfl (Or.inl rfl) (aV cH (cC (_root_.Q.ix_dict hu1) (pv 0) be (fun _ _=>rfl)) (pv 1)))
    (aZ (gf (aV jK (cC (_root_.Q.ix_dict hu1) (pv 0) be (fun _ _=>rfl)) (pv 1)) (iX (pv 0) be (_root_.Q.set_dict hu1)))
    (cX (dU (pv 3)))))
    jH)
   (aZ (bO (i:=4) scNext.nd rfl (Or.inl rfl) (aV dh (cC (_root_.Q.ix_dict hu1) (pv 0) be (fun _ _=>rfl)) aQ))
   (aZ (gf (pv 4) (iX (pv 0) be (_root_.Q.set_dict hu1)))
   (aZ (bO (i:=5) scNext.nd rfl (Or.inl rfl) (aV cH (aV cG (aV dh (aV dh (cC (_root_.Q.ix_dict hu1) (pv 0) be (fun _ _=>rfl)) (aV cG (aV cG (pv 4) (pv 4)) aQ)) aQ) aQ) aQ))
   (aZ (bO (i:=5) scNext.nd rfl (Or.inl rfl) (aV cH (aV cG (pv 5) (aV dh (aV cH (pv 5) aQ) aQ)) aQ))
   (cX (dU (aV cH (aV jK (pv 5) aQ) (pv 1))))))))),?_⟩
  obtain ⟨ns,left,seed,many,ha,hb,l0,s0,s1,n0,nb⟩:=S.st
  have ab:a≠b:=fun e=>by rw [e,hb] at ha; cases ha
  have G:∀ {H1:Hp} {x y z:Int} {kk:Key} {v:V},H1 a=some (.dK (stK b x y z))->valV (stK b x y z) kk=some v->DGet H1 a (kV kk) (some v):=fun {H1 x y z kk v} e h=>by
   have:=DGet.k (k:=kk) e
   rwa [h] at this
  have Pt:∀ {H1:Hp} {x y z:Int} {kk:Key} {v:V},H1 a=some (.dK (stK b x y z))->DPut H1 a (kV kk) v (upd H1 a (.dK (putK (stK b x y z) kk v))):=fun e=>.inl ⟨_,_,e,rfl,by show 4<sizeLine; decide,rfl⟩
  have part2:∀ (H1:Hp) (c2:Option V) (ns:List Int) (left:Int),But a b H H1->H1 a=some (.dK (stK b left seed many))->H1 b=some (.lst (ns.map V.int))->0<=left->tNx2 { nx:=fun _ H'=>Q .non H',rt:=Q } [some (.ref a),some (.int m),c2,none,none,none] H1:=by
   intro H1 c2 ns left hB ha hb l0
   refine ⟨_,rfl,a,_,rfl,G ha vL,_,_,rfl,rfl,_,rfl,?_⟩
   refine ite2 (fun q=>?_) (fun q=>?_)
   ·refine ⟨_,rfl,a,_,rfl,G ha vL,_,rfl,_,_,rfl,rfl,m0,?_⟩
    refine ⟨_,rfl,a,_,rfl,G ha vL,_,rfl,_,_,rfl,rfl,⟨m0,m1⟩,_,rfl,a,_,rfl,Pt (kk:=kL) ha,?_⟩
    refine ⟨_,rfl,?_⟩
    refine k _ _ (Int.emod_nonneg _ (by omega)) (Int.emod_lt_of_pos _ m0) ⟨ns,left / m,seed,many,?_,?_,Int.ediv_nonneg l0 (by omega),s0,s1,n0,by omega⟩ hB.seta
    ·rw [pL]; exact am
    ·rw [ah ab.symm]; exact hb
   ·refine ⟨_,rfl,a,_,rfl,G ha vM,_,_,rfl,rfl,?_⟩
    refine ⟨_,rfl,_,rfl,a,_,rfl,Pt (kk:=kM) ha,?_⟩
    rw [pM]
    have ha2:(upd H1 a (.dK (stK b left seed (many+1)))) a=some (.dK (stK b left seed (many+1))):=am
    have hb2:(upd H1 a (.dK (stK b left seed (many+1)))) b=some (.lst (ns.map V.int)):=by rw [ah ab.symm]; exact hb
    refine ⟨_,rfl,a,_,rfl,G ha2 vS,_,rfl,_,rfl,_,_,rfl,rfl,.inl ⟨by omega,by omega⟩,_,_,rfl,rfl,.inr ⟨by decide,by decide⟩,_,_,rfl,rfl,_,_,rfl,rfl,_,_,rfl,rfl,.inr ⟨by decide,by decide⟩,_,_,rfl,rfl,(by show (0:Int)<_; decide),?_⟩
    refine ⟨_,rfl,_,rfl,_,_,rfl,rfl,(by show (0:Int)<_; decide),_,_,rfl,rfl,_,_,rfl,rfl,.inr ⟨?_,?_⟩,_,_,rfl,rfl,(by show (0:Int)<_; decide),?_⟩
    ·have:=Int.emod_nonneg ((seed+(many+1)*(many+1)*104729+11)*48271 % 2305843009213693921) (show (1000003:Int)≠0 by decide)
     omega
    ·have:=Int.emod_lt_of_pos ((seed+(many+1)*(many+1)*104729+11)*48271 % 2305843009213693921) (show (0:Int)<1000003 by decide)
     omega
    refine ⟨_,rfl,_,_,rfl,rfl,⟨by decide,by decide⟩,_,rfl,_,_,rfl,rfl,m0,?_⟩
    exact k _ _ (Int.emod_nonneg _ (by omega)) (Int.emod_lt_of_pos _ m0) ⟨ns,left,seed,many+1,ha2,hb2,l0,s0,s1,by omega,by omega⟩ hB.seta
  show tSeq _ tNx2 _ [some (.ref a),some (.int m),none,none,none,none] H
  refine ⟨_,rfl,a,_,rfl,G ha vL,rfl,_,rfl,?_⟩
  refine ite2 (fun q=>?_) (fun q=>?_)
  rotate_left
  ·exact iteF (part2 H none ns left (But.refl a b H) ha hb l0)
  refine ⟨_,rfl,a,_,rfl,G ha vC,Nat.zero_le _,fun p hp=>?_⟩
  have ha1:∀ o,(upd H p o) a=some (.dK (stK b left seed many)):=fun o=>by rw [ah (ay ha hp)]; exact ha
  have hb1:∀ o,(upd H p o) b=some (.lst (ns.map V.int)):=fun o=>by rw [ah (ay hb hp)]; exact hb
  have B1:=(But.refl a b H).grow (o:=.lst []) hp
  refine ⟨b,p,_,rfl,rfl,.inl (.inl (hb1 _)),.inl (.inl am),_,rfl,?_⟩
  cases ns with
  | nil=>exact iteF (part2 _ none [] left B1 (ha1 _) (hb1 _) l0)
  | cons x r =>
   refine iteT ?_
   refine ⟨_,rfl,a,_,rfl,G (ha1 _) vC,.inl ⟨rfl,_,SqL.of (hb1 _)⟩,b,_,0,0,_,rfl,rfl,hb1 _,by decide,by decide,?_,rfl,?_⟩
   ·simp [seqIndex?]
   have hb3:∀ o,(upd (upd H p (.lst [])) b o) a=some (.dK (stK b left seed many)):=fun o=>by rw [ah ab]; exact ha1 _
   refine ⟨_,rfl,x,rfl,_,rfl,x,rfl,_,_,rfl,rfl,⟨by decide,by decide,by decide⟩,_,_,rfl,rfl,_,rfl,_,_,rfl,rfl,?_,?_⟩
   ·have hbb:∀ bb:Bool,-(2 ^ 64)<(if bb=true then (1:Int) else 0)/\(if bb=true then (1:Int) else 0)<2 ^ 64:=fun bb=>by cases bb <;> exact ⟨by decide,by decide⟩
    exact .inr (hbb _)
   refine ⟨_,rfl,a,_,rfl,Pt (kk:=kL) (hb3 _),?_⟩
   rw [pL]
   refine part2 _ _ r _ (B1.setb.seta) am ?_ ?_
   ·rw [ah ab.symm]; exact am
   ·refine Int.mul_nonneg ?_ ?_
    ·show (0:Int)<=(if x<0 then -x else x)
     split <;> omega
    ·have hbb:∀ bb:Bool,(0:Int)<=(if bb=true then (1:Int) else 0):=fun bb=>by cases bb <;> decide
     exact hbb _
end
theorem sj {b:Addr} {l s m:Int}:mergeK [] (stK b l s m)=stK b l s m:=by
 obtain ⟨h1,h2,h3,h4,h5,h6⟩:=kne
 unfold mergeK stK
 simp [putK,h1,h2,h3,h4,h5,h6]
section
variable {P:Program} {w:World} {K:PySem.W.Frag} {mg:Str->Option Value} {base:Heap}
theorem scBegin:aD ["_law_script", "_law_cells", "_law_seed", "_law_cell"] ["_law_script"] (aq sBegin):=⟨rfl,rfl,rfl,by decide +kernel,rfl,by decide +kernel,by decide +kernel⟩
theorem qo {f:Addr} {fd:FuncData} (F:Fun K "_law_begin" "_law_begin" sBegin f fd) (hL:mg "len" = none) (hT:mg "list" = none):FnOk P w K mg base CX0 1 f fd ["_law_script"] (fm K):=by
 refine F.ok scBegin (fun vs H Q E h=>?_) (fun cdv A outer s H vs Q E hr h=>?_)
 ·obtain ⟨a,ns,rfl,_⟩:=h
  rfl
 ·obtain ⟨a,ns,rfl,hS,hlen,k⟩:=h
  refine ⟨_,aZ (bO (i:=1) scBegin.nd rfl (Or.inl rfl) (dy mP (by rfl) hT PyProof.Rows.boot_list (bh (ir nC (pv 0) nO (nN aQ)) bu)))
   (aZ (bO (i:=2) scBegin.nd rfl (Or.inl rfl) (aV dh (aV cG (b8 gq (by rfl) hL PySem.boot_len (bh (pv 1) bu)) aQ) aQ))
   (aZ (qb PassesOwn.never rfl (tP (pv 1)) (aK (i:=3) scBegin.nd rfl (Or.inl rfl))
    (cX (bO (i:=2) scBegin.nd rfl (Or.inl rfl) (aV cH (aV dh (aV cG (pv 2) aQ) (aV cH (pv 3) aQ)) aQ))))
   (cX (dU (nQ (dg be (pv 1) (dg be aQ (dg be (pv 2) (dg be aQ nM)))) rfl rfl (by simp) (by decide)))))),?_⟩
  have cut:cutV (ns.map V.int) none (some 63)=ns.map V.int:=by
   unfold cutV
   rw [HT.sIx_none]
   have e:HT.sIx (ns.map V.int).length (ns.map V.int).length (some 63)=(ns.map V.int).length:=by
    have:=HT.sIx_nat (ns.map V.int).length (ns.map V.int).length 63
    refine this.trans ?_
    rw [List.length_map]; omega
   rw [e,Nat.sub_zero,List.drop_zero,List.take_length]
  have grow:∀ {H':Hp} {p:Addr} {o:HO},Same H H'->H' p=none->Same H (upd H' p o):=fun {H' p o} hs hp c u h=>by
   have q:=hs c u h
   rw [ah (ay q hp)]; exact q
  refine ⟨_,rfl,63,rfl,a,_,rfl,hS,fun p hp=>?_⟩
  rw [cut]
  have s1:Same H (upd H p (.lst (ns.map V.int))):=grow (Same.refl H) hp
  refine ⟨p,_,rfl,.inl (.inl (.inl am)),fun q hq=>?_⟩
  have s2:Same H (upd (upd H p (.lst (ns.map V.int))) q (.lst (ns.map V.int))):=grow s1 hq
  have hHq:H q=none:=s1.free hq
  generalize hH2:upd (upd H p (.lst (ns.map V.int))) q (.lst (ns.map V.int))=H2 at s2
  have hq2:H2 q=some (.lst (ns.map V.int)):=by rw [<- hH2]; exact am
  refine ⟨_,rfl,q,_,rfl,.inl (.inl (.inl hq2)),_,_,rfl,rfl,.inr ⟨by decide,by decide⟩,_,_,rfl,rfl,?_⟩
  refine ⟨_,rfl,q,rfl,⟨_,.inl (.inl hq2)⟩,sA (K:=K) (a:=q) (xs:=ns.map V.int) (fun i σ H3=>∃ (z:Int) (v:Option V),σ=[some (.ref a),some (.ref q),some (.int z),v]/\H3=H2/\0<=z/\z<2305843009213693951)
   ⟨_,none,rfl,rfl,by show (0:Int)<=((ns.map V.int).length:Nat)*7919+5; omega,by show ((ns.map V.int).length:Nat)*(7919:Int)+5<_; rw [List.length_map]; omega⟩ (fun i σ H3 _ ⟨_,_,_,e,_⟩=>by rw [e]; exact .inl (.inl hq2)) ?_ ?_⟩
  ·rintro i y σ H3 hi ⟨z,v,rfl,rfl,z0,z1⟩
   obtain ⟨c,rfl⟩:∃ c,y=V.int c:=by
    rw [List.getElem?_map] at hi
    cases e:ns[i]? with
    | none=>rw [e] at hi; cases hi
    | some c=>rw [e] at hi; exact ⟨c,(Option.some.inj hi).symm⟩
   refine ⟨_,rfl,_,_,rfl,rfl,.inr ⟨by decide,by decide⟩,_,rfl,_,_,rfl,rfl,(by show (0:Int)<_; decide),_,_,rfl,rfl,_,_,rfl,rfl,(by show (0:Int)<_; decide),?_⟩
   exact ⟨_,_,rfl,rfl,Int.emod_nonneg _ (by decide),Int.emod_lt_of_pos _ (by decide)⟩
  ·rintro σ H3 ⟨z,v,rfl,rfl,z0,z1⟩
   intro d hd
   refine ⟨_,rfl,_,rfl,?_⟩
   have hqd:q≠d:=fun e=>by rw [e,hd] at hq2; cases hq2
   refine ⟨am,stK q 0 z 0,rfl,by show 4<=15; decide,?_⟩
   refine k d q _ (s2.free hd) hHq ⟨ns,0,z,0,?_,?_,by decide,z0,z1,by decide,by decide⟩ ?_
   ·rw [am,sj]
   ·rw [ah hqd,ah hqd]; exact hq2
   ·rw [tj]; exact grow s2 hd
end
end Pre
namespace Pre
open PySem L2 Q
section
variable {P:Program} {w:World} {K:PySem.W.Frag} {mg:Str->Option Value} {base:Heap}
structure IsWord (x:Str):Prop where
 lo:1<=x.cps.toList.length
 hi:x.cps.toList.length<=8
 ok:∀ c∈x.cps.toList,97<=c/\c<=122
noncomputable def ch (i:Nat):Str:=⟨#[97+i]⟩
theorem jv {x y:Str} (h:x.cps.toList=y.cps.toList):x=y:=by
 obtain ⟨x⟩:=x
 obtain ⟨y⟩:=y
 exact congrArg Str.mk (Array.toList_inj.mp h)
theorem lL (b m:Nat):(repS (ch b) m).cps.toList=List.replicate m (97+b):=by
 unfold repS ch
 induction m with
 | zero=>rfl
 | succ m ih =>
  simp only [List.replicate_succ,List.flatten_cons] at ih ⊢
  simpa using ih
theorem cU (x y:Str):(x++y).cps.toList=x.cps.toList++y.cps.toList:=by
 show (x.cps++y.cps).toList=_
 simp
noncomputable def abc:Str := "abcdefghijklmnopqrstuvwxyz"
theorem wm:∀ i:Nat,i<26->abc.cps.toList[i]?=some (97+i):=by decide +kernel
structure Tie where
 nm:Str
 one:Str
 oth:Str
 cost:Int
noncomputable def t0:Tie:=⟨⟨#[]⟩,⟨#[]⟩,⟨#[]⟩,0⟩
structure TieOk (t:Tie):Prop where
 nm:IsWord t.nm
 one:IsWord t.one
 oth:IsWord t.oth
 lt:ltS t.one t.oth
 lo : -(10 ^ 30)<t.cost
 hi:t.cost<10 ^ 30
structure NetOk (ps:List Str) (ts:List Tie):Prop where
 rise:ps.Pairwise ltS
 word:∀ x∈ps,IsWord x
 names:(ts.map Tie.nm).Pairwise ltS
 tie:∀ t∈ts,TieOk t
theorem mm {x y:Str} (h1:¬ ltS y x) (h2:x≠y):ltS x y:=by
 unfold ltS at *
 rcases List.le_iff_lt_or_eq.mp (List.not_lt.mp h1) with z | z
 ·exact z
 ·exact absurd (jv z) h2
theorem uR {x y:Str} {l:List Str} (hp:l.Perm [x,y]) (hs:l.Pairwise fun a b=>¬ ltS b a) (hn:x≠y):∃ u v,l=[u,v]/\ltS u v/\(u=x\/u=y)/\(v=x\/v=y):=by
 have hl:=hp.length_eq
 match l,hl with
 | [u,v],_ =>
  have hu:u=x\/u=y:=by simpa using hp.mem_iff.mp (show u∈[u,v] by simp)
  have hv:v=x\/v=y:=by simpa using hp.mem_iff.mp (show v∈[u,v] by simp)
  have nd:[u,v].Nodup:=hp.nodup_iff.mpr (by simp [hn])
  have hne:u≠v:=by simpa using nd
  refine ⟨u,v,rfl,mm ?_ hne,hu,hv⟩
  have:=List.rel_of_pairwise_cons hs (show v∈[v] by simp)
  exact this
theorem nH {l:List Str} (hs:l.Pairwise fun a b=>¬ ltS b a) (hn:l.Nodup):l.Pairwise ltS:=by
 have:=List.nodup_iff_pairwise_ne.mp hn
 exact (hs.and this).imp fun ⟨h1,h2⟩=>mm h1 h2
noncomputable def tiePV (t:Tie):PV:=.tup [.str t.nm,.str t.one,.str t.oth,.int t.cost]
noncomputable def netPV (ps:List Str) (ts:List Tie):PV:=.tup [.tup (ps.map .str),.tup (ts.map tiePV)]
end
end Pre
namespace Pre
open PySem L2 Q
noncomputable abbrev aE:FdO:=la
theorem draw {f:Nat} {m:Int} {P:PV->PV->Prop} (h0:0<m) (h1:m<1073741824) (k:∀ r:Nat,(r:Int)<m->P (.int r) (.int (f:Int))):aE (.int ((f+1:Nat):Int)) [.int m] P :=
 ⟨f,m,rfl,rfl,h0,h1,fun r r0 r1=>by
  obtain ⟨i,rfl⟩:∃ i:Nat,r=(i:Int):=⟨r.toNat,by omega⟩
  exact k i r1⟩
noncomputable def fI:FdO:=fun c xs P=>∃ (f:Nat) (q:Int),c=.int ((f+2:Nat):Int)/\xs=[.int q]/\∀ (v:Int) (f':Nat),f<=f' -> -(10 ^ 30)<v->v<10 ^ 30->P (.int v) (.int (f':Int))
noncomputable def fH:FdO:=fun c xs P=>∃ (f:Nat) (ws:List Str) (st k:Int),c=.int ((f+4:Nat):Int)/\xs=[.lst (ws.map .str),.int st,.int k]/\2<=ws.length/\ws.length<=60/\ws.Nodup/\∀ (u v:Str) (f':Nat),f<=f'->u∈ws->v∈ws->ltS u v->P (.tup [.str u,.str v]) (.int (f':Int))
noncomputable def cP:FdO:=fun c xs P=>∃ (f:Nat) (n:Nat),c=.int ((f+20:Nat):Int)/\xs=[.int n]/\n<=52/\∀ (ws:List Str) (f':Nat),f<=f'->ws.length=n->ws.Pairwise ltS->(∀ x∈ws,IsWord x)->P (.lst (ws.map .str)) (.int (f':Int))
noncomputable def eN:FdO:=fun c xs P=>∃ (f:Nat) (M T:Int),c=.int ((f+1000:Nat):Int)/\xs=[.int M,.int T]/\0<=M/\M<=40/\8<=T/\T<=50/\∀ (ps:List Str) (ts:List Tie) (f':Nat),f<=f'->NetOk ps ts->(ps.length:Int)<=M->(ts.length:Int)<=T->P (netPV ps ts) (.int (f':Int))
section
variable {P:Program} {w:World} {K:PySem.W.Frag} {mg:Str->Option Value} {base:Heap}
theorem aG (Y:Ev K mg):FnOk P w K mg base CX0 1 Y.fNext.f Y.fNext.fd ["_law_state", "_law_many"] (spO ⟨P,w,K,obG K⟩ 2 aE):=qq (se Y.fNext.F Y.b_abs Y.b_int)
theorem qH (Y:Ev K mg):FnOk P w K mg base CX0 1 Y.fBegin.f Y.fBegin.fd ["_law_script"] (fm K):=qo Y.fBegin.F Y.b_len Y.b_list
end
end Pre
namespace Pre
open PySem L2
noncomputable def opn (ps:List Str) (t:Tie):Bool:=decide (t.one∈ps) && decide (t.oth∈ps)
theorem opn_iff {ps:List Str} {t:Tie}:opn ps t=true↔t.one∈ps/\t.oth∈ps:=by unfold opn; simp
noncomputable def nmIn (ns:List Str) (t:Tie):Bool:=decide (t.nm∈ns)
theorem ma {ns:List Str} {t:Tie}:nmIn ns t=true↔t.nm∈ns:=by unfold nmIn; simp
theorem gh {x y:Str} (h:ltS x y):x≠y:=fun e=>by subst e; exact List.lt_irrefl _ h
theorem bH {ps:List Str} {ts:List Tie} (h:NetOk ps ts):(ts.map Tie.nm).Nodup:=List.nodup_iff_pairwise_ne.mpr (h.names.imp fun z=>gh z)
theorem nk {α:Type} {f:α->Bool} {ts:List α} {i:Nat} (hi:i<ts.length):(ts.take (i+1)).filter f=(ts.take i).filter f++(if f ts[i]=true then [ts[i]] else []):=by
 rw [List.take_succ,List.getElem?_eq_getElem hi,List.filter_append]
 congr 1
 show List.filter f [ts[i]]=_
 rw [List.filter_cons]
 rfl
noncomputable def ends (p:Str) (t:Tie):List (Str×Str):=(if t.one=p then [(t.nm,t.oth)] else [])++(if t.oth=p then [(t.nm,t.one)] else [])
noncomputable def adj (ps:List Str) (ts:List Tie) (p:Str):List (Str×Str):=(ts.filter (opn ps)).flatMap (ends p)
theorem sP {ps:List Str} {ts:List Tie} {i:Nat} (hi:i<ts.length) (p:Str):adj ps (ts.take (i+1)) p=adj ps (ts.take i) p++(if opn ps ts[i]=true then ends p ts[i] else []):=by
 unfold adj
 rw [nk (f:=opn ps) hi,List.flatMap_append]
 congr 1
 split <;> simp
theorem ng (p:Str) (t:Tie):(ends p t).length<=2:=by
 unfold ends
 split <;> split <;> simp
theorem pf (ps:List Str) (ts:List Tie) (p:Str):(adj ps ts p).length<=2*ts.length:=by
 unfold adj
 have h1:∀ us:List Tie,(us.flatMap (ends p)).length<=2*us.length:=fun us=>by
  induction us with
  | nil=>simp
  | cons t r ih =>
   rw [List.flatMap_cons,List.length_append,List.length_cons]
   have:=ng p t
   omega
 have h2:=h1 (ts.filter (opn ps))
 have h3:=List.length_filter_le (opn ps) ts
 omega
inductive Rch (g:Str->List (Str×Str)) (s:Str):Str->Prop where
 | refl:Rch g s s
 | step {x y nm:Str}:Rch g s x->(nm,y)∈g x->Rch g s y
noncomputable abbrev Cs:=List (Str×Option (Str×Str))
noncomputable abbrev cks (cs:Cs):List Str:=cs.map (·.1)
structure CsOk (g:Str->List (Str×Str)) (start:Str) (cs:Cs):Prop where
 nd:(cks cs).Nodup
 tree:∀ (i:Nat) (c:Str×Option (Str×Str)),cs[i]?=some c->(i=0/\c=(start,none))\/(0<i/\∃ nm x,c.2=some (nm,x)/\(nm,c.1)∈g x/\x∈cks (cs.take i))
 ne:cs≠[]
theorem CsOk.start {g:Str->List (Str×Str)} {start:Str} {cs:Cs} (x:CsOk g start cs):start∈cks cs:=by
 cases cs with
 | nil=>exact absurd rfl x.ne
 | cons c r =>
  rcases x.tree 0 c rfl with ⟨_,e⟩ | ⟨e,_⟩
  ·subst e; exact List.mem_cons_self
  ·exact absurd e (Nat.lt_irrefl _)
theorem CsOk.sound {g:Str->List (Str×Str)} {start:Str} {cs:Cs} (x:CsOk g start cs):∀ (i:Nat),∀ y∈cks (cs.take i),Rch g start y
 | 0,y,h=>by simp at h
 | i+1,y,h=>by
  rw [List.take_succ] at h
  unfold cks at h
  rw [List.map_append] at h
  rcases List.mem_append.mp h with h | h
  ·exact CsOk.sound x i y h
  ·cases e:cs[i]? with
   | none=>rw [e] at h; simp at h
   | some c =>
    rw [e] at h
    have hy:y=c.1:=by simpa using h
    subst hy
    rcases x.tree i c e with ⟨_,e⟩ | ⟨_,nm,z,e1,e2,e3⟩
    ·subst e; exact .refl
    ·exact .step (CsOk.sound x i z e3) e2
theorem CsOk.iff {g:Str->List (Str×Str)} {start:Str} {cs:Cs} (x:CsOk g start cs) (cl:∀ y∈cks cs,∀ q∈g y,q.2∈cks cs) {y:Str}:y∈cks cs↔Rch g start y:=by
 constructor
 ·intro h
  refine x.sound cs.length y ?_
  rw [List.take_length]; exact h
 ·intro h
  induction h with
  | refl=>exact x.start
  | step _ h ih=>exact cl _ ih _ h
theorem CsOk.snoc {g:Str->List (Str×Str)} {start nm y x:Str} {cs:Cs} (h:CsOk g start cs) (hy:y∉cks cs) (hx:x∈cks cs) (hg:(nm,y)∈g x):CsOk g start (cs++[(y,some (nm,x))]):=by
 refine ⟨?_,fun i c hc=>?_,by simp⟩
 ·unfold cks
  rw [List.map_append,List.nodup_append]
  refine ⟨h.nd,by simp,fun a ha b hb=>?_⟩
  have:b=y:=by simpa using hb
  rw [this]
  intro z
  exact hy (by rw [<- z]; exact ha)
 ·rcases Nat.lt_trichotomy i cs.length with z | z | z
  ·rw [List.getElem?_append_left z] at hc
   rw [List.take_append_of_le_length (by omega)]
   exact h.tree i c hc
  ·subst z
   rw [List.getElem?_append_right (Nat.le_refl _),Nat.sub_self] at hc
   have e:c=(y,some (nm,x)):=by simpa using hc.symm
   subst e
   refine .inr ⟨?_,nm,x,rfl,hg,?_⟩
   ·cases cs with
    | nil=>exact absurd rfl h.ne
    | cons _ _=>simp
   ·rw [List.take_append_of_le_length (Nat.le_refl _),List.take_length]; exact hx
  ·rw [List.getElem?_eq_none (by rw [List.length_append]; simp; omega)] at hc
   cases hc
theorem bD {α:Type} [DecidableEq α]:∀ {xs ys:List α},xs.Nodup->(∀ x∈xs,x∈ys)->xs.length<=ys.length
 | [],_,_,_=>Nat.zero_le _
 | x::r,ys,nd,h=>by
  obtain ⟨n1,n2⟩:=List.nodup_cons.mp nd
  have hx:=h x List.mem_cons_self
  have:=bD (xs:=r) (ys:=ys.erase x) n2 fun z hz=>by
   have hzx:z≠x:=fun e=>n1 (by rw [<- e]; exact hz)
   exact (List.mem_erase_of_ne hzx).mpr (h z (List.mem_cons_of_mem _ hz))
  rw [List.length_erase_of_mem hx] at this
  have hp:=List.length_pos_of_mem hx
  rw [List.length_cons]
  omega
theorem ml {x y z:Str} (a:ltS x y) (b:ltS y z):ltS x z:=List.lt_trans a b
theorem gK (x:Str):¬ ltS x x:=List.lt_irrefl _
theorem uc (x y:Str):ltS x y\/x=y\/ltS y x:=by
 by_cases h:ltS y x
 ·exact .inr (.inr h)
 ·by_cases e:x=y
  ·exact .inr (.inl e)
  ·exact .inl (mm h e)
theorem cV {xs:List Str} (h:xs.Pairwise ltS):xs.Nodup:=List.nodup_iff_pairwise_ne.mpr (h.imp fun z=>gh z)
open Classical in
theorem Rch.inn {g:Str->List (Str×Str)} {ps:List Str} {s y:Str} (h:Rch g s y) (hs:s∈ps) (hin:∀ p∈ps,∀ q∈g p,q.2∈ps):y∈ps:=by
 induction h with
 | refl=>exact hs
 | step _ h ih=>exact hin _ ih _ h
theorem adj_mem {ps:List Str} {ts:List Tie} {p nm q:Str}:(nm,q)∈adj ps ts p↔∃ t∈ts,opn ps t=true/\nm=t.nm/\((t.one=p/\t.oth=q)\/(t.oth=p/\t.one=q)):=by
 unfold adj
 rw [List.mem_flatMap]
 constructor
 ·rintro ⟨t,ht,h⟩
  obtain ⟨h1,h2⟩:=List.mem_filter.mp ht
  unfold ends at h
  rcases List.mem_append.mp h with z | z
  ·split at z
   ·rename_i e
    have:(nm,q)=(t.nm,t.oth):=by simpa using z
    cases this
    exact ⟨t,h1,h2,rfl,.inl ⟨e,rfl⟩⟩
   ·simp at z
  ·split at z
   ·rename_i e
    have:(nm,q)=(t.nm,t.one):=by simpa using z
    cases this
    exact ⟨t,h1,h2,rfl,.inr ⟨e,rfl⟩⟩
   ·simp at z
 ·rintro ⟨t,h1,h2,rfl,h3⟩
  refine ⟨t,List.mem_filter.mpr ⟨h1,h2⟩,?_⟩
  unfold ends
  rcases h3 with ⟨e1,e2⟩ | ⟨e1,e2⟩
  ·exact List.mem_append_left _ (by rw [if_pos e1,e2]; simp)
  ·exact List.mem_append_right _ (by rw [if_pos e1,e2]; simp)
theorem oJ {ps:List Str} {ts:List Tie} {p:Str}:∀ q∈adj ps ts p,q.2∈ps:=fun ⟨nm,q⟩ h=>by
 obtain ⟨t,h1,h2,h3,h4⟩:=adj_mem.mp h
 obtain ⟨o1,o2⟩:=opn_iff.mp h2
 rcases h4 with ⟨a,b⟩ | ⟨a,b⟩
 ·rw [<- b]; exact o2
 ·rw [<- b]; exact o1
end Pre
namespace Pre
open PySem L2
structure Gof (ps:List Str) (os:List Tie) (g:Str->List (Str×Str)):Prop where
 mem:∀ p nm q,(nm,q)∈g p↔∃ t∈os,nm=t.nm/\((t.one=p/\t.oth=q)\/(t.oth=p/\t.one=q))
 inn:∀ t∈os,t.one∈ps/\t.oth∈ps
theorem Gof.sym {ps:List Str} {os:List Tie} {g:Str->List (Str×Str)} (G:Gof ps os g) {p nm q:Str} (h:(nm,q)∈g p):(nm,p)∈g q:=by
 obtain ⟨t,a,b,c⟩:=(G.mem _ _ _).mp h
 refine (G.mem _ _ _).mpr ⟨t,a,b,?_⟩
 rcases c with ⟨x,y⟩ | ⟨x,y⟩
 ·exact .inr ⟨y,x⟩
 ·exact .inl ⟨y,x⟩
theorem Rch.trans {g:Str->List (Str×Str)} {x y z:Str} (a:Rch g x y) (b:Rch g y z):Rch g x z:=by
 induction b with
 | refl=>exact a
 | step _ h ih=>exact .step ih h
theorem Gof.rsym {ps:List Str} {os:List Tie} {g:Str->List (Str×Str)} (G:Gof ps os g) {x y:Str} (h:Rch g x y):Rch g y x:=by
 induction h with
 | refl=>exact .refl
 | step _ h ih=>exact Rch.trans (.step .refl (G.sym h)) ih
theorem oK (ps:List Str) (ts:List Tie):Gof ps (ts.filter (opn ps)) (adj ps ts):=by
 refine ⟨fun p nm q=>?_,fun t ht=>opn_iff.mp (List.mem_filter.mp ht).2⟩
 rw [adj_mem]
 constructor
 ·rintro ⟨t,a,b,c⟩; exact ⟨t,List.mem_filter.mpr ⟨a,b⟩,c⟩
 ·rintro ⟨t,a,c⟩
  obtain ⟨a,b⟩:=List.mem_filter.mp a
  exact ⟨t,a,b,c⟩
section
variable {ps:List Str} {os:List Tie} {g:Str->List (Str×Str)}
open Classical in
end
end Pre
namespace Pre
open PySem L2 Q
section
variable {ps:List Str} {os os':List Tie} {g g':Str->List (Str×Str)}
theorem tD (G:Gof ps os g) (G':Gof ps os' g') (h:∀ t∈os,t∈os') {x y:Str} (r:Rch g x y):Rch g' x y:=by
 induction r with
 | refl=>exact .refl
 | step _ e ih =>
  obtain ⟨t,a,b,c⟩:=(G.mem _ _ _).mp e
  exact .step ih ((G'.mem _ _ _).mpr ⟨t,h t a,b,c⟩)
theorem fw {α:Type} {p q:α->Bool}:∀ {l:List α},(∀ x∈l,p x=true->q x=true)->(l.filter p).Sublist (l.filter q)
 | [],_=>List.Sublist.refl _
 | x::l,h=>by
  have ih:=fw (l:=l) fun y hy=>h y (by simp [hy])
  rw [List.filter_cons,List.filter_cons]
  cases e:p x with
  | false =>
   rw [if_neg (by simp)]
   split
   ·exact ih.cons _
   ·exact ih
  | true =>
   rw [if_pos rfl,if_pos (h x (by simp) e)]
   exact ih.cons_cons _
theorem iz (G:Gof ps os g) (G':Gof ps os' g') {t:Tie} (h:∀ u,u∈os'↔u∈os\/u=t) {x y:Str} (r:Rch g' x y):Rch g x y\/(Rch g x t.one/\Rch g t.oth y)\/(Rch g x t.oth/\Rch g t.one y):=by
 induction r with
 | refl=>exact .inl .refl
 | step _ e ih =>
  obtain ⟨u,a,b,c⟩:=(G'.mem _ _ _).mp e
  rcases (h u).mp a with a | rfl
  ·have e':=(G.mem _ _ _).mpr ⟨u,a,b,c⟩
   rcases ih with ih | ⟨i1,i2⟩ | ⟨i1,i2⟩
   ·exact .inl (.step ih e')
   ·exact .inr (.inl ⟨i1,.step i2 e'⟩)
   ·exact .inr (.inr ⟨i1,.step i2 e'⟩)
  ·rcases c with ⟨c1,c2⟩ | ⟨c1,c2⟩
   ·subst c1 c2
    rcases ih with ih | ⟨i1,i2⟩ | ⟨i1,i2⟩
    ·exact .inr (.inl ⟨ih,.refl⟩)
    ·exact .inr (.inl ⟨i1,.refl⟩)
    ·exact .inl i1
   ·subst c1 c2
    rcases ih with ih | ⟨i1,i2⟩ | ⟨i1,i2⟩
    ·exact .inr (.inr ⟨ih,.refl⟩)
    ·exact .inl i1
    ·exact .inr (.inr ⟨i1,.refl⟩)
end
end Pre
namespace Pre
open PySem L2 Q
noncomputable def chp (t u:Tie):Prop:=t.cost<u.cost\/(t.cost=u.cost/\ltS t.nm u.nm)
theorem da (t:Tie):¬ chp t t:=by
 rintro (h | ⟨_,h⟩)
 ·omega
 ·exact gK _ h
theorem jo {t u v:Tie} (h:chp t u) (k:chp u v):chp t v:=by
 rcases h with h | ⟨h1,h2⟩ <;> rcases k with k | ⟨k1,k2⟩
 ·exact .inl (by omega)
 ·exact .inl (by omega)
 ·exact .inl (by omega)
 ·exact .inr ⟨by omega,ml h2 k2⟩
theorem uN {t u:Tie} (h:t.nm≠u.nm):chp t u\/chp u t:=by
 rcases Int.lt_trichotomy t.cost u.cost with z | z | z
 ·exact .inl (.inl z)
 ·rcases uc t.nm u.nm with w | w | w
  ·exact .inl (.inr ⟨z,w⟩)
  ·exact absurd w h
  ·exact .inr (.inr ⟨z.symm,w⟩)
 ·exact .inr (.inl z)
theorem qV {t u:Tie} (h:chp t u):¬ chp u t:=fun k=>da t (jo h k)
instance (t u:Tie):Decidable (chp t u):=inferInstanceAs (Decidable (t.cost<u.cost\/(t.cost=u.cost/\ltS t.nm u.nm)))
noncomputable def below (os:List Tie) (t:Tie):List Tie:=os.filter fun u=>decide (chp u t)
theorem below_mem {os:List Tie} {t u:Tie}:u∈below os t↔u∈os/\chp u t:=by
 unfold below
 rw [List.mem_filter,decide_eq_true_eq]
noncomputable def Min (ps:List Str) (os:List Tie) (t:Tie):Prop:=¬ Rch (adj ps (below os t)) t.one t.oth
section
variable {ps:List Str}
theorem gofO {os:List Tie} (h:∀ u∈os,opn ps u=true):Gof ps os (adj ps os):=by
 have:=oK ps os
 rwa [List.filter_eq_self.mpr h] at this
theorem cW {os os':List Tie} (h:∀ u∈os,opn ps u=true) (h':∀ u∈os',opn ps u=true) (k:∀ u∈os,u∈os') {x y:Str} (r:Rch (adj ps os) x y):Rch (adj ps os') x y:=tD (gofO h) (gofO h') k r
theorem ik {os:List Tie} (h:∀ u∈os,opn ps u=true) {t:Tie} (ht:t∈os):Rch (adj ps os) t.one t.oth:=.step .refl (((gofO h).mem _ _ _).mpr ⟨t,ht,rfl,.inl ⟨rfl,rfl⟩⟩)
noncomputable def less (os:List Tie) (t:Tie):List Tie:=os.filter fun u=>decide (u.nm≠t.nm)
theorem less_mem {os:List Tie} {t u:Tie}:u∈less os t↔u∈os/\u.nm≠t.nm:=by
 unfold less
 rw [List.mem_filter,decide_eq_true_eq]
noncomputable def Kr {β:Type} (ps:List Str) (X:List Tie) (G:Str->β):Prop:=∀ x∈ps,∀ y∈ps,G x=G y↔Rch (adj ps X) x y
theorem Kr.new {β:Type} {G:Str->β} (inj:∀ x∈ps,∀ y∈ps,G x=G y->x=y):Kr ps [] G:=fun x hx y hy=>by
 constructor
 ·intro e
  have:x=y:=inj x hx y hy e
  subst this
  exact .refl
 ·intro r
  have:x=y:=by
   induction r with
   | refl=>rfl
   | step _ e _=>cases e
  rw [this]
theorem Kr.nil:Kr ps [] id:=Kr.new fun _ _ _ _ e=>e
theorem Kr.two {β:Type} [DecidableEq β] {X:List Tie} {G:Str->β} {t:Tie} {a b:Str} (oX:∀ u∈X,opn ps u=true) (ot:opn ps t=true) (pn:ps.Nodup) (h:Kr ps X G) (hab:(a=t.one/\b=t.oth)\/(a=t.oth/\b=t.one)) :
  (G a=G b->Kr ps (X++[t]) G)/\(G a≠G b->Kr ps (X++[t]) fun p=>if G p=G b then G a else G p):=by
 have oX':∀ u∈X++[t],opn ps u=true:=fun u hu=>by
  rcases List.mem_append.mp hu with z | z
  ·exact oX u z
  ·rw [List.mem_singleton.mp z]; exact ot
 have A:=gofO oX
 have A':=gofO oX'
 have hm:∀ u,u∈X++[t]↔u∈X\/u=t:=fun u=>by rw [List.mem_append,List.mem_singleton]
 have up:∀ {x y:Str},Rch (adj ps X) x y->Rch (adj ps (X++[t])) x y:=cW oX oX' fun u hu=>List.mem_append_left _ hu
 have te0:Rch (adj ps (X++[t])) t.one t.oth:=ik oX' (by simp)
 obtain ⟨p1,p2⟩:=opn_iff.mp ot
 have te:Rch (adj ps (X++[t])) a b:=by
  rcases hab with ⟨rfl,rfl⟩ | ⟨rfl,rfl⟩
  ·exact te0
  ·exact A'.rsym te0
 have o1:a∈ps:=by rcases hab with ⟨rfl,rfl⟩ | ⟨rfl,rfl⟩ <;> assumption
 have o2:b∈ps:=by rcases hab with ⟨rfl,rfl⟩ | ⟨rfl,rfl⟩ <;> assumption
 have more:∀ {x y:Str},Rch (adj ps (X++[t])) x y->Rch (adj ps X) x y\/(Rch (adj ps X) x a/\Rch (adj ps X) b y)\/(Rch (adj ps X) x b/\Rch (adj ps X) a y):=fun r=>by
  rcases hab with ⟨rfl,rfl⟩ | ⟨rfl,rfl⟩
  ·exact iz A A' hm r
  ·exact (iz A A' hm r).imp id Or.symm
 refine ⟨fun e x hx y hy=>(h x hx y hy).trans ⟨up,fun r=>?_⟩,fun e x hx y hy=>?_⟩
 ·have q:=(h _ o1 _ o2).mp e
  rcases more r with z | ⟨z1,z2⟩ | ⟨z1,z2⟩
  ·exact z
  ·exact z1.trans (q.trans z2)
  ·exact z1.trans ((A.rsym q).trans z2)
 constructor
 ·intro q
  by_cases x1:G x=G b <;> by_cases y1:G y=G b
  ·exact up ((h x hx y hy).mp (x1.trans y1.symm))
  ·simp only [if_pos x1,if_neg y1] at q
   exact (up ((h x hx _ o2).mp x1)).trans ((A'.rsym te).trans (up ((h _ o1 y hy).mp q)))
  ·simp only [if_neg x1,if_pos y1] at q
   exact (up ((h x hx _ o1).mp q)).trans (te.trans (up ((h _ o2 y hy).mp y1.symm)))
  ·simp only [if_neg x1,if_neg y1] at q
   exact up ((h x hx y hy).mp q)
 ·intro r
  show (if G x=G b then G a else G x)=if G y=G b then G a else G y
  rcases more r with z | ⟨z1,z2⟩ | ⟨z1,z2⟩
  ·rw [(h x hx y hy).mpr z]
  ·have q:=(h x hx _ o1).mpr z1
   have w:=(h _ o2 y hy).mpr z2
   rw [if_neg (by rw [q]; exact e),if_pos w.symm,q]
  ·have q:=(h x hx _ o2).mpr z1
   have w:=(h _ o1 y hy).mpr z2
   rw [if_pos q,if_neg (by rw [<- w]; exact e),w]
theorem Kr.step {β:Type} [DecidableEq β] {X:List Tie} {G:Str->β} {t:Tie} (oX:∀ u∈X,opn ps u=true) (ot:opn ps t=true) (pn:ps.Nodup) (h:Kr ps X G) :
  (G t.one=G t.oth->Kr ps (X++[t]) G)/\(G t.one≠G t.oth->Kr ps (X++[t]) fun p=>if G p=G t.oth then G t.one else G p):=Kr.two oX ot pn h (.inl ⟨rfl,rfl⟩)
theorem Kr.min {β:Type} {X os:List Tie} {G:Str->β} {t:Tie} (oX:∀ u∈X,opn ps u=true) (oo:∀ u∈os,opn ps u=true) (ot:opn ps t=true) (h:Kr ps X G) (hm:∀ u,u∈X↔u∈below os t):G t.one≠G t.oth↔Min ps os t:=by
 obtain ⟨o1,o2⟩:=opn_iff.mp ot
 have oB:∀ u∈below os t,opn ps u=true:=fun u hu=>oo u (below_mem.mp hu).1
 unfold Min
 rw [Ne,h _ o1 _ o2]
 exact ⟨fun k r=>k (cW oB oX (fun u hu=>(hm u).mpr hu) r),fun k r=>k (cW oX oB (fun u hu=>(hm u).mp hu) r)⟩
end
end Pre
namespace Pre
open PySem L2 Q
section
variable {ps:List Str} {ts:List Tie}
theorem cI:∀ {l:List Tie},(l.map Tie.nm).Nodup->∀ {a b:Tie},a∈l->b∈l->a.nm=b.nm->a=b
 | t::l,h,a,b,ha,hb,e=>by
  rw [List.map_cons,List.nodup_cons] at h
  rcases List.mem_cons.mp ha with h1 | h1
  ·rcases List.mem_cons.mp hb with h2 | h2
   ·exact h1.trans h2.symm
   ·exact absurd (h1 ▸ e ▸ List.mem_map_of_mem (f:=Tie.nm) h2) h.1
  ·rcases List.mem_cons.mp hb with h2 | h2
   ·exact absurd (h2 ▸ e ▸ List.mem_map_of_mem (f:=Tie.nm) h1) h.1
   ·exact cI h.2 h1 h2 e
end
end Pre
namespace Pre
open PySem L2 Q
noncomputable def pairPV (q:Str×Str):PV:=.tup [.str q.1,.str q.2]
noncomputable def besPV (ps:List Str) (g:Str->List (Str×Str)):PV:=.dic (ps.map fun p=>(Sum.inr p,.lst ((g p).map pairPV)))
noncomputable def cvPV:Option (Str×Str)->PV
 | none=>.non
 | some q=>pairPV q
noncomputable def camePV (cs:Cs):PV:=.dic (cs.map fun c=>(Sum.inr c.1,cvPV c.2))
structure Nt (ps:List Str) (ts:List Tie):Prop where
 rise:ps.Pairwise ltS
 ne:∀ t∈ts,t.one≠t.oth
 pl:ps.length<=60
 tl:ts.length<=1000
noncomputable def gJ (ps:List Str) (ts:List Tie):List Str:=(ts.filter (opn ps)).map Tie.nm
noncomputable def bU:Fd:=fun xs P=>∃ (ps:List Str) (ts:List Tie) (t:Tie),xs=[netPV ps ts,tiePV t]/\P (.bl (opn ps t))
noncomputable def cS:Fd:=fun xs P=>∃ (ps:List Str) (ts:List Tie),xs=[netPV ps ts]/\ts.length<=1000/\P (.tup ((gJ ps ts).map .str))
noncomputable def cy:Fd:=fun xs P=>∃ (ps:List Str) (ts:List Tie),xs=[netPV ps ts]/\Nt ps ts/\P (besPV ps (adj ps ts))
noncomputable def dP:Fd:=fun xs P=>∃ (ps:List Str) (g:Str->List (Str×Str)) (start:Str),xs=[besPV ps g,.str start]/\ps.Nodup/\start∈ps/\(∀ p∈ps,∀ q∈g p,q.2∈ps)/\ps.length<=1000 /\
 ∀ cs,CsOk g start cs->(∀ y∈cks cs,y∈ps)->(∀ y∈cks cs,∀ q∈g y,q.2∈cks cs)->P (camePV cs)
noncomputable def fG:Fd:=fun xs P=>∃ (ps:List Str) (ts:List Tie),xs=[netPV ps ts]/\ts.length<=1000/\P (.lst ((ts.filter (opn ps)).map tiePV))
noncomputable def labPV (ps:List Str) (L:Str->Str):PV:=.dic (ps.map fun p=>(Sum.inr p,.str (L p)))
end Pre
namespace Pre
open PySem L2 Q
noncomputable abbrev lamq:Str := "cheaper_first.<locals>.<lambda>"
noncomputable abbrev tabT (T:Addr):PV:=tabPV lamq lamL lamC T
open Classical in
noncomputable def minB (ps:List Str) (os:List Tie) (t:Tie):Bool:=decide (Min ps os t)
noncomputable def minN (ps:List Str) (ts:List Tie):List Str:=((ts.filter (opn ps)).filter (minB ps (ts.filter (opn ps)))).map Tie.nm
theorem minB_iff {ps:List Str} {os:List Tie} {t:Tie}:minB ps os t=true↔Min ps os t:=by unfold minB; simp
theorem nI:∀ {a b:List Str},a.Perm b->a.Pairwise ltS->b.Pairwise ltS->a=b
 | [],b,p,_,_=>(List.nil_perm.mp p).symm
 | x::a,[],p,_,_=>by have:=p.length_eq; simp at this
 | x::a,y::b,p,ha,hb=>by
  have e:x=y:=Classical.byContradiction fun ne=>by
   rw [List.pairwise_cons] at ha hb
   have h1:x∈b:=by
    rcases List.mem_cons.mp (p.mem_iff.mp List.mem_cons_self) with z | z
    ·exact absurd z ne
    ·exact z
   have h2:y∈a:=by
    rcases List.mem_cons.mp (p.mem_iff.mpr List.mem_cons_self) with z | z
    ·exact absurd z.symm ne
    ·exact z
   exact gK _ (ml (ha.1 y h2) (hb.1 x h1))
  subst e
  rw [nI (List.perm_cons _ |>.mp p) (List.pairwise_cons.mp ha).2 (List.pairwise_cons.mp hb).2]
noncomputable def cb:Fd:=fun xs P=>∃ (ps:List Str) (ts:List Tie),xs=[netPV ps ts]/\ts.length<=1000/\(ts.map Tie.nm).Nodup/\P (.dic (ts.map fun t=>(Sum.inr t.nm,tiePV t)))
noncomputable def gy:Fd:=fun xs P=>∃ (ps:List Str) (ts:List Tie),xs=[netPV ps ts]/\ts.length<=1000/\(ts.map Tie.nm).Nodup/\P (.dic (ts.map fun t=>(Sum.inr t.nm,.tup [.int t.cost,.str t.nm])))
noncomputable def bT (T:Addr):FdO:=fun c xs P=>c=tabT T/\∃ (ps:List Str) (ts us:List Tie),xs=[netPV ps ts,.tup ((us.map Tie.nm).map .str)]/\ts.length<=1000/\(ts.map Tie.nm).Nodup/\us.length<64/\(us.map Tie.nm).Nodup/\(∀ u∈us,u∈ts) /\
 ∀ vs:List Tie,vs.Perm us->vs.Pairwise chp->P (.lst ((vs.map Tie.nm).map .str)) (tabT T)
noncomputable def bS:Fd:=fun xs P=>∃ (ps:List Str) (ts vs:List Tie),xs=[netPV ps ts,.lst ((vs.map Tie.nm).map .str)]/\NetOk ps ts/\ps.length<=60/\ts.length<=60/\vs.Perm (ts.filter (opn ps))/\vs.Pairwise chp/\P (.tup ((minN ps ts).map .str))
noncomputable def dq (T:Addr):FdO:=fun c xs P=>c=tabT T/\∃ (ps:List Str) (ts:List Tie),xs=[netPV ps ts]/\NetOk ps ts/\ps.length<=60/\ts.length<=60/\P (.tup ((minN ps ts).map .str)) (tabT T)
theorem dm {α:Type} {g:WG} {fk ff:WE} {js:List (Option Nat)} {P:PV->En->Prop} {env:En} (f:α->Str) (v:α->PV) (X:α->PV):∀ {l done:List α},((done++l).map f).Nodup ->
  (∀ a∈l,∀ R:PV->PV->En->Prop,R (.str (f a)) (v a) env->g (X a) (capE js env) fun b1=>fk b1 fun kk b3=>ff b3 fun y b4=>R kk y (backE js env b4))->done.length+l.length<=100000 ->
  P (.dic ((done++l).map fun x=>((Sum.inr (f x):Key),v x))) env->dcGo g tYs fk ff js P (l.map X) env (done.map fun x=>((Sum.inr (f x):Key),v x))
 | [],done,_,_,_,k=>by rw [List.append_nil] at k; exact k
 | a::l,done,nd,h,hl,k=>by
  have hl':done.length+l.length+1<=100000:=by simpa [Nat.add_assoc] using hl
  rw [List.map_cons]
  simp only [dcGo,tYs,if_true]
  refine h a (by simp) (fun kk y e=>(done.map fun x=>((Sum.inr (f x):Key),v x)).length<=100000/\opt (keyP kk) fun key=>dcGo g tYs fk ff js P (l.map X) e (putP (done.map fun x=>((Sum.inr (f x):Key),v x)) key y)) ⟨by rw [List.length_map]; omega,ae (z:=Sum.inr (f a)) rfl ?_⟩
  have hn:f a∉done.map f:=fun z=>by
   rw [List.map_append,List.nodup_append] at nd
   exact nd.2.2 _ z _ (by simp) rfl
  rw [io hn]
  have e:(done.map fun x=>((Sum.inr (f x):Key),v x))++[(Sum.inr (f a),v a)]=(done++[a]).map fun x=>((Sum.inr (f x):Key),v x):=by rw [List.map_append]; rfl
  rw [e]
  refine dm f v X (by rwa [List.append_assoc]) (fun b hb=>h b (List.mem_cons_of_mem _ hb)) (by simp; omega) ?_
  rw [List.append_assoc]; exact k
end Pre
namespace Pre
open PySem L2 Q
noncomputable def someT (ps ns:List Str) (ts:List Tie):List Tie:=(ts.filter (opn ps)).filter (nmIn ns)
noncomputable def Ends (t:Tie) (a c:Str):Prop:=(t.one=a/\t.oth=c)\/(t.oth=a/\t.one=c)
noncomputable def Wk (os:List Tie):Str->List Str->Str->Prop
 | a,[],b=>a=b
 | a,n::ns,b=>∃ t∈os,t.nm=n/\∃ c,Ends t a c/\Wk os c ns b
section
variable {os:List Tie}
theorem Ends.sym {t:Tie} {a c:Str} (h:Ends t a c):Ends t c a:=by
 rcases h with ⟨h1,h2⟩ | ⟨h1,h2⟩
 ·exact .inr ⟨h2,h1⟩
 ·exact .inl ⟨h2,h1⟩
theorem Ends.one {t:Tie} {a c d:Str} (hn:t.one≠t.oth) (h:Ends t a c) (k:Ends t a d):c=d:=by
 rcases h with ⟨h1,h2⟩ | ⟨h1,h2⟩ <;> rcases k with ⟨k1,k2⟩ | ⟨k1,k2⟩
 ·exact h2.symm.trans k2
 ·exact absurd (h1.trans k1.symm) hn
 ·exact absurd (k1.trans h1.symm) hn
 ·exact h2.symm.trans k2
theorem Ends.two {t:Tie} {a c e f:Str} (h:Ends t a c) (k:Ends t e f):(e=a/\f=c)\/(e=c/\f=a):=by
 rcases h with ⟨h1,h2⟩ | ⟨h1,h2⟩ <;> rcases k with ⟨k1,k2⟩ | ⟨k1,k2⟩
 ·exact .inl ⟨k1.symm.trans h1,k2.symm.trans h2⟩
 ·exact .inr ⟨k1.symm.trans h2,k2.symm.trans h1⟩
 ·exact .inr ⟨k1.symm.trans h2,k2.symm.trans h1⟩
 ·exact .inl ⟨k1.symm.trans h1,k2.symm.trans h2⟩
theorem ig {n:Str}:∀ {l:List Str},n∈l->∃ p q,l=p++n::q/\n∉p
 | x::l,h=>by
  by_cases e:x=n
  ·exact ⟨[],l,by rw [e]; rfl,by simp⟩
  ·obtain ⟨p,q,rfl,hp⟩:=ig ((List.mem_cons.mp h).resolve_left fun z=>e z.symm)
   exact ⟨x::p,q,rfl,fun z=>by rcases List.mem_cons.mp z with z | z; exact e z.symm; exact hp z⟩
theorem Wk.app:∀ {ns ms:List Str} {a b c:Str},Wk os a ns b->Wk os b ms c->Wk os a (ns++ms) c
 | [],_,_,_,_,h,k=>by cases h; exact k
 | n::ns,_,_,_,_,⟨t,ht,e,c,q,h⟩,k=>⟨t,ht,e,c,q,h.app k⟩
theorem Wk.rev:∀ {ns:List Str} {a b:Str},Wk os a ns b->Wk os b ns.reverse a
 | [],_,_,h=>Eq.symm h
 | n::ns,a,_,⟨t,ht,e,c,q,h⟩=>by
  rw [List.reverse_cons]
  exact h.rev.app ⟨t,ht,e,a,q.sym,rfl⟩
theorem Wk.cut:∀ {ns ms:List Str} {a c:Str},Wk os a (ns++ms) c->∃ b,Wk os a ns b/\Wk os b ms c
 | [],_,a,_,h=>⟨a,rfl,h⟩
 | n::ns,_,_,_,⟨t,ht,e,c,q,h⟩=>by
  obtain ⟨b,h1,h2⟩:=h.cut
  exact ⟨b,⟨t,ht,e,c,q,h1⟩,h2⟩
theorem Wk.mem:∀ {ns:List Str} {a b:Str},Wk os a ns b->∀ n∈ns,∃ t∈os,t.nm=n
 | n::ns,_,_,⟨t,ht,e,c,q,h⟩,m,hm=>by
  rcases List.mem_cons.mp hm with rfl | hm
  ·exact ⟨t,ht,e⟩
  ·exact h.mem m hm
noncomputable def Acyc (os:List Tie):Prop:=∀ a n ns,Wk os a (n::ns) a->n∉ns->False
theorem lu (nd:(os.map Tie.nm).Nodup) (ne:∀ t∈os,t.one≠t.oth) (ac:Acyc os):∀ {ns ms:List Str} {a b:Str},Wk os a ns b->Wk os a ms b->ns.Nodup->ms.Nodup->ns=ms
 | [],[],_,_,_,_,_,_=>rfl
 | [],m::ms,a,_,h,k,_,d=>by cases h; exact (ac a m ms k (List.nodup_cons.mp d).1).elim
 | n::ns,[],a,_,h,k,d,_=>by cases k; exact (ac a n ns h (List.nodup_cons.mp d).1).elim
 | n::ns,m::ms,a,b,h,k,d1,d2=>by
  have h0:=h
  have k0:=k
  obtain ⟨t,ht,e1,c,q1,h⟩:=h
  obtain ⟨u,hu,e2,d,q2,k⟩:=k
  obtain ⟨n1,n2⟩:=List.nodup_cons.mp d1
  obtain ⟨m1,m2⟩:=List.nodup_cons.mp d2
  by_cases e:m=n
  ·have:t=u:=cI nd ht hu (e1.trans (e.symm.trans e2.symm))
   subst this
   have:c=d:=q1.one (ne t ht) q2
   subst this
   rw [e,lu nd ne ac h k n2 m2]
  ·exfalso
   by_cases hn:n∈ms
   ·obtain ⟨p,q,rfl,np⟩:=ig hn
    obtain ⟨x,w1,w2⟩:=(show Wk os a ((m::p)++n::q) b from k0).cut
    obtain ⟨t',ht',e3,f,q3,_⟩:=w2
    have:t=t':=cI nd ht ht' (e1.trans e3.symm)
    subst this
    rcases q1.two q3 with ⟨rfl,_⟩ | ⟨rfl,_⟩
    ·exact ac _ m p w1 fun z=>m1 (List.mem_append_left _ z)
    ·refine ac a n (m::p).reverse ⟨t,ht,e1,_,q1,w1.rev⟩ fun z=>?_
     rw [List.mem_reverse,List.mem_cons] at z
     rcases z with z | z
     ·exact e z.symm
     ·exact np z
   ·refine ac a n (ns++(m::ms).reverse) ⟨t,ht,e1,c,q1,h.app k0.rev⟩ fun z=>?_
    rw [List.mem_append,List.mem_reverse,List.mem_cons] at z
    rcases z with z | z | z
    ·exact n1 z
    ·exact e z.symm
    ·exact hn z
theorem ls {ps:List Str} {os:List Tie} {g:Str->List (Str×Str)} (G:Gof ps os g):∀ {ns:List Str} {a b:Str},Wk os a ns b->Rch g a b
 | [],_,_,h=>by cases h; exact .refl
 | n::ns,a,b,⟨t,ht,e,c,q,h⟩=>Rch.trans (.step .refl ((G.mem _ _ _).mpr ⟨t,ht,e.symm,q⟩)) (ls G h)
end
section
variable {ps:List Str}
theorem lH {L B:List Tie} {t:Tie} (hL:∀ u∈L,opn ps u=true) (ht:t∈L) (hB:∀ u∈B,u∈L):∀ D:List Tie,(D.map Tie.nm).Nodup->(∀ d∈D,d∈L/\(∀ u∈B,u.nm≠d.nm)/\t.nm≠d.nm/\¬ Rch (adj ps (less L d)) d.one d.oth)->Rch (adj ps (B++D)) t.one t.oth->Rch (adj ps B) t.one t.oth
 | [],_,_,r=>by rwa [List.append_nil] at r
 | d::D,nd,hD,r=>by
  rw [List.map_cons,List.nodup_cons] at nd
  have hD':=fun u hu=>hD u (List.mem_cons_of_mem d hu)
  obtain ⟨d1,d2,d3,d4⟩:=hD d List.mem_cons_self
  have oBD:∀ u∈B++D,opn ps u=true:=fun u hu=>hL u (by
   rcases List.mem_append.mp hu with z | z
   ·exact hB u z
   ·exact (hD' u z).1)
  have oBdD:∀ u∈B++d::D,opn ps u=true:=fun u hu=>by
   rcases List.mem_append.mp hu with z | z
   ·exact oBD u (List.mem_append_left _ z)
   ·rcases List.mem_cons.mp z with rfl | z
    ·exact hL _ d1
    ·exact oBD u (List.mem_append_right _ z)
  have hm:∀ u,u∈B++d::D↔u∈B++D\/u=d:=fun u=>by
   simp only [List.mem_append,List.mem_cons]
   constructor
   ·rintro (h | h | h)
    ·exact .inl (.inl h)
    ·exact .inr h
    ·exact .inl (.inr h)
   ·rintro ((h | h) | h)
    ·exact .inl h
    ·exact .inr (.inr h)
    ·exact .inr (.inl h)
  have oLd:∀ u∈less L d,opn ps u=true:=fun u hu=>hL u (less_mem.mp hu).1
  have up:∀ {x y:Str},Rch (adj ps (B++D)) x y->Rch (adj ps (less L d)) x y:=cW oBD oLd fun u hu=>less_mem.mpr (by
   rcases List.mem_append.mp hu with z | z
   ·exact ⟨hB u z,d2 u z⟩
   ·exact ⟨(hD' u z).1,fun e=>nd.1 (by rw [<- e]; exact List.mem_map_of_mem z)⟩)
  have te:Rch (adj ps (less L d)) t.one t.oth:=ik oLd (less_mem.mpr ⟨ht,d3⟩)
  have G:=gofO oLd
  rcases iz (gofO oBD) (gofO oBdD) hm r with z | ⟨z1,z2⟩ | ⟨z1,z2⟩
  ·exact lH hL ht hB D nd.2 hD' z
  ·exact absurd ((G.rsym (up z1)).trans (te.trans (G.rsym (up z2)))) d4
  ·exact absurd ((up z2).trans ((G.rsym te).trans (up z1))) d4
end
section
variable {ps:List Str}
theorem lM {X:List Tie} {g:Str->List (Str×Str)} (oX:∀ u∈X,opn ps u=true) (sym:∀ {x y},Rch g x y->Rch g y x) (h:∀ u∈X,Rch g u.one u.oth) {x y:Str} (r:Rch (adj ps X) x y):Rch g x y:=by
 induction r with
 | refl=>exact .refl
 | step _ e ih =>
  obtain ⟨t,ht,_,z⟩:=((gofO oX).mem _ _ _).mp e
  rcases z with ⟨rfl,rfl⟩ | ⟨rfl,rfl⟩
  ·exact ih.trans (h t ht)
  ·exact ih.trans (sym (h t ht))
theorem sO {os:List Tie} {u v:Tie} (hv:v∈below os u):(below os v).length<(below os u).length:=by
 have s:(below os v).Sublist (below os u):=fw fun x _ h=>decide_eq_true (jo (of_decide_eq_true h) (below_mem.mp hv).2)
 rcases Nat.lt_or_ge (below os v).length (below os u).length with z | z
 ·exact z
 ·have e:=s.eq_of_length_le z
  rw [<- e] at hv
  exact absurd (below_mem.mp hv).2 (da _)
end
theorem kK (ps ns:List Str) (ts:List Tie):(ts.filter (opn ps)).filter (nmIn ns)=(ts.filter (nmIn ns)).filter (opn ps):=by
 rw [List.filter_filter,List.filter_filter]
 exact List.filter_congr fun t _=>Bool.and_comm _ _
section
variable {ps:List Str} {ts:List Tie}
theorem my (ps ns:List Str) (ts:List Tie):Gof ps (someT ps ns ts) (adj ps (ts.filter (nmIn ns))):=by
 unfold someT
 rw [kK]
 exact oK ps _
end
end Pre
namespace Pre
open PySem L2 Q
noncomputable def iK:Fd:=fun xs P=>∃ (ps ns:List Str) (ts:List Tie),(xs=[netPV ps ts,.tup (ns.map .str)]\/xs=[netPV ps ts,.lst (ns.map .str)])/\ts.length<=1000/\ns.length<=1000/\P (netPV ps (ts.filter (nmIn ns)))
noncomputable def treeT (ps:List Str) (ts:List Tie):List Tie:=(ts.filter (opn ps)).filter (minB ps (ts.filter (opn ps)))
noncomputable def outT (ps:List Str) (ts:List Tie):List Tie:=(ts.filter (opn ps)).filter fun t=>!nmIn (minN ps ts) t
open Classical in
noncomputable def wayT (os:List Tie) (a b:Str):List Str:=if h:∃ ns,Wk os a ns b/\ns.Nodup then h.choose else []
noncomputable def wayPV (ps:List Str) (ts:List Tie) (t:Tie):PV:=.tup [.str t.nm,.tup ((wayT (treeT ps ts) t.one t.oth).map .str)]
noncomputable def waysPV (ps:List Str) (ts:List Tie):PV:=.tup ((outT ps ts).map (wayPV ps ts))
noncomputable def j8:Fd:=fun xs P=>∃ (ps:List Str) (ts:List Tie) (fs:List Str) (one oth:Str),xs=[netPV ps ts,.tup (fs.map .str),.str one,.str oth]/\Nt ps ts/\(ts.map Tie.nm).Nodup/\fs.length<=1000/\one∈ps/\oth∈ps /\
 (¬ Rch (adj ps (ts.filter (nmIn fs))) oth one->P .non)/\∀ ns:List Str,Wk (someT ps fs ts) one ns oth->ns.Nodup->ns.length<=1000->P (.tup (ns.map .str))
noncomputable def dN:Fd:=fun xs P=>∃ (ps:List Str) (ts:List Tie),xs=[netPV ps ts,.tup ((minN ps ts).map .str)]/\NetOk ps ts/\ps.length<=60/\ts.length<=60/\P (waysPV ps ts)
noncomputable def iJ (T:Addr):FdO:=fun c xs P=>c=tabT T/\∃ (ps:List Str) (ts:List Tie),xs=[netPV ps ts]/\NetOk ps ts/\ps.length<=60/\ts.length<=60/\P (waysPV ps ts) (tabT T)
noncomputable def du:Fd:=fun xs P=>∃ (ps:List Str) (ts:List Tie),xs=[netPV ps ts]/\NetOk ps ts/\ps.length<=60/\ts.length<=60/\P (.lst ((treeT ps ts).map tiePV))
noncomputable def j9:Fd:=fun xs P=>∃ (ps:List Str) (os:List Tie) (one oth:Str),xs=[.lst (os.map tiePV),.str one,.str oth]/\(os.map Tie.nm).Nodup/\os.length<=60/\(∀ t∈os,t.one≠t.oth/\opn ps t=true)/\Acyc os/\ps.length<=60/\one∈ps/\(∃ ns,Wk os one ns oth/\ns.Nodup) /\
 ∀ ns:List Str,Wk os one ns oth->ns.Nodup->P (.tup (ns.map .str))
noncomputable def iL:Fd:=fun xs P=>∃ (ps:List Str) (ts:List Tie),xs=[netPV ps ts]/\NetOk ps ts/\ps.length<=60/\ts.length<=60/\P (waysPV ps ts)
end Pre
namespace Pre
open PySem L2 Q
noncomputable def cA:WS :=
  (sRet (eAnd (eOp inPV (eOp ixPV (eV 1) (eC (.int 1))) (eOp ixPV (eV 0) (eC (.int 0)))) (eOp inPV (eOp ixPV (eV 1) (eC (.int 2))) (eOp ixPV (eV 0) (eC (.int 0))))))
noncomputable def bG:WS :=
  (sRet (eDC (iS (eOp ixPV (eV 0) (eC (.int 1)))) (.nm 0) tYs (eOp ixPV (eV 0) (eC (.int 0))) (eV 0) [none]))
noncomputable def bV:WS :=
  (sRet (eCB br (aCons (eLC (iS (eOp ixPV (eV 0) (eC (.int 1)))) (.nm 0) (tTru (eCall bU (aCons (eV 1) (aCons (eV 0) aNil)))) (eOp ixPV (eV 0) (eC (.int 0))) [none,some 0]) aNil)))
noncomputable def dv:WS :=
  (sRet (eDC (iS (eOp ixPV (eV 0) (eC (.int 1)))) (.nm 0) tYs (eOp ixPV (eV 0) (eC (.int 0))) (eTup (aCons (eOp ixPV (eV 0) (eC (.int 3))) (aCons (eOp ixPV (eV 0) (eC (.int 0))) aNil))) [none]))
noncomputable def bq (T:Addr):WS :=
  (sSeq (sSet 2 (eCall gy (aCons (eV 0) aNil)))
  (sRet (eSortK 3 2 "cheaper_first.<locals>.<lambda>" 13 29 T (eV 1))))
noncomputable def bp:WS :=
  (sSeq (sSet 2 (eCall cb (aCons (eV 0) aNil)))
  (sSeq (sSetO 3 (eDC (iS (eOp ixPV (eV 0) (eC (.int 0)))) (.nm 0) tYs (eV 0) (eV 0) [none]))
  (sSeq (sSetO 4 (eLst aNil))
  (sSeq (sFor (iS (eV 1)) (gN 5) (sSeq (sSet 6 (eOp ixPV (eV 2) (eVW 5)))
  (sSeq (sAsg (eTup (aCons (eOpS ixPV 3 (eOp ixPV (eV 6) (eC (.int 1)))) (aCons (eOpS ixPV 3 (eOp ixPV (eV 6) (eC (.int 2)))) aNil))) (gT (gsCons (gN 7) (gsCons (gN 8) gsNil))))
  (sIf (tBool (eOp nePV (eV 7) (eVW 8))) (sSeq (sDrop (eLM bv 4 (aCons (eV 5) aNil)))
  (sSetO 3 (eDC (eD 3) (.tp [0,1]) tYs (eV 0) (eIf (tBool (eOp eqqPV (eV 1) (eVW 3))) (eV 2) (eV 1)) [none,none,some 7,some 8]))) sNil))))
  (sRet (eCB br (aCons (eSortS (a1 (eVW 4))) aNil)))))))
noncomputable def ci (T:Addr):WS :=
  (sRet (eCall bS (aCons (eV 0) (aCons (eCallT (bT T) 1 (aCons (eV 0) (aCons (eCall cS (aCons (eV 0) aNil)) aNil))) aNil))))
noncomputable def bP:WS :=
  (sSeq (jE 1 (iS (eOp ixPV (eV 0) (eC (.int 0)))))
  (sSeq (sFor (iS (eOp ixPV (eV 0) (eC (.int 1)))) (gN 2) (sIf (tTru (eCall bU (aCons (eV 0) (aCons (eV 2) aNil)))) (sSeq (dR 1 (eOp ixPV (eV 2) (eC (.int 1))) (eTup (aCons (eOp ixPV (eV 2) (eC (.int 0))) (aCons (eOp ixPV (eV 2) (eC (.int 2))) aNil))))
  (dR 1 (eOp ixPV (eV 2) (eC (.int 2))) (eTup (aCons (eOp ixPV (eV 2) (eC (.int 0))) (aCons (eOp ixPV (eV 2) (eC (.int 1))) aNil))))) sNil))
  (jD 1)))
noncomputable def cB:WS :=
  (sSeq (sSetO 2 (eDisp (((eV 1),(eC .non))::[])))
  (sSeq (sSetO 3 (eLst (aCons (eV 1) aNil)))
  (sSeq (sWhile (tTru (eVW 3)) (sSeq (sSet 4 (eLM mPop 3 aNil))
  (sFor (iS (eOp ixPV (eV 0) (eVW 4))) (gT (gsCons (gN 5) (gsCons (gN 6) gsNil))) (sIf (tBool (eOp ninPV (eV 6) (eVW 2))) (sSeq (sPut 2 (eTup (aCons (eV 5) (aCons (eV 4) aNil))) (eV 6))
  (sDrop (eLM bv 3 (aCons (eV 6) aNil)))) sNil))))
  (sRet (eV 2)))))
noncomputable def eS:WS :=
  (sRet (eTup (aCons (eOp ixPV (eV 0) (eC (.int 0))) (aCons (eCB br (aCons (eLC (iS (eOp ixPV (eV 0) (eC (.int 1)))) (.nm 0) (tBool (eOp inPV (eOp ixPV (eV 0) (eC (.int 0))) (eVW 1))) (eV 0) [none,some 1]) aNil)) aNil))))
noncomputable def gz:WS :=
  (sSeq (sSet 4 (eCall dP (aCons (eCall cy (aCons (eCall iK (aCons (eV 0) (aCons (eV 1) aNil))) aNil)) (aCons (eV 3) aNil))))
  (sSeq (sIf (tBool (eOp ninPV (eV 2) (eVW 4))) (sRet (eC .non)) sNil)
  (sSeq (sSetO 5 (eLst aNil))
  (sSeq (sSet 6 (eV 2))
  (sSeq (sWhile (tBool (eOp nePV (eV 6) (eVW 3))) (sSeq (sAsg (eOp ixPV (eV 4) (eVW 6)) (gT (gsCons (gN 7) (gsCons (gN 6) gsNil))))
  (sDrop (eLM bv 5 (aCons (eV 7) aNil)))))
  (sRet (eCB br (a1 (eVW 5)))))))))
noncomputable def cz:WS :=
  (sSeq (sSet 2 (eLC (iS (eOp ixPV (eV 0) (eC (.int 1)))) (.nm 0) (tAnd (tTru (eCall bU (aCons (eV 1) (aCons (eV 0) aNil)))) (tBool (eOp ninPV (eOp ixPV (eV 0) (eC (.int 0))) (eVW 2)))) (eV 0) [none,some 0,some 1]))
  (sRet (eCB br (aCons (eLC (iS (eV 2)) (.nm 0) tYs (eTup (aCons (eOp ixPV (eV 0) (eC (.int 0))) (aCons (eCall j8 (aCons (eV 1) (aCons (eV 2) (aCons (eOp ixPV (eV 0) (eC (.int 1))) (aCons (eOp ixPV (eV 0) (eC (.int 2))) aNil))))) aNil))) [none,some 0,some 1]) aNil))))
noncomputable def eR (T:Addr):WS :=
  (sRet (eCall dN (aCons (eV 0) (aCons (eCallT (dq T) 1 (aCons (eV 0) aNil)) aNil))))
noncomputable def dw:WS :=
  (sSeq (sSet 2 (eC (.str "abcdefghijklmnopqrstuvwxyz")))
  (sSeq (sSet 3 (eJoin (eC (.str "")) (eLC (iR1 (aCons (eCallO aE 0 (aCons (eC (.int 7)) aNil)) aNil)) (.nm 0) tYs (eOp ixPV (eV 2) (eCallO aE 1 (aCons (eC (.int 26)) aNil))) [none,some 0,some 2])))
  (sSeq (sSet 4 (eCallO aE 0 (aCons (eOp addPV (eCB lenPV (a1 (eVW 3))) (eC (.int 1))) aNil)))
  (sSeq (sSet 5 (eCallO aE 0 (aCons (eC (.int 26)) aNil)))
  (sSeq (sSet 6 (eCallO aE 0 (aCons (eC (.int 3)) aNil)))
  (sSeq (sSetO 7 (eLst aNil))
  (sSeq (sFor (iR1 (aCons (eV 1) aNil)) (gN 8) (sSeq (sSet 9 (eOp ixPV (eV 2) (eOp modPV (eOp addPV (eV 5) (eVW 8)) (eC (.int 26)))))
  (sIf (tBool (eOp eqqPV (eV 6) (eC (.int 2)))) (sDrop (eLM bv 7 (aCons (eOp mulPV (eOp ixPV (eV 2) (eOp modPV (eOp addPV (eV 5) (eOp divPV (eV 8) (eC (.int 8)))) (eC (.int 26)))) (eOp addPV (eC (.int 1)) (eOp modPV (eV 8) (eC (.int 8))))) aNil))) (sDrop (eLM bv 7 (aCons (eOp addPV (eOp addPV (eSlS (eV 3) oNone (oSome (eVW 4))) (eOp mulPV (eV 9) (eOp addPV (eC (.int 1)) (eOp divPV (eV 8) (eC (.int 26)))))) (eSlS (eV 3) (oSome (eVW 4)) oNone)) aNil))))))
  (sRetF (eSortS (a1 (eVW 7)))))))))))
noncomputable def eZ:WS :=
  (sSeq (sSet 4 (eCB lenPV (a1 (eVW 1))))
  (sSeq (sIf (tBool (eOp eqqPV (eV 2) (eC (.int 2)))) (sSet 5 (eLst (aCons (eOp ixPV (eV 1) (eOp modPV (eV 3) (eVW 4))) (aCons (eOp ixPV (eV 1) (eOp modPV (eOp addPV (eV 3) (eC (.int 1))) (eVW 4))) aNil)))) (sIf (tBool (eOp eqqPV (eV 2) (eC (.int 3)))) (sSeq (sSet 6 (eCallO aE 0 (aCons (eV 4) aNil)))
  (sSet 5 (eLst (aCons (eOp ixPV (eV 1) (eVW 6)) (aCons (eOp ixPV (eV 1) (eOp modPV (eOp addPV (eV 6) (eC (.int 1))) (eVW 4))) aNil))))) (sIf (tAnd (tBool (eOp eqqPV (eV 2) (eC (.int 4)))) (tBool (eOp gtPV (eV 4) (eC (.int 3))))) (sSeq (sSet 7 (eOp ixPV (eLst (aCons (eSl (eV 1) oNone (oSome (eOp divPV (eV 4) (eC (.int 2))))) (aCons (eSl (eV 1) (oSome (eOp divPV (eV 4) (eC (.int 2)))) oNone) aNil))) (eCallO aE 0 (aCons (eC (.int 2)) aNil))))
  (sSeq (sSet 6 (eCallO aE 0 (aCons (eCB lenPV (a1 (eVW 7))) aNil)))
  (sSet 5 (eLst (aCons (eOp ixPV (eV 7) (eVW 6)) (aCons (eOp ixPV (eV 7) (eOp modPV (eOp addPV (eOp addPV (eV 6) (eC (.int 1))) (eCallO aE 0 (aCons (eOp subPV (eCB lenPV (a1 (eVW 7))) (eC (.int 1))) aNil))) (eCB lenPV (a1 (eVW 7))))) aNil)))))) (sSeq (sSet 6 (eCallO aE 0 (aCons (eV 4) aNil)))
  (sSet 5 (eLst (aCons (eOp ixPV (eV 1) (eVW 6)) (aCons (eOp ixPV (eV 1) (eOp modPV (eOp addPV (eOp addPV (eV 6) (eC (.int 1))) (eCallO aE 0 (aCons (eOp subPV (eV 4) (eC (.int 1))) aNil))) (eVW 4))) aNil))))))))
  (sRet (eCB br (aCons (eSortS (a1 (eVW 5))) aNil)))))
noncomputable def e8:WS :=
  (sSeq (sIf (tBool (eOp eqqPV (eV 1) (eC (.int 0)))) (sRet (eOp subPV (eCallO aE 0 (aCons (eC (.int 3)) aNil)) (eC (.int 1)))) sNil)
  (sSeq (sIf (tBool (eOp eqqPV (eV 1) (eC (.int 1)))) (sRet (eOp subPV (eCallO aE 0 (aCons (eC (.int 60)) aNil)) (eC (.int 30)))) sNil)
  (sSeq (sIf (tBool (eOp eqqPV (eV 1) (eC (.int 2)))) (sRet (eOp ixPV (eLst (aCons (eOp subPV (eOp powPV (eC (.int 10)) (eC (.int 30))) (eC (.int 1))) (aCons (eOp subPV (eC (.int 1)) (eOp powPV (eC (.int 10)) (eC (.int 30)))) (aCons (eC (.int 0)) (aCons (eOp addPV (eOp powPV (eC (.int 10)) (eC (.int 29))) (eCallO aE 0 (aCons (eC (.int 3)) aNil))) aNil))))) (eCallO aE 0 (aCons (eC (.int 4)) aNil)))) sNil)
  (sRet (eC (.int 7))))))
noncomputable def gB:WS :=
  (sSeq (sSetO 3 (eCallO cP 0 (aCons (eOp addPV (eC (.int 2)) (eOp ixPV (eLst (aCons (eCallO aE 0 (aCons (eOp addPV (eV 1) (eC (.int 1))) aNil)) (aCons (eV 1) aNil))) (eCB intBP (aCons (eOp eqqPV (eCallO aE 0 (aCons (eC (.int 8)) aNil)) (eC (.int 0))) aNil)))) aNil)))
  (sSeq (sSet 4 (eLC (iR1 (aCons (eC (.int 2)) aNil)) (.nm 0) tYs (eLM mPopAt 2 (aCons (eCallO aE 1 (aCons (eCB lenPV (a1 (eVW 2))) aNil)) aNil)) [none,some 0,some 3]))
  (sSeq (sSet 5 (eSortS (aCons (eOpS addPV 3 (eOp mulPV (eV 4) (eCB intBP (aCons (eOp eqqPV (eCallO aE 0 (aCons (eC (.int 3)) aNil)) (eC (.int 0))) aNil)))) aNil)))
  (sSeq (sSet 6 (eOp mulPV (eOp ixPV (eLst (aCons (eCallO aE 0 (aCons (eC (.int 9)) aNil)) (aCons (eCallO aE 0 (aCons (eOp addPV (eV 2) (eC (.int 1))) aNil)) (aCons (eV 2) aNil)))) (eCallO aE 0 (aCons (eC (.int 3)) aNil))) (eCB intBP (aCons (eOp gtPV (eCB lenPV (a1 (eVW 5))) (eC (.int 1))) aNil))))
  (sSeq (sPar 7 8 (aCons (eCallO aE 0 (aCons (eC (.int 6)) aNil)) (aCons (eCallO aE 0 (aCons (eC (.int 4)) aNil)) aNil)))
  (sSeq (sSetO 9 (eLst aNil))
  (sSeq (sFor (iE (aCons (eCallO cP 0 (aCons (eV 6) aNil)) aNil)) (gT (gsCons (gN 10) (gsCons (gN 11) gsNil))) (sDrop (eLM bv 9 (aCons (eOp addPV (eOp addPV (eTup (aCons (eV 11) aNil)) (eCallO fH 0 (aCons (eV 5) (aCons (eV 7) (aCons (eV 10) aNil))))) (eTup (aCons (eCallO fI 0 (aCons (eV 8) aNil)) aNil))) aNil))))
  (sRet (eTup (aCons (eCB br (a1 (eVW 3))) (aCons (eCB br (a1 (eVW 9))) aNil)))))))))))
noncomputable def eY:WS :=
  (sRetF (eLC (iS (eOp ixPV (eV 0) (eC (.int 1)))) (.nm 0) (tAnd (tBool (eOp inPV (eOp ixPV (eV 0) (eC (.int 1))) (eOp ixPV (eV 1) (eC (.int 0))))) (tBool (eOp inPV (eOp ixPV (eV 0) (eC (.int 2))) (eOp ixPV (eV 1) (eC (.int 0)))))) (eV 0) [none,some 0]))
noncomputable def ck:WS :=
  (sSeq (sSetO 1 (eCB dictPV (aCons (eLC (iET (aCons (eOp ixPV (eV 0) (eC (.int 0))) aNil)) (.tp [0,1]) tYs (eTup (aCons (eV 1) (aCons (eV 0) aNil))) [none,none]) aNil)))
  (sSeq (sSetO 2 (eLst aNil))
  (sSeq (sFor (iS (eSortQ (aCons (eLC (iS (eCall fG (aCons (eV 0) aNil))) (.nm 0) tYs (eTup (aCons (eOp ixPV (eV 0) (eC (.int 3))) (aCons (eOp ixPV (eV 0) (eC (.int 0))) (aCons (eV 0) aNil)))) [none]) aNil))) (gT (gsCons (gN 3) (gsCons (gN 4) (gsCons (gN 5) gsNil)))) (sSeq (sAsg (eTup (aCons (eOpS ixPV 1 (eOp ixPV (eV 5) (eC (.int 1)))) (aCons (eOpS ixPV 1 (eOp ixPV (eV 5) (eC (.int 2)))) aNil))) (gT (gsCons (gN 6) (gsCons (gN 7) gsNil))))
  (sIf (tBool (eOp nePV (eV 6) (eVW 7))) (sSeq (sDrop (eLM bv 2 (aCons (eV 5) aNil)))
  (sSetO 1 (eCB dictPV (aCons (eLC (eD 1) (.tp [0,1]) tYs (eTup (aCons (eV 0) (aCons (eIf (tBool (eOp eqqPV (eV 1) (eVW 2))) (eV 3) (eV 1)) aNil))) [none,none,some 6,some 7]) aNil)))) sNil)))
  (sRet (eSortR (a1 (eVW 2)))))))
noncomputable def gA:WS :=
  (sSeq (sSetO 3 (eLst (aCons (eTup (aCons (eV 1) (aCons (eTup aNil) aNil))) aNil)))
  (sSeq (sSet 4 (eC (.int 0)))
  (sSeq (sWhile (tBool (eOp ltPV (eV 4) (eCB lenPV (a1 (eVW 3))))) (sSeq (sAsg (eOpS ixPV 3 (eVW 4)) (gT (gsCons (gN 5) (gsCons (gN 6) gsNil))))
  (sSeq (sIf (tBool (eOp eqqPV (eV 5) (eVW 2))) (sRet (eV 6)) sNil)
  (sSeq (sFor (iS (eV 0)) (gT (gsCons (gN 7) (gsCons (gN 8) (gsCons (gN 9) (gsCons (gN 10) gsNil))))) (sIf (tAnd (tBool (eOp ninPV (eV 7) (eVW 6))) (tBool (eOp inPV (eV 5) (eTup (aCons (eV 8) (aCons (eV 9) aNil)))))) (sDrop (eLM bv 3 (aCons (eTup (aCons (eIf (tBool (eOp eqqPV (eV 5) (eVW 8))) (eV 9) (eV 8)) (aCons (eOp addPV (eV 6) (eTup (aCons (eV 7) aNil))) aNil))) aNil))) sNil))
  (sSet 4 (eOp addPV (eV 4) (eC (.int 1))))))))
  (sRet (eC .non)))))
noncomputable def eU:WS :=
  (sSeq (sSet 1 (eCall du (aCons (eV 0) aNil)))
  (sSeq (sSet 2 (eLC (iS (eCall fG (aCons (eV 0) aNil))) (.nm 0) (tBool (eOp ninPV (eV 0) (eVW 1))) (eV 0) [none,some 1]))
  (sRet (eCB br (aCons (eLC (iS (eV 2)) (.nm 0) tYs (eTup (aCons (eOp ixPV (eV 0) (eC (.int 0))) (aCons (eCall j9 (aCons (eV 1) (aCons (eOp ixPV (eV 0) (eC (.int 1))) (aCons (eOp ixPV (eV 0) (eC (.int 2))) aNil)))) aNil))) [none,some 1]) aNil)))))
noncomputable def gC (T:Addr):WS :=
  (sSeq (Q.dS 1 0)
  (sSeq (sSet 2 (eLC (iR1 (aCons (eC (.int 3)) aNil)) (.nm 0) tYs (eCallO eN 1 (aCons (eC (.int 12)) (aCons (eC (.int 30)) aNil))) [none,some 1]))
  (sRet (eCB allPV (aCons (eLC (iS (eOp addPV (eV 2) (eSl (eV 2) oNone (oSome (eC (.int 1)))))) (.nm 0) tYs (eOp eqqPV (eCB reprPV (aCons (eCallT (iJ T) 1 (aCons (eV 0) aNil)) aNil)) (eCB reprPV (aCons (eCall iL (aCons (eV 0) aNil)) aNil))) [none,some 3]) aNil)))))
end Pre
namespace Pre
open PySem L2 Q
theorem bM (i j:Int):eqqPV (.int i) (.int j)=some (.bl (decide (i=j))):=by
 show some (PV.bl (i==j))=_
 rfl
theorem cJ {i j:Int} (h:0<j):modPV (.int i) (.int j)=some (.int (i % j)):=if_pos (decide_eq_true h)
theorem jm {i j:Int} (h:0<j) (h2:j<1073741824):divPV (.int i) (.int j)=some (.int (i / j)):=if_pos (by simp [h,h2])
theorem vn {i j:Int} (h : -(2 ^ 64)<j) (h2:j<2 ^ 64):mulPV (.int i) (.int j)=some (.int (i*j)):=if_pos (by unfold cMul; simp only [Bool.or_eq_true,Bool.and_eq_true,decide_eq_true_eq]; exact .inr ⟨h,h2⟩)
theorem qc {i j:Int} (h:(decide (0<=j) && decide (j<=1000000) && decide (i.natAbs<2 ^ 64))=true):powPV (.int i) (.int j)=some (.int (i ^ j.toNat)):=if_pos h
theorem dQ {i j:Int}:subPV (.int i) (.int j)=some (.int (i - j)):=rfl
theorem bf {i j:Int}:addPV (.int i) (.int j)=some (.int (i+j)):=rfl
theorem mV {i:Int} {k:Nat} (h:i=k) (hk:k<26):ixPV (.str abc) (.int i)=some (.str (ch k)):=by
 subst h
 show (if abc.length<=100000 then (atI abc.cps.toList (k:Int)).map (fun c=>PV.str ⟨#[c]⟩) else none)=_
 rw [if_pos (by decide +kernel),av (wm k hk)]; rfl
theorem nJ (b m:Nat):(repS (ch b) m).length=m:=by
 have:=congrArg List.length (lL b m)
 rw [List.length_replicate] at this
 show (repS (ch b) m).cps.size=m
 rw [<- Array.length_toList]; exact this
theorem ue (x y:Str):(x++y).length=x.length+y.length:=by show (x.cps++y.cps).size=_; exact Array.size_append
theorem add_str {x y:Str} (h:x.length+y.length<=100000):addPV (.str x) (.str y)=some (.str (x++y)):=if_pos h
theorem qr {b m:Nat} {i:Int} (h:i=m) (hm:m<=1000):mulPV (.str (ch b)) (.int i)=some (.str (repS (ch b) m)):=by
 subst h
 refine (if_pos ⟨by omega,by omega,?_⟩).trans ?_
 ·rw [show ((m:Int)).toNat=m by omega]
 ·show 1<=1000; decide
theorem iU {n j:Nat} {x:PV} (h:(rngP 0 n)[j]?=some x):j<n/\x=.int j:=by
 unfold rngP at h
 rw [List.getElem?_map] at h
 rcases Nat.lt_or_ge j n with z | z
 ·rw [List.getElem?_range z] at h
  refine ⟨z,?_⟩
  have:x=.int (0+(j:Int)):=by simpa using h.symm
  rw [this]; congr 1; omega
 ·rw [List.getElem?_eq_none (by simpa using z)] at h; cases h
theorem cq (n:Nat):(rngP 0 n).length=n:=by unfold rngP; rw [List.length_map,List.length_range]
theorem dr {F:Nat} {m:Int} {P:PV->PV->Prop} (hF:1<=F) (h0:0<m) (h1:m<1073741824) (k:∀ f r:Nat,f+1=F->(r:Int)<m->P (.int r) (.int (f:Int))):aE (.int (F:Int)) [.int m] P:=by
 obtain ⟨f,rfl⟩:∃ f,F=f+1:=⟨F - 1,by omega⟩
 exact draw h0 h1 fun r hr=>k f r rfl hr
theorem rY (c:PV) (xs:List PV) (P:PV->PV->Prop) (h:fI c xs P):Q.runO 2 e8 c xs P:=by
 obtain ⟨f,q,rfl,rfl,h⟩:=h
 generalize hF:f+2=F
 have b30:(1000000000:Int)<10 ^ 30:=by decide
 unfold e8
 refine au fun N hN=>?_
 lia
 refine ae (bM _ _) ?_
 lia
 split
 ·refine dr (by omega) (by decide) (by decide) fun f1 r h1 hr=>?_
  exact ae dQ (h _ f1 (by omega) (by omega) (by omega))
 subst hN
 refine au fun N hN=>?_
 lia
 refine ae (bM _ _) ?_
 lia
 split
 ·refine dr (by omega) (by decide) (by decide) fun f1 r h1 hr=>?_
  exact ae dQ (h _ f1 (by omega) (by omega) (by omega))
 subst hN
 refine au fun N hN=>?_
 lia
 refine ae (bM _ _) ?_
 lia
 split
 ·have c30:(10:Int) ^ (30:Int).toNat=10 ^ 30:=by decide
  have c29:(10:Int) ^ (29:Int).toNat=10 ^ 29:=by decide
  have pw:powPV (.int 10) (.int 30)=some (.int (10 ^ 30)):=(qc (by decide)).trans (by rw [c30])
  have p29:powPV (.int 10) (.int 29)=some (.int (10 ^ 29)):=(qc (by decide)).trans (by rw [c29])
  refine ae pw (ae dQ (ae pw (ae dQ (ae p29 ?_))))
  refine dr (by omega) (by decide) (by decide) fun f1 r h1 hr=>?_
  refine ae bf ?_
  try lia
  refine dr (by omega) (by decide) (by decide) fun f2 x h2 hx=>?_
  match x,hx with
  | 0,_=>exact ae (av (j:=0) rfl) (h _ f2 (by omega) (by omega) (by omega))
  | 1,_=>exact ae (av (j:=1) rfl) (h _ f2 (by omega) (by omega) (by omega))
  | 2,_=>exact ae (av (j:=2) rfl) (h _ f2 (by omega) (by omega) (by omega))
  | 3,_=>exact ae (av (j:=3) rfl) (h _ f2 (by omega) (by omega) (by omega))
  | n+4,h=>omega
 subst hN
 lia
 exact h 7 F (by omega) (by omega) (by omega)
theorem turn (x d t:Int) (h0:0<t) (h1:0<=x) (h2:x<t) (h3:0<=d) (h4:d<t - 1):0<=(x+1+d) % t/\(x+1+d) % t<t/\x≠(x+1+d) % t:=by
 refine ⟨Int.emod_nonneg _ (by omega),Int.emod_lt_of_pos _ h0,fun e=>?_⟩
 have q:=Int.emod_add_mul_ediv (x+1+d) t
 rw [<- e] at q
 have:t*((x+1+d) / t)=1+d:=by omega
 generalize (x+1+d) / t=y at this
 rcases (show y<=0\/1<=y by omega) with z | z
 ·have:t*y<=0:=Int.mul_nonpos_of_nonneg_of_nonpos (by omega) (by omega)
  omega
 ·have:t*1<=t*y:=Int.mul_le_mul_of_nonneg_left z (by omega)
  omega
noncomputable def wsAt (ws:List Str) (i:Int):Str:=ws.getD i.toNat ⟨#[]⟩
theorem dH {ws:List Str} {i:Int} (h0:0<=i) (h1:i<ws.length):ixPV (.lst (ws.map .str)) (.int i)=some (.str (wsAt ws i)):=by
 obtain ⟨n,rfl⟩:∃ n:Nat,i=n:=⟨i.toNat,by omega⟩
 have hn:n<ws.length:=by omega
 refine av ?_
 unfold wsAt
 rw [List.getElem?_map,List.getElem?_eq_getElem hn,List.getD_eq_getElem?_getD,show ((n:Int)).toNat=n by omega,List.getElem?_eq_getElem hn]; rfl
theorem jt {ws:List Str} {i:Int} (h0:0<=i) (h1:i<ws.length):wsAt ws i∈ws:=by
 unfold wsAt
 rw [List.getD_eq_getElem?_getD,List.getElem?_eq_getElem (by omega:i.toNat<ws.length)]
 exact List.getElem_mem _
theorem wI {ws:List Str} (nd:ws.Nodup) {i j:Int} (h0:0<=i) (h1:i<ws.length) (k0:0<=j) (k1:j<ws.length) (h:i≠j):wsAt ws i≠wsAt ws j:=fun e=>by
 unfold wsAt at e
 rw [List.getD_eq_getElem?_getD,List.getD_eq_getElem?_getD,List.getElem?_eq_getElem (by omega:i.toNat<ws.length),List.getElem?_eq_getElem (by omega:j.toNat<ws.length)] at e
 have:=(List.getElem_inj nd).mp e
 omega
theorem rX (c:PV) (xs:List PV) (P:PV->PV->Prop) (h:fH c xs P):Q.runO 8 eZ c xs P:=by
 obtain ⟨f,ws,st,k,rfl,rfl,w2,w60,nd,h⟩:=h
 generalize hF:f+4=F
 have m0:(0:Int)<(ws.length:Int):=by omega
 unfold eZ
 refine au fun N hN=>?_
 lia
 rw [List.length_map]
 subst hN
 refine au fun N hN=>?_
 have fin:∀ (us:List Str) (i j:Int) (F':Nat) (e6 e7:Option Sl),f<=F'->us.Nodup->(∀ x∈us,x∈ws)->0<=i->i<us.length->0<=j->j<us.length->i≠j->N [some ⟨2,.int (F':Int)⟩,some ⟨0,.lst (ws.map .str)⟩,some ⟨0,.int st⟩,some ⟨0,.int k⟩,some ⟨0,.int (ws.length:Int)⟩,some ⟨0,.lst [.str (wsAt us i),.str (wsAt us j)]⟩,e6,e7]:=by
  intro us i j F' e6 e7 hF' und uw i0 i1 j0 j1 ij
  subst hN
  simp only [sRet,eCB,aCons,eSortS]
  lia
  refine ⟨[wsAt us i,wsAt us j],rfl,(by show 2<64; decide),fun ss up=>ae rfl ?_⟩
  obtain ⟨u,v,rfl,uv,hu,hv⟩:=uR up.1 up.2 (wI und i0 i1 j0 j1 ij)
  refine h u v F' hF' ?_ ?_ uv
  ·rcases hu with e | e <;> rw [e]
   ·exact uw _ (jt i0 i1)
   ·exact uw _ (jt j0 j1)
  ·rcases hv with e | e <;> rw [e]
   ·exact uw _ (jt i0 i1)
   ·exact uw _ (jt j0 j1)
 refine er fun A B hA hB=>?_
 lia
 refine ae (bM _ _) ?_
 lia
 split
 ·subst hA
  lia
  have a0:0<=k % (ws.length:Int):=Int.emod_nonneg _ (by omega)
  have a1:k % (ws.length:Int)<ws.length:=Int.emod_lt_of_pos _ m0
  have t:=turn (k % ws.length) 0 ws.length m0 a0 a1 (by omega) (by omega)
  have b0:0<=(k+1) % (ws.length:Int):=Int.emod_nonneg _ (by omega)
  have b1:(k+1) % (ws.length:Int)<ws.length:=Int.emod_lt_of_pos _ m0
  refine ae (cJ m0) (ae (dH a0 a1) (ae bf (ae (cJ m0) (ae (dH b0 b1) ?_))))
  refine fin ws _ _ F none none (by omega) nd (fun x hx=>hx) a0 a1 b0 b1 fun e=>t.2.2 (e.trans ?_)
  rw [Int.add_zero,Int.emod_add_emod]
 subst hB
 refine er fun A B hA hB=>?_
 lia
 refine ae (bM _ _) ?_
 lia
 split
 ·subst hA
  refine au fun N' hN'=>?_
  lia
  refine dr (by omega) m0 (by omega) fun f1 r h1 hr=>?_
  try lia
  subst hN'
  lia
  have t:=turn (r:Int) 0 ws.length m0 (by omega) hr (by omega) (by omega)
  rw [Int.add_zero] at t
  refine ae (dH (by omega) hr) (ae bf (ae (cJ m0) (ae (dH t.1 t.2.1) ?_)))
  exact fin ws _ _ f1 _ none (by omega) nd (fun x hx=>hx) (by omega) hr t.1 t.2.1 t.2.2
 subst hB
 refine er fun A B hA hB=>?_
 have last:B { endO P with nx:=N } [some ⟨2,.int (F:Int)⟩,some ⟨0,.lst (ws.map .str)⟩,some ⟨0,.int st⟩,some ⟨0,.int k⟩,some ⟨0,.int (ws.length:Int)⟩,none,none,none]:=by
  subst hB
  refine au fun N' hN'=>?_
  lia
  refine dr (by omega) m0 (by omega) fun f1 r h1 hr=>?_
  try lia
  subst hN'
  lia
  refine ae (dH (by omega) hr) (ae bf (ae dQ ?_))
  refine dr (by omega) (by omega) (by omega) fun f2 d h2 hd=>?_
  have t:=turn (r:Int) d ws.length m0 (by omega) hr (by omega) hd
  try lia
  refine ae bf (ae (cJ m0) (ae (dH t.1 t.2.1) ?_))
  exact fin ws _ _ f2 _ none (by omega) nd (fun x hx=>hx) (by omega) hr t.1 t.2.1 t.2.2
 lia
 refine ae (bM _ _) ?_
 lia
 by_cases c1:st=4
 case neg =>
  rw [decide_eq_false c1]
  exact last
 rw [decide_eq_true c1]
 lia
 by_cases c2:(3:Int)<ws.length
 case neg =>
  rw [decide_eq_false c2]
  exact last
 rw [decide_eq_true c2]
 lia
 subst hA
 refine au fun N' hN'=>?_
 lia
 have hd2:(ws.length:Int) / 2=((ws.length / 2:Nat):Int):=by omega
 refine ae (jm (by decide) (by decide)) ?_
 rw [hd2]
 lia
 refine ae (jm (by decide) (by decide)) ?_
 rw [hd2]
 lia
 rw [ow,qT,<- List.map_take,<- List.map_drop]
 refine dr (by omega) (by decide) (by decide) fun f1 r h1 hr=>?_
 obtain ⟨us,e,u2,und,uw,u60⟩:∃ us:List Str,ixPV (.lst [.lst ((ws.take (ws.length / 2)).map .str),.lst ((ws.drop (ws.length / 2)).map .str)]) (.int r)=some (.lst (us.map .str))/\2<=us.length/\us.Nodup/\(∀ x∈us,x∈ws)/\us.length<=60:=by
  match r,hr with
  | 0,_=>exact ⟨ws.take (ws.length / 2),av (j:=0) rfl,by rw [List.length_take]; omega,nd.sublist (List.take_sublist _ _),fun x hx=>List.mem_of_mem_take hx,by rw [List.length_take]; omega⟩
  | 1,_=>exact ⟨ws.drop (ws.length / 2),av (j:=1) rfl,by rw [List.length_drop]; omega,nd.sublist (List.drop_sublist _ _),fun x hx=>List.mem_of_mem_drop hx,by rw [List.length_drop]; omega⟩
  | n+2,h=>omega
 refine ae e ?_
 try lia
 subst hN'
 have u0:(0:Int)<us.length:=by omega
 refine au fun N' hN'=>?_
 lia
 rw [List.length_map]
 refine dr (by omega) u0 (by omega) fun f2 x h2 hx=>?_
 try lia
 subst hN'
 lia
 rw [List.length_map]
 refine ae (dH (by omega) hx) (ae bf (ae dQ ?_))
 refine dr (by omega) (by omega) (by omega) fun f3 d h3 hd=>?_
 have t:=turn (x:Int) d us.length u0 (by omega) hx (by omega) hd
 try lia
 refine ae bf ?_
 try lia
 try rw [List.length_map]
 refine ae (cJ u0) (ae (dH t.1 t.2.1) ?_)
 exact fin us _ _ f3 _ _ (by omega) und uw (by omega) hx t.1 t.2.1 t.2.2
end Pre
namespace Pre
open PySem L2 Q
theorem i7 (x:Str):x.length=x.cps.toList.length:=by rw [Array.length_toList]; rfl
theorem rj {x:Str} {a:Nat} (h:a<=x.length):(Txt.slice x none (some (a:Int))).cps.toList=x.cps.toList.take a:=by
 unfold Txt.slice
 rw [StrLaws.sliceIdx_none_lo]
 have e:=StrLaws.strSliceIndices_plain (a:=0) (b:=a) (len:=x.length) (Nat.zero_le _) h
 have e2:=StrLaws.sliced_plain x (a:=0) (b:=a) (Nat.zero_le _) h
 by_cases c:a=x.length
 ·rw [if_pos]
  ·rw [c,i7,List.take_length]
  ·show ((1:Int)==1 && (Builtin.Str.strSliceIndices (some ((0:Nat):Int)) (some (a:Int)) 1 x.length).length==x.length)=true
   rw [e,List.length_map,List.length_range]
   simp [c]
 ·rw [if_neg]
  ·show (List.filterMap (x.cps[·]?) (Builtin.Str.strSliceIndices (some ((0:Nat):Int)) (some (a:Int)) 1 x.length))=_
   rw [e2]; rfl
  ·show ¬ ((1:Int)==1 && (Builtin.Str.strSliceIndices (some ((0:Nat):Int)) (some (a:Int)) 1 x.length).length==x.length)=true
   rw [e,List.length_map,List.length_range]
   simpa using c
theorem oV {x:Str} {a:Nat} (h:a<=x.length):(Txt.slice x (some (a:Int)) none).cps.toList=x.cps.toList.drop a:=by
 unfold Txt.slice
 rw [StrLaws.sliceIdx_none_hi]
 have e:=StrLaws.strSliceIndices_plain (a:=a) (b:=x.length) (len:=x.length) h (Nat.le_refl _)
 have e2:=StrLaws.sliced_plain x (a:=a) (b:=x.length) h (Nat.le_refl _)
 rw [e2,e,List.length_map,List.length_range]
 by_cases c:a=0
 ·rw [if_pos (by simp [c]),c]; rfl
 ·rw [if_neg (by simp; omega)]
  show (x.cps.toList.drop a).take (x.length - a)=_
  refine List.take_of_length_le ?_
  rw [List.length_drop,<- i7]
  exact Nat.le_refl _
theorem n8:∀ ks:List Nat,(Str.join (Str.ofString "") (ks.map ch)).cps.toList=ks.map (97+·)
 | []=>rfl
 | [k]=>rfl
 | k::l::r=>by
  show ((ch k++Str.ofString "")++Str.join (Str.ofString "") ((l::r).map ch)).cps.toList=_
  rw [cU,cU,n8 (l::r)]; rfl
theorem tF {ks:List Nat} (h:ks.length<=6):JoinOk (Str.ofString "") (ks.map ch)=true:=by
 unfold JoinOk
 rw [StrLaws.joinTotal]
 have e1:(Str.ofString "").length=0:=rfl
 have e2:((ks.map ch).map (·.length)).sum=ks.length:=by
  clear h
  induction ks with
  | nil=>rfl
  | cons k ks ih =>
   rw [List.map_cons,List.map_cons,List.sum_cons,ih]
   show 1+ks.length=_
   rw [List.length_cons,Nat.add_comm]
 rw [e1,e2,Nat.mul_zero]
 unfold Builtin.Str.tooLong
 rw [sizeLine_eq,Bool.not_eq_true',decide_eq_false_iff_not]
 omega
noncomputable def wl (sl:List Nat) (a t kd k:Nat):List Nat:=if kd=2 then List.replicate (1+k % 8) (97+(t+k / 8) % 26) else (sl.take a++List.replicate (1+k / 26) (97+(t+k) % 26))++sl.drop a
noncomputable def wd (sl:List Nat) (a t kd k:Nat):Str:=⟨(wl sl a t kd k).toArray⟩
theorem iM (sl:List Nat) (a t kd k:Nat):(wd sl a t kd k).cps.toList=wl sl a t kd k:=by simp [wd]
theorem tf {sl:List Nat} {a t kd k:Nat} (hs:sl.length<=6) (hc:∀ c∈sl,97<=c/\c<=122) (hk:k<52):IsWord (wd sl a t kd k):=by
 have e:=iM sl a t kd k
 refine ⟨?_,?_,?_⟩
 ·rw [e]; unfold wl; split
  ·rw [List.length_replicate]; omega
  ·rw [List.length_append,List.length_append,List.length_replicate]; omega
 ·rw [e]; unfold wl; split
  ·rw [List.length_replicate]; omega
  ·rw [List.length_append,List.length_append,List.length_replicate,List.length_take,List.length_drop]; omega
 ·rw [e]; unfold wl
  intro c h
  split at h
  ·have:=List.eq_of_mem_replicate h
   omega
  ·rcases List.mem_append.mp h with h | h
   ·rcases List.mem_append.mp h with h | h
    ·exact hc c (List.mem_of_mem_take h)
    ·have:=List.eq_of_mem_replicate h; omega
   ·exact hc c (List.mem_of_mem_drop h)
theorem lK {m m' c c':Nat} (h:List.replicate (1+m) c=List.replicate (1+m') c'):c=c':=by
 rw [Nat.add_comm 1 m,Nat.add_comm 1 m',List.replicate_succ,List.replicate_succ] at h
 exact (List.cons.inj h).1
theorem uQ {sl:List Nat} {a t kd k k':Nat} (hk:k<52) (hk':k'<52) (h:wd sl a t kd k=wd sl a t kd k'):k=k':=by
 have e:wl sl a t kd k=wl sl a t kd k':=by rw [<- iM,<- iM,h]
 unfold wl at e
 have el:=congrArg List.length e
 split at e
 ·rename_i c
  rw [if_pos c,if_pos c,List.length_replicate,List.length_replicate] at el
  have:=lK e
  omega
 ·rename_i c
  rw [if_neg c,if_neg c] at el
  simp only [List.length_append,List.length_replicate] at el
  have:=lK (List.append_cancel_left (List.append_cancel_right e))
  omega
noncomputable def wds (sl:List Nat) (a t kd:Nat) (m:Nat):List Str:=(List.range m).map (wd sl a t kd)
theorem pG {sl:List Nat} {a t kd m:Nat} (hm:m<=52):(wds sl a t kd m).Nodup:=by
 unfold wds
 rw [List.nodup_iff_pairwise_ne,List.pairwise_map]
 have:=(List.nodup_iff_pairwise_ne.mp (List.nodup_range (n:=m)))
 refine List.Pairwise.imp_of_mem (fun {x y} hx hy hne e=>?_) this
 exact hne (uQ (by have:=List.mem_range.mp hx; omega) (by have:=List.mem_range.mp hy; omega) e)
theorem re (sl:List Nat) (a t kd m:Nat):wds sl a t kd (m+1)=wds sl a t kd m++[wd sl a t kd m]:=by
 unfold wds
 rw [List.range_succ,List.map_append]; rfl
theorem iQ:∀ ss:List Str,(ss.map PV.str).mapM strPV=some ss
 | []=>rfl
 | s::ss=>by rw [List.map_cons,List.mapM_cons,iQ ss]; rfl
theorem qh (c:PV) (xs:List PV) (P:PV->PV->Prop) (h:cP c xs P):Q.runOF 10 dw c xs P:=by
 obtain ⟨f,n,rfl,rfl,hn,h⟩:=h
 generalize hF:f+20=F
 unfold dw
 refine au fun N hN=>?_
 show N [some ⟨2,.int (F:Int)⟩,some ⟨0,.int n⟩,some ⟨0,.str abc⟩,none,none,none,none,none,none,none]
 subst hN
 refine au fun N hN=>?_
 simp only [sSet,eJoin]
 lia
 refine dr (by omega) (by decide) (by decide) fun f1 r h1 hr=>?_
 lia
 refine ⟨by omega,by omega,?_⟩
 refine dC (fun i acc e=>∃ (ks:List Nat) (f2:Nat),acc=ks.map (fun k=>PV.str (ch k))/\ks.length=i/\(∀ k∈ks,k<26)/\f2+i=f1/\e=[some ⟨2,.int (f2:Int)⟩,some ⟨0,.int n⟩,some ⟨0,.str abc⟩,none,none,none,none,none,none,none]) (i:=0) ⟨[],f1,rfl,rfl,by simp,rfl,rfl⟩ (by simp) (by rw [cq]; omega) ?_ ?_
 ·rintro j x acc e R hj ⟨ks,f2,rfl,kl,kb,k2,rfl⟩ k
  obtain ⟨hj1,rfl⟩:=iU hj
  refine ⟨rfl,?_⟩
  lia
  show aE (.int (f2:Int)) [.int 26] _
  refine dr (by omega) (by decide) (by decide) fun f3 q h3 hq=>?_
  show opt (ixPV (.str abc) (.int q)) _
  refine ae (mV rfl (by omega)) ?_
  refine k (some (.str (ch q))) _ ⟨ks++[q],f3,?_,?_,fun z hz=>?_,by omega,rfl⟩
  ·rw [List.map_append]; rfl
  ·rw [List.length_append,kl]; rfl
  ·rcases List.mem_append.mp hz with z1 | z1
   ·exact kb z z1
   ·rw [List.mem_singleton.mp z1]; omega
 rintro acc e ⟨ks,f2,rfl,kl,kb,k2,rfl⟩ _
 rw [cq,Nat.zero_add] at kl k2
 have kl6:ks.length<=6:=by omega
 have em:(ks.map fun k=>PV.str (ch k))=(ks.map ch).map PV.str:=by rw [List.map_map]; rfl
 rw [em]
 refine ⟨ks.map ch,iQ _,tF kl6,?_⟩
 have es:(Txt.join (Str.ofString "") (ks.map ch)).cps.toList=ks.map (97+·):=by
  show (Builtin.Str.glued _ _).cps.toList=_
  rw [StrLaws.glued_eq_join,n8]
 have sl6:(ks.map (97+·)).length<=6:=by rw [List.length_map]; exact kl6
 have slc:∀ c∈ks.map (97+·),97<=c/\c<=122:=fun c hc=>by
  obtain ⟨k,hk,rfl⟩:=List.mem_map.mp hc
  have:=kb k hk
  omega
 show N [some ⟨2,.int (f2:Int)⟩,some ⟨0,.int n⟩,some ⟨0,.str abc⟩,some ⟨0,.str (Txt.join (Str.ofString "") (ks.map ch))⟩,none,none,none,none,none,none]
 generalize Txt.join (Str.ofString "") (ks.map ch)=stem at es
 generalize ks.map (97+·)=sl at es sl6 slc
 have sln:stem.length=sl.length:=by rw [i7,es]
 subst hN
 refine au fun N hN=>?_
 lia
 refine ae (if_pos (by omega)) (ae bf ?_)
 refine dr (by omega) (by omega) (by omega) fun f3 a h3 ha=>?_
 try lia
 subst hN
 refine au fun N hN=>?_
 lia
 refine dr (by omega) (by decide) (by decide) fun f4 t h4 ht=>?_
 try lia
 subst hN
 refine au fun N hN=>?_
 lia
 refine dr (by omega) (by decide) (by decide) fun f5 kd h5 hkd=>?_
 try lia
 subst hN
 refine au fun N hN=>?_
 try lia
 subst hN
 refine au fun N hN=>cx fun G B hG hB=>?_
 lia
 refine ⟨by omega,by omega,?_⟩
 subst hG
 have ha':a<=stem.length:=by omega
 refine bE (fun i e=>∃ v8 v9,e=[some ⟨2,.int (f5:Int)⟩,some ⟨0,.int n⟩,some ⟨0,.str abc⟩,some ⟨0,.str stem⟩,some ⟨0,.int a⟩,some ⟨0,.int t⟩,some ⟨0,.int kd⟩,some ⟨1,.lst ((wds sl a t kd i).map .str)⟩,v8,v9]) (i:=0) ⟨none,none,rfl⟩ ?_ ?_
 case refine_2 =>
  rintro e ⟨v8,v9,rfl⟩
  show N _
  subst hN
  rw [cq,show ((n:Int)).toNat=n by omega,Nat.zero_add]
  simp only [sRetF,eSortS]
  lia
  refine ⟨_,iQ _,by unfold wds; rw [List.length_map,List.length_range]; omega,fun ss up=>?_⟩
  have nd:=pG (sl:=sl) (a:=a) (t:=t) (kd:=kd) hn
  refine h ss f5 (by omega) ?_ (nH up.2 (up.1.nodup_iff.mpr nd)) fun x hx=>?_
  ·rw [up.1.length_eq]; unfold wds; rw [List.length_map,List.length_range]
  ·obtain ⟨k,hk,rfl⟩:=List.mem_map.mp (up.1.mem_iff.mp hx)
   exact tf sl6 slc (by have:=List.mem_range.mp hk; omega)
 rintro j x e M hj ⟨v8,v9,rfl⟩ k
 obtain ⟨hjn,rfl⟩:=iU hj
 rw [Nat.zero_add] at k ⊢
 subst hB
 have hjn':j<n:=by omega
 have len:((wds sl a t kd j).map PV.str).length<=100000:=by rw [List.length_map]; unfold wds; rw [List.length_map,List.length_range]; omega
 refine au fun N' hN'=>?_
 lia
 refine ae bf ?_
 refine ae (cJ (by decide)) ?_
 refine ae (mV (k:=(t+j) % 26) (by omega) (by omega)) ?_
 subst hN'
 have push:∀ y:Str,y=wd sl a t kd j->M [some ⟨2,.int (f5:Int)⟩,some ⟨0,.int n⟩,some ⟨0,.str abc⟩,some ⟨0,.str stem⟩,some ⟨0,.int a⟩,some ⟨0,.int t⟩,some ⟨0,.int kd⟩,some ⟨1,.lst ((wds sl a t kd j).map .str++[.str y])⟩,some ⟨0,.int j⟩,some ⟨0,.str (ch ((t+j) % 26))⟩]:=fun y hy=>by
  refine k _ ⟨some ⟨0,.int j⟩,some ⟨0,.str (ch ((t+j) % 26))⟩,?_⟩
  rw [hy,re,List.map_append]; rfl
 refine er fun A1 B1 hA1 hB1=>?_
 lia
 refine ae (bM _ _) ?_
 lia
 by_cases c:kd=2
 ·have c2:((kd:Int)=2):=by omega
  rw [if_pos (decide_eq_true c2)]
  subst hA1
  lia
  refine ae (jm (by decide) (by decide)) (ae bf (ae (cJ (by decide)) (ae (mV (k:=(t+j / 8) % 26) (by omega) (by omega)) ?_)))
  refine ae (cJ (by decide)) (ae bf (ae (qr (m:=1+j % 8) (by omega) (by omega)) ?_))
  refine ae (mApp len) ?_
  refine push _ (jv ?_)
  rw [lL,iM]
  unfold wl
  rw [if_pos c]
 ·have c2:¬ ((kd:Int)=2):=by omega
  rw [if_neg (by simpa using c2)]
  subst hB1
  have s6:stem.length<=1000:=by omega
  have l1:(Txt.slice stem none (some (a:Int))).length<=stem.length:=Txt.slice_le _ _ _
  have l2:(Txt.slice stem (some (a:Int)) none).length<=stem.length:=Txt.slice_le _ _ _
  simp only [sDrop,eLM,aCons,eSlS]
  lia
  refine ae (z:=(a:Int)) rfl (ae (if_pos s6) ?_)
  refine ae (jm (by decide) (by decide)) (ae bf (ae (qr (m:=1+j / 26) (by omega) (by omega)) ?_))
  refine ae (add_str (by rw [nJ]; omega)) ?_
  refine ae (z:=(a:Int)) rfl (ae (if_pos s6) ?_)
  refine ae (add_str (by rw [ue,nJ]; omega)) ?_
  refine ae (mApp len) ?_
  refine push _ (jv ?_)
  rw [cU,cU,rj ha',oV ha',lL,iM,es]
  unfold wl
  rw [if_neg c]
end Pre
namespace Pre
open PySem L2 Q
theorem rM {ys:List PV} {i:Nat} {y:PV} (hi:ys[i]?=some y) (hl:ys.length<=1000):mPopAt ys [.int (i:Int)]=some (y,ys.eraseIdx i):=by
 have hlt:i<ys.length:=(List.getElem?_eq_some_iff.mp hi).1
 have e:ixN ys.length (i:Int)=some i:=by
  unfold ixN
  rw [if_pos (by omega),if_pos (by omega)]
  rfl
 refine (if_pos ⟨by omega,by omega⟩).trans ?_
 rw [(jR e).1]
 show (ys[i]?).map _=_
 rw [hi]; rfl
theorem kO {α β:Type} (f:α->β):∀ (l:List α) (i:Nat),(l.map f).eraseIdx i=(l.eraseIdx i).map f
 | [],_=>rfl
 | _::_,0=>rfl
 | a::l,i+1=>congrArg (f a::·) (kO f l i)
theorem jj {α:Type}:∀ (l:List α) (i:Nat) (h:i<l.length),l.Perm (l[i]::l.eraseIdx i)
 | a::l,0,_=>List.Perm.refl _
 | a::l,i+1,h=>((jj l i (by simpa using h)).cons a).trans (List.Perm.swap _ _ _)
theorem pQ:∀ ts:List Tie,(ts.map tiePV).mapM fstS=some (ts.map Tie.nm)
 | []=>rfl
 | t::ts=>by rw [List.map_cons,List.mapM_cons,pQ ts]; rfl
theorem iq {α β:Type} {f:α->β} {l:List α} {a:α} {b:β} {ix:List Nat} (h:∀ i∈ix,i<l.length):(ix.map fun i=>(l.map f).getD i b)=(ix.map fun i=>l.getD i a).map f:=by
 rw [List.map_map]
 refine List.map_congr_left fun i hi=>?_
 show _=f (l.getD i a)
 rw [List.getD_eq_getElem?_getD,List.getD_eq_getElem?_getD,List.getElem?_map,List.getElem?_eq_getElem (h i hi)]; rfl
end Pre
namespace Pre
open PySem L2 Q
theorem lm {F n:Nat} {i:Int} {P:PV->PV->Prop} (hi:i=n) (hF:20<=F) (hn:n<=52) (k:∀ (f':Nat) (ws:List Str),F<=f'+20->ws.length=n->ws.Pairwise ltS->(∀ x∈ws,IsWord x)->P (.lst (ws.map .str)) (.int (f':Int))):cP (.int (F:Int)) [.int i] P:=by
 subst hi
 exact ⟨F - 20,n,by rw [Nat.sub_add_cancel hF],rfl,hn,fun ws f' h=>k f' ws (by omega)⟩
theorem uE {F:Nat} {ws:List Str} {st k:Int} {P:PV->PV->Prop} (hF:4<=F) (w2:2<=ws.length) (w60:ws.length<=60) (nd:ws.Nodup) (kk:∀ (f':Nat) (u v:Str),F<=f'+4->u∈ws->v∈ws->ltS u v->P (.tup [.str u,.str v]) (.int (f':Int))):fH (.int (F:Int)) [.lst (ws.map .str),.int st,.int k] P :=
 ⟨F - 4,ws,st,k,by rw [Nat.sub_add_cancel hF],rfl,w2,w60,nd,fun u v f' h=>kk f' u v (by omega)⟩
theorem uL {F:Nat} {q:Int} {P:PV->PV->Prop} (hF:2<=F) (k:∀ (f':Nat) (v:Int),F<=f'+2 -> -(10 ^ 30)<v->v<10 ^ 30->P (.int v) (.int (f':Int))):fI (.int (F:Int)) [.int q] P :=
 ⟨F - 2,q,by rw [Nat.sub_add_cancel hF],rfl,fun v f' h=>k f' v (by omega)⟩
theorem uD {ns:List Str} {j:Nat} {x:PV} (h:(enumP (ns.map .str))[j]?=some x):∃ hj:j<ns.length,x=.tup [.int j,.str ns[j]]:=by
 unfold enumP at h
 rw [List.getElem?_map,List.getElem?_zipIdx,List.getElem?_map] at h
 rcases Nat.lt_or_ge j ns.length with z | z
 ·refine ⟨z,?_⟩
  rw [List.getElem?_eq_getElem z] at h
  have h:PV.tup [.int ((0+j:Nat):Int),.str ns[j]]=x:=Option.some.inj h
  rw [<- h,Nat.zero_add]
 ·rw [List.getElem?_eq_none z] at h; cases h
theorem sJ (ns:List Str):(enumP (ns.map .str)).length=ns.length:=by unfold enumP; rw [List.length_map,List.length_zipIdx,List.length_map]
theorem bit (b:Bool):intBP [.bl b]=some (.int (if b then 1 else 0)):=rfl
theorem oM {xs ys:List PV} (h:xs.length+ys.length<=100000):addPV (.lst xs) (.lst ys)=some (.lst (xs++ys)):=if_pos h
theorem gS {xs ys:List PV} (h:xs.length+ys.length<=100000):addPV (.tup xs) (.tup ys)=some (.tup (xs++ys)):=if_pos h
theorem tX (c:PV) (xs:List PV) (P:PV->PV->Prop) (h:eN c xs P):Q.runO 12 gB c xs P:=by
 obtain ⟨f,M,T,rfl,rfl,M0,M1,T0,T1,h⟩:=h
 generalize hF:f+1000=F
 unfold gB
 refine au fun N hN=>?_
 lia
 refine ae bf ?_
 refine dr (by omega) (by omega) (by omega) fun f1 r1 h1 hr1=>?_
 try lia
 refine dr (by omega) (by decide) (by decide) fun f2 r2 h2 hr2=>?_
 try lia
 refine ae (bM _ _) (ae (bit _) ?_)
 obtain ⟨y,hy,hyM⟩:∃ y:Nat,ixPV (.lst [.int (r1:Int),.int M]) (.int (if decide ((r2:Int)=0) then 1 else 0))=some (.int (y:Int))/\(y:Int)<=M:=by
  by_cases c:(r2:Int)=0
  ·rw [decide_eq_true c]
   exact ⟨M.toNat,(av (j:=1) rfl).trans (by congr 2; omega),by omega⟩
  ·rw [decide_eq_false c]
   exact ⟨r1,av (j:=0) rfl,by omega⟩
 refine ae hy (ae bf ?_)
 refine lm (n:=2+y) (by omega) (by omega) (by omega) fun f3 ws h3 wl wu ww=>?_
 have wn:=cV wu
 try lia
 subst hN
 refine au fun N hN=>?_
 lia
 refine ⟨by omega,by omega,?_⟩
 refine dC (fun i acc e=>∃ (us fs:List Str) (f4:Nat),acc=fs.map PV.str/\us.length+i=2+y/\us.Sublist ws/\(us++fs).Perm ws/\f3=f4+i/\e=[some ⟨2,.int (f4:Int)⟩,some ⟨0,.int M⟩,some ⟨0,.int T⟩,some ⟨1,.lst (us.map .str)⟩,none,none,none,none,none,none,none,none]) (i:=0) ⟨ws,[],f3,rfl,by omega,List.Sublist.refl _,by rw [List.append_nil],rfl,rfl⟩ (by simp) (by rw [cq]; decide) ?_ ?_
 ·rintro j x acc e R hj ⟨us,fs,f4,rfl,ul,us1,pm,k4,rfl⟩ k
  obtain ⟨hj1,rfl⟩:=iU hj
  rw [Nat.zero_add] at ul k k4
  have j2:j<2:=hj1
  refine ⟨trivial,?_⟩
  refine ⟨rfl,?_⟩
  show opt (lenPV [.lst (us.map PV.str)]) _
  refine ae (z:=.int (us.length:Int)) (by show some (PV.int ((us.map PV.str).length:Int))=_; rw [List.length_map]) ?_
  simp only [aNil]
  show aE (.int (f4:Int)) [.int (us.length:Int)] _
  refine dr (by omega) (by omega) (by omega) fun f5 q h5 hq=>?_
  have hq':q<us.length:=by omega
  show opt (mPopAt (us.map .str) [.int (q:Int)]) _
  refine ae (rM (y:=.str us[q]) (by rw [List.getElem?_map,List.getElem?_eq_getElem hq']; rfl) (by rw [List.length_map]; omega)) ?_
  refine k (some (.str us[q])) _ ⟨us.eraseIdx q,fs++[us[q]],f5,?_,?_,(List.eraseIdx_sublist _ _).trans us1,?_,by omega,?_⟩
  ·rw [List.map_append]; rfl
  ·rw [List.length_eraseIdx_of_lt hq']; omega
  ·refine List.Perm.trans ?_ pm
   rw [<- List.append_assoc]
   refine (List.perm_append_comm (l₁:=us.eraseIdx q++fs) (l₂:=[us[q]])).trans ?_
   show (us[q]::(us.eraseIdx q++fs)).Perm _
   rw [<- List.cons_append]
   exact List.Perm.append_right fs (jj us q hq').symm
  ·rw [<- kO]; rfl
 rintro acc e ⟨us,fs,f4,rfl,ul,us1,pm,k4,rfl⟩ _
 rw [cq,Nat.zero_add] at ul k4
 replace ul:us.length+2=2+y:=ul
 replace k4:f3=f4+2:=k4
 have fl:fs.length=2:=by
  have:=pm.length_eq
  rw [List.length_append] at this
  omega
 show N [some ⟨2,.int (f4:Int)⟩,some ⟨0,.int M⟩,some ⟨0,.int T⟩,some ⟨1,.lst (us.map .str)⟩,some ⟨0,.lst (fs.map .str)⟩,none,none,none,none,none,none,none]
 subst hN
 refine au fun N hN=>?_
 simp only [sSet,eSortS]
 lia
 simp only [eOpS]
 lia
 refine dr (by omega) (by decide) (by decide) fun f5 r5 h5 hr5=>?_
 try lia
 refine ae (bM _ _) (ae (bit _) ?_)
 obtain ⟨gs,hg,gl,gw⟩:∃ gs:List Str,mulPV (.lst (fs.map .str)) (.int (if decide ((r5:Int)=0) then 1 else 0))=some (.lst (gs.map .str))/\gs.length<=2/\gs.Sublist fs:=by
  by_cases c:(r5:Int)=0
  ·rw [decide_eq_true c]
   refine ⟨fs,(if_pos ⟨by decide,by decide,by rw [List.length_map]; omega⟩).trans ?_,by omega,List.Sublist.refl _⟩
   show some (PV.lst ([fs.map PV.str].flatten))=_
   simp
  ·rw [decide_eq_false c]
   exact ⟨[],(if_pos ⟨by decide,by decide,by rw [List.length_map]; omega⟩).trans rfl,by simp,List.nil_sublist _⟩
 refine ae hg (ae (oM (by rw [List.length_map,List.length_map]; omega)) ?_)
 try lia
 rw [<- List.map_append]
 refine ⟨us++gs,iQ _,by rw [List.length_append]; omega,fun pool up=>?_⟩
 have ugs:(us++gs).Sublist (us++fs):=(List.Sublist.refl us).append gw
 have pnd:pool.Nodup:=up.1.nodup_iff.mpr ((pm.nodup_iff.mpr wn).sublist ugs)
 have pw:∀ x∈pool,IsWord x:=fun x hx=>ww x (pm.mem_iff.mp (ugs.subset (up.1.mem_iff.mp hx)))
 have pl:pool.length<=60:=by rw [up.1.length_eq,List.length_append]; omega
 clear up
 try lia
 subst hN
 refine au fun N hN=>?_
 lia
 refine dr (by omega) (by decide) (by decide) fun f6 r6 h6 hr6=>?_
 try lia
 refine ae bf ?_
 refine dr (by omega) (by omega) (by omega) fun f7 r7 h7 hr7=>?_
 try lia
 refine dr (by omega) (by decide) (by decide) fun f8 r8 h8 hr8=>?_
 obtain ⟨z,hz,hzT⟩:∃ z:Nat,ixPV (.lst [.int (r6:Int),.int (r7:Int),.int T]) (.int (r8:Int))=some (.int (z:Int))/\(z:Int)<=T:=by
  match r8,hr8 with
  | 0,_=>exact ⟨r6,av (j:=0) rfl,by omega⟩
  | 1,_=>exact ⟨r7,av (j:=1) rfl,by omega⟩
  | 2,_=>exact ⟨T.toNat,(av (j:=2) rfl).trans (by congr 2; omega),by omega⟩
  | n+3,h=>omega
 refine ae hz ?_
 try lia
 rw [List.length_map]
 refine ae (bit _) ?_
 refine ae (vn (by split <;> decide) (by split <;> decide)) ?_
 obtain ⟨m,hm,hmT,hm2⟩:∃ m:Nat,(z:Int)*(if decide ((1:Int)<pool.length) then 1 else 0)=m/\(m:Int)<=T/\(m≠0->2<=pool.length):=by
  by_cases c:(1:Int)<pool.length
  ·rw [decide_eq_true c]; exact ⟨z,by simp,hzT,fun _=>by omega⟩
  ·rw [decide_eq_false c]; exact ⟨0,by simp,by omega,fun q=>absurd rfl q⟩
 rw [hm]
 try lia
 subst hN
 refine au fun N hN=>?_
 simp only [sPar]
 lia
 refine dr (by omega) (by decide) (by decide) fun f9 r9 h9 hr9=>?_
 try lia
 refine dr (by omega) (by decide) (by decide) fun fA rA hA hrA=>?_
 try lia
 subst hN
 refine au fun N hN=>?_
 try lia
 subst hN
 refine au fun N hN=>cx fun G B hG hB=>?_
 simp only [iE]
 lia
 refine lm (n:=m) rfl (by omega) (by omega) fun fB ns hB' nl nu nw=>?_
 try lia
 subst hG
 have fuel:f+900<=fB:=by omega
 refine bE (fun i e=>∃ (ts:List Tie) (fC:Nat) (v10 v11:Option Sl),e=[some ⟨2,.int (fC:Int)⟩,some ⟨0,.int M⟩,some ⟨0,.int T⟩,some ⟨1,.lst (us.map .str)⟩,some ⟨0,.lst (fs.map .str)⟩,some ⟨0,.lst (pool.map .str)⟩,some ⟨0,.int (m:Int)⟩,some ⟨0,.int (r9:Int)⟩,some ⟨0,.int (rA:Int)⟩,some ⟨1,.lst (ts.map tiePV)⟩,v10,v11]/\ts.map Tie.nm=ns.take i/\ts.length=i/\(∀ t∈ts,TieOk t)/\fB<=fC+6*i) (i:=0) ⟨[],fB,none,none,rfl,rfl,rfl,by simp,by omega⟩ ?_ ?_
 case refine_2 =>
  rintro e ⟨ts,fC,v10,v11,rfl,g1,g2,g3,g4⟩
  rw [sJ,Nat.zero_add] at g1 g2 g4
  show N _
  subst hN
  simp only [sRet,eTup,eCB,aCons]
  lia
  refine ae rfl (ae rfl ?_)
  refine h us ts fC (by omega) ⟨wu.sublist us1,fun x hx=>ww x (us1.subset hx),?_,g3⟩ (by omega) (by omega)
  rw [g1,List.take_length]; exact nu
 rintro j x e M' hj ⟨ts,fC,v10,v11,rfl,g1,g2,g3,g4⟩ k
 obtain ⟨hjn,rfl⟩:=uD hj
 rw [Nat.zero_add] at g1 g2 g4 k
 subst hB
 have p2:2<=pool.length:=hm2 (by omega)
 lia
 refine uE (by omega) p2 pl pnd fun fD u v hD hu hv uv=>?_
 refine ae (gS (by simp)) ?_
 try lia
 refine uL (by omega) fun fE cc hE c0 c1=>?_
 refine ae (gS (by simp)) ?_
 try lia
 refine ae (mApp (by rw [List.length_map]; omega)) ?_
 refine k _ ⟨ts++[⟨ns[j],u,v,cc⟩],fE,some ⟨0,.int j⟩,some ⟨0,.str ns[j]⟩,by rw [List.map_append]; rfl,?_,by rw [List.length_append,g2]; rfl,fun t ht=>?_,by omega⟩
 ·rw [List.map_append,g1]
  show ns.take j++[ns[j]]=ns.take (j+1)
  rw [List.take_succ,List.getElem?_eq_getElem hjn]; rfl
 ·rcases List.mem_append.mp ht with z | z
  ·exact g3 t z
  ·have:t=⟨ns[j],u,v,cc⟩:=by simpa using z
   subst this
   exact ⟨nw _ (List.getElem_mem _),pw u hu,pw v hv,uv,c0,c1⟩
end Pre
namespace Pre
open PySem L2 Q
theorem m3 (xs:List PV) (P:PV->Prop) (h:bU xs P):Q.run 2 cA xs P:=by
 obtain ⟨ps,ts,t,rfl,h⟩:=h
 unfold cA netPV tiePV
 lia
 refine ae (z:=.str t.one) (av (j:=1) rfl) (ae (z:=.tup (ps.map .str)) (av (j:=0) rfl) (ae ce ?_))
 lia
 unfold opn at h
 cases e:decide (t.one∈ps) with
 | false=>rw [e] at h; exact h
 | true =>
  rw [e,Bool.true_and] at h
  exact ae (z:=.str t.oth) (av (j:=2) rfl) (ae (z:=.tup (ps.map .str)) (av (j:=0) rfl) (ae ce h))
theorem bx {α β:Type} (p:α->Bool) (f:α->β):∀ (l:List α),l.filterMap (fun a=>if p a=true then some (f a) else none)=(l.filter p).map f
 | []=>rfl
 | a::l=>by
  rw [List.filterMap_cons,List.filter_cons,bx p f l]
  cases p a <;> rfl
theorem lh (xs:List PV) (P:PV->Prop) (h:cS xs P):Q.run 1 bV xs P:=by
 obtain ⟨ps,ts,rfl,hl,h⟩:=h
 unfold bV
 have e1:ixPV (netPV ps ts) (.int 1)=some (.tup (ts.map tiePV)):=av (j:=1) rfl
 lia
 refine ae e1 ?_
 lia
 refine cv (fun x=>match x with | .tup [.str a,.str b,.str c,.int d]=>if opn ps ⟨a,b,c,d⟩=true then some (.str a) else none | _=>none) (fun x hx R hR=>?_) (by simp; omega) ?_
 ·obtain ⟨t,ht,rfl⟩:=List.mem_map.mp hx
  refine ⟨ps,ts,t,rfl,?_⟩
  replace hR:R (if opn ps t=true then some (.str t.nm) else none) [some ⟨0,netPV ps ts⟩]:=hR
  show opt (some (opn ps t)) _
  rw [bQ]
  cases e:opn ps t with
  | false=>rw [e] at hR; exact hR
  | true =>
   rw [e] at hR
   show opt (ixPV (tiePV t) (.int 0)) _
   refine ae (z:=.str t.nm) (av (j:=0) rfl) ?_
   exact hR
 ·rw [List.nil_append,List.filterMap_map]
  have e:ts.filterMap ((fun x=>match x with | PV.tup [.str a,.str b,.str c,.int d]=>if opn ps ⟨a,b,c,d⟩=true then some (PV.str a) else none | _=>none) ∘ tiePV)=(gJ ps ts).map .str:=by
   unfold gJ
   rw [List.map_map]
   exact bx (opn ps) (fun t=>PV.str t.nm) ts
  rw [e]
  exact ae rfl h
theorem rV (xs:List PV) (P:PV->Prop) (h:fG xs P):Q.runF 1 eY xs P:=by
 obtain ⟨ps,ts,rfl,hl,h⟩:=h
 unfold eY
 have e0:ixPV (netPV ps ts) (.int 0)=some (.tup (ps.map .str)):=av (j:=0) rfl
 have e1:ixPV (netPV ps ts) (.int 1)=some (.tup (ts.map tiePV)):=av (j:=1) rfl
 simp only [runF,endF,sRetF]
 lia
 refine ae e1 ?_
 lia
 refine cv (fun x=>match x with | .tup [.str a,.str b,.str c,.int d]=>if opn ps ⟨a,b,c,d⟩=true then some (.tup [.str a,.str b,.str c,.int d]) else none | _=>none) (fun x hx R hR=>?_) (by simp; omega) ?_
 ·obtain ⟨t,ht,rfl⟩:=List.mem_map.mp hx
  refine ae (z:=.str t.one) (av (j:=1) rfl) (ae e0 (ae ce ?_))
  replace hR:R (if opn ps t=true then some (tiePV t) else none) [some ⟨0,netPV ps ts⟩]:=hR
  unfold opn at hR
  show opt (some (decide (t.one∈ps))) _
  rw [bQ]
  cases e:decide (t.one∈ps) with
  | false=>rw [e] at hR; exact hR
  | true =>
   rw [e,Bool.true_and] at hR
   refine ae (z:=.str t.oth) (av (j:=2) rfl) (ae e0 (ae ce ?_))
   show opt (some (decide (t.oth∈ps))) _
   rw [bQ]
   cases e2:decide (t.oth∈ps) with
   | false=>rw [e2] at hR; exact hR
   | true=>rw [e2] at hR; exact hR
 ·rw [List.nil_append,List.filterMap_map]
  have e:ts.filterMap ((fun x=>match x with | PV.tup [.str a,.str b,.str c,.int d]=>if opn ps ⟨a,b,c,d⟩=true then some (.tup [.str a,.str b,.str c,.int d]) else none | _=>none) ∘ tiePV)=(ts.filter (opn ps)).map tiePV:=bx (opn ps) tiePV ts
  rw [e]
  exact h
theorem qy (ps:List Str):(ps.map PV.str).mapM keyP=some (ps.map fun p=>(Sum.inr p:Key)):=by
 induction ps with
 | nil=>rfl
 | cons p ps ih=>rw [List.map_cons,List.mapM_cons,ih]; rfl
theorem gm {ps:List Str} (h:ps.Nodup):(ps.map fun p=>(Sum.inr p:Key)).Nodup:=by
 rw [List.nodup_iff_pairwise_ne,List.pairwise_map]
 exact (List.nodup_iff_pairwise_ne.mp h).imp fun hne e=>hne (Sum.inr.inj e)
theorem eq_str (i j:Str):eqqPV (.str i) (.str j)=some (.bl (i==j)):=rfl
theorem n4 {ps:List Str} {L:Str->Str} {p:Str} (nd:ps.Nodup) (h:p∈ps):ixPV (labPV ps L) (.str p)=some (.str (L p)):=by
 show valP _ (Sum.inr p)=_
 exact bF (f:=id) (g:=fun p=>PV.str (L p)) (l:=ps) (a:=p) (by simpa using nd) h
theorem sa {ps:List Str} {ts:List Tie} (ok:NetOk ps ts):(gJ ps ts).Nodup:=(bH ok).sublist (List.filter_sublist.map _)
theorem wD {ps:List Str} {ts:List Tie} (ok:NetOk ps ts) (h1:ps.length<=60) (h2:ts.length<=60):Nt ps ts:=⟨ok.rise,fun t ht=>gh (ok.tie t ht).lt,h1,by omega⟩
theorem kA (fs:List Str):(fs.map PV.str).mapM strPV=some fs:=by
 induction fs with
 | nil=>rfl
 | cons f fs ih=>rw [List.map_cons,List.mapM_cons,ih]; rfl
theorem mT (ps:List Str) (g:Str->List (Str×Str)):((ps.map fun p=>((Sum.inr p:Key),PV.lst ((g p).map pairPV))).map (·.1))=ps.map fun p=>(Sum.inr p:Key):=by rw [List.map_map]; rfl
theorem qY {ps:List Str} {g:Str->List (Str×Str)} {y:Str} (nd:ps.Nodup) (h:y∈ps):Q.lstAt (ps.map fun p=>((Sum.inr p:Key),PV.lst ((g p).map pairPV))) (Sum.inr y)=some ((g y).map pairPV):=by
 unfold Q.lstAt
 have:=bF (f:=id) (g:=fun p=>PV.lst ((g p).map pairPV)) (l:=ps) (a:=y) (by simpa using nd) h
 simp only [id] at this
 rw [this]
theorem oG {ps:List Str} {g:Str->List (Str×Str)} {y:Str} {q:Str×Str}:appAt (ps.map fun p=>((Sum.inr p:Key),PV.lst ((g p).map pairPV))) (Sum.inr y) ((g y).map pairPV++[pairPV q])=ps.map fun p=>((Sum.inr p:Key),PV.lst ((if p=y then g y++[q] else g p).map pairPV)):=by
 unfold appAt
 rw [List.map_map]
 refine List.map_congr_left fun p hp=>?_
 show (if (Sum.inr p:Key)=Sum.inr y then ((Sum.inr y:Key),PV.lst ((g y).map pairPV++[pairPV q])) else (Sum.inr p,PV.lst ((g p).map pairPV)))=(Sum.inr p,PV.lst ((if p=y then g y++[q] else g p).map pairPV))
 by_cases e:p=y
 ·subst e; simp
 ·simp [e]
theorem jJ (xs:List PV) (P:PV->Prop) (h:cy xs P):Q.runDl 3 bP xs P:=by
 obtain ⟨ps,ts,rfl,ok,h⟩:=h
 have nd:=cV ok.rise
 have e0:ixPV (netPV ps ts) (.int 0)=some (.tup (ps.map .str)):=av (j:=0) rfl
 have e1:ixPV (netPV ps ts) (.int 1)=some (.tup (ts.map tiePV)):=av (j:=1) rfl
 unfold bP
 refine au fun N hN=>?_
 show opt (ixPV (netPV ps ts) (.int 0)) _
 refine ae e0 ⟨_,qy ps,gm nd,by simp; have:=ok.pl; omega,?_⟩
 have e2:(ps.map fun p=>(Sum.inr p:Key)).map (fun k=>(k,PV.lst []))=ps.map fun p=>((Sum.inr p:Key),PV.lst ((adj ps (ts.take 0) p).map pairPV)):=by rw [List.map_map]; rfl
 rw [e2]
 show N [some ⟨0,netPV ps ts⟩,some ⟨4,besPV ps (adj ps (ts.take 0))⟩,none]
 subst hN
 refine au fun N hN=>cx fun G B hG hB=>?_
 show opt (ixPV (netPV ps ts) (.int 1)) _
 refine ae e1 ?_
 show forGo G B _ (ts.map tiePV) _
 refine bE (fun j e=>∃ v2,e=[some ⟨0,netPV ps ts⟩,some ⟨4,besPV ps (adj ps (ts.take j))⟩,v2]) (i:=0) ⟨none,rfl⟩ ?_ ?_
 case refine_2 =>
  rintro e ⟨v2,rfl⟩
  rw [List.length_map,Nat.zero_add,List.take_length]
  show N _
  subst hN
  exact ⟨⟨_,rfl⟩,h⟩
 rintro j x e M hx ⟨v2,rfl⟩ k
 rw [Nat.zero_add] at k ⊢
 have hj:j<ts.length:=by have:=(List.getElem?_eq_some_iff.mp hx).1; rwa [List.length_map] at this
 have ex:x=tiePV ts[j]:=by
  rw [List.getElem?_map,List.getElem?_eq_getElem hj] at hx
  exact (Option.some.inj hx).symm
 subst ex hG hB
 show sIf _ _ _ _ [some ⟨0,netPV ps ts⟩,some ⟨4,besPV ps (adj ps (ts.take j))⟩,some ⟨0,tiePV ts[j]⟩]
 refine er fun A1 B1 hA hB=>?_
 lia
 refine ⟨ps,ts,ts[j],rfl,?_⟩
 subst hA hB
 show opt (some (opn ps ts[j])) _
 refine opt_some.mpr ?_
 have step:=fun p=>sP (ps:=ps) hj p
 cases eo:opn ps ts[j] with
 | false =>
  refine k _ ⟨some ⟨0,tiePV ts[j]⟩,?_⟩
  have e:adj ps (ts.take (j+1))=adj ps (ts.take j):=by
   funext p
   rw [step p,eo]
   simp
  rw [e]
 | true =>
  obtain ⟨h1,h2⟩:=opn_iff.mp eo
  have hne:=ok.ne ts[j] (List.getElem_mem _)
  have hlen:∀ p,(adj ps (ts.take j) p).length<=2000:=fun p=>by
   have:=pf ps (ts.take j) p
   have h3:(ts.take j).length<=1000:=by simp; have:=ok.tl; omega
   omega
  rw [if_pos rfl]
  refine au fun N' hN'=>?_
  refine ⟨by rw [mT]; exact gm nd,?_⟩
  show opt (ixPV (tiePV ts[j]) (.int 1)) _
  refine ae (z:=.str ts[j].one) (av (j:=1) rfl) (ae (z:=Sum.inr ts[j].one) rfl (ae (qY nd h1) ?_))
  show opt (ixPV (tiePV ts[j]) (.int 0)) _
  refine ae (z:=.str ts[j].nm) (av (j:=0) rfl) ?_
  show opt (ixPV (tiePV ts[j]) (.int 2)) _
  refine ae (z:=.str ts[j].oth) (av (j:=2) rfl) ⟨by simp; have:=hlen ts[j].one; omega,?_⟩
  have ea:=oG (ps:=ps) (g:=adj ps (ts.take j)) (y:=ts[j].one) (q:=(ts[j].nm,ts[j].oth))
  show N' [some ⟨0,netPV ps ts⟩,some ⟨4,.dic (appAt _ (Sum.inr ts[j].one) ((adj ps (ts.take j) ts[j].one).map pairPV++[pairPV (ts[j].nm,ts[j].oth)]))⟩,some ⟨0,tiePV ts[j]⟩]
  rw [ea]
  generalize hg':(fun p=>if p=ts[j].one then adj ps (ts.take j) ts[j].one++[(ts[j].nm,ts[j].oth)] else adj ps (ts.take j) p)=g'
  have eg:∀ p,(if p=ts[j].one then adj ps (ts.take j) ts[j].one++[(ts[j].nm,ts[j].oth)] else adj ps (ts.take j) p)=g' p:=fun p=>by rw [<- hg']
  simp only [eg]
  subst hN'
  refine ⟨by rw [mT]; exact gm nd,?_⟩
  show opt (ixPV (tiePV ts[j]) (.int 2)) _
  refine ae (z:=.str ts[j].oth) (av (j:=2) rfl) (ae (z:=Sum.inr ts[j].oth) rfl (ae (qY nd h2) ?_))
  show opt (ixPV (tiePV ts[j]) (.int 0)) _
  refine ae (z:=.str ts[j].nm) (av (j:=0) rfl) ?_
  show opt (ixPV (tiePV ts[j]) (.int 1)) _
  refine ae (z:=.str ts[j].one) (av (j:=1) rfl) ⟨by simp; rw [<- eg,if_neg hne.symm]; have:=hlen ts[j].oth; omega,?_⟩
  have eb:=oG (ps:=ps) (g:=g') (y:=ts[j].oth) (q:=(ts[j].nm,ts[j].one))
  show M [some ⟨0,netPV ps ts⟩,some ⟨4,.dic (appAt _ (Sum.inr ts[j].oth) ((g' ts[j].oth).map pairPV++[pairPV (ts[j].nm,ts[j].one)]))⟩,some ⟨0,tiePV ts[j]⟩]
  rw [eb]
  refine k _ ⟨some ⟨0,tiePV ts[j]⟩,?_⟩
  have e:adj ps (ts.take (j+1))=fun p=>if p=ts[j].oth then g' ts[j].oth++[(ts[j].nm,ts[j].one)] else g' p:=by
   funext p
   rw [step p,eo,if_pos rfl]
   unfold ends
   by_cases q1:p=ts[j].oth
   ·subst q1
    rw [if_pos rfl,<- eg,if_neg hne.symm,if_neg hne,if_pos rfl]; rfl
   ·rw [if_neg q1,<- eg]
    by_cases q2:p=ts[j].one
    ·subst q2
     rw [if_pos rfl,if_pos rfl,if_neg (fun z=>q1 z.symm)]; rfl
    ·rw [if_neg q2,if_neg (fun z=>q2 z.symm),if_neg (fun z=>q1 z.symm)]; simp
  rw [e]; rfl
theorem qU {cs:Cs} {y:Str} (h:y∉cks cs):valP (cs.map fun c=>((Sum.inr c.1:Key),cvPV c.2)) (Sum.inr y)=none:=kj (f:=fun c:Str×Option (Str×Str)=>c.1) h
theorem oz {cs:Cs} {y:Str} (nd:(cks cs).Nodup) (h:y∈cks cs):∃ c∈cs,c.1=y/\valP (cs.map fun c=>((Sum.inr c.1:Key),cvPV c.2)) (Sum.inr y)=some (cvPV c.2):=by
 obtain ⟨c,hc,rfl⟩:=List.mem_map.mp h
 exact ⟨c,hc,rfl,bF (f:=fun c:Str×Option (Str×Str)=>c.1) (g:=fun c=>cvPV c.2) nd hc⟩
theorem nU {kvs:List (Key×PV)} {y:Str}:ninPV (.str y) (.dic kvs)=some (.bl (!(valP kvs (Sum.inr y)).isSome)):=rfl
structure Came (ps:List Str) (g:Str->List (Str×Str)) (start:Str) (cs:Cs) (as:List Str):Prop where
 ok:CsOk g start cs
 inn:∀ y∈cks cs,y∈ps
 sub:∀ y∈as,y∈cks cs
 al:as.length<=cs.length
theorem m4 (xs:List PV) (P:PV->Prop) (h:dP xs P):Q.run 7 cB xs P:=by
 obtain ⟨ps,g,start,rfl,nd,hst,hin,hpl,h⟩:=h
 unfold cB
 refine au fun N hN=>?_
 show opt (keyP (.str start)) _
 refine ae (z:=Sum.inr start) rfl ?_
 show N [some ⟨0,besPV ps g⟩,some ⟨0,.str start⟩,some ⟨1,camePV [(start,none)]⟩,none,none,none,none]
 subst hN
 refine au fun N hN=>?_
 show N [some ⟨0,besPV ps g⟩,some ⟨0,.str start⟩,some ⟨1,camePV [(start,none)]⟩,some ⟨1,.lst ([start].map .str)⟩,none,none,none]
 subst hN
 refine au fun N hN=>fN fun C B hC hB=>?_
 have c0:Came ps g start [(start,none)] [start]:=⟨⟨by simp [cks],fun i c hc=>?_,by simp⟩,fun y hy=>?_,fun y hy=>?_,by simp⟩
 rotate_left
 ·cases i with
  | zero=>exact .inl ⟨rfl,by simpa using hc.symm⟩
  | succ i=>simp at hc
 ·simp [cks] at hy; subst hy; exact hst
 ·simpa [cks] using hy
 have bes:∀ y∈ps,ixPV (besPV ps g) (.str y)=some (.lst ((g y).map pairPV)):=fun y hy=>by
  show valP _ (Sum.inr y)=_
  have:=bF (f:=id) (g:=fun p=>PV.lst ((g p).map pairPV)) (l:=ps) (a:=y) (by simpa using nd) hy
  exact this
 refine fV (fun k e=>∃ cs as v4 v5 v6,e=[some ⟨0,besPV ps g⟩,some ⟨0,.str start⟩,some ⟨1,camePV cs⟩,some ⟨1,.lst (as.map .str)⟩,v4,v5,v6]/\Came ps g start cs as/\(∀ y∈cks cs,y∉as->∀ q∈g y,q.2∈cks cs)/\k=2*(ps.length - cs.length)+as.length) (k:=2*(ps.length - 1)+1) ?_ ⟨[(start,none)],[start],none,none,none,rfl,c0,fun y hy hn=>absurd (by simpa [cks] using hy) hn,rfl⟩
 rintro k e M ⟨cs,as,v4,v5,v6,rfl,ca,cl,rfl⟩ km
 subst hC
 show opt (some (!(as.map PV.str).isEmpty)) _
 refine opt_some.mpr ?_
 cases hA:as with
 | nil =>
  show N _
  subst hN
  show P (camePV cs)
  exact h cs ca.ok ca.inn fun y hy=>cl y hy (by rw [hA]; simp)
 | cons a0 ar =>
 rw [<- hA]
 rw [show (!(List.map PV.str as).isEmpty)=true by rw [hA]; rfl,if_pos rfl]
 have hpos:0<as.length:=by rw [hA]; simp
 obtain ⟨here,hh⟩:∃ y,as[as.length - 1]?=some y:=⟨_,List.getElem?_eq_getElem (by omega)⟩
 have hhm:here∈as:=List.mem_of_getElem? hh
 have hhp:here∈ps:=ca.inn _ (ca.sub _ hhm)
 subst hB
 refine au fun M' hM'=>?_
 lia
 have ep:mPop (as.map PV.str) []=some (.str here,(as.dropLast).map .str):=by
  show ((as.map PV.str)[(as.map PV.str).length - 1]?).map _=_
  rw [List.length_map,List.getElem?_map,hh,<- List.map_dropLast]; rfl
 refine ae ep ?_
 lia
 subst hM'
 refine cx fun G B hG hB=>?_
 lia
 refine ae (bes here hhp) ?_
 show forGo G B _ ((g here).map pairPV) _
 subst hG hB
 have mem_as:∀ y∈as,y=here\/y∈as.dropLast:=fun y hy=>by
  obtain ⟨i,hi,rfl⟩:=List.getElem_of_mem hy
  by_cases e:i=as.length - 1
  ·left
   subst e
   rw [List.getElem?_eq_getElem hi] at hh
   exact Option.some.inj hh
  ·right
   rw [List.mem_iff_getElem]
   exact ⟨i,by simp; omega,by simp⟩
 refine bE (fun j e=>∃ cs' as' v5 v6,e=[some ⟨0,besPV ps g⟩,some ⟨0,.str start⟩,some ⟨1,camePV cs'⟩,some ⟨1,.lst (as'.map .str)⟩,some ⟨0,.str here⟩,v5,v6]/\Came ps g start cs' as'/\here∈cks cs'/\(∀ y∈cks cs',y≠here->y∉as'->∀ q∈g y,q.2∈cks cs')/\(∀ i q,i<j->(g here)[i]?=some q->q.2∈cks cs')/\2*(ps.length - cs'.length)+as'.length<2*(ps.length - cs.length)+as.length) (i:=0)
  ⟨cs,as.dropLast,v5,v6,rfl,⟨ca.ok,ca.inn,fun y hy=>ca.sub y (List.dropLast_subset _ hy),by have:=ca.al; simp; omega⟩,ca.sub _ hhm,fun y hy hne hn=>cl y hy fun z=>(mem_as y z).elim hne hn,fun i q hi=>absurd hi (by omega),by simp; omega⟩ ?_ ?_
 ·rintro j x e M2 hx ⟨cs',as',w5,w6,rfl,ca',hc',cl',seen,ms⟩ k2
  obtain ⟨q,hq,rfl⟩:∃ q,(g here)[j]?=some q/\x=pairPV q:=by
   rw [List.getElem?_map] at hx
   cases e:(g here)[j]? with
   | none=>rw [e] at hx; cases hx
   | some q=>rw [e] at hx; exact ⟨q,rfl,(Option.some.inj hx).symm⟩
  have hqm:=List.mem_of_getElem? hq
  have hlen:=bD ca'.ok.nd ca'.inn
  have hcl:(cks cs').length=cs'.length:=by simp [cks]
  unfold pairPV
  lia
  refine ae (show ninPV (.str q.2) (camePV cs')=_ from nU) ?_
  lia
  by_cases hin':q.2∈cks cs'
  ·obtain ⟨c,_,_,ev⟩:=oz ca'.ok.nd hin'
   rw [ev]
   simp only [Option.isSome_some,Bool.not_true,Bool.false_eq_true,if_false]
   refine k2 _ ⟨cs',as',_,_,rfl,ca',hc',cl',fun i r hi hr=>?_,ms⟩
   by_cases ei:i<0+j
   ·exact seen i r ei hr
   ·have:i=j:=by omega
    subst this
    rw [hq] at hr; cases hr; exact hin'
  ·rw [qU hin']
   simp only [Option.isSome_none,Bool.not_false,if_true]
   have hlt:cs'.length<ps.length:=by
    have:=bD (xs:=q.2::cks cs') (ys:=ps) (List.nodup_cons.mpr ⟨hin',ca'.ok.nd⟩) fun y hy=>by
     rcases List.mem_cons.mp hy with rfl | hy
     ·exact hin here hhp q hqm
     ·exact ca'.inn y hy
    simp [cks] at this
    omega
   have hal:as'.length<=100000:=by have:=ca'.al; omega
   simp only [sPut]
   lia
   have ep2:setPV (.dic (cs'.map fun c=>((Sum.inr c.1:Key),cvPV c.2))) (.str q.2) (.tup [.str q.1,.str here])=some (camePV (cs'++[(q.2,some (q.1,here))])):=by
    refine (if_pos (by simp; omega)).trans ?_
    show some (PV.dic (putP _ (Sum.inr q.2) _))=_
    rw [io (f:=fun c:Str×Option (Str×Str)=>c.1) hin']
    unfold camePV
    rw [List.map_append]; rfl
   refine ae (show setPV (camePV cs') _ _=_ from ep2) ?_
   try lia
   refine ae (mApp (by simpa using hal)) ?_
   have cmem:∀ y,y∈cks (cs'++[(q.2,some (q.1,here))])↔y∈cks cs'\/y=q.2:=fun y=>by simp [cks]
   refine k2 _ ⟨cs'++[(q.2,some (q.1,here))],as'++[q.2],some ⟨0,.str q.1⟩,some ⟨0,.str q.2⟩,?_,⟨ca'.ok.snoc hin' hc' hqm,fun y hy=>?_,fun y hy=>?_,by have:=ca'.al; simp; omega⟩,(cmem _).mpr (.inl hc'),fun y hy hne hn r hr=>?_,fun i r hi hr=>?_,?_⟩
   ·rw [List.map_append]; rfl
   ·rcases (cmem y).mp hy with z | rfl
    ·exact ca'.inn y z
    ·exact hin here hhp q hqm
   ·rcases List.mem_append.mp hy with z | z
    ·exact (cmem y).mpr (.inl (ca'.sub y z))
    ·simp at z; exact (cmem y).mpr (.inr z)
   ·rcases (cmem y).mp hy with z | rfl
    ·exact (cmem _).mpr (.inl (cl' y z hne (fun w=>hn (by simp [w])) r hr))
    ·exact absurd (by simp) hn
   ·by_cases ei:i<0+j
    ·exact (cmem _).mpr (.inl (seen i r ei hr))
    ·have:i=j:=by omega
     subst this
     rw [hq] at hr; cases hr; exact (cmem _).mpr (.inr rfl)
   ·simp; omega
 ·rintro e ⟨cs',as',w5,w6,rfl,ca',hc',cl',seen,ms⟩
  refine km _ _ ms ⟨cs',as',_,_,_,rfl,ca',fun y hy hn r hr=>?_,rfl⟩
  by_cases e:y=here
  ·subst e
   obtain ⟨i,hi,rfl⟩:=List.getElem_of_mem hr
   exact seen i _ (by simp; exact hi) (List.getElem?_eq_getElem hi)
  ·exact cl' y hy e hn r hr
theorem net1 (ps:List Str) (ts:List Tie):ixPV (netPV ps ts) (.int 1)=some (.tup (ts.map tiePV)):=av (j:=1) rfl
theorem net0 (ps:List Str) (ts:List Tie):ixPV (netPV ps ts) (.int 0)=some (.tup (ps.map .str)):=av (j:=0) rfl
theorem iu (xs:List PV) (P:PV->Prop) (h:cb xs P):Q.run 1 bG xs P:=by
 obtain ⟨ps,ts,rfl,hl,nd,h⟩:=h
 unfold bG
 lia
 simp only [eDC]
 lia
 refine ae (net1 ps ts) ?_
 lia
 refine dm (done:=[]) Tie.nm tiePV tiePV nd (fun t ht R hR=>?_) (by simp; omega) h
 show opt (ixPV (tiePV t) (.int 0)) _
 refine ae (z:=.str t.nm) (av (j:=0) rfl) ?_
 exact hR
theorem qg (xs:List PV) (P:PV->Prop) (h:gy xs P):Q.run 1 dv xs P:=by
 obtain ⟨ps,ts,rfl,hl,nd,h⟩:=h
 unfold dv
 lia
 simp only [eDC]
 lia
 refine ae (net1 ps ts) ?_
 lia
 refine dm (done:=[]) Tie.nm (fun t=>.tup [.int t.cost,.str t.nm]) tiePV nd (fun t ht R hR=>?_) (by simp; omega) h
 show opt (ixPV (tiePV t) (.int 0)) _
 refine ae (z:=.str t.nm) (av (j:=0) rfl) ?_
 show opt (ixPV (tiePV t) (.int 3)) _
 refine ae (z:=.int t.cost) (av (j:=3) rfl) ?_
 show opt (ixPV (tiePV t) (.int 0)) _
 refine ae (z:=.str t.nm) (av (j:=0) rfl) ?_
 exact hR
theorem jQ {us:List Tie} {ix:List Nat} (hl:ix.length=us.length) (nd:ix.Nodup) (lt:∀ i∈ix,i<us.length):(ix.map fun i=>us.getD i t0).Perm us:=by
 have h1:ix.Perm (List.range us.length):=by
  refine (List.perm_ext_iff_of_nodup nd List.nodup_range).mpr fun i=>?_
  rw [List.mem_range]
  refine ⟨lt i,fun hi=>?_⟩
  have:=bD nd (fun x hx=>List.mem_range.mpr (lt x hx))
  exact Classical.byContradiction fun hn=>by
   have h2:(i::ix).Nodup:=List.nodup_cons.mpr ⟨hn,nd⟩
   have h3:=bD (ys:=List.range us.length) h2 (fun x hx=>by
    rcases List.mem_cons.mp hx with rfl | hx
    ·exact List.mem_range.mpr hi
    ·exact List.mem_range.mpr (lt x hx))
   simp at h3; omega
 have h2:((List.range us.length).map fun i=>us.getD i t0)=us:=by
  apply List.ext_getElem?
  intro i
  rw [List.getElem?_map]
  by_cases hi:i<us.length
  ·rw [List.getElem?_range hi]; simp [hi]
  ·rw [List.getElem?_eq_none (by simpa using hi),List.getElem?_eq_none (by omega)]; rfl
 have h3:=h1.map fun i=>us.getD i t0
 rw [h2] at h3
 exact h3
theorem nX {us:List Tie} {i j:Nat} (hi:i<us.length) (hj:j<us.length):ltK (us.map fun u=>(u.cost,u.nm)) i j=true↔chp (us.getD i t0) (us.getD j t0):=by
 have g:∀ i,i<us.length->(us.map fun u=>(u.cost,u.nm)).getD i (0,⟨#[]⟩)=((us.getD i t0).cost,(us.getD i t0).nm):=fun i hi=>by
  rw [List.getD_eq_getElem?_getD,List.getElem?_map,List.getElem?_eq_getElem hi,List.getD_eq_getElem?_getD,List.getElem?_eq_getElem hi]; rfl
 unfold ltK chp
 rw [g i hi,g j hj,decide_eq_true_eq]
theorem iZ {us:List Tie} {i:Nat} (hi:i<us.length):(us.map Tie.nm).getD i ⟨#[]⟩=(us.getD i t0).nm:=by
 rw [List.getD_eq_getElem?_getD,List.getElem?_map,List.getElem?_eq_getElem hi,List.getD_eq_getElem?_getD,List.getElem?_eq_getElem hi]; rfl
theorem gZ (T:Addr) (c:PV) (xs:List PV) (P:PV->PV->Prop) (h:bT T c xs P):Q.runT 3 (bq T) c xs P:=by
 obtain ⟨rfl,ps,ts,us,rfl,hl,nd,h64,und,hin,h⟩:=h
 unfold bq
 simp only [runT,endT,hid]
 refine au fun N hN=>?_
 lia
 refine ⟨ps,ts,rfl,hl,nd,?_⟩
 lia
 subst hN
 simp only [sRet,eSortK,eV,List.getElem?_cons_zero,List.getElem?_cons_succ]
 refine ⟨us.map Tie.nm,us.map fun u=>(u.cost,u.nm),(by first | trivial | rfl),kA _,by simpa using h64,by simp,by rw [List.map_map]; exact und,fun m hm=>?_,fun ix ok=>?_⟩
 ·rw [List.length_map] at hm
  have hu:us.getD m t0∈us:=by rw [List.getD_eq_getElem?_getD,List.getElem?_eq_getElem hm]; exact List.getElem_mem _
  have e:(us.map fun u=>(u.cost,u.nm)).getD m k0=((us.getD m t0).cost,(us.getD m t0).nm):=by
   rw [List.getD_eq_getElem?_getD,List.getElem?_map,List.getElem?_eq_getElem hm,List.getD_eq_getElem?_getD,List.getElem?_eq_getElem hm]; rfl
  rw [e,iZ hm]
  exact bF (f:=Tie.nm) (g:=fun t=>PV.tup [.int t.cost,.str t.nm]) nd (hin _ hu)
 ·have lt:∀ i∈ix,i<us.length:=fun i hi=>by have:=ok.lt i hi; rwa [List.length_map] at this
  have e:(ix.map fun m=>PV.str ((us.map Tie.nm).getD m ⟨#[]⟩))=((ix.map fun i=>us.getD i t0).map Tie.nm).map .str:=by
   rw [List.map_map,List.map_map]
   exact List.map_congr_left fun i hi=>by show PV.str _=PV.str _; rw [iZ (lt i hi)]
  rw [e]
  refine h _ (jQ (by have:=ok.len; rwa [List.length_map] at this) ok.nd lt) ?_
  refine List.pairwise_map.mpr (List.Pairwise.imp_of_mem (fun hx hy hq=>?_) ok.up)
  exact (nX (lt _ hx) (lt _ hy)).mp hq
theorem lR (T:Addr) (c:PV) (xs:List PV) (P:PV->PV->Prop) (h:dq T c xs P):Q.runT 1 (ci T) c xs P:=by
 obtain ⟨rfl,ps,ts,rfl,ok,hp,ht,h⟩:=h
 unfold ci
 have hf:=List.length_filter_le (opn ps) ts
 simp only [runT,endT,hid]
 lia
 simp only [eCallT]
 lia
 refine ⟨ps,ts,rfl,by omega,?_⟩
 lia
 refine ⟨rfl,ps,ts,ts.filter (opn ps),rfl,by omega,bH ok,by omega,sa ok,fun u hu=>(List.mem_filter.mp hu).1,fun vs pm up=>?_⟩
 lia
 refine ⟨ps,ts,vs,rfl,ok,hp,ht,pm,up,?_⟩
 exact h
theorem nV (a b:Str):nePV (.str a) (.str b)=some (.bl (!decide (a=b))):=by
 show some (PV.bl (!decide (V.str a=V.str b)))=_
 congr 3
 simp
theorem gg {ps:List Str} {ts:List Tie} (ok:NetOk ps ts):(minN ps ts).Pairwise ltS:=ok.names.sublist ((List.filter_sublist.trans List.filter_sublist).map _)
theorem ua {ps:List Str} {ts vs:List Tie} {l gs:List Str} (ok:NetOk ps ts) (pm:vs.Perm (ts.filter (opn ps))) (e:l=(vs.filter (minB ps (ts.filter (opn ps)))).map Tie.nm) (up:StrsUp l gs):gs=minN ps ts:=by
 have p:gs.Perm (minN ps ts):=by
  refine up.1.trans ?_
  rw [e]
  exact (pm.filter _).map _
 exact nI p (nH up.2 (p.nodup_iff.mpr (cV (gg ok)))) (gg ok)
theorem gY (xs:List PV) (P:PV->Prop) (h:bS xs P):Q.run 9 bp xs P:=by
 obtain ⟨ps,ts,vs,rfl,ok,hp,ht,pm,up,h⟩:=h
 have pn:=cV ok.rise
 have tn:=bH ok
 have vl:vs.length<=60:=by rw [pm.length_eq]; exact Nat.le_trans (List.length_filter_le _ _) ht
 have oo:∀ u∈ts.filter (opn ps),opn ps u=true:=fun u hu=>(List.mem_filter.mp hu).2
 have vo:∀ u∈vs,opn ps u=true:=fun u hu=>oo u (pm.mem_iff.mp hu)
 have vt:∀ u∈vs,u∈ts:=fun u hu=>(List.mem_filter.mp (pm.mem_iff.mp hu)).1
 unfold bp
 refine au fun N hN=>?_
 lia
 refine ⟨ps,ts,rfl,by omega,tn,?_⟩
 lia
 subst hN
 refine au fun N hN=>?_
 lia
 simp only [eDC]
 lia
 refine ae (net0 ps ts) ?_
 lia
 refine dm (done:=[]) (α:=Str) (fun p=>p) PV.str PV.str (by simpa using pn) (fun p hp R hR=>hR) (by simp; omega) ?_
 show N [some ⟨0,netPV ps ts⟩,some ⟨0,.lst ((vs.map Tie.nm).map .str)⟩,some ⟨0,.dic (ts.map fun t=>(Sum.inr t.nm,tiePV t))⟩,some ⟨1,labPV ps id⟩,none,none,none,none,none]
 subst hN
 refine au fun N hN=>?_
 lia
 subst hN
 refine au fun N hN=>cx fun G B hG hB=>?_
 lia
 refine bE (fun j e=>∃ (g:Str->Str) (v5 v6 v7 v8:Option Sl),e=[some ⟨0,netPV ps ts⟩,some ⟨0,.lst ((vs.map Tie.nm).map .str)⟩,some ⟨0,.dic (ts.map fun t=>(Sum.inr t.nm,tiePV t))⟩,some ⟨1,labPV ps g⟩,some ⟨1,.lst ((((vs.take j).filter (minB ps (ts.filter (opn ps)))).map Tie.nm).map .str)⟩,v5,v6,v7,v8]/\Kr ps (vs.take j) g) (i:=0)
  ⟨id,none,none,none,none,rfl,Kr.nil⟩ ?_ ?_
 case refine_2 =>
  rintro e ⟨g,v5,v6,v7,v8,rfl,hk⟩
  show N _
  rw [List.length_map,List.length_map,Nat.zero_add,List.take_length]
  subst hN
  simp only [sRet,eCB,aCons]
  lia
  simp only [eSortS]
  lia
  refine ⟨_,kA _,?_,fun gs us=>ae rfl ?_⟩
  ·rw [List.length_map]
   have:=List.length_filter_le (minB ps (ts.filter (opn ps))) vs
   omega
  ·rw [ua ok pm rfl us]
   exact h
 rintro j x e M hx ⟨g,v5,v6,v7,v8,rfl,hk⟩ k
 rw [Nat.zero_add] at k hk ⊢
 have hj:j<vs.length:=by have:=(List.getElem?_eq_some_iff.mp hx).1; simpa using this
 obtain ⟨t,et⟩:∃ t,vs[j]?=some t:=⟨_,List.getElem?_eq_getElem hj⟩
 have ex:x=.str t.nm:=by
  rw [List.getElem?_map,List.getElem?_map,et] at hx
  exact (Option.some.inj hx).symm
 have tv:t∈vs:=List.mem_of_getElem? et
 have ot:=vo t tv
 obtain ⟨o1,o2⟩:=opn_iff.mp ot
 have etk:vs.take (j+1)=vs.take j++[t]:=by rw [List.take_succ,et]; rfl
 have oX:∀ u∈vs.take j,opn ps u=true:=fun u hu=>vo u (List.mem_of_mem_take hu)
 have hm:∀ u,u∈vs.take j↔u∈below (ts.filter (opn ps)) t:=fun u=>by
  rw [below_mem,<- pm.mem_iff]
  have hpw:=List.pairwise_iff_getElem.mp up
  have etj:vs[j]=t:=by rw [List.getElem?_eq_getElem hj] at et; exact Option.some.inj et
  constructor
  ·intro hu
   obtain ⟨i,hi,e⟩:=List.mem_iff_getElem.mp hu
   rw [List.getElem_take] at e
   have hij:i<j:=by rw [List.length_take] at hi; omega
   refine ⟨List.mem_of_mem_take hu,?_⟩
   rw [<- e,<- etj]
   exact hpw i j (by omega) hj hij
  ·rintro ⟨hu,hc⟩
   obtain ⟨i,hi,e⟩:=List.mem_iff_getElem.mp hu
   rcases Nat.lt_trichotomy i j with z | z | z
   ·rw [List.mem_iff_getElem]
    exact ⟨i,by rw [List.length_take]; omega,by rw [List.getElem_take]; exact e⟩
   ·subst z
    rw [etj] at e; subst e
    exact absurd hc (da _)
   ·have:=hpw j i hj hi z
    rw [etj,e] at this
    exact absurd hc (qV this)
 have mn:=Kr.min oX oo ot hk hm
 have st:=Kr.step oX ot pn hk
 rw [<- etk] at st
 subst ex hG hB
 show sSeq _ _ _ [some ⟨0,netPV ps ts⟩,some ⟨0,.lst ((vs.map Tie.nm).map .str)⟩,some ⟨0,.dic (ts.map fun t=>(Sum.inr t.nm,tiePV t))⟩,some ⟨1,labPV ps g⟩,some ⟨1,.lst ((((vs.take j).filter (minB ps (ts.filter (opn ps)))).map Tie.nm).map .str)⟩,some ⟨0,.str t.nm⟩,v6,v7,v8]
 refine au fun N' hN'=>?_
 lia
 refine ae (z:=tiePV t) (bF (f:=Tie.nm) (g:=tiePV) tn (vt t tv)) ?_
 show N' _
 subst hN'
 refine au fun N' hN'=>?_
 lia
 simp only [eOpS]
 lia
 refine ae (z:=PV.str t.one) (av (j:=1) rfl) ?_
 try lia
 refine ae (n4 pn o1) ?_
 try lia
 refine ae (z:=PV.str t.oth) (av (j:=2) rfl) ?_
 try lia
 refine ae (n4 pn o2) ?_
 try lia
 show N' _
 subst hN'
 refine er fun A1 B1 hA1 hB1=>?_
 lia
 refine ae (nV _ _) ?_
 lia
 have fe:(vs.take (j+1)).filter (minB ps (ts.filter (opn ps)))=(vs.take j).filter (minB ps (ts.filter (opn ps)))++(if minB ps (ts.filter (opn ps)) t=true then [t] else []):=by
  rw [etk,List.filter_append]
  congr 1
  rw [List.filter_cons,List.filter_nil]
 have kl:((vs.take j).filter (minB ps (ts.filter (opn ps)))).length<=60:=Nat.le_trans (List.length_filter_le _ _) (by rw [List.length_take]; omega)
 by_cases hg:g t.one=g t.oth
 ·rw [decide_eq_true hg,Bool.not_true,if_neg (by simp)]
  subst hB1
  refine k _ ⟨g,some ⟨0,.str t.nm⟩,some ⟨0,tiePV t⟩,some ⟨0,.str (g t.one)⟩,some ⟨0,.str (g t.oth)⟩,?_,st.1 hg⟩
  rw [fe,if_neg (fun z=>(mn.mpr (minB_iff.mp z)) hg),List.append_nil]
 ·rw [decide_eq_false hg,Bool.not_false,if_pos rfl]
  subst hA1
  refine au fun N' hN'=>?_
  lia
  refine ae (mApp (by simp; omega)) ?_
  show N' [some ⟨0,netPV ps ts⟩,some ⟨0,.lst ((vs.map Tie.nm).map .str)⟩,some ⟨0,.dic (ts.map fun t=>(Sum.inr t.nm,tiePV t))⟩,some ⟨1,labPV ps g⟩,some ⟨1,.lst ((((vs.take j).filter (minB ps (ts.filter (opn ps)))).map Tie.nm).map .str++[.str t.nm])⟩,some ⟨0,.str t.nm⟩,some ⟨0,tiePV t⟩,some ⟨0,.str (g t.one)⟩,some ⟨0,.str (g t.oth)⟩]
  subst hN'
  show dcGo _ _ _ _ _ _ ((ps.map fun p=>((Sum.inr p:Key),PV.str (g p))).map pairP) _ []
  rw [List.map_map]
  refine dm (done:=[]) (α:=Str) (fun p=>p) (fun p=>PV.str (if g p=g t.oth then g t.one else g p)) (pairP ∘ fun p=>((Sum.inr p:Key),PV.str (g p))) (by simpa using pn) (fun p hp R hR=>?_) (by simp; omega) ?_
  ·refine ⟨rfl,?_⟩
   show opt (eqqPV (.str (g p)) (.str (g t.oth))) _
   refine ae (eq_str _ _) ?_
   show opt (some (g p==g t.oth)) _
   refine opt_some.mpr ?_
   by_cases z:g p=g t.oth
   ·rw [if_pos z] at hR
    rw [beq_iff_eq.mpr z]
    exact hR
   ·rw [if_neg z] at hR
    rw [beq_eq_false_iff_ne.mpr z]
    exact hR
  ·refine k _ ⟨fun p=>if g p=g t.oth then g t.one else g p,some ⟨0,.str t.nm⟩,some ⟨0,tiePV t⟩,some ⟨0,.str (g t.one)⟩,some ⟨0,.str (g t.oth)⟩,?_,st.2 hg⟩
   have e:(((vs.take (j+1)).filter (minB ps (ts.filter (opn ps)))).map Tie.nm).map PV.str=(((vs.take j).filter (minB ps (ts.filter (opn ps)))).map Tie.nm).map PV.str++[.str t.nm]:=by
    rw [fe,if_pos (minB_iff.mpr (mn.mp hg)),List.map_append,List.map_append]; rfl
   rw [e]
   rfl
theorem sn {x:Str} {ns:List Str}:inPV (.str x) (.lst (ns.map .str))=some (.bl (decide (x∈ns))):=ph
theorem rT (xs:List PV) (P:PV->Prop) (h:iK xs P):Q.run 2 eS xs P:=by
 obtain ⟨ps,ns,ts,hx,hl,hl2,h⟩:=h
 obtain ⟨nv,rfl,hin⟩:∃ nv,xs=[netPV ps ts,nv]/\∀ x:Str,inPV (.str x) nv=some (.bl (decide (x∈ns))):=by
  rcases hx with rfl | rfl
  ·exact ⟨_,rfl,fun x=>ce⟩
  ·exact ⟨_,rfl,fun x=>sn⟩
 unfold eS
 have e0:ixPV (netPV ps ts) (.int 0)=some (.tup (ps.map .str)):=av (j:=0) rfl
 have e1:ixPV (netPV ps ts) (.int 1)=some (.tup (ts.map tiePV)):=av (j:=1) rfl
 lia
 refine ae e0 (ae e1 ?_)
 lia
 refine cv (fun x=>match x with | .tup [.str a,.str b,.str c,.int d]=>if nmIn ns ⟨a,b,c,d⟩=true then some (.tup [.str a,.str b,.str c,.int d]) else none | _=>none) (fun x hx R hR=>?_) (by simp; omega) ?_
 ·obtain ⟨t,ht,rfl⟩:=List.mem_map.mp hx
  refine ae (z:=.str t.nm) (av (j:=0) rfl) (ae (hin _) ?_)
  replace hR:R (if nmIn ns t=true then some (tiePV t) else none) [some ⟨0,netPV ps ts⟩,some ⟨0,nv⟩]:=hR
  show opt (some (nmIn ns t)) _
  rw [bQ]
  cases e:nmIn ns t with
  | false=>rw [e] at hR; exact hR
  | true=>rw [e] at hR; exact hR
 ·rw [List.nil_append,List.filterMap_map]
  have e:ts.filterMap ((fun x=>match x with | PV.tup [.str a,.str b,.str c,.int d]=>if nmIn ns ⟨a,b,c,d⟩=true then some (.tup [.str a,.str b,.str c,.int d]) else none | _=>none) ∘ tiePV)=(ts.filter (nmIn ns)).map tiePV:=bx (nmIn ns) tiePV ts
  rw [e]
  exact ae rfl h
theorem bZ {ps:List Str} {ts:List Tie} {t:Tie} (h:t∈treeT ps ts):t∈ts/\opn ps t=true/\minB ps (ts.filter (opn ps)) t=true:=by
 obtain ⟨h1,h2⟩:=List.mem_filter.mp h
 obtain ⟨h3,h4⟩:=List.mem_filter.mp h1
 exact ⟨h3,h4,h2⟩
theorem bB {ps:List Str} {ts:List Tie}:∀ t∈treeT ps ts,opn ps t=true:=fun t h=>(bZ h).2.1
theorem dB (ps:List Str) (ts:List Tie):minN ps ts=(treeT ps ts).map Tie.nm:=rfl
theorem e9 (ps:List Str) (ts:List Tie):(treeT ps ts).length<=ts.length:=Nat.le_trans (List.length_filter_le _ _) (List.length_filter_le _ _)
theorem iO {ps:List Str} {ts:List Tie} (nd:(ts.map Tie.nm).Nodup):ts.filter (nmIn (minN ps ts))=treeT ps ts:=by
 unfold treeT
 rw [List.filter_filter]
 refine List.filter_congr fun u hu=>?_
 rw [Bool.eq_iff_iff,ma,Bool.and_eq_true]
 constructor
 ·intro h
  obtain ⟨v,hv,e⟩:=List.mem_map.mp (dB ps ts ▸ h)
  obtain ⟨v1,v2,v3⟩:=bZ hv
  rw [<- cI nd v1 hu e]
  exact ⟨v3,v2⟩
 ·rintro ⟨h1,h2⟩
  rw [dB]
  exact List.mem_map.mpr ⟨u,List.mem_filter.mpr ⟨List.mem_filter.mpr ⟨hu,h2⟩,h1⟩,rfl⟩
end Pre
namespace Pre
open PySem L2 Q
section
variable {ps:List Str} {ts:List Tie}
theorem gD (nd:(ts.map Tie.nm).Nodup):((treeT ps ts).map Tie.nm).Nodup:=nd.sublist ((List.filter_sublist.trans List.filter_sublist).map _)
theorem uG {L:List Tie} {t d:Tie} (hd:d∈L) (h:chp t d):(L.filter fun u=>decide (chp d u)).length<(L.filter fun u=>decide (chp t u)).length:=by
 have s:(L.filter fun u=>decide (chp d u)).Sublist (L.filter fun u=>decide (chp t u)):=fw fun x _ q=>decide_eq_true (jo h (of_decide_eq_true q))
 rcases Nat.lt_or_ge (L.filter fun u=>decide (chp d u)).length (L.filter fun u=>decide (chp t u)).length with z | z
 ·exact z
 ·have e:=s.eq_of_length_le z
  have m:d∈L.filter fun u=>decide (chp t u):=List.mem_filter.mpr ⟨hd,decide_eq_true h⟩
  rw [<- e] at m
  exact absurd (of_decide_eq_true (List.mem_filter.mp m).2) (da _)
theorem g9 (nd:(ts.map Tie.nm).Nodup):∀ (n:Nat) (t:Tie),t∈treeT ps ts->((treeT ps ts).filter fun u=>decide (chp t u)).length<n->¬ Rch (adj ps (less (treeT ps ts) t)) t.one t.oth
 | 0,_,_,h=>by omega
 | n+1,t,ht,h=>by
  intro r
  have tn:=gD (ps:=ps) nd
  have oL:∀ u∈treeT ps ts,opn ps u=true:=bB
  have oB:∀ u∈below (treeT ps ts) t,u∈treeT ps ts:=fun u hu=>(below_mem.mp hu).1
  have hne:∀ u∈treeT ps ts,∀ d∈treeT ps ts,chp u d->u.nm≠d.nm:=fun u hu d hd c e=>by
   have:=cI tn hu hd e
   subst this
   exact da _ c
  have r2:Rch (adj ps (below (treeT ps ts) t++(treeT ps ts).filter fun u=>decide (chp t u))) t.one t.oth:=by
   refine cW (fun u hu=>oL u (less_mem.mp hu).1) (fun u hu=>?_) (fun u hu=>?_) r
   ·rcases List.mem_append.mp hu with z | z
    ·exact oL u (oB u z)
    ·exact oL u (List.mem_filter.mp z).1
   ·obtain ⟨u1,u2⟩:=less_mem.mp hu
    rcases uN u2 with z | z
    ·exact List.mem_append_left _ (below_mem.mpr ⟨u1,z⟩)
    ·exact List.mem_append_right _ (List.mem_filter.mpr ⟨u1,decide_eq_true z⟩)
  have r3:=lH oL ht oB _ (tn.sublist (List.filter_sublist.map _)) (fun d hd=>by
   obtain ⟨d1,d2⟩:=List.mem_filter.mp hd
   have d2:=of_decide_eq_true d2
   refine ⟨d1,fun u hu=>?_,hne t ht d d1 d2,g9 nd n d d1 ?_⟩
   ·obtain ⟨u1,u2⟩:=below_mem.mp hu
    exact hne u u1 d d1 (jo u2 d2)
   ·have:=uG d1 d2
    omega) r2
  have mn:=minB_iff.mp (bZ ht).2.2
  refine mn (cW (fun u hu=>oL u (oB u hu)) (fun u hu=>(List.mem_filter.mp (below_mem.mp hu).1).2) (fun u hu=>?_) r3)
  obtain ⟨u1,u2⟩:=below_mem.mp hu
  exact below_mem.mpr ⟨(List.mem_filter.mp u1).1,u2⟩
theorem nn {os:List Tie} {t:Tie}:∀ {ns:List Str} {a b:Str},Wk os a ns b->t.nm∉ns->Wk (less os t) a ns b
 | [],_,_,h,_=>h
 | n::ns,a,b,⟨u,hu,e,c,q,h⟩,hn=>by
  rw [List.mem_cons,not_or] at hn
  exact ⟨u,less_mem.mpr ⟨hu,fun z=>hn.1 (z ▸ e)⟩,e,c,q,nn h hn.2⟩
theorem ko (nd:(ts.map Tie.nm).Nodup):Acyc (treeT ps ts):=by
 rintro a n ns ⟨t,ht,e,c,q,w⟩ hn
 have oL:∀ u∈less (treeT ps ts) t,opn ps u=true:=fun u hu=>bB u (less_mem.mp hu).1
 have r:=ls (gofO oL) (nn w (e ▸ hn))
 refine g9 nd _ t ht (Nat.lt_succ_self _) ?_
 rcases q with ⟨rfl,rfl⟩ | ⟨rfl,rfl⟩
 ·exact (gofO oL).rsym r
 ·exact r
theorem fQ:∀ (n:Nat) (t:Tie),t∈ts.filter (opn ps)->(below (ts.filter (opn ps)) t).length<n->Rch (adj ps (treeT ps ts)) t.one t.oth
 | 0,_,_,h=>by omega
 | n+1,t,ht,h=>by
  by_cases hm:Min ps (ts.filter (opn ps)) t
  ·exact ik bB (List.mem_filter.mpr ⟨ht,minB_iff.mpr hm⟩)
  ·have r:Rch (adj ps (below (ts.filter (opn ps)) t)) t.one t.oth:=Classical.byContradiction hm
   refine lM (fun v hv=>(List.mem_filter.mp (below_mem.mp hv).1).2) (fun r=>(gofO bB).rsym r) (fun v hv=>?_) r
   exact fQ n v (below_mem.mp hv).1 (by have:=sO hv; omega)
theorem rq {os:List Tie} (oo:∀ u∈os,opn ps u=true) {a b:Str} (r:Rch (adj ps os) a b):∃ ns,Wk os a ns b:=by
 induction r with
 | refl=>exact ⟨[],rfl⟩
 | step _ e ih =>
  obtain ⟨ns,w⟩:=ih
  obtain ⟨t,ht,_,z⟩:=((gofO oo).mem _ _ _).mp e
  exact ⟨ns++[t.nm],w.app ⟨t,ht,rfl,_,z,rfl⟩⟩
theorem lr {os:List Tie} (nd:(os.map Tie.nm).Nodup):∀ {ns:List Str} {a b:Str},Wk os a ns b->∃ ms,Wk os a ms b/\ms.Nodup
 | [],a,b,h=>⟨[],h,by simp⟩
 | n::ns,a,b,⟨t,ht,e,c,q,h⟩=>by
  obtain ⟨ms,w,md⟩:=lr nd h
  by_cases hn:n∈ms
  ·obtain ⟨p,r,rfl,hp⟩:=ig hn
   obtain ⟨x,w1,t',ht',e',y,q',w2⟩:=w.cut
   have:t=t':=cI nd ht ht' (e.trans e'.symm)
   subst this
   have md2:(n::r).Nodup:=(List.nodup_append.mp md).2.1
   rcases Ends.two q q' with ⟨_,z2⟩ | ⟨_,z2⟩
   ·have z2:y=c:=z2
    subst z2
    exact ⟨n::r,⟨t,ht,e,_,q,w2⟩,md2⟩
   ·have z2:y=a:=z2
    subst z2
    exact ⟨r,w2,(List.nodup_cons.mp md2).2⟩
  ·exact ⟨n::ms,⟨t,ht,e,c,q,w⟩,List.nodup_cons.mpr ⟨hn,md⟩⟩
theorem kc {os:List Tie} {a b:Str} (h:∃ ns,Wk os a ns b/\ns.Nodup):Wk os a (wayT os a b) b/\(wayT os a b).Nodup:=by
 unfold wayT
 rw [dif_pos h]
 exact h.choose_spec
theorem ly (nd:(ts.map Tie.nm).Nodup) {t:Tie} (h:t∈ts.filter (opn ps)):∃ ns,Wk (treeT ps ts) t.one ns t.oth/\ns.Nodup:=by
 obtain ⟨ns,w⟩:=rq bB (fQ _ t h (Nat.lt_succ_self _))
 exact lr (gD nd) w
theorem nq (ok:NetOk ps ts) {a b:Str} {ns:List Str} (w:Wk (treeT ps ts) a ns b) (d:ns.Nodup):ns=wayT (treeT ps ts) a b:=by
 obtain ⟨w',d'⟩:=kc ⟨ns,w,d⟩
 exact lu (gD (bH ok)) (fun t ht=>gh (ok.tie t (bZ ht).1).lt) (ko (bH ok)) w w' d d'
theorem pT (nd:(ts.map Tie.nm).Nodup):someT ps (minN ps ts) ts=treeT ps ts:=by
 unfold someT
 rw [kK,iO nd]
 exact List.filter_eq_self.mpr bB
theorem pF {os:List Tie} {a b:Str} {ns:List Str} (w:Wk os a ns b) (d:ns.Nodup):ns.length<=os.length:=by
 have:=bD d fun n hn=>(by obtain ⟨t,ht,e⟩:=w.mem n hn; exact List.mem_map.mpr ⟨t,ht,e⟩:n∈os.map Tie.nm)
 rwa [List.length_map] at this
end
end Pre
namespace Pre
open PySem L2 Q
noncomputable def labI (ps:List Str) (L:Str->Int):PV:=.dic (ps.map fun p=>(Sum.inr p,.int (L p)))
theorem mr {ps:List Str} {L:Str->Int} {p:Str} (nd:ps.Nodup) (h:p∈ps):ixPV (labI ps L) (.str p)=some (.int (L p)) :=
 bF (f:=id) (g:=fun p=>PV.int (L p)) (l:=ps) (a:=p) (by simpa using nd) h
theorem nR {α:Type} (f:α->Str) (g:α->PV):∀ l:List α,(l.map fun x=>PV.tup [.str (f x),g x]).mapM pairK=some (l.map fun x=>((Sum.inr (f x):Key),g x))
 | []=>rfl
 | x::l=>by rw [List.map_cons,List.mapM_cons,nR f g l]; rfl
theorem mJ {α:Type} (f:α->Str) (g:α->PV):∀ (l done:List α),((done++l).map f).Nodup->(l.map fun x=>((Sum.inr (f x):Key),g x)).foldl (fun acc kv=>putP acc kv.1 kv.2) (done.map fun x=>((Sum.inr (f x):Key),g x))=(done++l).map fun x=>((Sum.inr (f x):Key),g x)
 | [],done,_=>by rw [List.append_nil]; rfl
 | x::l,done,nd=>by
  rw [List.map_cons,List.foldl_cons]
  have hn:f x∉done.map f:=fun z=>by
   rw [List.map_append,List.nodup_append] at nd
   exact nd.2.2 _ z _ (by simp) rfl
  show List.foldl _ (putP _ (Sum.inr (f x)) (g x)) _=_
  rw [io hn]
  have e:(done.map fun x=>((Sum.inr (f x):Key),g x))++[(Sum.inr (f x),g x)]=(done++[x]).map fun x=>((Sum.inr (f x):Key),g x):=by rw [List.map_append]; rfl
  rw [e,mJ f g l (done++[x]) (by rwa [List.append_assoc]),List.append_assoc]; rfl
theorem oe {α:Type} (f:α->Str) (g:α->PV) (l:List α) (nd:(l.map f).Nodup) (hl:l.length<=1000):dictPV [.lst (l.map fun x=>PV.tup [.str (f x),g x])]=some (.dic (l.map fun x=>((Sum.inr (f x):Key),g x))):=by
 show (if (l.map fun x=>PV.tup [.str (f x),g x]).length<=1000 then ((l.map fun x=>PV.tup [.str (f x),g x]).mapM pairK).map (fun kvs=>PV.dic (dispP kvs)) else none)=_
 rw [if_pos (by simpa using hl),nR]
 show some (PV.dic (dispP _))=_
 have:=mJ f g l [] (by simpa using nd)
 rw [List.nil_append] at this
 unfold dispP
 rw [show ([]:List (Key×PV))=([]:List α).map fun x=>((Sum.inr (f x):Key),g x) from rfl,this]
theorem um {ps:List Str} (nd:ps.Nodup):∃ L:Str->Int,(∀ x∈ps,∀ y∈ps,L x=L y->x=y)/\(ps.zipIdx.map fun q=>((Sum.inr q.1:Key),PV.int (q.2:Int)))=ps.map fun p=>((Sum.inr p:Key),PV.int (L p)):=by
 refine ⟨fun p=>(ps.idxOf p:Int),fun x hx y hy e=>?_,?_⟩
 ·have e:((ps.idxOf x:Nat):Int)=(ps.idxOf y:Nat):=e
  have e:ps.idxOf x=ps.idxOf y:=by omega
  have h1:=List.getElem_idxOf (List.idxOf_lt_length_iff.mpr hx)
  have h2:=List.getElem_idxOf (List.idxOf_lt_length_iff.mpr hy)
  rw [<- h1,<- h2]
  congr 1
 ·apply List.ext_getElem?
  intro i
  rw [List.getElem?_map,List.getElem?_map,List.getElem?_zipIdx]
  rcases Nat.lt_or_ge i ps.length with z | z
  ·rw [List.getElem?_eq_getElem z]
   show some ((Sum.inr ps[i]:Key),PV.int ((0+i:Nat):Int))=some (Sum.inr ps[i],PV.int (ps.idxOf ps[i]:Int))
   have hl:=List.idxOf_lt_length_iff.mpr (List.getElem_mem z)
   have:=(List.getElem_inj nd).mp (List.getElem_idxOf hl)
   rw [Nat.zero_add,this]
  ·rw [List.getElem?_eq_none z]; rfl
theorem ne_int (a b:Int):nePV (.int a) (.int b)=some (.bl (!decide (a=b))):=by
 show some (PV.bl (!decide (V.int a=V.int b)))=_
 congr 3
 simp
noncomputable def triPV (t:Tie):PV:=.tup [.int t.cost,.str t.nm,tiePV t]
theorem sQ:∀ os:List Tie,(os.map triPV).mapM fstQ=some (os.map fun u=>(u.cost,u.nm))
 | []=>rfl
 | t::os=>by rw [List.map_cons,List.mapM_cons,sQ os]; rfl
theorem wE {os:List Tie} {ix:List Nat} (ok:IxUp (os.map fun u=>(u.cost,u.nm)) os.length ix):∃ vs:List Tie,vs.Perm os/\vs.Pairwise chp/\(ix.map fun i=>(os.map triPV).getD i .non)=vs.map triPV:=by
 refine ⟨ix.map fun i=>os.getD i t0,jQ ok.len ok.nd ok.lt,?_,iq ok.lt⟩
 refine List.pairwise_map.mpr (List.Pairwise.imp_of_mem (fun hx hy hq=>?_) ok.up)
 exact (nX (ok.lt _ hx) (ok.lt _ hy)).mp hq
theorem lG:∀ {a b:List Tie},a.Perm b->(a.map Tie.nm).Pairwise ltS->(b.map Tie.nm).Pairwise ltS->a=b
 | [],b,p,_,_=>(List.nil_perm.mp p).symm
 | x::a,[],p,_,_=>by have:=p.length_eq; simp at this
 | x::a,y::b,p,ha,hb=>by
  have e:x=y:=Classical.byContradiction fun ne=>by
   rw [List.map_cons,List.pairwise_cons] at ha hb
   have h1:x∈b:=by
    rcases List.mem_cons.mp (p.mem_iff.mp List.mem_cons_self) with z | z
    ·exact absurd z ne
    ·exact z
   have h2:y∈a:=by
    rcases List.mem_cons.mp (p.mem_iff.mpr List.mem_cons_self) with z | z
    ·exact absurd z.symm ne
    ·exact z
   exact gK _ (ml (ha.1 y.nm (List.mem_map_of_mem h2)) (hb.1 x.nm (List.mem_map_of_mem h1)))
  subst e
  rw [List.map_cons,List.pairwise_cons] at ha hb
  rw [lG (List.perm_cons _ |>.mp p) ha.2 hb.2]
theorem lS (xs:List PV) (P:PV->Prop) (h:du xs P):Q.run 8 ck xs P:=by
 obtain ⟨ps,ts,rfl,ok,hp,ht,h⟩:=h
 have pn:=cV ok.rise
 have tn:=bH ok
 obtain ⟨L0,inj0,el0⟩:=um pn
 unfold ck
 refine au fun N hN=>?_
 simp only [sSetO,eCB,aCons,eLC,iET]
 lia
 refine ae (net0 ps ts) ?_
 lia
 have en:enumP (ps.map .str)=ps.zipIdx.map fun q=>PV.tup [.int (q.2:Int),.str q.1]:=by
  unfold enumP
  rw [List.zipIdx_map,List.map_map]; rfl
 rw [en]
 refine b9 (fun x=>match x with | .tup [a,b]=>.tup [b,a] | _=>.non) (fun x hx R hR=>?_) (by simp; omega) ?_
 ·obtain ⟨q,hq,rfl⟩:=List.mem_map.mp hx
  exact ⟨rfl,hR⟩
 rw [List.nil_append,List.map_map]
 have em:(ps.zipIdx.map ((fun x=>match x with | PV.tup [a,b]=>PV.tup [b,a] | _=>.non) ∘ fun q=>PV.tup [.int (q.2:Int),.str q.1]))=ps.zipIdx.map fun q=>PV.tup [.str q.1,.int (q.2:Int)]:=rfl
 rw [em]
 refine ae (oe (fun q=>q.1) (fun q=>PV.int (q.2:Int)) ps.zipIdx (by rw [List.zipIdx_map_fst]; exact pn) (by rw [List.length_zipIdx]; omega)) ?_
 rw [el0]
 show N [some ⟨0,netPV ps ts⟩,some ⟨1,labI ps L0⟩,none,none,none,none,none,none]
 subst hN
 refine au fun N hN=>?_
 show N [some ⟨0,netPV ps ts⟩,some ⟨1,labI ps L0⟩,some ⟨1,.lst []⟩,none,none,none,none,none]
 subst hN
 have oo:∀ u∈ts.filter (opn ps),opn ps u=true:=fun u hu=>(List.mem_filter.mp hu).2
 have ol:(ts.filter (opn ps)).length<=60:=Nat.le_trans (List.length_filter_le _ _) ht
 have ond:((ts.filter (opn ps)).map Tie.nm).Nodup:=tn.sublist (List.filter_sublist.map _)
 refine au fun N hN=>cx fun G B hG hB=>?_
 simp only [iS,eSortQ,aCons,eLC]
 lia
 refine ⟨ps,ts,rfl,by omega,?_⟩
 lia
 refine b9 (fun x=>match x with | .tup [.str a,.str b,.str c,.int d]=>.tup [.int d,.str a,.tup [.str a,.str b,.str c,.int d]] | _=>.non) (fun x hx R hR=>?_) (by simp; omega) ?_
 ·obtain ⟨t,ht',rfl⟩:=List.mem_map.mp hx
  refine ae (z:=.int t.cost) (av (j:=3) rfl) (ae (z:=.str t.nm) (av (j:=0) rfl) ?_)
  exact hR
 rw [List.nil_append,List.map_map]
 have em2:((ts.filter (opn ps)).map ((fun x=>match x with | PV.tup [.str a,.str b,.str c,.int d]=>PV.tup [.int d,.str a,.tup [.str a,.str b,.str c,.int d]] | _=>.non) ∘ tiePV))=(ts.filter (opn ps)).map triPV:=rfl
 rw [em2]
 refine ⟨_,sQ _,by rw [List.map_map]; exact ond,by rw [List.length_map]; omega,fun ix iok=>?_⟩
 rw [List.length_map] at iok
 obtain ⟨vs,pm,up,ev⟩:=wE iok
 rw [ev]
 have vl:vs.length<=60:=by rw [pm.length_eq]; exact ol
 have vo:∀ u∈vs,opn ps u=true:=fun u hu=>oo u (pm.mem_iff.mp hu)
 refine bE (fun j e=>∃ (g:Str->Int) (v3 v4 v5 v6 v7:Option Sl),e=[some ⟨0,netPV ps ts⟩,some ⟨1,labI ps g⟩,some ⟨1,.lst (((vs.take j).filter (minB ps (ts.filter (opn ps)))).map tiePV)⟩,v3,v4,v5,v6,v7]/\Kr ps (vs.take j) g) (i:=0)
  ⟨L0,none,none,none,none,none,rfl,Kr.new inj0⟩ ?_ ?_
 case refine_2 =>
  rintro e ⟨g,v3,v4,v5,v6,v7,rfl,hk⟩
  show N _
  rw [List.length_map,Nat.zero_add,List.take_length]
  subst hN
  simp only [sRet,eSortR]
  lia
  have kp:(vs.filter (minB ps (ts.filter (opn ps)))).Perm (treeT ps ts):=pm.filter _
  have knd:((vs.filter (minB ps (ts.filter (opn ps)))).map Tie.nm).Nodup:=(kp.map Tie.nm).nodup_iff.mpr (tn.sublist ((List.filter_sublist.trans List.filter_sublist).map _))
  generalize vs.filter (minB ps (ts.filter (opn ps)))=ks at kp knd
  have kl:ks.length<=60:=by rw [kp.length_eq]; exact Nat.le_trans (e9 ps ts) ht
  refine ⟨_,pQ ks,knd,by rw [List.length_map]; omega,fun ix il ilt iw=>?_⟩
  rw [List.length_map] at il ilt
  rw [iq (a:=t0) ilt]
  rw [iq (a:=t0) ilt] at iw
  have ind:ix.Nodup:=by
   rw [List.map_map,List.pairwise_map] at iw
   exact List.nodup_iff_pairwise_ne.mpr (iw.imp fun q e=>by rw [e] at q; exact gK _ q)
  have rp:=(jQ il ind ilt).trans kp
  rw [lG rp iw (gg ok)]
  exact h
 rintro j x e M hx ⟨g,v3,v4,v5,v6,v7,rfl,hk⟩ k
 rw [Nat.zero_add] at k hk ⊢
 have hj:j<vs.length:=by have:=(List.getElem?_eq_some_iff.mp hx).1; simpa using this
 obtain ⟨t,et⟩:∃ t,vs[j]?=some t:=⟨_,List.getElem?_eq_getElem hj⟩
 have ex:x=triPV t:=by
  rw [List.getElem?_map,et] at hx
  exact (Option.some.inj hx).symm
 have tv:t∈vs:=List.mem_of_getElem? et
 have ot:=vo t tv
 obtain ⟨o1,o2⟩:=opn_iff.mp ot
 have etk:vs.take (j+1)=vs.take j++[t]:=by rw [List.take_succ,et]; rfl
 have oX:∀ u∈vs.take j,opn ps u=true:=fun u hu=>vo u (List.mem_of_mem_take hu)
 have hm:∀ u,u∈vs.take j↔u∈below (ts.filter (opn ps)) t:=fun u=>by
  rw [below_mem,<- pm.mem_iff]
  have hpw:=List.pairwise_iff_getElem.mp up
  have etj:vs[j]=t:=by rw [List.getElem?_eq_getElem hj] at et; exact Option.some.inj et
  constructor
  ·intro hu
   obtain ⟨i,hi,e⟩:=List.mem_iff_getElem.mp hu
   rw [List.getElem_take] at e
   have hij:i<j:=by rw [List.length_take] at hi; omega
   refine ⟨List.mem_of_mem_take hu,?_⟩
   rw [<- e,<- etj]
   exact hpw i j (by omega) hj hij
  ·rintro ⟨hu,hc⟩
   obtain ⟨i,hi,e⟩:=List.mem_iff_getElem.mp hu
   rcases Nat.lt_trichotomy i j with z | z | z
   ·rw [List.mem_iff_getElem]
    exact ⟨i,by rw [List.length_take]; omega,by rw [List.getElem_take]; exact e⟩
   ·subst z
    rw [etj] at e; subst e
    exact absurd hc (da _)
   ·have:=hpw j i hj hi z
    rw [etj,e] at this
    exact absurd hc (qV this)
 have mn:=Kr.min oX oo ot hk hm
 have st:=Kr.two oX ot pn hk (.inr ⟨rfl,rfl⟩)
 rw [<- etk] at st
 subst ex hG hB
 have fe:(vs.take (j+1)).filter (minB ps (ts.filter (opn ps)))=(vs.take j).filter (minB ps (ts.filter (opn ps)))++(if minB ps (ts.filter (opn ps)) t=true then [t] else []):=by
  rw [etk,List.filter_append]
  congr 1
  rw [List.filter_cons,List.filter_nil]
 have kl:((vs.take j).filter (minB ps (ts.filter (opn ps)))).length<=60:=Nat.le_trans (List.length_filter_le _ _) (by rw [List.length_take]; omega)
 have i1:ixPV (tiePV t) (.int 1)=some (.str t.one):=av (j:=1) rfl
 have i2:ixPV (tiePV t) (.int 2)=some (.str t.oth):=av (j:=2) rfl
 unfold triPV
 generalize htv:tiePV t=tv' at i1 i2
 simp only [gT,gsCons,gN,gsNil]
 lia
 simp only [eOpS]
 lia
 refine ae i1 ?_
 try lia
 refine ae (mr pn o1) ?_
 try lia
 refine ae i2 ?_
 try lia
 refine ae (mr pn o2) ?_
 try lia
 refine ae (ne_int _ _) ?_
 lia
 by_cases hg:g t.one=g t.oth
 ·rw [decide_eq_true hg,Bool.not_true,if_neg (by simp)]
  refine k _ ⟨g,some ⟨0,.int t.cost⟩,some ⟨0,.str t.nm⟩,some ⟨0,tv'⟩,some ⟨0,.int (g t.one)⟩,some ⟨0,.int (g t.oth)⟩,?_,st.1 hg.symm⟩
  rw [fe,if_neg (fun z=>(mn.mpr (minB_iff.mp z)) hg),List.append_nil]
 ·rw [decide_eq_false hg,Bool.not_false,if_pos rfl]
  refine ae (mApp (by simp; omega)) ?_
  simp only [eD]
  lia
  show lcGo _ _ _ _ _ ((ps.map fun p=>((Sum.inr p:Key),PV.int (g p))).map pairP) _ []
  rw [List.map_map]
  have em3:(pairP ∘ fun p=>((Sum.inr p:Key),PV.int (g p)))=fun p=>PV.tup [.str p,.int (g p)]:=rfl
  rw [em3]
  refine b9 (fun x=>match x with | .tup [.str p,.int m]=>.tup [.str p,.int (if m=g t.one then g t.oth else m)] | _=>.non) (fun x hx R hR=>?_) (by simp; omega) ?_
  ·obtain ⟨p,hp',rfl⟩:=List.mem_map.mp hx
   refine ⟨rfl,?_⟩
   show opt (eqqPV (.int (g p)) (.int (g t.one))) _
   refine ae (bM _ _) ?_
   show opt (some (decide (g p=g t.one))) _
   refine opt_some.mpr ?_
   by_cases z:g p=g t.one
   ·rw [decide_eq_true z]
    have hR':R (.tup [.str p,.int (if g p=g t.one then g t.oth else g p)]) _:=hR
    rw [if_pos z] at hR'
    exact hR'
   ·rw [decide_eq_false z]
    have hR':R (.tup [.str p,.int (if g p=g t.one then g t.oth else g p)]) _:=hR
    rw [if_neg z] at hR'
    exact hR'
  rw [List.nil_append,List.map_map]
  have em4:(ps.map ((fun x=>match x with | PV.tup [.str p,.int m]=>PV.tup [.str p,.int (if m=g t.one then g t.oth else m)] | _=>.non) ∘ fun p=>PV.tup [.str p,.int (g p)]))=ps.map fun p=>PV.tup [.str (id p),.int (if g p=g t.one then g t.oth else g p)]:=rfl
  rw [em4]
  refine ae (oe id (fun p=>PV.int (if g p=g t.one then g t.oth else g p)) ps (by simpa using pn) (by omega)) ?_
  refine k _ ⟨fun p=>if g p=g t.one then g t.oth else g p,some ⟨0,.int t.cost⟩,some ⟨0,.str t.nm⟩,some ⟨0,tv'⟩,some ⟨0,.int (g t.one)⟩,some ⟨0,.int (g t.oth)⟩,?_,st.2 (Ne.symm hg)⟩
  rw [fe,if_pos (minB_iff.mpr (mn.mp hg)),List.map_append,<- htv]
  rfl
end Pre
namespace Pre
open PySem L2 Q
theorem me (x:Str) (ys:List Str):ninPV (.str x) (.tup (ys.map .str))=some (.bl (!decide (x∈ys))):=by
 show (inB _ _).map _=_
 rw [jS]; rfl
theorem sZ {cs:Cs} (nd:(cks cs).Nodup) {i j:Nat} {a:Str} {v w:Option (Str×Str)} (h1:cs[i]?=some (a,v)) (h2:cs[j]?=some (a,w)):i=j:=by
 have g1:(cks cs)[i]?=some a:=by rw [List.getElem?_map,h1]; rfl
 have g2:(cks cs)[j]?=some a:=by rw [List.getElem?_map,h2]; rfl
 obtain ⟨i1,i2⟩:=List.getElem?_eq_some_iff.mp g1
 obtain ⟨j1,j2⟩:=List.getElem?_eq_some_iff.mp g2
 exact (List.getElem_inj nd).mp (i2.trans j2.symm)
theorem wH {cs:Cs} (nd:(cks cs).Nodup) {i:Nat} {a:Str} {v:Option (Str×Str)} (h:cs[i]?=some (a,v)):ixPV (camePV cs) (.str a)=some (cvPV v):=by
 have:=bF (f:=fun c:Str×Option (Str×Str)=>c.1) (g:=fun c=>cvPV c.2) (l:=cs) (a:=(a,v)) nd (List.mem_of_getElem? h)
 exact this
theorem sY {cs:Cs} {y:Str} (h:y∈cks cs):∃ (i:Nat) (v:Option (Str×Str)),cs[i]?=some (y,v):=by
 obtain ⟨c,hc,rfl⟩:=List.mem_map.mp h
 obtain ⟨i,hi,e⟩:=List.mem_iff_getElem.mp hc
 exact ⟨i,c.2,by rw [List.getElem?_eq_getElem hi,e]⟩
theorem tV (xs:List PV) (P:PV->Prop) (h:j8 xs P):Q.run 8 gz xs P:=by
 obtain ⟨ps,ts,fs,one,oth,rfl,nt,tn,fl,h1,h2,hN,hW⟩:=h
 have snd:((someT ps fs ts).map Tie.nm).Nodup:=tn.sublist ((List.filter_sublist.trans List.filter_sublist:(someT ps fs ts).Sublist ts).map _)
 unfold gz
 refine au fun N hN'=>?_
 lia
 refine ⟨ps,fs,ts,.inl rfl,nt.tl,fl,?_⟩
 refine ⟨ps,ts.filter (nmIn fs),rfl,⟨nt.rise,fun t ht=>nt.ne t (List.mem_filter.mp ht).1,nt.pl,Nat.le_trans (List.length_filter_le _ _) nt.tl⟩,?_⟩
 refine ⟨ps,adj ps (ts.filter (nmIn fs)),oth,rfl,cV nt.rise,h2,fun p hp q hq=>oJ q hq,by have:=nt.pl; omega,fun cs ok sub cl=>?_⟩
 have cl60:cs.length<=60:=by
  have:=bD ok.nd sub
  rw [List.length_map] at this
  have:=nt.pl
  omega
 subst hN'
 refine au fun N hN'=>?_
 lia
 refine ae nU ?_
 by_cases hc:one∈cks cs
 case neg =>
  rw [qU hc]
  lia
  exact hN fun r=>hc ((ok.iff cl).mpr r)
 obtain ⟨c,_,_,ec⟩:=oz ok.nd hc
 rw [ec]
 lia
 show N _
 subst hN'
 refine au fun N hN'=>?_
 lia
 subst hN'
 refine au fun N hN'=>?_
 lia
 subst hN'
 refine au fun N hN'=>fN fun C B hC hB=>?_
 obtain ⟨k0,w0,hk0⟩:=sY hc
 refine fV (fun k e=>∃ (ns:List Str) (y:Str) (w:Option (Str×Str)) (v7:Option Sl),e=[some ⟨0,netPV ps ts⟩,some ⟨0,.tup (fs.map .str)⟩,some ⟨0,.str one⟩,some ⟨0,.str oth⟩,some ⟨0,camePV cs⟩,some ⟨1,.lst (ns.map .str)⟩,some ⟨0,.str y⟩,v7]/\cs[k]?=some (y,w)/\Wk (someT ps fs ts) one ns y/\ns.Nodup/\ns.length+k<=60/\∀ n∈ns,∃ i,k<i/\∃ y' x',cs[i]?=some (y',some (n,x'))) ?_ (k:=k0)
  ⟨[],one,w0,none,rfl,hk0,rfl,by simp,by have:=(List.getElem?_eq_some_iff.mp hk0).1; simp; omega,by simp⟩
 rintro k e M ⟨ns,y,w,v7,rfl,hk,hw,nd,hl,hu⟩ km
 subst hC
 lia
 refine ae (nV _ _) ?_
 lia
 by_cases e:y=oth
 ·rw [decide_eq_true e]
  lia
  show N _
  subst hN'
  lia
  refine ae rfl (hW ns (e ▸ hw) nd (by omega))
 rw [decide_eq_false e]
 lia
 rcases ok.tree k _ hk with ⟨rfl,e2⟩ | ⟨_,nm,x,e2,e3,e4⟩
 ·cases e2; exact absurd rfl e
 have e2:w=some (nm,x):=e2
 subst e2
 obtain ⟨j,w',hj⟩:=sY e4
 have hjk:j<k:=by
  have:=(List.getElem?_eq_some_iff.mp hj).1
  rw [List.length_take] at this; omega
 have hj':cs[j]?=some (x,w'):=by rw [List.getElem?_take_of_lt hjk] at hj; exact hj
 obtain ⟨t,ht,en,q⟩:=((my ps fs ts).mem _ _ _).mp e3
 have nin:nm∉ns:=fun z=>by
  obtain ⟨i,hi,y',x',hy⟩:=hu nm z
  rcases ok.tree i _ hy with ⟨rfl,_⟩ | ⟨_,nm',x2,g2,g3,g4⟩
  ·exact absurd hi (Nat.not_lt_zero _)
  ·cases g2
   obtain ⟨t',ht',en',q'⟩:=((my ps fs ts).mem _ _ _).mp g3
   have:t=t':=cI snd ht ht' (en.symm.trans en')
   subst this
   rcases Ends.two q q' with ⟨_,z2⟩ | ⟨_,z2⟩
   ·have z2:y'=y:=z2
    subst z2
    have:=sZ ok.nd hk hy; omega
   ·have z2:y'=x:=z2
    subst z2
    have:=sZ ok.nd hj' hy; omega
 subst hB
 refine au fun M' hM'=>?_
 lia
 refine ae (wH ok.nd hk) ⟨rfl,?_⟩
 show M' [some ⟨0,netPV ps ts⟩,some ⟨0,.tup (fs.map .str)⟩,some ⟨0,.str one⟩,some ⟨0,.str oth⟩,some ⟨0,camePV cs⟩,some ⟨1,.lst (ns.map .str)⟩,some ⟨0,.str x⟩,some ⟨0,.str nm⟩]
 subst hM'
 lia
 refine ae (mApp (by rw [List.length_map]; omega)) ?_
 refine km j _ hjk ⟨ns++[nm],x,w',some ⟨0,.str nm⟩,by rw [List.map_append]; rfl,hj',hw.app ⟨t,ht,en.symm,x,Ends.sym q,rfl⟩,?_,by simp; omega,fun n hn=>?_⟩
 ·rw [List.nodup_append]
  exact ⟨nd,by simp,fun a ha b hb=>by simp at hb; subst hb; exact fun e=>nin (e ▸ ha)⟩
 ·rcases List.mem_append.mp hn with z | z
  ·obtain ⟨i,hi,r⟩:=hu n z
   exact ⟨i,by omega,r⟩
  ·simp at z; subst z
   exact ⟨k,hjk,y,x,hk⟩
theorem mZ (xs:List PV) (P:PV->Prop) (h:dN xs P):Q.run 3 cz xs P:=by
 obtain ⟨ps,ts,rfl,ok,hp,ht,h⟩:=h
 have nd:=bH ok
 have ol:(outT ps ts).length<=60:=Nat.le_trans (List.length_filter_le _ _) (Nat.le_trans (List.length_filter_le _ _) ht)
 unfold cz
 refine au fun N hN=>?_
 lia
 refine ae (net1 ps ts) ?_
 lia
 refine cv (fun x=>match x with | .tup [.str a,.str b,.str c,.int d]=>if (opn ps ⟨a,b,c,d⟩ && !nmIn (minN ps ts) ⟨a,b,c,d⟩)=true then some (.tup [.str a,.str b,.str c,.int d]) else none | _=>none) (fun x hx R hR=>?_) (by simp; omega) ?_
 ·obtain ⟨t,ht',rfl⟩:=List.mem_map.mp hx
  replace hR:R (if (opn ps t && !nmIn (minN ps ts) t)=true then some (tiePV t) else none) [some ⟨0,netPV ps ts⟩,some ⟨0,.tup ((minN ps ts).map .str)⟩,none]:=hR
  refine ⟨ps,ts,t,rfl,?_⟩
  show opt (some (opn ps t)) _
  rw [bQ]
  cases e:opn ps t with
  | false=>rw [e,Bool.false_and] at hR; exact hR
  | true =>
   rw [e,Bool.true_and] at hR
   refine ae (z:=.str t.nm) (av (j:=0) rfl) (ae (me _ _) ?_)
   show opt (some (!nmIn (minN ps ts) t)) _
   rw [bQ]
   cases e2:nmIn (minN ps ts) t with
   | false=>rw [e2] at hR; exact hR
   | true=>rw [e2] at hR; exact hR
 rw [List.nil_append,List.filterMap_map]
 have e:ts.filterMap ((fun x=>match x with | PV.tup [.str a,.str b,.str c,.int d]=>if (opn ps ⟨a,b,c,d⟩ && !nmIn (minN ps ts) ⟨a,b,c,d⟩)=true then some (.tup [.str a,.str b,.str c,.int d]) else none | _=>none) ∘ tiePV)=(ts.filter fun t=>opn ps t && !nmIn (minN ps ts) t).map tiePV:=bx (fun t=>opn ps t && !nmIn (minN ps ts) t) tiePV ts
 have e2:(ts.filter fun t=>opn ps t && !nmIn (minN ps ts) t)=outT ps ts:=by
  unfold outT
  rw [List.filter_filter]
  exact List.filter_congr fun t _=>Bool.and_comm _ _
 rw [e,e2]
 show N [some ⟨0,netPV ps ts⟩,some ⟨0,.tup ((minN ps ts).map .str)⟩,some ⟨0,.lst ((outT ps ts).map tiePV)⟩]
 subst hN
 lia
 refine b9 (fun x=>match x with | .tup [.str a,.str b,.str c,.int d]=>wayPV ps ts ⟨a,b,c,d⟩ | _=>.non) (fun x hx R hR=>?_) (by simp; omega) ?_
 ·obtain ⟨t,ht',rfl⟩:=List.mem_map.mp hx
  replace hR:R (wayPV ps ts t) [some ⟨0,netPV ps ts⟩,some ⟨0,.tup ((minN ps ts).map .str)⟩,some ⟨0,.lst ((outT ps ts).map tiePV)⟩]:=hR
  have to:=(List.mem_filter.mp ht').1
  have ot:=opn_iff.mp (List.mem_filter.mp to).2
  refine ae (z:=.str t.nm) (av (j:=0) rfl) (ae (z:=.str t.one) (av (j:=1) rfl) (ae (z:=.str t.oth) (av (j:=2) rfl) ?_))
  refine ⟨ps,ts,minN ps ts,t.one,t.oth,rfl,wD ok hp ht,nd,?_,ot.1,ot.2,fun nr=>?_,fun ns w d hl=>?_⟩
  ·have:=e9 ps ts
   rw [dB,List.length_map]; omega
  ·rw [iO nd] at nr
   exact absurd ((gofO bB).rsym (fQ _ t to (Nat.lt_succ_self _))) nr
  ·rw [pT nd] at w
   have e:=nq ok w d
   subst e
   exact hR
 ·rw [List.nil_append,List.map_map]
  have e:((outT ps ts).map ((fun x=>match x with | PV.tup [.str a,.str b,.str c,.int d]=>wayPV ps ts ⟨a,b,c,d⟩ | _=>.non) ∘ tiePV))=(outT ps ts).map (wayPV ps ts):=rfl
  rw [e]
  exact ae rfl h
theorem rS (T:Addr) (c:PV) (xs:List PV) (P:PV->PV->Prop) (h:iJ T c xs P):Q.runT 1 (eR T) c xs P:=by
 obtain ⟨rfl,ps,ts,rfl,ok,hp,ht,h⟩:=h
 unfold eR
 simp only [runT,hid,startE,endT,obN]
 lia
 simp only [eCallT]
 lia
 refine ⟨rfl,ps,ts,rfl,ok,hp,ht,?_⟩
 lia
 exact ⟨ps,ts,rfl,ok,hp,ht,h⟩
end Pre
namespace Pre
open PySem L2 Q
noncomputable abbrev Rows1:=List (Str×List Str)
structure Rw (os:List Tie) (one oth:Str) (i:Nat) (js:List Tie) (R:Rows1):Prop where
 wk:∀ r∈R,Wk os one r.2 r.1/\r.2.Nodup
 nd:(R.map (·.2)).Nodup
 rt:(one,[])∈R
 par:∀ r∈R,r.2=[]\/∃ (k:Nat) (r':Str×List Str) (m:Str),k<=i/\R[k]?=some r'/\r.2=r'.2++[m]/\(k=i->m∈js.map Tie.nm)
 cl:∀ (k:Nat) (r:Str×List Str),R[k]?=some r->k<i->r.1≠oth/\∀ t∈os,t.nm∉r.2->∀ c,Ends t r.1 c->(c,r.2++[t.nm])∈R
 cj:∀ r:Str×List Str,R[i]?=some r->∀ t∈js,t.nm∉r.2->∀ c,Ends t r.1 c->(c,r.2++[t.nm])∈R
section
variable {os:List Tie} {one oth:Str} {i:Nat} {js:List Tie} {R:Rows1}
theorem Rw.new:Rw os one oth 0 [] [(one,[])]:=by
 refine ⟨fun r hr=>?_,by simp,by simp,fun r hr=>?_,fun k r _ h=>absurd h (Nat.not_lt_zero _),fun r _ t ht=>by simp at ht⟩
 ·rw [List.mem_singleton.mp hr]; exact ⟨rfl,by simp⟩
 ·rw [List.mem_singleton.mp hr]; exact .inl rfl
theorem Rw.next (h:Rw os one oth i os R) {r:Str×List Str} (hr:R[i]?=some r) (ho:r.1≠oth):Rw os one oth (i+1) [] R:=by
 refine ⟨h.wk,h.nd,h.rt,fun s hs=>?_,fun k s hk hl=>?_,fun s _ t ht=>by simp at ht⟩
 ·rcases h.par s hs with z | ⟨k,r',m,k1,k2,k3,_⟩
  ·exact .inl z
  ·exact .inr ⟨k,r',m,by omega,k2,k3,fun e=>by omega⟩
 ·rcases Nat.lt_or_ge k i with z | z
  ·exact h.cl k s hk z
  ·have e:k=i:=by omega
   rw [e] at hk
   have e2:s=r:=Option.some.inj (hk.symm.trans hr)
   rw [e2]
   exact ⟨ho,h.cj r hr⟩
theorem Rw.skip (h:Rw os one oth i js R) {r:Str×List Str} (hr:R[i]?=some r) {t:Tie} (hs:t.nm∈r.2\/∀ c,¬ Ends t r.1 c):Rw os one oth i (js++[t]) R:=by
 refine ⟨h.wk,h.nd,h.rt,fun s hs'=>?_,h.cl,fun s hk u hu hn c hc=>?_⟩
 ·rcases h.par s hs' with z | ⟨k,r',m,k1,k2,k3,k4⟩
  ·exact .inl z
  ·exact .inr ⟨k,r',m,k1,k2,k3,fun e=>by rw [List.map_append]; exact List.mem_append_left _ (k4 e)⟩
 ·rcases List.mem_append.mp hu with z | z
  ·exact h.cj s hk u z hn c hc
  ·rw [hr] at hk; cases hk
   rw [List.mem_singleton.mp z] at hn hc
   rcases hs with q | q
   ·exact absurd q hn
   ·exact absurd hc (q c)
theorem Rw.add (h:Rw os one oth i js R) {r:Str×List Str} (hr:R[i]?=some r) {t:Tie} {c:Str} (ht:t∈os) (ne:t.one≠t.oth) (hn:t.nm∉r.2) (hc:Ends t r.1 c) (hj:t.nm∉js.map Tie.nm):Rw os one oth i (js++[t]) (R++[(c,r.2++[t.nm])]):=by
 have hm:r∈R:=List.mem_of_getElem? hr
 have il:i<R.length:=(List.getElem?_eq_some_iff.mp hr).1
 have old:∀ (k:Nat) (s:Str×List Str),k<R.length->(R++[(c,r.2++[t.nm])])[k]?=some s->R[k]?=some s:=fun k s hk e=>by rwa [List.getElem?_append_left hk] at e
 obtain ⟨w,d⟩:=h.wk r hm
 have new:r.2++[t.nm]∉R.map (·.2):=fun z=>by
  obtain ⟨s,hs,e⟩:=List.mem_map.mp z
  rcases h.par s hs with q | ⟨k,r',m,k1,k2,k3,k4⟩
  ·have e:s.2=r.2++[t.nm]:=e
   rw [q] at e
   exact absurd e (by simp)
  ·have e:s.2=r.2++[t.nm]:=e
   rw [e] at k3
   have q:=List.append_inj' k3 rfl
   have ki:k=i:=by
    have g1:(R.map (·.2))[k]?=some r'.2:=by rw [List.getElem?_map,k2]; rfl
    have g2:(R.map (·.2))[i]?=some r.2:=by rw [List.getElem?_map,hr]; rfl
    obtain ⟨a1,a2⟩:=List.getElem?_eq_some_iff.mp g1
    obtain ⟨b1,b2⟩:=List.getElem?_eq_some_iff.mp g2
    exact (List.getElem_inj h.nd).mp (a2.trans (q.1.symm.trans b2.symm))
   have m1:t.nm=m:=by simpa using q.2
   exact hj (m1 ▸ k4 ki)
 refine ⟨fun s hs=>?_,?_,List.mem_append_left _ h.rt,fun s hs=>?_,fun k s hk hl=>?_,fun s hk u hu hn' c' hc'=>?_⟩
 ·rcases List.mem_append.mp hs with z | z
  ·exact h.wk s z
  ·rw [List.mem_singleton.mp z]
   refine ⟨w.app ⟨t,ht,rfl,c,hc,rfl⟩,?_⟩
   rw [List.nodup_append]
   exact ⟨d,by simp,fun a ha b hb e=>hn (by rw [List.mem_singleton.mp hb] at e; exact e ▸ ha)⟩
 ·rw [List.map_append,List.nodup_append]
  exact ⟨h.nd,by simp,fun a ha b hb e=>new (by
   have hb:b=r.2++[t.nm]:=by simpa using hb
   rw [hb] at e; exact e ▸ ha)⟩
 ·rcases List.mem_append.mp hs with z | z
  ·rcases h.par s z with q | ⟨k,r',m,k1,k2,k3,k4⟩
   ·exact .inl q
   ·refine .inr ⟨k,r',m,k1,?_,k3,fun e=>by rw [List.map_append]; exact List.mem_append_left _ (k4 e)⟩
    rw [List.getElem?_append_left (by omega)]; exact k2
  ·rw [List.mem_singleton.mp z]
   refine .inr ⟨i,r,t.nm,Nat.le_refl _,?_,rfl,fun _=>by rw [List.map_append]; exact List.mem_append_right _ (by simp)⟩
   rw [List.getElem?_append_left il]; exact hr
 ·obtain ⟨a,b⟩:=h.cl k s (old k s (by omega) hk) hl
  exact ⟨a,fun u hu hn c hc=>List.mem_append_left _ (b u hu hn c hc)⟩
 ·have hk:=old i s il hk
  rcases List.mem_append.mp hu with z | z
  ·exact List.mem_append_left _ (h.cj s hk u z hn' c' hc')
  ·rw [hr] at hk; cases hk
   rw [List.mem_singleton.mp z] at hn' hc' ⊢
   rw [Ends.one ne hc' hc]
   exact List.mem_append_right _ (by simp)
theorem Rw.full (h:Rw os one oth i [] R) (hl:R.length<=i):∀ (n:Nat) (ns:List Str) (v:Str),ns.length=n->Wk os one ns v->ns.Nodup->(v,ns)∈R
 | 0,ns,v,e,w,_=>by
  have:=List.length_eq_zero_iff.mp e
  subst this
  cases w
  exact h.rt
 | n+1,ns,v,e,w,d=>by
  obtain ⟨ms,m,rfl⟩:∃ ms m,ns=ms++[m]:=⟨ns.dropLast,ns.getLast (fun z=>by rw [z] at e; simp at e),(List.dropLast_concat_getLast _).symm⟩
  obtain ⟨b,w1,t,ht,et,c,q,w2⟩:=w.cut
  have w2:c=v:=w2
  subst w2
  obtain ⟨d1,_,d2⟩:=List.nodup_append.mp d
  have ih:=Rw.full h hl n ms b (by simpa using e) w1 d1
  obtain ⟨k,hk,ek⟩:=List.mem_iff_getElem.mp ih
  have:=(h.cl k (b,ms) (by rw [List.getElem?_eq_getElem hk,ek]) (by omega)).2 t ht (fun z=>d2 _ z _ (by simp) et) c q
  rwa [et] at this
theorem Rw.len (h:Rw os one oth i js R) {ps:List Str} (nd:(os.map Tie.nm).Nodup) (ne:∀ t∈os,t.one≠t.oth) (ac:Acyc os) (oo:∀ t∈os,opn ps t=true) (ho:one∈ps):R.length<=ps.length:=by
 have fn:(R.map (·.1)).Nodup:=by
  rw [List.nodup_iff_pairwise_ne,List.pairwise_iff_getElem]
  intro a b ha hb hab e
  rw [List.length_map] at ha hb
  rw [List.getElem_map,List.getElem_map] at e
  obtain ⟨w1,d1⟩:=h.wk R[a] (List.getElem_mem _)
  obtain ⟨w2,d2⟩:=h.wk R[b] (List.getElem_mem _)
  rw [<- e] at w2
  have q:=lu nd ne ac w1 w2 d1 d2
  have:(R.map (·.2))[a]'(by rwa [List.length_map])=(R.map (·.2))[b]'(by rwa [List.length_map]):=by rw [List.getElem_map,List.getElem_map]; exact q
  have:=(List.getElem_inj h.nd).mp this
  omega
 have:=bD fn fun v hv=>(by
  obtain ⟨r,hr,rfl⟩:=List.mem_map.mp hv
  exact Rch.inn (ls (gofO oo) (h.wk r hr).1) ho fun p _ q hq=>oJ q hq:v∈ps)
 rwa [List.length_map] at this
end
noncomputable def rowPV (r:Str×List Str):PV:=.tup [.str r.1,.tup (r.2.map .str)]
theorem vQ (x a b:Str):inPV (.str x) (.tup [.str a,.str b])=some (.bl (decide (x=a\/x=b))):=by
 have:=ce (ys:=[a,b]) (x:=x)
 have e:decide (x∈[a,b])=decide (x=a\/x=b):=by simp
 rw [<- e]
 exact this
theorem tW (xs:List PV) (P:PV->Prop) (h:j9 xs P):Q.run 11 gA xs P:=by
 obtain ⟨ps,os,one,oth,rfl,nd,ol,oo,ac,hp,h1,⟨ns0,w0,d0⟩,h⟩:=h
 have ne:∀ t∈os,t.one≠t.oth:=fun t ht=>(oo t ht).1
 have op:∀ t∈os,opn ps t=true:=fun t ht=>(oo t ht).2
 unfold gA
 refine au fun N hN=>?_
 show N [some ⟨0,.lst (os.map tiePV)⟩,some ⟨0,.str one⟩,some ⟨0,.str oth⟩,some ⟨1,.lst ([(one,[])].map rowPV)⟩,none,none,none,none,none,none,none]
 subst hN
 refine au fun N hN=>?_
 show N [some ⟨0,.lst (os.map tiePV)⟩,some ⟨0,.str one⟩,some ⟨0,.str oth⟩,some ⟨1,.lst ([(one,[])].map rowPV)⟩,some ⟨0,.int ((0:Nat):Int)⟩,none,none,none,none,none,none]
 subst hN
 refine au fun N hN=>fN fun C B hC hB=>?_
 refine fV (fun k e=>∃ (R:Rows1) (i:Nat) (v5 v6 v7 v8 v9 v10:Option Sl),e=[some ⟨0,.lst (os.map tiePV)⟩,some ⟨0,.str one⟩,some ⟨0,.str oth⟩,some ⟨1,.lst (R.map rowPV)⟩,some ⟨0,.int (i:Int)⟩,v5,v6,v7,v8,v9,v10]/\Rw os one oth i [] R/\k=ps.length+1 - i) (k:=ps.length+1) ?_ ⟨[(one,[])],0,none,none,none,none,none,none,rfl,Rw.new,rfl⟩
 rintro k e M ⟨R,i,v5,v6,v7,v8,v9,v10,rfl,rw1,rfl⟩ km
 subst hC
 have rl:=rw1.len nd ne ac op h1
 lia
 rw [List.length_map]
 by_cases hi:(i:Int)<R.length
 case neg =>
  exfalso
  have hm:=rw1.full (by omega) _ ns0 oth rfl w0 d0
  obtain ⟨k,hk,ek⟩:=List.mem_iff_getElem.mp hm
  exact (rw1.cl k _ (by rw [List.getElem?_eq_getElem hk,ek]) (by omega)).1 rfl
 rw [decide_eq_true hi,if_pos rfl]
 have hi':i<R.length:=by omega
 obtain ⟨r,hr⟩:∃ r,R[i]?=some r:=⟨_,List.getElem?_eq_getElem hi'⟩
 obtain ⟨rw2,rd⟩:=rw1.wk r (List.mem_of_getElem? hr)
 subst hB
 refine au fun M' hM'=>?_
 simp only [sAsg,eOpS]
 lia
 refine ae (z:=rowPV r) (av (by rw [List.getElem?_map,hr]; rfl)) ?_
 refine ⟨rfl,?_⟩
 show M' [some ⟨0,.lst (os.map tiePV)⟩,some ⟨0,.str one⟩,some ⟨0,.str oth⟩,some ⟨1,.lst (R.map rowPV)⟩,some ⟨0,.int (i:Int)⟩,some ⟨0,.str r.1⟩,some ⟨0,.tup (r.2.map .str)⟩,v7,v8,v9,v10]
 subst hM'
 refine au fun M' hM'=>?_
 lia
 refine ae (eq_str _ _) ?_
 lia
 by_cases hq:r.1=oth
 ·rw [if_pos (beq_iff_eq.mpr hq)]
  exact h r.2 (hq ▸ rw2) rd
 rw [if_neg (by simpa using hq)]
 subst hM'
 refine au fun M' hM'=>cx fun G B hG hB=>?_
 lia
 refine bE (fun j e=>∃ (R':Rows1) (v7 v8 v9 v10:Option Sl),e=[some ⟨0,.lst (os.map tiePV)⟩,some ⟨0,.str one⟩,some ⟨0,.str oth⟩,some ⟨1,.lst (R'.map rowPV)⟩,some ⟨0,.int (i:Int)⟩,some ⟨0,.str r.1⟩,some ⟨0,.tup (r.2.map .str)⟩,v7,v8,v9,v10]/\Rw os one oth i (os.take j) R'/\R'[i]?=some r) (i:=0) ⟨R,v7,v8,v9,v10,rfl,rw1,hr⟩ ?_ ?_
 case refine_2 =>
  rintro e ⟨R',w7,w8,w9,w10,rfl,rwj,hr'⟩
  rw [List.length_map,Nat.zero_add,List.take_length] at rwj
  show M' _
  subst hM'
  lia
  refine ae bf ?_
  exact km (ps.length+1 - (i+1)) _ (by omega) ⟨R',i+1,_,_,_,_,_,_,rfl,rwj.next hr' hq,rfl⟩
 rintro j x e M2 hj ⟨R',w7,w8,w9,w10,rfl,rwj,hr'⟩ k
 rw [Nat.zero_add] at k rwj
 have hjl:j<os.length:=by have:=(List.getElem?_eq_some_iff.mp hj).1; simpa using this
 obtain ⟨t,et⟩:∃ t,os[j]?=some t:=⟨_,List.getElem?_eq_getElem hjl⟩
 have ex:x=tiePV t:=by
  rw [List.getElem?_map,et] at hj
  exact (Option.some.inj hj).symm
 have tm:t∈os:=List.mem_of_getElem? et
 have etk:os.take (j+1)=os.take j++[t]:=by rw [List.take_succ,et]; rfl
 have rl':=rwj.len nd ne ac op h1
 have nj:t.nm∉(os.take j).map Tie.nm:=fun z=>by
  rw [List.map_take] at z
  obtain ⟨a,ha,e⟩:=List.mem_take_iff_getElem.mp z
  have g:(os.map Tie.nm)[j]'(by rw [List.length_map]; exact hjl)=t.nm:=by
   rw [List.getElem_map]
   rw [List.getElem?_eq_getElem hjl] at et
   rw [Option.some.inj et]
  have:=(List.getElem_inj nd).mp (e.trans g.symm)
  omega
 subst ex hG hB
 rw [etk] at k
 generalize os.map tiePV=ov at k ⊢
 unfold tiePV
 lia
 refine ae (me _ _) ?_
 lia
 by_cases c1:t.nm∈r.2
 ·rw [decide_eq_true c1]
  lia
  exact k _ ⟨R',_,_,_,_,rfl,rwj.skip hr' (.inl c1),hr'⟩
 rw [decide_eq_false c1]
 lia
 refine ae (vQ _ _ _) ?_
 lia
 by_cases c2:r.1=t.one\/r.1=t.oth
 case neg =>
  rw [decide_eq_false c2]
  lia
  refine k _ ⟨R',_,_,_,_,rfl,rwj.skip hr' (.inr fun c hc=>c2 ?_),hr'⟩
  rcases hc with ⟨a,_⟩ | ⟨a,_⟩
  ·exact .inl a.symm
  ·exact .inr a.symm
 rw [decide_eq_true c2]
 lia
 simp only [eIf]
 lia
 refine ae (eq_str _ _) ?_
 lia
 have ln:(R'.map rowPV).length<=100000:=by rw [List.length_map]; omega
 have al:(r.2.map PV.str).length+[PV.str t.nm].length<=100000:=by
  have:=pF rw2 rd
  rw [List.length_map]
  simp; omega
 have push:∀ c:Str,Ends t r.1 c->M2 [some ⟨0,.lst ov⟩,some ⟨0,.str one⟩,some ⟨0,.str oth⟩,some ⟨1,.lst (R'.map rowPV++[.tup [.str c,.tup (r.2.map .str++[.str t.nm])]])⟩,some ⟨0,.int (i:Int)⟩,some ⟨0,.str r.1⟩,some ⟨0,.tup (r.2.map .str)⟩,some ⟨0,.str t.nm⟩,some ⟨0,.str t.one⟩,some ⟨0,.str t.oth⟩,some ⟨0,.int t.cost⟩]:=fun c hc=>by
  refine k _ ⟨R'++[(c,r.2++[t.nm])],some ⟨0,.str t.nm⟩,some ⟨0,.str t.one⟩,some ⟨0,.str t.oth⟩,some ⟨0,.int t.cost⟩,?_,rwj.add hr' tm (ne t tm) c1 hc nj,?_⟩
  ·have e2:rowPV (c,r.2++[t.nm])=.tup [.str c,.tup (r.2.map .str++[.str t.nm])]:=by
    unfold rowPV
    rw [List.map_append]; rfl
   rw [List.map_append,<- e2]; rfl
  ·rw [List.getElem?_append_left (List.getElem?_eq_some_iff.mp hr').1]; exact hr'
 by_cases c3:r.1=t.one
 ·rw [if_pos (beq_iff_eq.mpr c3)]
  try lia
  refine ae (gS al) ?_
  try lia
  refine ae (mApp ln) ?_
  exact push _ (.inl ⟨c3.symm,rfl⟩)
 ·rw [if_neg (by simpa using c3)]
  try lia
  refine ae (gS al) ?_
  try lia
  refine ae (mApp ln) ?_
  exact push _ (.inr ⟨(c2.resolve_left c3).symm,rfl⟩)
end Pre
namespace Pre
open PySem L2 Q
theorem fU:∀ ds:List PyData,PyData.shownAll ds=ds.map PyData.shown
 | []=>by simp only [PyData.shownAll,List.map_nil]
 | d::ds=>by simp only [PyData.shownAll,List.map_cons,fU ds]
theorem pS {α:Type} (f:α->Nat) (B:Nat):∀ l:List α,(∀ x∈l,f x<=B)->(l.map f).sum<=l.length*B
 | [],_=>by simp
 | x::l,h=>by
  have h1:=h x List.mem_cons_self
  have h2:=pS f B l fun y hy=>h y (List.mem_cons_of_mem _ hy)
  rw [List.map_cons,List.sum_cons,List.length_cons,Nat.succ_mul]
  omega
theorem ju {ds:List PyData} {B:Nat} (h:∀ d∈ds,d.shown.length<=B):(PyData.tuple ds).shown.length<=ds.length*B+2*ds.length+3:=by
 have e:(PyData.tuple ds).shown=tupleText (PyData.shownAll ds):=by simp only [PyData.shown]
 rw [e,fU]
 refine Nat.le_trans (tupleText_len_le _) ?_
 rw [List.map_map,List.length_map]
 have:=pS (fun d:PyData=>d.shown.length) B ds h
 show (ds.map fun d:PyData=>d.shown.length).sum+_+_<=_
 omega
theorem lp {x:Str} (h:IsWord x):(PyData.str x).shown.length<=82:=by
 have e:(PyData.str x).shown=reprText x:=by simp only [PyData.shown]
 have hi:=h.hi
 rw [<- i7] at hi
 rw [e]
 refine Nat.le_trans (StrLaws.reprText_len x fun c hc=>?_) (by omega)
 have:=(h.ok c hc).2
 have:(122:Nat)<16 ^ 8:=by decide
 omega
theorem lz {α:Type} {n:Nat} {f:α->PV} {g:α->PyData}:∀ {l:List α},(∀ x∈l,toD n (f x)=some (g x))->toDs (toD n) (l.map f)=some (l.map g)
 | [],_=>by unfold toDs; rfl
 | x::l,h=>by
  rw [List.map_cons]
  unfold toDs
  rw [h x List.mem_cons_self,lz fun y hy=>h y (List.mem_cons_of_mem _ hy)]
  rfl
noncomputable def cutD (n:Str) (s:List Str):PyData:=.tuple [.str n,.tuple (s.map .str)]
theorem uI (n:Str) (s:List Str):toD 8 (.tup [.str n,.tup (s.map .str)])=some (cutD n s):=by
 have e1:toD 7 (.tup (s.map .str))=some (.tuple (s.map .str)):=by
  unfold toD
  rw [kw]; rfl
 have e2:toDs (toD 7) [.str n,.tup (s.map .str)]=some [.str n,.tuple (s.map .str)]:=by
  simp only [toDs,e1,show toD 7 (.str n)=some (.str n) from rfl]
 unfold toD
 rw [e2]; rfl
theorem uK {n:Str} {s:List Str} (hn:IsWord n) (hs:∀ x∈s,IsWord x) (hl:s.length<=60):(cutD n s).shown.length<=11000:=by
 have h1:(PyData.tuple (s.map .str)).shown.length<=5100:=by
  refine Nat.le_trans (ju (B:=82) fun d hd=>?_) (by rw [List.length_map]; omega)
  obtain ⟨x,hx,rfl⟩:=List.mem_map.mp hd
  exact lp (hs x hx)
 refine Nat.le_trans (ju (B:=5100) fun d hd=>?_) (by simp)
 rcases List.mem_cons.mp hd with rfl | hd
 ·exact Nat.le_trans (lp hn) (by decide)
 ·rw [List.mem_singleton.mp hd]; exact h1
theorem p0 {α:Type} (nm:α->Str) (sd:α->List Str) {l:List α} (hl:l.length<=60) (hn:∀ x∈l,IsWord (nm x)/\(sd x).length<=60/\∀ y∈sd x,IsWord y):∃ S:Str,reprPV [.tup (l.map fun x=>.tup [.str (nm x),.tup ((sd x).map .str)])]=some (.str S):=by
 have e:toD 9 (.tup (l.map fun x=>PV.tup [.str (nm x),.tup ((sd x).map .str)]))=some (.tuple (l.map fun x=>cutD (nm x) (sd x))):=by
  unfold toD
  rw [lz (g:=fun x=>cutD (nm x) (sd x)) fun x _=>uI (nm x) (sd x)]; rfl
 have len:(PyData.tuple (l.map fun x=>cutD (nm x) (sd x))).shown.length<=sizeLine:=by
  refine Nat.le_trans (ju (B:=11000) fun d hd=>?_) (by rw [List.length_map,sizeLine_eq]; omega)
  obtain ⟨x,hx,rfl⟩:=List.mem_map.mp hd
  obtain ⟨h1,h2,h3⟩:=hn x hx
  exact uK h1 h3 h2
 refine ⟨(PyData.tuple (l.map fun x=>cutD (nm x) (sd x))).shown,?_⟩
 unfold reprPV
 simp only [e]
 exact if_pos len
theorem vm {F:Nat} {M T:Int} {P:PV->PV->Prop} (hF:1000<=F) (h0:0<=M) (h1:M<=40) (h2:8<=T) (h3:T<=50) (k:∀ (f':Nat) (ps:List Str) (ts:List Tie),F<=f'+1000->NetOk ps ts->(ps.length:Int)<=M->(ts.length:Int)<=T->P (netPV ps ts) (.int (f':Int))):eN (.int (F:Int)) [.int M,.int T] P :=
 ⟨F - 1000,M,T,by rw [Nat.sub_add_cancel hF],rfl,h0,h1,h2,h3,fun ps ts f' h=>k f' ps ts (by omega)⟩
end Pre
namespace Pre
open PySem L2 Q
instance tieDec:DecidableEq Tie:=fun a b=>decidable_of_iff (a.nm=b.nm/\a.one=b.one/\a.oth=b.oth/\a.cost=b.cost) ⟨fun h=>by
 cases a
 cases b
 obtain ⟨h1,h2,h3,h4⟩:=h
 cases h1; cases h2; cases h3; cases h4; rfl,fun h=>by subst h; exact ⟨rfl,rfl,rfl,rfl⟩⟩
theorem we (a b:Tie):eqPV 60 (tiePV a) (tiePV b)=some (decide (a=b)):=by
 show some ((([a.nm==b.nm,a.one==b.one,a.oth==b.oth,a.cost==b.cost]:List Bool).all id) && true)=_
 congr 1
 rw [Bool.eq_iff_iff]
 cases a
 cases b
 simp
theorem uk {t:Tie} (us:List Tie):inB (tiePV t) (.lst (us.map tiePV))=some (decide (t∈us)):=by
 have e:(us.map tiePV).mapM (fun y=>eqPV 60 y (tiePV t))=some (us.map fun y=>decide (y=t)):=by
  induction us with
  | nil=>rfl
  | cons u us ih =>
   rw [List.map_cons,List.mapM_cons,ih,we]
   rfl
 show ((us.map tiePV).mapM (fun y=>eqPV 60 y (tiePV t))).map (fun ks=>ks.any id)=_
 rw [e]
 show some ((us.map fun y=>decide (y=t)).any id)=_
 congr 1
 rw [List.any_map,Bool.eq_iff_iff,List.any_eq_true]
 simp
theorem sg {t:Tie} (us:List Tie):ninPV (tiePV t) (.lst (us.map tiePV))=some (.bl (!decide (t∈us))):=by
 show (inB _ _).map _=_
 rw [uk]; rfl
theorem rU (xs:List PV) (P:PV->Prop) (h:iL xs P):Q.run 3 eU xs P:=by
 obtain ⟨ps,ts,rfl,ok,hp,ht,h⟩:=h
 have nd:=bH ok
 have tl:(treeT ps ts).length<=60:=Nat.le_trans (e9 ps ts) ht
 have fl:(ts.filter (opn ps)).length<=60:=Nat.le_trans (List.length_filter_le _ _) ht
 have ol:(outT ps ts).length<=60:=Nat.le_trans (List.length_filter_le _ _) fl
 unfold eU
 refine au fun N hN=>?_
 lia
 refine ⟨ps,ts,rfl,ok,hp,ht,?_⟩
 show N [some ⟨0,netPV ps ts⟩,some ⟨0,.lst ((treeT ps ts).map tiePV)⟩,none]
 subst hN
 refine au fun N hN=>?_
 lia
 refine ⟨ps,ts,rfl,by omega,?_⟩
 lia
 refine cv (fun x=>match x with | .tup [.str a,.str b,.str c,.int d]=>if (!decide ((⟨a,b,c,d⟩:Tie)∈treeT ps ts))=true then some (.tup [.str a,.str b,.str c,.int d]) else none | _=>none) (fun x hx R hR=>?_) (by simp; omega) ?_
 ·obtain ⟨t,ht',rfl⟩:=List.mem_map.mp hx
  refine ae (sg _) ?_
  replace hR:R (if (!decide (t∈treeT ps ts))=true then some (tiePV t) else none) [some ⟨0,netPV ps ts⟩,some ⟨0,.lst ((treeT ps ts).map tiePV)⟩,none]:=hR
  show opt (some (!decide (t∈treeT ps ts))) _
  rw [bQ]
  cases e:decide (t∈treeT ps ts) with
  | false=>rw [e] at hR; exact hR
  | true=>rw [e] at hR; exact hR
 rw [List.nil_append,List.filterMap_map]
 have e:(ts.filter (opn ps)).filterMap ((fun x=>match x with | PV.tup [.str a,.str b,.str c,.int d]=>if (!decide ((⟨a,b,c,d⟩:Tie)∈treeT ps ts))=true then some (.tup [.str a,.str b,.str c,.int d]) else none | _=>none) ∘ tiePV)=((ts.filter (opn ps)).filter fun t=>!decide (t∈treeT ps ts)).map tiePV:=bx (fun t=>!decide (t∈treeT ps ts)) tiePV (ts.filter (opn ps))
 have e2:((ts.filter (opn ps)).filter fun t=>!decide (t∈treeT ps ts))=outT ps ts:=by
  refine List.filter_congr fun t ht'=>?_
  congr 1
  rw [Bool.eq_iff_iff,decide_eq_true_eq,ma,dB]
  constructor
  ·exact fun z=>List.mem_map_of_mem z
  ·intro z
   obtain ⟨u,hu,e⟩:=List.mem_map.mp z
   have:=cI nd (bZ hu).1 (List.mem_filter.mp ht').1 e
   exact this ▸ hu
 rw [e,e2]
 show N [some ⟨0,netPV ps ts⟩,some ⟨0,.lst ((treeT ps ts).map tiePV)⟩,some ⟨0,.lst ((outT ps ts).map tiePV)⟩]
 subst hN
 lia
 refine b9 (fun x=>match x with | .tup [.str a,.str b,.str c,.int d]=>wayPV ps ts ⟨a,b,c,d⟩ | _=>.non) (fun x hx R hR=>?_) (by simp; omega) ?_
 ·obtain ⟨t,ht',rfl⟩:=List.mem_map.mp hx
  replace hR:R (wayPV ps ts t) [some ⟨0,netPV ps ts⟩,some ⟨0,.lst ((treeT ps ts).map tiePV)⟩,some ⟨0,.lst ((outT ps ts).map tiePV)⟩]:=hR
  have to:=(List.mem_filter.mp ht').1
  have ot:=opn_iff.mp (List.mem_filter.mp to).2
  refine ae (z:=.str t.nm) (av (j:=0) rfl) (ae (z:=.str t.one) (av (j:=1) rfl) (ae (z:=.str t.oth) (av (j:=2) rfl) ?_))
  refine ⟨ps,treeT ps ts,t.one,t.oth,rfl,gD nd,tl,fun u hu=>⟨gh (ok.tie u (bZ hu).1).lt,bB u hu⟩,ko nd,hp,ot.1,ly nd to,fun ns w d=>?_⟩
  have e:=nq ok w d
  subst e
  exact hR
 ·rw [List.nil_append,List.map_map]
  have e:((outT ps ts).map ((fun x=>match x with | PV.tup [.str a,.str b,.str c,.int d]=>wayPV ps ts ⟨a,b,c,d⟩ | _=>.non) ∘ tiePV))=(outT ps ts).map (wayPV ps ts):=rfl
  rw [e]
  exact ae rfl h
theorem pH {ps:List Str} {ts:List Tie} (ok:NetOk ps ts) (hp:ps.length<=60) (ht:ts.length<=60):∃ S:Str,reprPV [waysPV ps ts]=some (.str S):=by
 have nd:=bH ok
 have ol:(outT ps ts).length<=60:=Nat.le_trans (List.length_filter_le _ _) (Nat.le_trans (List.length_filter_le _ _) ht)
 refine p0 (fun t:Tie=>t.nm) (fun t=>wayT (treeT ps ts) t.one t.oth) ol fun t hm=>?_
 have to:=(List.mem_filter.mp hm).1
 obtain ⟨w,d⟩:=kc (ly nd to)
 refine ⟨(ok.tie t (List.mem_filter.mp to).1).nm,Nat.le_trans (pF w d) (Nat.le_trans (e9 ps ts) ht),fun y hy=>?_⟩
 obtain ⟨u,hu,rfl⟩:=w.mem y hy
 exact (ok.tie u (bZ hu).1).nm
theorem tY (T:Addr) (ns:List Int) (x:PV) (hn:ns.length<=63) (hx:x=.scr ns\/x=.lst (ns.map .int)):Q.runT 3 (gC T) (tabT T) [x] fun r c=>r=.bl true/\c=tabT T:=by
 unfold gC
 simp only [runT,endT,hid]
 refine au fun N hN=>?_
 show Q.dS 1 0 _ [some ⟨0,x⟩,none,none,some ⟨2,tabT T⟩]
 refine ⟨⟨ns,hx,hn⟩,?_⟩
 show N [some ⟨0,x⟩,some ⟨4,.int ((1000000:Nat):Int)⟩,none,some ⟨2,tabT T⟩]
 generalize hF:(1000000:Nat)=F
 subst hN
 refine au fun N hN=>?_
 simp only [sSet,eLC,iR1,aCons,aNil,eC,intPV,bQ]
 refine ⟨by omega,by omega,?_⟩
 refine dC (fun i acc e=>∃ (nets:List (List Str×List Tie)) (f:Nat),acc=nets.map (fun q=>netPV q.1 q.2)/\(∀ q∈nets,NetOk q.1 q.2/\q.1.length<=60/\q.2.length<=60)/\nets.length=i/\F<=f+1000*i/\e=[some ⟨0,x⟩,some ⟨4,.int (f:Int)⟩,none,some ⟨2,tabT T⟩]) (i:=0) ⟨[],F,rfl,by simp,rfl,by omega,rfl⟩ (by simp) (by rw [cq]; decide) ?_ ?_
 ·rintro j y acc e R hj ⟨nets,f,rfl,ok,nl,hf,rfl⟩ k
  obtain ⟨hj1,rfl⟩:=iU hj
  have j3:j<3:=hj1
  rw [Nat.zero_add] at nl hf k
  refine ⟨rfl,?_⟩
  lia
  show eN (.int (f:Int)) [.int 12,.int 30] _
  refine vm (by omega) (by decide) (by decide) (by decide) (by decide) fun f' ps ts h1 h2 h3 h4=>?_
  refine k (some (netPV ps ts)) _ ⟨nets++[(ps,ts)],f',by rw [List.map_append]; rfl,fun q hq=>?_,by rw [List.length_append,nl]; rfl,by omega,rfl⟩
  rcases List.mem_append.mp hq with z | z
  ·exact ok q z
  ·rw [List.mem_singleton.mp z]; exact ⟨h2,by show ps.length<=60; omega,by show ts.length<=60; omega⟩
 rintro acc e ⟨nets,f,rfl,ok,nl,_,rfl⟩ _
 rw [cq,Nat.zero_add] at nl
 replace nl:nets.length=3:=nl
 show N [some ⟨0,x⟩,some ⟨4,.int (f:Int)⟩,some ⟨0,.lst (nets.map fun q=>netPV q.1 q.2)⟩,some ⟨2,tabT T⟩]
 subst hN
 lia
 rw [show (1:Int)=((1:Nat):Int) from rfl,ow,<- List.map_take]
 refine ae (oM (by rw [List.length_map,List.length_map,List.length_take]; omega)) ?_
 rw [<- List.map_append]
 have ok2:∀ q∈nets++nets.take 1,NetOk q.1 q.2/\q.1.length<=60/\q.2.length<=60:=fun q hq=>by
  rcases List.mem_append.mp hq with z | z
  ·exact ok q z
  ·exact ok q (List.mem_of_mem_take z)
 have l2:(nets++nets.take 1).length<=100:=by rw [List.length_append,List.length_take]; omega
 generalize nets++nets.take 1=qs at ok2 l2 ⊢
 lia
 refine b9 (fun _=>.bl true) (fun y hy R hR=>?_) (by simp; omega) ?_
 ·obtain ⟨q,hq,rfl⟩:=List.mem_map.mp hy
  obtain ⟨o1,o2,o3⟩:=ok2 q hq
  obtain ⟨S,hS⟩:=pH o1 o2 o3
  refine ⟨rfl,q.1,q.2,rfl,o1,o2,o3,?_⟩
  refine ae hS ?_
  refine ⟨q.1,q.2,rfl,o1,o2,o3,?_⟩
  refine ae hS ?_
  refine ae (eq_str S S) ?_
  rw [beq_self_eq_true]
  exact hR
 rw [List.nil_append,List.map_map]
 have e:(qs.map ((fun _=>PV.bl true) ∘ fun q=>netPV q.1 q.2))=(List.replicate qs.length true).map PV.bl:=by
  rw [List.map_replicate,List.eq_replicate_iff]
  exact ⟨by rw [List.length_map],fun b hb=>by obtain ⟨z,_,rfl⟩:=List.mem_map.mp hb; rfl⟩
 rw [e]
 refine ae (qZ _) ?_
 have ea:(List.replicate qs.length true).all id=true:=by simp
 rw [ea]
 exact ⟨rfl,rfl⟩
end Pre
namespace Pre
open PySem L2 Q
section
variable {P:Program} {w:World} {K:PySem.W.Frag} {mg:Str->Option Value} {base:Heap}
theorem lF:aD ["net", "tie"] ["net", "tie"] (aq jC):=⟨rfl,rfl,rfl,by decide +kernel,rfl,by decide +kernel,by decide +kernel⟩
theorem mX (Y:Ev K mg):FnOk P w K mg base CX0 1 Y.fIsOpen.f Y.fIsOpen.fd ["net", "tie"] (spQ ⟨P,w,K,obG K⟩ 2 (run 2 cA)) :=
 bW Y.fIsOpen.F lF (by decide) (fun cdv A outer s H E hr=>by
  unfold cA
  exact (aw (aO (wb (eG (dZ (hu62 hr)) dX (aB (hu1 hr) (ag 1 (pv 1)) (EvS.w ak)) (EvS.w (aB (hu1 hr) (ag 0 (pv 0)) (EvS.w ak))) (by first | exact nomark _ | rfl)) (vZ (eG (dZ (hu62 hr)) dX (aB (hu1 hr) (ag 1 (pv 1)) (EvS.w ak)) (EvS.w (aB (hu1 hr) (ag 0 (pv 0)) (EvS.w ak))) (by first | exact nomark _ | rfl)))))))
theorem dM (Y:Ev K mg):FnOk P w K mg base CX0 1 Y.fIsOpen.f Y.fIsOpen.fd ["net", "tie"] (spQ ⟨P,w,K,obG K⟩ 2 bU):=bw (mX Y) m3
theorem fM:(["tie"]:List Str).Nodup:=by decide +kernel
theorem gU:aD ["net"] ["net"] (aq dI):=⟨rfl,rfl,rfl,by decide +kernel,rfl,by decide +kernel,by decide +kernel⟩
theorem im (Y:Ev K mg):FnOk P w K mg base CX0 1 Y.fTiesByName.f Y.fTiesByName.fd ["net"] (spQ ⟨P,w,K,obG K⟩ 1 (run 1 bG)) :=
 bW Y.fTiesByName.F gU (by decide) (fun cdv A outer s H E hr=>by
  unfold bG
  exact (aw (aO (EvF.s (sX (N:=["tie"]) (T:=(.nm 0)) (js:=[none]) (aY (aB (hu1 hr) (ag 0 (pv 0)) (EvS.w ak))) (fun _ _ _ _ _=>aK (i:=0) fM rfl (Or.inl rfl)) (fun _ _ _ _ _=>bA) (fun _ _ _ _ _=>(aB (hu1 hr) (ag 0 (pv 0)) (EvS.w ak))) (fun _ _ _ _ _=>(ag 0 (pv 0))))))))
theorem iB (Y:Ev K mg):FnOk P w K mg base CX0 1 Y.fTiesByName.f Y.fTiesByName.fd ["net"] (spQ ⟨P,w,K,obG K⟩ 1 cb):=bw (im Y) iu
theorem iy:(["tie", "net"]:List Str).Nodup:=by decide +kernel
theorem jA:aD ["net"] ["net"] (aq fW):=⟨rfl,rfl,rfl,by decide +kernel,rfl,by decide +kernel,by decide +kernel⟩
theorem lg (Y:Ev K mg):FnOk P w K mg base CX0 2 Y.fOpenTies.f Y.fOpenTies.fd ["net"] (spQ ⟨P,w,K,obG K⟩ 1 (run 1 bV)) :=
 bW Y.fOpenTies.F jA (by decide) (fun cdv A outer s H E hr=>by
  unfold bV
  exact (aw (aO (bX bJ bK (by rfl) Y.b_tuple PyProof.Rows.boot_tuple (EvA.w (af (EvF.s (cE (N:=["tie", "net"]) (T:=(.nm 0)) (js:=[none,some 0]) (aY (aB (hu1 hr) (ag 0 (pv 0)) (EvS.w ak))) (fun _ _ _ _ _=>aK (i:=0) iy rfl (Or.inl rfl)) (fun _ _ _ _ _=>gp (ji (EvS.w (ba (dM Y) (hr.mono (by decide)) Y.fIsOpen.n.mg Y.fIsOpen.n.kp Y.fIsOpen.b (af (ag 1 (pv 1)) (af (ag 0 (pv 0)) ai)))))) (fun _ _ _ _ _=>(aB (hu1 hr) (ag 0 (pv 0)) (EvS.w ak))))) ai))))))
theorem lj (Y:Ev K mg):FnOk P w K mg base CX0 2 Y.fOpenTies.f Y.fOpenTies.fd ["net"] (spQ ⟨P,w,K,obG K⟩ 1 cS):=bw (lg Y) lh
theorem mf:(["tie"]:List Str).Nodup:=by decide +kernel
theorem oW:aD ["net"] ["net"] (aq sRanks):=⟨rfl,rfl,rfl,by decide +kernel,rfl,by decide +kernel,by decide +kernel⟩
theorem p9 (Y:Ev K mg):FnOk P w K mg base CX0 1 Y.fRanks.f Y.fRanks.fd ["net"] (spQ ⟨P,w,K,obG K⟩ 1 (run 1 dv)) :=
 bW Y.fRanks.F oW (by decide) (fun cdv A outer s H E hr=>by
  unfold dv
  exact (aw (aO (EvF.s (sX (N:=["tie"]) (T:=(.nm 0)) (js:=[none]) (aY (aB (hu1 hr) (ag 0 (pv 0)) (EvS.w ak))) (fun _ _ _ _ _=>aK (i:=0) mf rfl (Or.inl rfl)) (fun _ _ _ _ _=>bA) (fun _ _ _ _ _=>(aB (hu1 hr) (ag 0 (pv 0)) (EvS.w ak))) (fun _ _ _ _ _=>(aW (af (aB (hu1 hr) (ag 0 (pv 0)) (EvS.w ak)) (af (aB (hu1 hr) (ag 0 (pv 0)) (EvS.w ak)) ai)))))))))
theorem qG (Y:Ev K mg):FnOk P w K mg base CX0 1 Y.fRanks.f Y.fRanks.fd ["net"] (spQ ⟨P,w,K,obG K⟩ 1 gy):=bw (p9 Y) qg
theorem sc_p_cheaper_first:aD ["net", "names", "rank", "#t"] ["net", "names"] (aq cR):=⟨rfl,rfl,rfl,by decide +kernel,rfl,by decide +kernel,by decide +kernel⟩
theorem ft {p:Pos}:LamSc "name" "rank" { posonlyargs:=[],args:=[{ arg := "name",annotation:=none,pos:=p }],vararg:=none,kwonlyargs:=[],kw_defaults:=[],kwarg:=none,defaults:=[] } { kind:=.function,names:=[("name",.local),("rank",.free)],isGenerator:=false,isCoroutine:=false,more:=[] } :=
 ⟨rfl,rfl,rfl,by decide,rfl,rfl,rfl,rfl,rfl,rfl,fun _ _ _ _ _ _ _=>rfl⟩
theorem fu {p:Pos}:LamDf "rank" { posonlyargs:=[],args:=[{ arg := "name",annotation:=none,pos:=p }],vararg:=none,kwonlyargs:=[],kw_defaults:=[],kwarg:=none,defaults:=[] } { kind:=.function,names:=[("name",.local),("rank",.free)],isGenerator:=false,isCoroutine:=false,more:=[] } :=
 ⟨fun _=>rfl,fun env cell h=>by simp [closureFor,cellOf,h]⟩
theorem gX (Y:Ev K mg) (hB:BMain mg base):FnOk P w K mg base CX0 2 Y.fCheaperFirst.f Y.fCheaperFirst.fd ["net", "names"] (spT ⟨P,w,K,obG K⟩ 2 (runT 3 (bq Y.fCheaperFirst_T))) :=
 jc (nm := "#t") Y.fCheaperFirst.F sc_p_cheaper_first rfl (by decide) rfl (by unfold Vis; decide +kernel) (fun cdv hcdv A outer s H E hr=>by
  unfold bq
  obtain ⟨c,hc,hC⟩:=Y.fCheaperFirst_t
  have hcd:=hcdv.symm.trans hc
  exact (ap (aL 2 sc_p_cheaper_first.nd rfl (Or.inr rfl) (ba (qG Y) (hr.mono (by decide)) Y.fRanks.n.mg Y.fRanks.n.kp Y.fRanks.b (af (ag 0 (pv 0)) ai)))
  (aw (aO (EvF.s (sI 3 2 ft fu hr (by rfl) Y.b_sorted (by rfl) hcd hC hB (by rfl) (by rfl) (Or.inr (Or.inl rfl)) (ag 1 (pv 1))))))))
theorem g8 (Y:Ev K mg) (hB:BMain mg base):FnOk P w K mg base CX0 2 Y.fCheaperFirst.f Y.fCheaperFirst.fd ["net", "names"] (spT ⟨P,w,K,obG K⟩ 2 (bT Y.fCheaperFirst_T)):=jW (gX Y hB) (gZ _)
theorem fq:(["place"]:List Str).Nodup:=by decide +kernel
theorem cm:(["place", "word", "stays", "goes"]:List Str).Nodup:=by decide +kernel
theorem sc_p_without_round:aD ["net", "names", "named", "group", "kept", "name", "tie", "stays", "goes"] ["net", "names"] (aq cQ):=⟨rfl,rfl,rfl,by decide +kernel,rfl,by decide +kernel,by decide +kernel⟩
theorem gW (Y:Ev K mg):FnOk P w K mg base CX0 2 Y.fWithoutRound.f Y.fWithoutRound.fd ["net", "names"] (spQ ⟨P,w,K,obG K⟩ 2 (run 9 bp)) :=
 bW Y.fWithoutRound.F sc_p_without_round (by decide) (fun cdv A outer s H E hr=>by
  unfold bp
  exact (ap (aL 2 sc_p_without_round.nd rfl (Or.inl rfl) (ba (iB Y) (hr.mono (by decide)) Y.fTiesByName.n.mg Y.fTiesByName.n.kp Y.fTiesByName.b (af (ag 0 (pv 0)) ai)))
  (ap (sW 3 (N:=["place"]) (T:=(.nm 0)) (js:=[none]) sc_p_without_round.nd rfl rfl (aY (aB (hu1 hr) (ag 0 (pv 0)) (EvS.w ak))) (fun _ _ _ _ _=>aK (i:=0) fq rfl (Or.inl rfl)) (fun _ _ _ _ _=>bA) (fun _ _ _ _ _=>(ag 0 (pv 0))) (fun _ _ _ _ _=>(ag 0 (pv 0))))
  (ap (bz 4 sc_p_without_round.nd rfl (Or.inl rfl) (bi ai))
  (ap (dk PassesOwn.never rfl (aY (ag 1 (pv 1))) (aM 5 sc_p_without_round.nd rfl (Or.inl rfl)) (ap (aL 6 sc_p_without_round.nd rfl (Or.inl rfl) (aB (hu1 hr) (ag 2 (pv 2)) (aC 5 (pv 5))))
  (ap (jf (aW (af (gn 3 (hu1 hr) (pv 3) (EvS.w (aB (hu1 hr) (ag 6 (pv 6)) (EvS.w ak)))) (af (gn 3 (hu1 hr) (pv 3) (EvS.w (aB (hu1 hr) (ag 6 (pv 6)) (EvS.w ak)))) ai))) (cM (n:=2) rfl (aN (aM 7 sc_p_without_round.nd rfl (Or.inr rfl)) (aN (aM 8 sc_p_without_round.nd rfl (Or.inr rfl)) cg)) (aR (aR cK))))
  (aw (bN (aJ (o4 (hu0 hr)) lV (ag 7 (pv 7)) (aC 8 (pv 8)) (by first | exact nomark _ | rfl)) (ap (cf (EvS.w (cT 4 PySem.F.slot_list_append PySem.F.type_list_append bg bC (pv 4) (af (ag 5 (pv 5)) ai))))
  (aw (sW 3 (N:=["place", "word", "stays", "goes"]) (T:=(.tp [0,1])) (js:=[none,none,some 7,some 8]) sc_p_without_round.nd rfl rfl (kR 3 (pv 3)) (fun _ _ _ _ _=>iW (n:=2) rfl (b7 (aK (i:=0) cm rfl (Or.inl rfl)) (b7 (aK (i:=1) cm rfl (Or.inl rfl)) gG))) (fun _ _ _ _ _=>bA) (fun _ _ _ _ _=>(ag 0 (pv 0))) (fun _ _ _ _ _=>(mF (aJ (bn (hu60 hr)) bj (ag 1 (pv 1)) (aC 3 (pv 3)) (by first | exact nomark _ | rfl)) (ag 2 (pv 2)) (ag 1 (pv 1))))))) bL)))))
  (aw (aO (bX bJ bK (by rfl) Y.b_tuple PyProof.Rows.boot_tuple (EvA.w (af (EvF.s (fx rfl (by rfl) Y.b_sorted (bI (aC 4 (pv 4))))) ai))))))))))
theorem g6 (Y:Ev K mg):FnOk P w K mg base CX0 2 Y.fWithoutRound.f Y.fWithoutRound.fd ["net", "names"] (spQ ⟨P,w,K,obG K⟩ 2 bS):=bw (gW Y) gY
theorem lf:aD ["net", "#t"] ["net"] (aq fX):=⟨rfl,rfl,rfl,by decide +kernel,rfl,by decide +kernel,by decide +kernel⟩
theorem lN (Y:Ev K mg) (hB:BMain mg base):FnOk P w K mg base CX0 3 Y.fCheapest.f Y.fCheapest.fd ["net"] (spT ⟨P,w,K,obG K⟩ 1 (runT 1 (ci Y.fCheaperFirst_T))) :=
 jc (nm := "#t") Y.fCheapest.F lf rfl (by decide) rfl (by unfold Vis; decide +kernel) (fun cdv hcdv A outer s H E hr=>by
  unfold ci
  exact (aw (aO (ba (g6 Y) (hr.mono (by decide)) Y.fWithoutRound.n.mg Y.fWithoutRound.n.kp Y.fWithoutRound.b (af (ag 0 (pv 0)) (af (iH 1 (g8 Y hB) (hr.mono (by decide)) Y.fCheaperFirst.n.mg Y.fCheaperFirst.n.kp Y.fCheaperFirst.b (af (ag 0 (pv 0)) (af (ba (lj Y) (hr.mono (by decide)) Y.fOpenTies.n.mg Y.fOpenTies.n.kp Y.fOpenTies.b (af (ag 0 (pv 0)) ai)) ai))) ai))))))
theorem mz (Y:Ev K mg) (hB:BMain mg base):FnOk P w K mg base CX0 3 Y.fCheapest.f Y.fCheapest.fd ["net"] (spT ⟨P,w,K,obG K⟩ 1 (dq Y.fCheaperFirst_T)):=jW (lN Y hB) (lR _)
theorem g0:(["place"]:List Str).Nodup:=by decide +kernel
theorem sc_p_neighbours:aD ["net", "beside", "tie"] ["net"] (aq dJ):=⟨rfl,rfl,rfl,by decide +kernel,rfl,by decide +kernel,by decide +kernel⟩
theorem jG (Y:Ev K mg):FnOk P w K mg base CX0 2 Y.fNeighbours.f Y.fNeighbours.fd ["net"] (spQ ⟨P,w,K,obG K⟩ 1 (runDl 3 bP)) :=
 vW Y.fNeighbours.F sc_p_neighbours (by decide) (fun cdv A outer s H E hr=>by
  unfold bP
  exact (ap (pj 1 sc_p_neighbours.nd rfl rfl (aY (aB (hu1 hr) (ag 0 (pv 0)) (EvS.w ak))) (fun _ _ _ _ _=>aK (i:=0) g0 rfl (Or.inl rfl)) (fun _ _ _ _ _=>pv 0))
  (ap (dk PassesOwn.never rfl (aY (aB (hu1 hr) (ag 0 (pv 0)) (EvS.w ak))) (aM 2 sc_p_neighbours.nd rfl (Or.inl rfl)) (aw (bN (ji (EvS.w (ba (dM Y) (hr.mono (by decide)) Y.fIsOpen.n.mg Y.fIsOpen.n.kp Y.fIsOpen.b (af (ag 0 (pv 0)) (af (ag 2 (pv 2)) ai))))) (ap (je 1 (hu1 hr) (pv 1) (aB (hu1 hr) (ag 2 (pv 2)) (EvS.w ak)) (aW (af (aB (hu1 hr) (ag 2 (pv 2)) (EvS.w ak)) (af (aB (hu1 hr) (ag 2 (pv 2)) (EvS.w ak)) ai))))
  (aw (je 1 (hu1 hr) (pv 1) (aB (hu1 hr) (ag 2 (pv 2)) (EvS.w ak)) (aW (af (aB (hu1 hr) (ag 2 (pv 2)) (EvS.w ak)) (af (aB (hu1 hr) (ag 2 (pv 2)) (EvS.w ak)) ai)))))) bL)))
  (aw (qJ 1 (pv 1))))))
theorem jV (Y:Ev K mg):FnOk P w K mg base CX0 2 Y.fNeighbours.f Y.fNeighbours.fd ["net"] (spQ ⟨P,w,K,obG K⟩ 1 cy):=bw (jG Y) jJ
theorem sc_p_came_by:aD ["beside", "start", "come", "ahead", "here", "name", "place"] ["beside", "start"] (aq jF):=⟨rfl,rfl,rfl,by decide +kernel,rfl,by decide +kernel,by decide +kernel⟩
theorem mY (Y:Ev K mg):FnOk P w K mg base CX0 1 Y.fCameBy.f Y.fCameBy.fd ["beside", "start"] (spQ ⟨P,w,K,obG K⟩ 2 (run 7 cB)) :=
 bW Y.fCameBy.F sc_p_came_by (by decide) (fun cdv A outer s H E hr=>by
  unfold cB
  exact (ap (bz 2 sc_p_came_by.nd rfl (Or.inl rfl) (uB (EvDs.cons (ag 1 (pv 1)) mE EvDs.nil)))
  (ap (bz 3 sc_p_came_by.nd rfl (Or.inl rfl) (bi (af (ag 1 (pv 1)) ai)))
  (ap (iC PassesOwn.never (ji (aC 3 (pv 3))) (ap (aL 4 sc_p_came_by.nd rfl (Or.inl rfl) (wa 3 PySem.F.slot_list_pop PySem.F.type_list_pop vp vq (pv 3)))
  (aw (dk PassesOwn.never rfl (aY (aB (hu1 hr) (ag 0 (pv 0)) (aC 4 (pv 4)))) (cM (n:=2) rfl (aN (aM 5 sc_p_came_by.nd rfl (Or.inl rfl)) (aN (aM 6 sc_p_came_by.nd rfl (Or.inl rfl)) cg)) (aR (aR cK))) (aw (bN (aJ (dY (hu62 hr)) dW (ag 6 (pv 6)) (aC 2 (pv 2)) (by first | exact nomark _ | rfl)) (ap (vX 2 (hu1 hr) (aW (af (ag 5 (pv 5)) (af (ag 4 (pv 4)) ai))) (pv 2) (ag 6 (pv 6)))
  (aw (cf (EvS.w (cT 3 PySem.F.slot_list_append PySem.F.type_list_append bg bC (pv 3) (af (ag 6 (pv 6)) ai)))))) bL))))))
  (aw (aO (ag 2 (pv 2))))))))
theorem ni (Y:Ev K mg):FnOk P w K mg base CX0 1 Y.fCameBy.f Y.fCameBy.fd ["beside", "start"] (spQ ⟨P,w,K,obG K⟩ 2 dP):=bw (mY Y) m4
theorem m5:(["tie", "names"]:List Str).Nodup:=by decide +kernel
theorem pW:aD ["net", "names"] ["net", "names"] (aq sOnly):=⟨rfl,rfl,rfl,by decide +kernel,rfl,by decide +kernel,by decide +kernel⟩
theorem rD (Y:Ev K mg):FnOk P w K mg base CX0 1 Y.fOnly.f Y.fOnly.fd ["net", "names"] (spQ ⟨P,w,K,obG K⟩ 2 (run 2 eS)) :=
 bW Y.fOnly.F pW (by decide) (fun cdv A outer s H E hr=>by
  unfold eS
  exact (aw (aO (aW (af (aB (hu1 hr) (ag 0 (pv 0)) (EvS.w ak)) (af (bX bJ bK (by rfl) Y.b_tuple PyProof.Rows.boot_tuple (EvA.w (af (EvF.s (cE (N:=["tie", "names"]) (T:=(.nm 0)) (js:=[none,some 1]) (aY (aB (hu1 hr) (ag 0 (pv 0)) (EvS.w ak))) (fun _ _ _ _ _=>aK (i:=0) m5 rfl (Or.inl rfl)) (fun _ _ _ _ _=>gp (aJ (dZ (hu62 hr)) dX (aB (hu1 hr) (ag 0 (pv 0)) (EvS.w ak)) (aC 1 (pv 1)) (by first | exact nomark _ | rfl))) (fun _ _ _ _ _=>(ag 0 (pv 0))))) ai))) ai))))))
theorem su (Y:Ev K mg):FnOk P w K mg base CX0 1 Y.fOnly.f Y.fOnly.fd ["net", "names"] (spQ ⟨P,w,K,obG K⟩ 2 iK):=bw (rD Y) rT
theorem sc_p_way:aD ["net", "forest", "one", "other", "come", "names", "here", "name"] ["net", "forest", "one", "other"] (aq sWay):=⟨rfl,rfl,rfl,by decide +kernel,rfl,by decide +kernel,by decide +kernel⟩
theorem tJ (Y:Ev K mg):FnOk P w K mg base CX0 3 Y.fWay.f Y.fWay.fd ["net", "forest", "one", "other"] (spQ ⟨P,w,K,obG K⟩ 4 (run 8 gz)) :=
 bW Y.fWay.F sc_p_way (by decide) (fun cdv A outer s H E hr=>by
  unfold gz
  exact (ap (aL 4 sc_p_way.nd rfl (Or.inl rfl) (ba (ni Y) (hr.mono (by decide)) Y.fCameBy.n.mg Y.fCameBy.n.kp Y.fCameBy.b (af (ba (jV Y) (hr.mono (by decide)) Y.fNeighbours.n.mg Y.fNeighbours.n.kp Y.fNeighbours.b (af (ba (su Y) (hr.mono (by decide)) Y.fOnly.n.mg Y.fOnly.n.kp Y.fOnly.b (af (ag 0 (pv 0)) (af (ag 1 (pv 1)) ai))) ai)) (af (ag 3 (pv 3)) ai))))
  (ap (bN (aJ (dY (hu62 hr)) dW (ag 2 (pv 2)) (aC 4 (pv 4)) (by first | exact nomark _ | rfl)) (aw (aO mE)) bL)
  (ap (bz 5 sc_p_way.nd rfl (Or.inl rfl) (bi ai))
  (ap (aL 6 sc_p_way.nd rfl (Or.inl rfl) (ag 2 (pv 2)))
  (ap (iC PassesOwn.never (aJ (o4 (hu0 hr)) lV (ag 6 (pv 6)) (aC 3 (pv 3)) (by first | exact nomark _ | rfl)) (ap (jf (aB (hu1 hr) (ag 4 (pv 4)) (aC 6 (pv 6))) (cM (n:=2) rfl (aN (aM 7 sc_p_way.nd rfl (Or.inl rfl)) (aN (aM 6 sc_p_way.nd rfl (Or.inl rfl)) cg)) (aR (aR cK))))
  (aw (cf (EvS.w (cT 5 PySem.F.slot_list_append PySem.F.type_list_append bg bC (pv 5) (af (ag 7 (pv 7)) ai)))))))
  (aw (aO (bX bJ bK (by rfl) Y.b_tuple PyProof.Rows.boot_tuple (bI (aC 5 (pv 5))))))))))))
theorem uq (Y:Ev K mg):FnOk P w K mg base CX0 3 Y.fWay.f Y.fWay.fd ["net", "forest", "one", "other"] (spQ ⟨P,w,K,obG K⟩ 4 j8):=bw (tJ Y) tV
theorem jN:(["tie", "net", "tree"]:List Str).Nodup:=by decide +kernel
theorem jM:(["tie", "net", "tree"]:List Str).Nodup:=by decide +kernel
theorem sc_p_ways_in:aD ["net", "tree", "outside"] ["net", "tree"] (aq jB):=⟨rfl,rfl,rfl,by decide +kernel,rfl,by decide +kernel,by decide +kernel⟩
theorem mW (Y:Ev K mg):FnOk P w K mg base CX0 4 Y.fWaysIn.f Y.fWaysIn.fd ["net", "tree"] (spQ ⟨P,w,K,obG K⟩ 2 (run 3 cz)) :=
 bW Y.fWaysIn.F sc_p_ways_in (by decide) (fun cdv A outer s H E hr=>by
  unfold cz
  exact (ap (jd 2 (N:=["tie", "net", "tree"]) (T:=(.nm 0)) (js:=[none,some 0,some 1]) sc_p_ways_in.nd rfl rfl (aY (aB (hu1 hr) (ag 0 (pv 0)) (EvS.w ak))) (fun _ _ _ _ _=>aK (i:=0) jN rfl (Or.inl rfl)) (fun _ _ _ _ _=>gp (pz (jk (ji (EvS.w (ba (dM Y) (hr.mono (by decide)) Y.fIsOpen.n.mg Y.fIsOpen.n.kp Y.fIsOpen.b (af (ag 1 (pv 1)) (af (ag 0 (pv 0)) ai))))) (gO (aJ (dY (hu62 hr)) dW (aB (hu1 hr) (ag 0 (pv 0)) (EvS.w ak)) (aC 2 (pv 2)) (by first | exact nomark _ | rfl)))))) (fun _ _ _ _ _=>(ag 0 (pv 0))))
  (aw (aO (bX bJ bK (by rfl) Y.b_tuple PyProof.Rows.boot_tuple (EvA.w (af (EvF.s (cE (N:=["tie", "net", "tree"]) (T:=(.nm 0)) (js:=[none,some 0,some 1]) (aY (ag 2 (pv 2))) (fun _ _ _ _ _=>aK (i:=0) jM rfl (Or.inl rfl)) (fun _ _ _ _ _=>bA) (fun _ _ _ _ _=>(aW (af (aB (hu1 hr) (ag 0 (pv 0)) (EvS.w ak)) (af (ba (uq Y) (hr.mono (by decide)) Y.fWay.n.mg Y.fWay.n.kp Y.fWay.b (af (ag 1 (pv 1)) (af (ag 2 (pv 2)) (af (aB (hu1 hr) (ag 0 (pv 0)) (EvS.w ak)) (af (aB (hu1 hr) (ag 0 (pv 0)) (EvS.w ak)) ai))))) ai)))))) ai)))))))
theorem nh (Y:Ev K mg):FnOk P w K mg base CX0 4 Y.fWaysIn.f Y.fWaysIn.fd ["net", "tree"] (spQ ⟨P,w,K,obG K⟩ 2 dN):=bw (mW Y) mZ
theorem pV:aD ["net", "#t"] ["net"] (aq sWays):=⟨rfl,rfl,rfl,by decide +kernel,rfl,by decide +kernel,by decide +kernel⟩
theorem rC (Y:Ev K mg) (hB:BMain mg base):FnOk P w K mg base CX0 5 Y.fWays.f Y.fWays.fd ["net"] (spT ⟨P,w,K,obG K⟩ 1 (runT 1 (eR Y.fCheaperFirst_T))) :=
 jc (nm := "#t") Y.fWays.F pV rfl (by decide) rfl (by unfold Vis; decide +kernel) (fun cdv hcdv A outer s H E hr=>by
  unfold eR
  exact (aw (aO (ba (nh Y) (hr.mono (by decide)) Y.fWaysIn.n.mg Y.fWaysIn.n.kp Y.fWaysIn.b (af (ag 0 (pv 0)) (af (iH 1 (mz Y hB) (hr.mono (by decide)) Y.fCheapest.n.mg Y.fCheapest.n.kp Y.fCheapest.b (af (ag 0 (pv 0)) ai)) ai))))))
theorem sr (Y:Ev K mg) (hB:BMain mg base):FnOk P w K mg base CX0 5 Y.fWays.f Y.fWays.fd ["net"] (spT ⟨P,w,K,obG K⟩ 1 (iJ Y.fCheaperFirst_T)):=jW (rC Y hB) (rS _)
theorem mh:(["_law_k", "_law_state", "_law_letters"]:List Str).Nodup:=by decide +kernel
theorem sc_l_words:aD ["_law_state", "_law_many", "_law_letters", "_law_stem", "_law_at", "_law_turn", "_law_kind", "_law_found", "_law_k", "_law_letter"] ["_law_state", "_law_many"] (aq sWords):=⟨rfl,rfl,rfl,by decide +kernel,rfl,by decide +kernel,by decide +kernel⟩
theorem qa (Y:Ev K mg):FnOk P w K mg base CX0 2 Y.fWords.f Y.fWords.fd ["_law_state", "_law_many"] (spOF ⟨P,w,K,obG K⟩ 2 (runOF 10 dw)) :=
 uy Y.fWords.F sc_l_words (by decide) (fun cdv A outer s H E hr=>by
  unfold dw
  exact (ap (aL 2 sc_l_words.nd rfl (Or.inr rfl) qN)
  (ap (aL 3 sc_l_words.nd rfl (Or.inl rfl) (uA qN (EvS.w (EvF.s (cE (N:=["_law_k", "_law_state", "_law_letters"]) (T:=(.nm 0)) (js:=[none,some 0,some 2]) (dF (by rfl) Y.b_range (af (aF 0 (aG Y) (hr.mono (by decide)) Y.fNext.n.mg Y.fNext.n.kp Y.fNext.b (pv 0) (af ak ai)) ai)) (fun _ _ _ _ _=>aK (i:=0) mh rfl (Or.inl rfl)) (fun _ _ _ _ _=>bA) (fun _ _ _ _ _=>(aB (hu1 hr) (ag 2 (pv 2)) (EvS.w (aF 1 (aG Y) (hr.mono (by decide)) Y.fNext.n.mg Y.fNext.n.kp Y.fNext.b (pv 1) (af ak ai))))))))))
  (ap (aL 4 sc_l_words.nd rfl (Or.inl rfl) (aF 0 (aG Y) (hr.mono (by decide)) Y.fNext.n.mg Y.fNext.n.kp Y.fNext.b (pv 0) (af (aU (cp cN cO (by rfl) Y.b_len PySem.boot_len (bI (aC 3 (pv 3)))) (EvS.w ak)) ai)))
  (ap (aL 5 sc_l_words.nd rfl (Or.inl rfl) (aF 0 (aG Y) (hr.mono (by decide)) Y.fNext.n.mg Y.fNext.n.kp Y.fNext.b (pv 0) (af ak ai)))
  (ap (aL 6 sc_l_words.nd rfl (Or.inl rfl) (aF 0 (aG Y) (hr.mono (by decide)) Y.fNext.n.mg Y.fNext.n.kp Y.fNext.b (pv 0) (af ak ai)))
  (ap (bz 7 sc_l_words.nd rfl (Or.inl rfl) (bi ai))
  (ap (dk PassesOwn.never rfl (dF (by rfl) Y.b_range (af (ag 1 (pv 1)) ai)) (aM 8 sc_l_words.nd rfl (Or.inl rfl)) (ap (aL 9 sc_l_words.nd rfl (Or.inl rfl) (aB (hu1 hr) (ag 2 (pv 2)) (EvS.w (cL (aU (ag 5 (pv 5)) (aC 8 (pv 8))) (EvS.w ak)))))
  (aw (bN (aJ (bn (hu60 hr)) bj (ag 6 (pv 6)) (EvS.w ak) (by first | exact nomark _ | rfl)) (aw (cf (EvS.w (cT 7 PySem.F.slot_list_append PySem.F.type_list_append bg bC (pv 7) (af (jg (aB (hu1 hr) (ag 2 (pv 2)) (EvS.w (cL (aU (ag 5 (pv 5)) (EvS.w (jh (ag 8 (pv 8)) (EvS.w ak)))) (EvS.w ak)))) (EvS.w (aU ak (EvS.w (cL (ag 8 (pv 8)) (EvS.w ak)))))) ai))))) (aw (cf (EvS.w (cT 7 PySem.F.slot_list_append PySem.F.type_list_append bg bC (pv 7) (af (aU (aU (qO (ag 3 (pv 3)) eM (eJ (aC 4 (pv 4)))) (EvS.w (jg (ag 9 (pv 9)) (EvS.w (aU ak (EvS.w (jh (ag 8 (pv 8)) (EvS.w ak)))))))) (EvS.w (qO (ag 3 (pv 3)) (eJ (aC 4 (pv 4))) eM))) ai)))))))))
  (aw (n9 (fx rfl (by rfl) Y.b_sorted (bI (aC 7 (pv 7))))))))))))))
theorem jb (Y:Ev K mg):FnOk P w K mg base CX0 2 Y.fWords.f Y.fWords.fd ["_law_state", "_law_many"] (spOF ⟨P,w,K,obG K⟩ 2 cP):=sC (qa Y) qh
theorem sc_l_ends:aD ["_law_state", "_law_words_here", "_law_style", "_law_k", "_law_many", "_law_two", "_law_first", "_law_half"] ["_law_state", "_law_words_here", "_law_style", "_law_k"] (aq sEnds):=⟨rfl,rfl,rfl,by decide +kernel,rfl,by decide +kernel,by decide +kernel⟩
theorem rG (Y:Ev K mg):FnOk P w K mg base CX0 2 Y.fEnds.f Y.fEnds.fd ["_law_state", "_law_words_here", "_law_style", "_law_k"] (spO ⟨P,w,K,obG K⟩ 4 (runO 8 eZ)) :=
 mC Y.fEnds.F sc_l_ends (by decide) (fun cdv A outer s H E hr=>by
  unfold eZ
  exact (ap (aL 4 sc_l_ends.nd rfl (Or.inl rfl) (cp cN cO (by rfl) Y.b_len PySem.boot_len (bI (aC 1 (pv 1)))))
  (ap (bN (aJ (bn (hu60 hr)) bj (ag 2 (pv 2)) (EvS.w ak) (by first | exact nomark _ | rfl)) (aw (aL 5 sc_l_ends.nd rfl (Or.inl rfl) (EvF.s (bi (af (aB (hu1 hr) (ag 1 (pv 1)) (EvS.w (cL (ag 3 (pv 3)) (aC 4 (pv 4))))) (af (aB (hu1 hr) (ag 1 (pv 1)) (EvS.w (cL (aU (ag 3 (pv 3)) (EvS.w ak)) (aC 4 (pv 4))))) ai)))))) (aw (bN (aJ (bn (hu60 hr)) bj (ag 2 (pv 2)) (EvS.w ak) (by first | exact nomark _ | rfl)) (ap (aL 6 sc_l_ends.nd rfl (Or.inl rfl) (aF 0 (aG Y) (hr.mono (by decide)) Y.fNext.n.mg Y.fNext.n.kp Y.fNext.b (pv 0) (af (ag 4 (pv 4)) ai)))
  (aw (aL 5 sc_l_ends.nd rfl (Or.inl rfl) (EvF.s (bi (af (aB (hu1 hr) (ag 1 (pv 1)) (aC 6 (pv 6))) (af (aB (hu1 hr) (ag 1 (pv 1)) (EvS.w (cL (aU (ag 6 (pv 6)) (EvS.w ak)) (aC 4 (pv 4))))) ai))))))) (aw (bN (pz (jk (aJ (bn (hu60 hr)) bj (ag 2 (pv 2)) (EvS.w ak) (by first | exact nomark _ | rfl)) (gO (aJ o5 qi (ag 4 (pv 4)) (EvS.w ak) (by first | exact nomark _ | rfl))))) (ap (aL 7 sc_l_ends.nd rfl (Or.inl rfl) (aB (hu1 hr) (EvF.s (bi (af (po (ag 1 (pv 1)) eM (eJ (EvS.w (jh (ag 4 (pv 4)) (EvS.w ak))))) (af (po (ag 1 (pv 1)) (eJ (EvS.w (jh (ag 4 (pv 4)) (EvS.w ak)))) eM) ai)))) (EvS.w (aF 0 (aG Y) (hr.mono (by decide)) Y.fNext.n.mg Y.fNext.n.kp Y.fNext.b (pv 0) (af ak ai)))))
  (ap (aL 6 sc_l_ends.nd rfl (Or.inl rfl) (aF 0 (aG Y) (hr.mono (by decide)) Y.fNext.n.mg Y.fNext.n.kp Y.fNext.b (pv 0) (af (cp cN cO (by rfl) Y.b_len PySem.boot_len (bI (aC 7 (pv 7)))) ai)))
  (aw (aL 5 sc_l_ends.nd rfl (Or.inl rfl) (EvF.s (bi (af (aB (hu1 hr) (ag 7 (pv 7)) (aC 6 (pv 6))) (af (aB (hu1 hr) (ag 7 (pv 7)) (EvS.w (cL (aU (aU (ag 6 (pv 6)) (EvS.w ak)) (EvS.w (aF 0 (aG Y) (hr.mono (by decide)) Y.fNext.n.mg Y.fNext.n.kp Y.fNext.b (pv 0) (af (eF (cp cN cO (by rfl) Y.b_len PySem.boot_len (bI (aC 7 (pv 7)))) (EvS.w ak)) ai)))) (EvS.w (cp cN cO (by rfl) Y.b_len PySem.boot_len (bI (aC 7 (pv 7)))))))) ai)))))))) (ap (aL 6 sc_l_ends.nd rfl (Or.inl rfl) (aF 0 (aG Y) (hr.mono (by decide)) Y.fNext.n.mg Y.fNext.n.kp Y.fNext.b (pv 0) (af (ag 4 (pv 4)) ai)))
  (aw (aL 5 sc_l_ends.nd rfl (Or.inl rfl) (EvF.s (bi (af (aB (hu1 hr) (ag 1 (pv 1)) (aC 6 (pv 6))) (af (aB (hu1 hr) (ag 1 (pv 1)) (EvS.w (cL (aU (aU (ag 6 (pv 6)) (EvS.w ak)) (EvS.w (aF 0 (aG Y) (hr.mono (by decide)) Y.fNext.n.mg Y.fNext.n.kp Y.fNext.b (pv 0) (af (eF (ag 4 (pv 4)) (EvS.w ak)) ai)))) (aC 4 (pv 4))))) ai))))))))))))
  (aw (aO (bX bJ bK (by rfl) Y.b_tuple PyProof.Rows.boot_tuple (EvA.w (af (EvF.s (fx rfl (by rfl) Y.b_sorted (bI (aC 5 (pv 5))))) ai))))))))
theorem sw (Y:Ev K mg):FnOk P w K mg base CX0 2 Y.fEnds.f Y.fEnds.fd ["_law_state", "_law_words_here", "_law_style", "_law_k"] (spO ⟨P,w,K,obG K⟩ 4 fH):=jX (rG Y) rX
theorem pY:aD ["_law_state", "_law_style"] ["_law_state", "_law_style"] (aq sCost):=⟨rfl,rfl,rfl,by decide +kernel,rfl,by decide +kernel,by decide +kernel⟩
theorem rH (Y:Ev K mg):FnOk P w K mg base CX0 2 Y.fCost.f Y.fCost.fd ["_law_state", "_law_style"] (spO ⟨P,w,K,obG K⟩ 2 (runO 2 e8)) :=
 mC Y.fCost.F pY (by decide) (fun cdv A outer s H E hr=>by
  unfold e8
  exact (ap (bN (aJ (bn (hu60 hr)) bj (ag 1 (pv 1)) (EvS.w ak) (by first | exact nomark _ | rfl)) (aw (aO (eF (aF 0 (aG Y) (hr.mono (by decide)) Y.fNext.n.mg Y.fNext.n.kp Y.fNext.b (pv 0) (af ak ai)) (EvS.w ak)))) bL)
  (ap (bN (aJ (bn (hu60 hr)) bj (ag 1 (pv 1)) (EvS.w ak) (by first | exact nomark _ | rfl)) (aw (aO (eF (aF 0 (aG Y) (hr.mono (by decide)) Y.fNext.n.mg Y.fNext.n.kp Y.fNext.b (pv 0) (af ak ai)) (EvS.w ak)))) bL)
  (ap (bN (aJ (bn (hu60 hr)) bj (ag 1 (pv 1)) (EvS.w ak) (by first | exact nomark _ | rfl)) (aw (aO (aB (hu1 hr) (EvF.s (bi (af (eF (mD ak (EvS.w ak)) (EvS.w ak)) (af (eF ak (EvS.w (mD ak (EvS.w ak)))) (af ak (af (aU (mD ak (EvS.w ak)) (EvS.w (aF 0 (aG Y) (hr.mono (by decide)) Y.fNext.n.mg Y.fNext.n.kp Y.fNext.b (pv 0) (af ak ai)))) ai)))))) (EvS.w (aF 0 (aG Y) (hr.mono (by decide)) Y.fNext.n.mg Y.fNext.n.kp Y.fNext.b (pv 0) (af ak ai)))))) bL)
  (aw (aO ak))))))
theorem sx (Y:Ev K mg):FnOk P w K mg base CX0 2 Y.fCost.f Y.fCost.fd ["_law_state", "_law_style"] (spO ⟨P,w,K,obG K⟩ 2 fI):=jX (rH Y) rY
theorem o7:(["_law_k", "_law_state", "_law_words_here"]:List Str).Nodup:=by decide +kernel
theorem sc_l_net:aD ["_law_state", "_law_most", "_law_ties", "_law_words_here", "_law_far", "_law_pool", "_law_many", "_law_style", "_law_costs", "_law_found", "_law_k", "_law_name"] ["_law_state", "_law_most", "_law_ties"] (aq sNet):=⟨rfl,rfl,rfl,by decide +kernel,rfl,by decide +kernel,by decide +kernel⟩
theorem tL (Y:Ev K mg):FnOk P w K mg base CX0 3 Y.fNet.f Y.fNet.fd ["_law_state", "_law_most", "_law_ties"] (spO ⟨P,w,K,obG K⟩ 3 (runO 12 gB)) :=
 mC Y.fNet.F sc_l_net (by decide) (fun cdv A outer s H E hr=>by
  unfold gB
  exact (ap (bz 3 sc_l_net.nd rfl (Or.inr rfl) (kN 0 (jb Y) (hr.mono (by decide)) Y.fWords.n.mg Y.fWords.n.kp Y.fWords.b (pv 0) (af (aU ak (EvS.w (aB (hu1 hr) (EvF.s (bi (af (aF 0 (aG Y) (hr.mono (by decide)) Y.fNext.n.mg Y.fNext.n.kp Y.fNext.b (pv 0) (af (aU (ag 1 (pv 1)) (EvS.w ak)) ai)) (af (ag 1 (pv 1)) ai)))) (EvS.w (bX gR jY (by rfl) Y.b_int PyProof.Rows.boot_int (EvA.w (af (eG (bn (hu60 hr)) bj (aF 0 (aG Y) (hr.mono (by decide)) Y.fNext.n.mg Y.fNext.n.kp Y.fNext.b (pv 0) (af ak ai)) (EvS.w ak) (by first | exact nomark _ | rfl)) ai))))))) ai)))
  (ap (jd 4 (N:=["_law_k", "_law_state", "_law_words_here"]) (T:=(.nm 0)) (js:=[none,some 0,some 3]) sc_l_net.nd rfl rfl (dF (by rfl) Y.b_range (af ak ai)) (fun _ _ _ _ _=>aK (i:=0) o7 rfl (Or.inl rfl)) (fun _ _ _ _ _=>bA) (fun _ _ _ _ _=>(cT 2 PySem.F.slot_list_pop PySem.F.type_list_pop mi si (pv 2) (af (aF 1 (aG Y) (hr.mono (by decide)) Y.fNext.n.mg Y.fNext.n.kp Y.fNext.b (pv 1) (af (cp cN cO (by rfl) Y.b_len PySem.boot_len (bI (aC 2 (pv 2)))) ai)) ai))))
  (ap (aL 5 sc_l_net.nd rfl (Or.inl rfl) (EvF.s (fx rfl (by rfl) Y.b_sorted (EvA.w (af (uC 3 nT nS (pv 3) (EvS.w (jg (ag 4 (pv 4)) (EvS.w (bX gR jY (by rfl) Y.b_int PyProof.Rows.boot_int (EvA.w (af (eG (bn (hu60 hr)) bj (aF 0 (aG Y) (hr.mono (by decide)) Y.fNext.n.mg Y.fNext.n.kp Y.fNext.b (pv 0) (af ak ai)) (EvS.w ak) (by first | exact nomark _ | rfl)) ai))))))) ai)))))
  (ap (aL 6 sc_l_net.nd rfl (Or.inl rfl) (jg (aB (hu1 hr) (EvF.s (bi (af (aF 0 (aG Y) (hr.mono (by decide)) Y.fNext.n.mg Y.fNext.n.kp Y.fNext.b (pv 0) (af ak ai)) (af (aF 0 (aG Y) (hr.mono (by decide)) Y.fNext.n.mg Y.fNext.n.kp Y.fNext.b (pv 0) (af (aU (ag 2 (pv 2)) (EvS.w ak)) ai)) (af (ag 2 (pv 2)) ai))))) (EvS.w (aF 0 (aG Y) (hr.mono (by decide)) Y.fNext.n.mg Y.fNext.n.kp Y.fNext.b (pv 0) (af ak ai)))) (EvS.w (bX gR jY (by rfl) Y.b_int PyProof.Rows.boot_int (EvA.w (af (eG o5 qi (cp cN cO (by rfl) Y.b_len PySem.boot_len (bI (aC 5 (pv 5)))) (EvS.w ak) (by first | exact nomark _ | rfl)) ai))))))
  (ap (vY 7 8 rfl sc_l_net.nd rfl rfl (by decide) rfl rfl (af (aF 0 (aG Y) (hr.mono (by decide)) Y.fNext.n.mg Y.fNext.n.kp Y.fNext.b (pv 0) (af ak ai)) (af (aF 0 (aG Y) (hr.mono (by decide)) Y.fNext.n.mg Y.fNext.n.kp Y.fNext.b (pv 0) (af ak ai)) ai)) rfl)
  (ap (bz 9 sc_l_net.nd rfl (Or.inl rfl) (bi ai))
  (ap (dk PassesOwn.never rfl (uF (by rfl) Y.b_enumerate (af (EvF.s (kN 0 (jb Y) (hr.mono (by decide)) Y.fWords.n.mg Y.fWords.n.kp Y.fWords.b (pv 0) (af (ag 6 (pv 6)) ai))) ai)) (cM (n:=2) rfl (aN (aM 10 sc_l_net.nd rfl (Or.inl rfl)) (aN (aM 11 sc_l_net.nd rfl (Or.inl rfl)) cg)) (aR (aR cK))) (aw (cf (EvS.w (cT 9 PySem.F.slot_list_append PySem.F.type_list_append bg bC (pv 9) (af (aU (aU (aW (af (ag 11 (pv 11)) ai)) (EvS.w (aF 0 (sw Y) (hr.mono (by decide)) Y.fEnds.n.mg Y.fEnds.n.kp Y.fEnds.b (pv 0) (af (ag 5 (pv 5)) (af (ag 7 (pv 7)) (af (ag 10 (pv 10)) ai)))))) (EvS.w (aW (af (aF 0 (sx Y) (hr.mono (by decide)) Y.fCost.n.mg Y.fCost.n.kp Y.fCost.b (pv 0) (af (ag 8 (pv 8)) ai)) ai)))) ai))))))
  (aw (aO (aW (af (bX bJ bK (by rfl) Y.b_tuple PyProof.Rows.boot_tuple (bI (aC 3 (pv 3)))) (af (bX bJ bK (by rfl) Y.b_tuple PyProof.Rows.boot_tuple (bI (aC 9 (pv 9)))) ai)))))))))))))
theorem ut (Y:Ev K mg):FnOk P w K mg base CX0 3 Y.fNet.f Y.fNet.fd ["_law_state", "_law_most", "_law_ties"] (spO ⟨P,w,K,obG K⟩ 3 eN):=jX (tL Y) tX
theorem m8:(["_law_tie", "_law_net_here"]:List Str).Nodup:=by decide +kernel
theorem pX:aD ["_law_net_here"] ["_law_net_here"] (aq sOpen):=⟨rfl,rfl,rfl,by decide +kernel,rfl,by decide +kernel,by decide +kernel⟩
theorem rF (Y:Ev K mg):FnOk P w K mg base CX0 1 Y.fOpen.f Y.fOpen.fd ["_law_net_here"] (spF ⟨P,w,K,obG K⟩ 1 (runF 1 eY)) :=
 vV Y.fOpen.F pX (by decide) (fun cdv A outer s H E hr=>by
  unfold eY
  exact (aw (n9 (cE (N:=["_law_tie", "_law_net_here"]) (T:=(.nm 0)) (js:=[none,some 0]) (aY (aB (hu1 hr) (ag 0 (pv 0)) (EvS.w ak))) (fun _ _ _ _ _=>aK (i:=0) m8 rfl (Or.inl rfl)) (fun _ _ _ _ _=>gp (pz (jk (aJ (dZ (hu62 hr)) dX (aB (hu1 hr) (ag 0 (pv 0)) (EvS.w ak)) (EvS.w (aB (hu1 hr) (ag 1 (pv 1)) (EvS.w ak))) (by first | exact nomark _ | rfl)) (gO (aJ (dZ (hu62 hr)) dX (aB (hu1 hr) (ag 0 (pv 0)) (EvS.w ak)) (EvS.w (aB (hu1 hr) (ag 1 (pv 1)) (EvS.w ak))) (by first | exact nomark _ | rfl)))))) (fun _ _ _ _ _=>(ag 0 (pv 0)))))))
theorem kH (Y:Ev K mg):FnOk P w K mg base CX0 1 Y.fOpen.f Y.fOpen.fd ["_law_net_here"] (spF ⟨P,w,K,obG K⟩ 1 fG):=uz (rF Y) rV
theorem dA:(["_law_k", "_law_place"]:List Str).Nodup:=by decide +kernel
theorem iY:(["_law_tie"]:List Str).Nodup:=by decide +kernel
theorem dz:(["_law_place", "_law_mark", "_law_mine", "_law_yours"]:List Str).Nodup:=by decide +kernel
theorem sc_l_cheapest:aD ["_law_net_here", "_law_label", "_law_kept", "_law_cost_here", "_law_name", "_law_tie", "_law_mine", "_law_yours"] ["_law_net_here"] (aq fo):=⟨rfl,rfl,rfl,by decide +kernel,rfl,by decide +kernel,by decide +kernel⟩
theorem lO (Y:Ev K mg):FnOk P w K mg base CX0 2 Y.fCheapestL.f Y.fCheapestL.fd ["_law_net_here"] (spQ ⟨P,w,K,obG K⟩ 1 (run 8 ck)) :=
 bW Y.fCheapestL.F sc_l_cheapest (by decide) (fun cdv A outer s H E hr=>by
  unfold ck
  exact (ap (bz 1 sc_l_cheapest.nd rfl (Or.inl rfl) (qP (oA rfl) oD (by rfl) Y.b_dict PyProof.Rows.boot_dict (EvA.w (af (EvF.s (cE (N:=["_law_k", "_law_place"]) (T:=(.tp [0,1])) (js:=[none,none]) (sK (by rfl) Y.b_enumerate (af (aB (hu1 hr) (ag 0 (pv 0)) (EvS.w ak)) ai)) (fun _ _ _ _ _=>iW (n:=2) rfl (b7 (aK (i:=0) dA rfl (Or.inl rfl)) (b7 (aK (i:=1) dA rfl (Or.inl rfl)) gG))) (fun _ _ _ _ _=>bA) (fun _ _ _ _ _=>(aW (af (ag 1 (pv 1)) (af (ag 0 (pv 0)) ai)))))) ai))))
  (ap (bz 2 sc_l_cheapest.nd rfl (Or.inl rfl) (bi ai))
  (ap (dk PassesOwn.never rfl (aY (EvF.s (sE (by rfl) Y.b_sorted (EvA.w (af (EvF.s (cE (N:=["_law_tie"]) (T:=(.nm 0)) (js:=[none]) (aY (EvF.s (mG (kH Y) (hr.mono (by decide)) Y.fOpen.n.mg Y.fOpen.n.kp Y.fOpen.b (af (ag 0 (pv 0)) ai)))) (fun _ _ _ _ _=>aK (i:=0) iY rfl (Or.inl rfl)) (fun _ _ _ _ _=>bA) (fun _ _ _ _ _=>(aW (af (aB (hu1 hr) (ag 0 (pv 0)) (EvS.w ak)) (af (aB (hu1 hr) (ag 0 (pv 0)) (EvS.w ak)) (af (ag 0 (pv 0)) ai))))))) ai))))) (cM (n:=3) rfl (aN (aM 3 sc_l_cheapest.nd rfl (Or.inl rfl)) (aN (aM 4 sc_l_cheapest.nd rfl (Or.inl rfl)) (aN (aM 5 sc_l_cheapest.nd rfl (Or.inl rfl)) cg))) (aR (aR (aR cK)))) (ap (jf (aW (af (gn 1 (hu1 hr) (pv 1) (EvS.w (aB (hu1 hr) (ag 5 (pv 5)) (EvS.w ak)))) (af (gn 1 (hu1 hr) (pv 1) (EvS.w (aB (hu1 hr) (ag 5 (pv 5)) (EvS.w ak)))) ai))) (cM (n:=2) rfl (aN (aM 6 sc_l_cheapest.nd rfl (Or.inr rfl)) (aN (aM 7 sc_l_cheapest.nd rfl (Or.inr rfl)) cg)) (aR (aR cK))))
  (aw (bN (aJ (o4 (hu0 hr)) lV (ag 6 (pv 6)) (aC 7 (pv 7)) (by first | exact nomark _ | rfl)) (ap (cf (EvS.w (cT 2 PySem.F.slot_list_append PySem.F.type_list_append bg bC (pv 2) (af (ag 5 (pv 5)) ai))))
  (aw (bz 1 sc_l_cheapest.nd rfl (Or.inl rfl) (qP (oA rfl) oD (by rfl) Y.b_dict PyProof.Rows.boot_dict (EvA.w (af (EvF.s (cE (N:=["_law_place", "_law_mark", "_law_mine", "_law_yours"]) (T:=(.tp [0,1])) (js:=[none,none,some 6,some 7]) (kR 1 (pv 1)) (fun _ _ _ _ _=>iW (n:=2) rfl (b7 (aK (i:=0) dz rfl (Or.inl rfl)) (b7 (aK (i:=1) dz rfl (Or.inl rfl)) gG))) (fun _ _ _ _ _=>bA) (fun _ _ _ _ _=>(aW (af (ag 0 (pv 0)) (af (mF (aJ (bn (hu60 hr)) bj (ag 1 (pv 1)) (aC 2 (pv 2)) (by first | exact nomark _ | rfl)) (ag 3 (pv 3)) (ag 1 (pv 1))) ai)))))) ai)))))) bL))))
  (aw (aO (EvF.s (sD (by rfl) Y.b_sorted (bI (aC 2 (pv 2)))))))))))
theorem mB (Y:Ev K mg):FnOk P w K mg base CX0 2 Y.fCheapestL.f Y.fCheapestL.fd ["_law_net_here"] (spQ ⟨P,w,K,obG K⟩ 1 du):=bw (lO Y) lS
theorem sc_l_way:aD ["_law_ties", "_law_one", "_law_other", "_law_rows", "_law_at", "_law_here", "_law_names", "_law_name", "_law_first", "_law_second", "_law_cost_here"] ["_law_ties", "_law_one", "_law_other"] (aq sWayL):=⟨rfl,rfl,rfl,by decide +kernel,rfl,by decide +kernel,by decide +kernel⟩
theorem tK (Y:Ev K mg):FnOk P w K mg base CX0 1 Y.fWayL.f Y.fWayL.fd ["_law_ties", "_law_one", "_law_other"] (spQ ⟨P,w,K,obG K⟩ 3 (run 11 gA)) :=
 bW Y.fWayL.F sc_l_way (by decide) (fun cdv A outer s H E hr=>by
  unfold gA
  exact (ap (bz 3 sc_l_way.nd rfl (Or.inl rfl) (bi (af (aW (af (ag 1 (pv 1)) (af (aW ai) ai))) ai)))
  (ap (aL 4 sc_l_way.nd rfl (Or.inl rfl) ak)
  (ap (iC PassesOwn.never (aJ wy ve (ag 4 (pv 4)) (EvS.w (cp cN cO (by rfl) Y.b_len PySem.boot_len (bI (aC 3 (pv 3))))) (by first | exact nomark _ | rfl)) (ap (jf (gn 3 (hu1 hr) (pv 3) (aC 4 (pv 4))) (cM (n:=2) rfl (aN (aM 5 sc_l_way.nd rfl (Or.inl rfl)) (aN (aM 6 sc_l_way.nd rfl (Or.inl rfl)) cg)) (aR (aR cK))))
  (ap (bN (aJ (bn (hu60 hr)) bj (ag 5 (pv 5)) (aC 2 (pv 2)) (by first | exact nomark _ | rfl)) (aw (aO (ag 6 (pv 6)))) bL)
  (ap (dk PassesOwn.never rfl (aY (ag 0 (pv 0))) (cM (n:=4) rfl (aN (aM 7 sc_l_way.nd rfl (Or.inl rfl)) (aN (aM 8 sc_l_way.nd rfl (Or.inl rfl)) (aN (aM 9 sc_l_way.nd rfl (Or.inl rfl)) (aN (aM 10 sc_l_way.nd rfl (Or.inl rfl)) cg)))) (aR (aR (aR (aR cK))))) (aw (bN (pz (jk (aJ (dY (hu62 hr)) dW (ag 7 (pv 7)) (aC 6 (pv 6)) (by first | exact nomark _ | rfl)) (gO (aJ (dZ (hu62 hr)) dX (ag 5 (pv 5)) (EvS.w (aW (af (ag 8 (pv 8)) (af (ag 9 (pv 9)) ai)))) (by first | exact nomark _ | rfl))))) (aw (cf (EvS.w (cT 3 PySem.F.slot_list_append PySem.F.type_list_append bg bC (pv 3) (af (aW (af (mF (aJ (bn (hu60 hr)) bj (ag 5 (pv 5)) (aC 8 (pv 8)) (by first | exact nomark _ | rfl)) (ag 9 (pv 9)) (ag 8 (pv 8))) (af (aU (ag 6 (pv 6)) (EvS.w (aW (af (ag 7 (pv 7)) ai)))) ai))) ai))))) bL)))
  (aw (aL 4 sc_l_way.nd rfl (Or.inl rfl) (aU (ag 4 (pv 4)) (EvS.w ak))))))))
  (aw (aO mE))))))
theorem ur (Y:Ev K mg):FnOk P w K mg base CX0 1 Y.fWayL.f Y.fWayL.fd ["_law_ties", "_law_one", "_law_other"] (spQ ⟨P,w,K,obG K⟩ 3 j9):=bw (tK Y) tW
theorem m7:(["_law_tie", "_law_tree"]:List Str).Nodup:=by decide +kernel
theorem m6:(["_law_tie", "_law_tree"]:List Str).Nodup:=by decide +kernel
theorem sc_l_ways:aD ["_law_net_here", "_law_tree", "_law_left"] ["_law_net_here"] (aq sWaysL):=⟨rfl,rfl,rfl,by decide +kernel,rfl,by decide +kernel,by decide +kernel⟩
theorem rE (Y:Ev K mg):FnOk P w K mg base CX0 3 Y.fWaysL.f Y.fWaysL.fd ["_law_net_here"] (spQ ⟨P,w,K,obG K⟩ 1 (run 3 eU)) :=
 bW Y.fWaysL.F sc_l_ways (by decide) (fun cdv A outer s H E hr=>by
  unfold eU
  exact (ap (aL 1 sc_l_ways.nd rfl (Or.inr rfl) (ba (mB Y) (hr.mono (by decide)) Y.fCheapestL.n.mg Y.fCheapestL.n.kp Y.fCheapestL.b (af (ag 0 (pv 0)) ai)))
  (ap (jd 2 (N:=["_law_tie", "_law_tree"]) (T:=(.nm 0)) (js:=[none,some 1]) sc_l_ways.nd rfl rfl (aY (EvF.s (mG (kH Y) (hr.mono (by decide)) Y.fOpen.n.mg Y.fOpen.n.kp Y.fOpen.b (af (ag 0 (pv 0)) ai)))) (fun _ _ _ _ _=>aK (i:=0) m7 rfl (Or.inl rfl)) (fun _ _ _ _ _=>gp (aJ (dY (hu62 hr)) dW (ag 0 (pv 0)) (aC 1 (pv 1)) (by first | exact nomark _ | rfl))) (fun _ _ _ _ _=>(ag 0 (pv 0))))
  (aw (aO (bX bJ bK (by rfl) Y.b_tuple PyProof.Rows.boot_tuple (EvA.w (af (EvF.s (cE (N:=["_law_tie", "_law_tree"]) (T:=(.nm 0)) (js:=[none,some 1]) (aY (ag 2 (pv 2))) (fun _ _ _ _ _=>aK (i:=0) m6 rfl (Or.inl rfl)) (fun _ _ _ _ _=>bA) (fun _ _ _ _ _=>(aW (af (aB (hu1 hr) (ag 0 (pv 0)) (EvS.w ak)) (af (ba (ur Y) (hr.mono (by decide)) Y.fWayL.n.mg Y.fWayL.n.kp Y.fWayL.b (af (ag 1 (pv 1)) (af (aB (hu1 hr) (ag 0 (pv 0)) (EvS.w ak)) (af (aB (hu1 hr) (ag 0 (pv 0)) (EvS.w ak)) ai)))) ai)))))) ai))))))))
theorem sv (Y:Ev K mg):FnOk P w K mg base CX0 3 Y.fWaysL.f Y.fWaysL.fd ["_law_net_here"] (spQ ⟨P,w,K,obG K⟩ 1 iL):=bw (rE Y) rU
theorem o9:(["_law_turn", "_law_state"]:List Str).Nodup:=by decide +kernel
theorem o8:(["_law_net_here", "#t"]:List Str).Nodup:=by decide +kernel
theorem sc_l_law:aD ["_law_script", "_law_state", "_law_nets", "#t"] ["_law_script"] (aq sLaw):=⟨rfl,rfl,rfl,by decide +kernel,rfl,by decide +kernel,by decide +kernel⟩
theorem tM (Y:Ev K mg) (hB:BMain mg base):FnOk P w K mg base CX0 6 Y.fLaw.f Y.fLaw.fd ["_law_script"] (spT ⟨P,w,K,obG K⟩ 1 (runT 3 (gC Y.fCheaperFirst_T))) :=
 jc (nm := "#t") Y.fLaw.F sc_l_law rfl (by decide) rfl (by unfold Vis; decide +kernel) (fun cdv hcdv A outer s H E hr=>by
  unfold gC
  exact (ap (pk 1 0 sc_l_law.nd rfl (Or.inr rfl) (qH Y) (hr.mono (by decide)) Y.fBegin.n.mg Y.fBegin.n.kp Y.fBegin.b (pv 0))
  (ap (jd 2 (N:=["_law_turn", "_law_state"]) (T:=(.nm 0)) (js:=[none,some 1]) sc_l_law.nd rfl rfl (dF (by rfl) Y.b_range (af ak ai)) (fun _ _ _ _ _=>aK (i:=0) o9 rfl (Or.inl rfl)) (fun _ _ _ _ _=>bA) (fun _ _ _ _ _=>(aF 1 (ut Y) (hr.mono (by decide)) Y.fNet.n.mg Y.fNet.n.kp Y.fNet.b (pv 1) (af ak (af ak ai)))))
  (aw (aO (cp (sN rfl) wf (by rfl) Y.b_all PyProof.Rows.boot_all (EvA.w (af (EvF.s (cE (N:=["_law_net_here", "#t"]) (T:=(.nm 0)) (js:=[none,some 3]) (aY (aU (ag 2 (pv 2)) (EvS.w (po (ag 2 (pv 2)) eM (eJ (EvS.w ak)))))) (fun _ _ _ _ _=>aK (i:=0) o8 rfl (Or.inl rfl)) (fun _ _ _ _ _=>bA) (fun _ _ _ _ _=>(eG (bn (hu60 hr)) bj (cp (jq hr) oC (by rfl) Y.b_repr PyProof.Rows.boot_repr (EvA.w (af (iH 1 (sr Y hB) (hr.mono (by decide)) Y.fWays.n.mg Y.fWays.n.kp Y.fWays.b (af (ag 0 (pv 0)) ai)) ai))) (EvS.w (cp (jq hr) oC (by rfl) Y.b_repr PyProof.Rows.boot_repr (EvA.w (af (ba (sv Y) (hr.mono (by decide)) Y.fWaysL.n.mg Y.fWaysL.n.kp Y.fWaysL.b (af (ag 0 (pv 0)) ai)) ai)))) (by first | exact nomark _ | rfl))))) ai))))))))
theorem vj (Y:Ev K mg) (hB:BMain mg base):FnOk P w K mg base CX0 6 Y.fLaw.f Y.fLaw.fd ["_law_script"] (spLawT K Y.fCheaperFirst_T):=ug (tM Y hB) (tY _)
end
end Pre
namespace Pre
open PySem L2
structure DfIn (K:PySem.W.Frag) (x:Str) (st:Stmt) where
 {f:Addr}
 {od an:Option Addr}
 {sl:Array (Option Value)}
 {oc kV dc pm cd ct:Value}
 a:PySem.W.nsIn K mainGlobals x=some (some (.ref f))
 l:K.lookup f=some ⟨oc,od,.func (PySem.W.fnOf x x (cZ st) (bc st) (aq st) .none kV dc pm an cd ct),sl⟩
 c:PySem.W.codeIn K cd x=true
 k:PySem.W.keepIn K (.ref f)=true
noncomputable def mkDf {K:PySem.W.Frag} {h:Heap} {mg:Str->Option Value} (X:K.In h) (G:h.Ns mainGlobals mg) {x:Str} {st:Stmt} {ps:List Str} (d:DfIn K x st)
  (hb:∀ (kV doc pm:Value) (an:Option Addr) (cdv ct:Value) (us:List Value),us.length=ps.length->bindArgs (PySem.W.fnOf x x (cZ st) (bc st) (aq st) .none kV doc pm an cdv ct) ⟨us,[]⟩=pure (ps.zip us)):Df K mg x st ps :=
 ⟨d.f,_,qI d.l d.c d.k,(qI d.l d.c d.k).binds hb,PySem.W.mg_of X G d.a,d.k⟩
theorem ba1 {fd:FuncData} {ps:List Str} (us:List Value) (h:us.length=1) (k:∀ a0,bindArgs fd ⟨[a0],[]⟩=pure (ps.zip [a0])):bindArgs fd ⟨us,[]⟩=pure (ps.zip us):=by obtain ⟨a0,u0,rfl⟩:=List.exists_cons_of_length_eq_add_one (h); obtain rfl:=List.length_eq_zero_iff.mp (Nat.succ.inj (h)); exact k a0
theorem ba2 {fd:FuncData} {ps:List Str} (us:List Value) (h:us.length=2) (k:∀ a0 a1,bindArgs fd ⟨[a0,a1],[]⟩=pure (ps.zip [a0,a1])):bindArgs fd ⟨us,[]⟩=pure (ps.zip us):=by obtain ⟨a0,u0,rfl⟩:=List.exists_cons_of_length_eq_add_one (h); obtain ⟨a1,u1,rfl⟩:=List.exists_cons_of_length_eq_add_one (Nat.succ.inj (h)); obtain rfl:=List.length_eq_zero_iff.mp (Nat.succ.inj (Nat.succ.inj (h))); exact k a0 a1
theorem ba3 {fd:FuncData} {ps:List Str} (us:List Value) (h:us.length=3) (k:∀ a0 a1 a2,bindArgs fd ⟨[a0,a1,a2],[]⟩=pure (ps.zip [a0,a1,a2])):bindArgs fd ⟨us,[]⟩=pure (ps.zip us):=by obtain ⟨a0,u0,rfl⟩:=List.exists_cons_of_length_eq_add_one (h); obtain ⟨a1,u1,rfl⟩:=List.exists_cons_of_length_eq_add_one (Nat.succ.inj (h)); obtain ⟨a2,u2,rfl⟩:=List.exists_cons_of_length_eq_add_one (Nat.succ.inj (Nat.succ.inj (h))); obtain rfl:=List.length_eq_zero_iff.mp (Nat.succ.inj (Nat.succ.inj (Nat.succ.inj (h)))); exact k a0 a1 a2
theorem ba4 {fd:FuncData} {ps:List Str} (us:List Value) (h:us.length=4) (k:∀ a0 a1 a2 a3,bindArgs fd ⟨[a0,a1,a2,a3],[]⟩=pure (ps.zip [a0,a1,a2,a3])):bindArgs fd ⟨us,[]⟩=pure (ps.zip us):=by obtain ⟨a0,u0,rfl⟩:=List.exists_cons_of_length_eq_add_one (h); obtain ⟨a1,u1,rfl⟩:=List.exists_cons_of_length_eq_add_one (Nat.succ.inj (h)); obtain ⟨a2,u2,rfl⟩:=List.exists_cons_of_length_eq_add_one (Nat.succ.inj (Nat.succ.inj (h))); obtain ⟨a3,u3,rfl⟩:=List.exists_cons_of_length_eq_add_one (Nat.succ.inj (Nat.succ.inj (Nat.succ.inj (h)))); obtain rfl:=List.length_eq_zero_iff.mp (Nat.succ.inj (Nat.succ.inj (Nat.succ.inj (Nat.succ.inj (h))))); exact k a0 a1 a2 a3
theorem wj {l:PySem.W.OpenLaw} {w:World} {K:PySem.W.Frag} {h:Heap} {mg:Str->Option Value} {fa c T:Addr} (X:K.In h) (G:h.Ns mainGlobals mg) (hfa:mg "law" = some (.ref fa))
  (d1:DfIn K "is_open" jC) (d2:DfIn K "ties_by_name" dI) (d3:DfIn K "open_ties" fW) (d4:DfIn K "ranks" sRanks) (d5:DfIn K "cheaper_first" cR) (d6:DfIn K "without_round" cQ) (d7:DfIn K "cheapest" fX) (d8:DfIn K "neighbours" dJ) (d9:DfIn K "came_by" jF) (d10:DfIn K "only" sOnly) (d11:DfIn K "way" sWay) (d12:DfIn K "ways_in" jB) (d13:DfIn K "ways" sWays) (d14:DfIn K "_law_begin" sBegin) (d15:DfIn K "_law_next" sNext) (d16:DfIn K "_law_words" sWords) (d17:DfIn K "_law_ends" sEnds) (d18:DfIn K "_law_cost" sCost) (d19:DfIn K "_law_net" sNet) (d20:DfIn K "_law_open" sOpen) (d21:DfIn K "_law_cheapest" fo) (d22:DfIn K "_law_way" sWayL) (d23:DfIn K "_law_ways" sWaysL) (d24:DfIn K "law" sLaw) (hcd:d5.cd=.ref c) (hC:PySem.W.codeHdIn K c T=true)
  (z1:PySem.W.nsIn K mainGlobals "abs" = some none) (z2:PySem.W.nsIn K mainGlobals "all" = some none) (z3:PySem.W.nsIn K mainGlobals "dict" = some none) (z4:PySem.W.nsIn K mainGlobals "enumerate" = some none) (z5:PySem.W.nsIn K mainGlobals "int" = some none) (z6:PySem.W.nsIn K mainGlobals "len" = some none) (z7:PySem.W.nsIn K mainGlobals "list" = some none) (z8:PySem.W.nsIn K mainGlobals "max" = some none) (z9:PySem.W.nsIn K mainGlobals "range" = some none) (z10:PySem.W.nsIn K mainGlobals "repr" = some none) (z11:PySem.W.nsIn K mainGlobals "sorted" = some none) (z12:PySem.W.nsIn K mainGlobals "tuple" = some none)  :
  ∃ fd:FuncData,(∀ (s:Shared) (v:Value),BindsTo s fd ⟨[v],[]⟩ [("_law_script",v)])/\(∃ c,PySem.W.codeHdIn K c T=true)/\∀ base:Heap,K.In base->base.Ns mainGlobals mg->BMain mg base->FnOk l.prog w K mg base CX0 6 fa fd ["_law_script"] (Q.spLawT K T):=by
 obtain ⟨V,_,v,vT⟩:∃ V:Ev K mg,∃ hb,V.fLaw=mkDf X G d24 hb/\V.fCheaperFirst_T=T:=⟨{ fIsOpen:=mkDf X G d1 (fun _ _ _ _ _ _ us hl=>ba2 us hl fun _ _=>rfl),fTiesByName:=mkDf X G d2 (fun _ _ _ _ _ _ us hl=>ba1 us hl fun _=>rfl),fOpenTies:=mkDf X G d3 (fun _ _ _ _ _ _ us hl=>ba1 us hl fun _=>rfl),fRanks:=mkDf X G d4 (fun _ _ _ _ _ _ us hl=>ba1 us hl fun _=>rfl),fCheaperFirst:=mkDf X G d5 (fun _ _ _ _ _ _ us hl=>ba2 us hl fun _ _=>rfl),fWithoutRound:=mkDf X G d6 (fun _ _ _ _ _ _ us hl=>ba2 us hl fun _ _=>rfl),fCheapest:=mkDf X G d7 (fun _ _ _ _ _ _ us hl=>ba1 us hl fun _=>rfl),fNeighbours:=mkDf X G d8 (fun _ _ _ _ _ _ us hl=>ba1 us hl fun _=>rfl),fCameBy:=mkDf X G d9 (fun _ _ _ _ _ _ us hl=>ba2 us hl fun _ _=>rfl),fOnly:=mkDf X G d10 (fun _ _ _ _ _ _ us hl=>ba2 us hl fun _ _=>rfl),fWay:=mkDf X G d11 (fun _ _ _ _ _ _ us hl=>ba4 us hl fun _ _ _ _=>rfl),fWaysIn:=mkDf X G d12 (fun _ _ _ _ _ _ us hl=>ba2 us hl fun _ _=>rfl),fWays:=mkDf X G d13 (fun _ _ _ _ _ _ us hl=>ba1 us hl fun _=>rfl),fBegin:=mkDf X G d14 (fun _ _ _ _ _ _ us hl=>ba1 us hl fun _=>rfl),fNext:=mkDf X G d15 (fun _ _ _ _ _ _ us hl=>ba2 us hl fun _ _=>rfl),fWords:=mkDf X G d16 (fun _ _ _ _ _ _ us hl=>ba2 us hl fun _ _=>rfl),fEnds:=mkDf X G d17 (fun _ _ _ _ _ _ us hl=>ba4 us hl fun _ _ _ _=>rfl),fCost:=mkDf X G d18 (fun _ _ _ _ _ _ us hl=>ba2 us hl fun _ _=>rfl),fNet:=mkDf X G d19 (fun _ _ _ _ _ _ us hl=>ba3 us hl fun _ _ _=>rfl),fOpen:=mkDf X G d20 (fun _ _ _ _ _ _ us hl=>ba1 us hl fun _=>rfl),fCheapestL:=mkDf X G d21 (fun _ _ _ _ _ _ us hl=>ba1 us hl fun _=>rfl),fWayL:=mkDf X G d22 (fun _ _ _ _ _ _ us hl=>ba3 us hl fun _ _ _=>rfl),fWaysL:=mkDf X G d23 (fun _ _ _ _ _ _ us hl=>ba1 us hl fun _=>rfl),fLaw:=mkDf X G d24 (fun _ _ _ _ _ _ us hl=>ba1 us hl fun _=>rfl),b_abs:=PySem.W.mg_none_of X G z1,b_all:=PySem.W.mg_none_of X G z2,b_dict:=PySem.W.mg_none_of X G z3,b_enumerate:=PySem.W.mg_none_of X G z4,b_int:=PySem.W.mg_none_of X G z5,b_len:=PySem.W.mg_none_of X G z6,b_list:=PySem.W.mg_none_of X G z7,b_max:=PySem.W.mg_none_of X G z8,b_range:=PySem.W.mg_none_of X G z9,b_repr:=PySem.W.mg_none_of X G z10,b_sorted:=PySem.W.mg_none_of X G z11,b_tuple:=PySem.W.mg_none_of X G z12,fCheaperFirst_T:=T,fCheaperFirst_t:=⟨c,hcd,hC⟩ },fun _ _ _ _ _ _ us hl=>ba1 us hl fun _=>rfl,rfl,rfl⟩
 have g:=fun base hB=>vj (P:=l.prog) (w:=w) (base:=base) V hB
 rw [v,vT] at g
 have e:=hfa.symm.trans (PySem.W.mg_of X G d24.a)
 obtain rfl:fa=d24.f:=by injection e with e; injection e
 exact ⟨_,fun s v=>.of_eq rfl,⟨c,hC⟩,fun base _ _=>g base⟩
theorem walk {l:PySem.W.OpenLaw} {q:Program} {loose:List Str} {XP:(Str->Option Value)->Heap->Prop} {YP:World->Heap->Prop} {d:DefRec} {K:Params->PySem.W.Frag} {T:Addr} (hn:l.most=some 63) (hdf:d.params.defaults=[])
  (hY:∀ (w:World) (h:Heap),YP w h->(K w.params).In h/\h.get? T=some (PySem.W.tabObj #[])) (hKT:∀ w:World,(K w.params).lookup T=none)
  (F:∀ (w:World) (mg:Str->Option Value) (fa:Addr) (h:Heap),(K w.params).In h->h.Ns mainGlobals mg->mg d.name=some (.ref fa) ->
   ∃ fd:FuncData,(∀ (s:Shared) (u:Value),BindsTo s fd ⟨[u],[]⟩ [("_law_script",u)])/\(∃ c,PySem.W.codeHdIn (K w.params) c T=true)/\∀ base:Heap,(K w.params).In base->base.Ns mainGlobals mg->BMain mg base->FnOk l.prog w (K w.params) mg base CX0 6 fa fd ["_law_script"] (Q.spLawT (K w.params) T)) :
  PySem.W.WalkO q loose XP YP l.row.toRowW d [] (fun f vs=>PySem.call f vs) :=
 L2.rg (n:=63) (k:=6) (x := "_law_script") (sp:=fun w=>Q.spLawT (K w.params) T) hn (by decide) hdf ⟨rfl,by decide,by decide,rfl⟩ hY hKT F fun w H a ns hl hS hT=>⟨a,ns,rfl,hS,hl,hT,fun H' ps e=>⟨rfl,ps,e⟩⟩
end Pre
open PySem PySem.W PyProof.Rows
set_option maxRecDepth 100000 in
set_option maxHeartbeats 0 in
theorem PySem.Challenge.cw_cheaptree_k21_ways_holds : PySem.Challenge.rw_cheaptree_k21_ways.Holds := by
 w_on; o_law; km_head; (case hw=>w_witness2)
 k_fill
 refine Pre.walk (l:=PySem.Challenge.rw_cheaptree_k21_ways) rfl rfl (fun w h Y=>⟨PySem.W.km_in_of Y,PySem.W.km_tabs_of Y _ List.mem_cons_self⟩) ?hKT ?F
 case F =>
  intro w mg fa h KX G hmg
  refine' Pre.wj KX G hmg ⟨?a1,?l1,?c1,?k1⟩ ⟨?a2,?l2,?c2,?k2⟩ ⟨?a3,?l3,?c3,?k3⟩ ⟨?a4,?l4,?c4,?k4⟩ ⟨?a5,?l5,?c5,?k5⟩ ⟨?a6,?l6,?c6,?k6⟩ ⟨?a7,?l7,?c7,?k7⟩ ⟨?a8,?l8,?c8,?k8⟩ ⟨?a9,?l9,?c9,?k9⟩ ⟨?a10,?l10,?c10,?k10⟩ ⟨?a11,?l11,?c11,?k11⟩ ⟨?a12,?l12,?c12,?k12⟩ ⟨?a13,?l13,?c13,?k13⟩ ⟨?a14,?l14,?c14,?k14⟩ ⟨?a15,?l15,?c15,?k15⟩ ⟨?a16,?l16,?c16,?k16⟩ ⟨?a17,?l17,?c17,?k17⟩ ⟨?a18,?l18,?c18,?k18⟩ ⟨?a19,?l19,?c19,?k19⟩ ⟨?a20,?l20,?c20,?k20⟩ ⟨?a21,?l21,?c21,?k21⟩ ⟨?a22,?l22,?c22,?k22⟩ ⟨?a23,?l23,?c23,?k23⟩ ⟨?a24,?l24,?c24,?k24⟩ ?hcd ?hC2 ?z1 ?z2 ?z3 ?z4 ?z5 ?z6 ?z7 ?z8 ?z9 ?z10 ?z11 ?z12
  (case a1=>k_is); (case l1=>k_is); (case c1=>k_is); (case k1=>k_is); (case a2=>k_is); (case l2=>k_is); (case c2=>k_is); (case k2=>k_is); (case a3=>k_is); (case l3=>k_is); (case c3=>k_is); (case k3=>k_is); (case a4=>k_is); (case l4=>k_is); (case c4=>k_is); (case k4=>k_is)
  (case a5=>k_is); (case l5=>k_is); (case c5=>k_is); (case k5=>k_is); (case a6=>k_is); (case l6=>k_is); (case c6=>k_is); (case k6=>k_is); (case a7=>k_is); (case l7=>k_is); (case c7=>k_is); (case k7=>k_is); (case a8=>k_is); (case l8=>k_is); (case c8=>k_is); (case k8=>k_is)
  (case a9=>k_is); (case l9=>k_is); (case c9=>k_is); (case k9=>k_is); (case a10=>k_is); (case l10=>k_is); (case c10=>k_is); (case k10=>k_is); (case a11=>k_is); (case l11=>k_is); (case c11=>k_is); (case k11=>k_is); (case a12=>k_is); (case l12=>k_is); (case c12=>k_is); (case k12=>k_is)
  (case a13=>k_is); (case l13=>k_is); (case c13=>k_is); (case k13=>k_is); (case a14=>k_is); (case l14=>k_is); (case c14=>k_is); (case k14=>k_is); (case a15=>k_is); (case l15=>k_is); (case c15=>k_is); (case k15=>k_is); (case a16=>k_is); (case l16=>k_is); (case c16=>k_is); (case k16=>k_is)
  (case a17=>k_is); (case l17=>k_is); (case c17=>k_is); (case k17=>k_is); (case a18=>k_is); (case l18=>k_is); (case c18=>k_is); (case k18=>k_is); (case a19=>k_is); (case l19=>k_is); (case c19=>k_is); (case k19=>k_is); (case a20=>k_is); (case l20=>k_is); (case c20=>k_is); (case k20=>k_is)
  (case a21=>k_is); (case l21=>k_is); (case c21=>k_is); (case k21=>k_is); (case a22=>k_is); (case l22=>k_is); (case c22=>k_is); (case k22=>k_is); (case a23=>k_is); (case l23=>k_is); (case c23=>k_is); (case k23=>k_is); (case a24=>k_is); (case l24=>k_is); (case c24=>k_is); (case k24=>k_is)
  (case z1=>k_is); (case z2=>k_is); (case z3=>k_is); (case z4=>k_is); (case z5=>k_is); (case z6=>k_is); (case z7=>k_is); (case z8=>k_is); (case z9=>k_is); (case z10=>k_is); (case z11=>k_is); (case z12=>k_is)
  (case hcd=>exact rfl); (case hC2=>kernel_rfl)
 case hKT=>(intro w; kernel_rfl)
