import PyProof.Rows.All
import Wide.All
import OpenK.AllK
import Wide.FinOn
import PyProof.EqAt
import PyProof.EqKinds
import PyProof.TupleCall
import KE.BitLaws
import Open.SpecLaws
import KE.OsHead
import KE.OsGo
import PyProof.ExcBaseAll.Exception
import PyProof.ExcArgs
import PyProof.ExcAttrAll.Exception
import KE.KListLetter
import KE.KMinKey
import KE.KDictList
import VbecagSpec
import PySem.Challenge.RW_harvestgame_s01_answers
import PyVbecag
set_option Elab.async false
set_option linter.all false
set_option maxRecDepth 100000
set_option maxHeartbeats 4000000
section
namespace L2
open PySem PySem.Spec PyProof.Rows
abbrev Key:=Sum Int Str
def xk:Key→Value→Bool
 | .inl k,v=>Value.isInt k v
 | .inr x,v=>Value.isStrOf x v
def Md (w:World):Key→Int
 | .inl k=>hashInt k
 | .inr x=>hashStr w x
theorem dt:∀ {k:Key} {v:Value},xk k v=true→(∃ i t,k=Sum.inl i∧v=Value.int i t)∨(∃ x t,k=Sum.inr x∧v=Value.str x t)
 | .inl i,v,h=>by
  obtain⟨t,e⟩:=Value.isInt_shape (k:=i) (v:=v) h
  exact .inl ⟨i,t,rfl,e⟩
 | .inr x,v,h=>by
  obtain⟨t,e⟩:=Value.isStrOf_shape (x:=x) (v:=v) h
  exact .inr ⟨x,t,rfl,e⟩
theorem sZ (i:Int) (t:Tok):xk (.inl i) (.int i t)=true:=by simp [xk,Value.isInt]
theorem Fy (x:Str) (t:Tok):xk (.inr x) (.str x t)=true:=by simp [xk,Value.isStrOf]
theorem Ku (a b:Int):decide ((Sum.inl a:Key)=Sum.inl b)=(a == b):=by
 by_cases e:a=b
 ·subst e; simp
 ·have h:¬ (Sum.inl a:Key)=Sum.inl b:=fun q=>e (Sum.inl.inj q)
  rw [decide_eq_false h]
  exact (beq_eq_false_iff_ne.mpr e).symm
theorem Kx (a b:Str):decide ((Sum.inr a:Key)=Sum.inr b)=decide (a=b):=by
 by_cases e:a=b
 ·subst e; simp
 ·have h:¬ (Sum.inr a:Key)=Sum.inr b:=fun q=>e (Sum.inr.inj q)
  rw [decide_eq_false h,decide_eq_false e]
theorem Kv (a:Int) (b:Str):decide ((Sum.inl a:Key)=Sum.inr b)=false:=decide_eq_false (fun q=>nomatch q)
theorem Kw (a:Str) (b:Int):decide ((Sum.inr a:Key)=Sum.inl b)=false:=decide_eq_false (fun q=>nomatch q)
def cz (prog:Program) (w:World):PySem.KeyKind prog w Key where
 is:=xk
 hash:=Md w
 inj:=fun v a b ha hb=>by
  rcases dt ha with ⟨i,t,rfl,rfl⟩ | ⟨x,t,rfl,rfl⟩
  ·rcases dt hb with ⟨j,u,rfl,e⟩ | ⟨y,u,rfl,e⟩
   ·injection e with e1 _; rw [e1]
   ·exact nomatch e
  ·rcases dt hb with ⟨j,u,rfl,e⟩ | ⟨y,u,rfl,e⟩
   ·exact nomatch e
   ·injection e with e1 _; rw [e1]
 byValue:=fun k v h=>by
  rcases dt h with ⟨i,t,rfl,rfl⟩ | ⟨x,t,rfl,rfl⟩<;>rfl
 pyHash:=fun hv h=>by
  rcases dt hv with ⟨i,t,rfl,rfl⟩ | ⟨x,t,rfl,rfl⟩
  ·exact wpAny_pyHash_int h
  ·exact wpAny_pyHash_str h
 eqBool:=fun hu hv h=>by
  rcases dt hu with ⟨i,t,rfl,rfl⟩ | ⟨x,t,rfl,rfl⟩
  ·rcases dt hv with ⟨j,u,rfl,rfl⟩ | ⟨y,u,rfl,rfl⟩
   ·rw [Ku] at h; exact wpAny_eqBool_int h
   ·rw [Kv] at h; exact SeqAt.EqAt.int_str i t y u _ _ _ _ h
  ·rcases dt hv with ⟨j,u,rfl,rfl⟩ | ⟨y,u,rfl,rfl⟩
   ·rw [Kw] at h; exact SeqAt.EqAt.str_int x t j u _ _ _ _ h
   ·rw [Kx] at h; exact wpAny_eqBool_str h
 «strs»:=fun k x t v h=>by
  rcases dt h with ⟨i,u,rfl,e⟩ | ⟨y,u,rfl,e⟩
  ·exact nomatch e
  ·injection e with e1 _
   subst e1
   cases v<;>rfl
theorem B7 (prog:Program) (w:World) (i:Int) (t:Tok):(cz prog w).is (.inl i) (.int i t)=true:=sZ i t
theorem B8 (prog:Program) (w:World) (x:Str) (t:Tok):(cz prog w).is (.inr x) (.str x t)=true:=Fy x t
end L2
namespace L2
open PySem PySem.Spec PyProof.Rows
inductive V where
 | non | bl (b:Bool) | int (i:Int) | str (x:Str) | byt (b:Array UInt8) | flt (b:UInt64) | ref (a:Addr) | ty (n:String)
 deriving DecidableEq
def RelV:V→Value→Prop
 | .non,u=>u=Value.none
 | .bl b,u=>u=Value.bool b
 | .int i,u=>∃ t,u=Value.int i t
 | .str x,u=>∃ t,u=Value.str x t
 | .byt b,u=>∃ t,u=Value.bytes b t
 | .flt b,u=>∃ t,u=Value.float b t
 | .ref a,u=>u=Value.ref a
 | .ty n,u=>u=Value.type n
abbrev Vals:List V→List Value→Prop:=Paired RelV
theorem Vals.length {xs:List V} {us:List Value} (r:Vals xs us):xs.length=us.length:=Paired.length r
theorem Vals.get:∀ {xs:List V} {us:List Value} {i:Nat} {x:V},Vals xs us→xs[i]?=some x→∃ u,us[i]?=some u∧RelV x u
 | _,_,_,_,.nil,e=>by simp at e
 | _,_,0,_,.cons r _,e=>by simp at e; subst e; exact⟨_,rfl,r⟩
 | _,_,i + 1,x,.cons _ t,e=>by
  obtain⟨u,h1,h2⟩:=Vals.get (i:=i) (x:=x) t (by simpa using e)
  exact⟨u,by simpa using h1,h2⟩
theorem Vals.set {x:V} {u:Value} (r:RelV x u):∀ {xs:List V} {us:List Value} (i:Nat),Vals xs us→Vals (xs.set i x) (us.set i u)
 | _,_,_,.nil=>.nil
 | _,_,0,.cons _ t=>.cons r t
 | _,_,i + 1,.cons q t=>.cons q (Vals.set r i t)
theorem Vals.append:∀ {xs ys:List V} {us ws:List Value},Vals xs us→Vals ys ws→Vals (xs ++ ys) (us ++ ws)
 | _,_,_,_,.nil,s=>s
 | _,_,_,_,.cons r t,s=>.cons r (Vals.append t s)
theorem Vals.take:∀ {xs:List V} {us:List Value} (n:Nat),Vals xs us→Vals (xs.take n) (us.take n)
 | _,_,0,_=>.nil
 | _,_,_ + 1,.nil=>.nil
 | _,_,n + 1,.cons r t=>.cons r (Vals.take n t)
theorem Vals.drop:∀ {xs:List V} {us:List Value} (n:Nat),Vals xs us→Vals (xs.drop n) (us.drop n)
 | _,_,0,r=>r
 | _,_,_ + 1,.nil=>.nil
 | _,_,n + 1,.cons _ t=>Vals.drop n t
def qM:Option V→Option Value→Prop
 | some v,some u=>RelV v u
 | none,none=>True
 | _,_=>False
def KV {κ:Type}:List (κ×V)→List (κ×Value)→Prop:=Paired fun (p:κ×V) (q:κ×Value)=>p.1=q.1∧RelV p.2 q.2
def kV:Key→V
 | .inl i=>.int i
 | .inr x=>.str x
inductive HO where
 | lst (xs:List V)
 | tup (xs:List V)
 | dK (kvs:List (Key×V)) | dT (kvs:List (List Key×V))
 | set (S:Int→Bool) (n:Nat)
 | ins (C dx:Addr) (fs:List (Str×V))
 | own (x:Addr)
 | xd (fs:List (Str×V))
 | met (f x:Addr)
 | rng (lo hi:Int)
 | frz (o:Obj) (u:HO)
 | tbl (ps:Array Value)
 | ext (φ:Heap→Prop)
abbrev Hp:=Addr→Option HO
def upd (H:Hp) (a:Addr) (o:HO):Hp:=fun b=>if b=a then some o else H b
theorem af {H:Hp} {a:Addr} {o:HO}:upd H a o a=some o:=by unfold upd; rw [if_pos rfl]
theorem aj {H:Hp} {a b:Addr} {o:HO} (h:b≠a):upd H a o b=H b:=by unfold upd; rw [if_neg h]
theorem bo {H:Hp} {a:Addr} {o u:HO}:upd (upd H a o) a u=upd H a u:=by
 funext b; unfold upd; split<;>rfl
theorem hW {H:Hp} {a b:Addr} {o u:HO} (h:H a=some o) (h':H b=some u) (d:o≠u):a≠b:=by
 intro e; subst e; rw [h] at h'; exact d (Option.some.inj h')
theorem aq {H:Hp} {a b:Addr} {o:HO} (h:H a=some o) (h':H b=none):a≠b:=by
 intro e; subst e; rw [h] at h'; cases h'
section
variable (P:Program) (w:World)
def c8 (H:Hp) (h:Heap) (a:Addr):HO→Prop
 | .lst xs=>xs.length≤sizeLine∧∃ (its:List Value) (n:Nat),Vals xs its∧h.get? a=some { cls:=.type "list",data:=.seq its.toArray n }
 | .tup xs=>xs.length≤sizeLine∧∃ its:List Value,Vals xs its∧IsTup h a its.toArray
 | .dK kvs=>kvs.length≤sizeLine∧(a == sysModules)=false∧∃ vs,KV kvs vs∧h.DictOf (cz P w) a vs
 | .dT kvs=>kvs.length≤sizeLine∧(a == sysModules)=false∧∃ xs:List (List Key×Addr×Value),
   Paired (fun (p:List Key×V) (q:List Key×Addr×Value)=>p.1=q.1∧H q.2.1=some (.tup (p.1.map kV))∧RelV p.2 q.2.2) kvs xs ∧
   ∃ o es ep,h.get? a=some o∧o.ExactDict∧o.data = .dict es ep∧es.toList=xs.map (entryOfKey (tupleKind (cz P w)))∧(xs.map (·.1)).Nodup
 | .set S n=>h.SetOf (intKind P w) a S n
 | .ins C dx fs=>H dx=some (.own a)∧fs.length≤1000∧dx≠a∧h.get? a=some (PySem.W.instObj C dx) ∧
   ∃ mA,h.Ns1 dx mA∧(∀ f,qM (fs.lookup f) (mA f))∧PySem.Within mA (fs.map (·.1))
 | .own _=>∃ o,h.get? a=some o
 | .xd fs=>∃ mA,h.Ns1 a mA∧∀ f,qM (fs.lookup f) (mA f)
 | .rng lo hi=>∃ t u v,h.get? a=some { cls:=.type "range",data:=.fields #[.int lo t,.int hi u,.int 1 v] }
 | .frz o u=>h.get? a=some o∧c8 H h a u
 | .tbl ps=>h.get? a=some { cls:=.none,data:=.fields ps }
 | .met f x=>h.get? a=some (PySem.W.methodObj (.ref f) (.ref x))
 | .ext φ=>φ h∧(∃ o,h.get? a=some o)∧∀ h1 h2:Heap,φ h1→(∀ o,h1.get? a=some o→h2.get? a=some o)→φ h2
def HOk (H:Hp) (h:Heap):Prop:=∀ a o,H a=some o→c8 P w H h a o
end
section
variable {P:Program} {w:World} {H H':Hp} {h h':Heap} {a:Addr} {o:HO}
theorem c8.lt (x:c8 P w H h a o):a < h.objs.size:=by
 cases o with
 | lst xs=>obtain⟨_,_,_,_,e⟩:=x; exact Heap.lt_size e
 | tup xs=>obtain⟨_,_,_,p⟩:=x; exact p.lt
 | dK kvs=>obtain⟨_,_,_,_,o,_,_,e,_⟩:=x; exact Heap.lt_size e
 | dT kvs=>obtain⟨_,_,_,_,o,_,_,e,_⟩:=x; exact Heap.lt_size e
 | set S n=>obtain⟨o,_,_,_,e,_⟩:=x; exact Heap.lt_size e
 | ins C dx fs=>obtain⟨_,_,_,e,_⟩:=x; exact Heap.lt_size e
 | own y=>obtain⟨_,e⟩:=x; exact Heap.lt_size e
 | xd fs=>obtain⟨_,⟨_,_,_,e,_⟩,_⟩:=x; exact Heap.lt_size e
 | rng lo hi=>obtain⟨_,_,_,e⟩:=x; exact Heap.lt_size e
 | frz ob u=>obtain⟨e,_⟩:=x; exact Heap.lt_size e
 | tbl ps=>exact Heap.lt_size (show h.get? a=some _ from x)
 | met f y=>exact Heap.lt_size (show h.get? a=some _ from x)
 | ext φ=>obtain⟨_,⟨_,e⟩,_⟩:=x; exact Heap.lt_size e
theorem Paired.KD {α β:Type} {F G:α→β→Prop}:∀ {l₁:List α} {l₂:List β},Paired F l₁ l₂→(∀ a b,F a b→G a b)→Paired G l₁ l₂
 | _,_,.nil,_=>.nil
 | _,_,.cons r t,f=>.cons (f _ _ r) (Paired.KD t f)
theorem c8.stay (x:c8 P w H h a o) (k:∀ b u,(b=a∨H b=some (.own a))→h.get? b=some u→h'.get? b=some u)
  (ho:∀ b,H b=some (.own a)→H' b=some (.own a)) (ht:∀ b xs,H b=some (.tup xs)→H' b=some (.tup xs)):c8 P w H' h' a o:=by
 induction o with
 | lst xs=>obtain⟨z,its,n,r,e⟩:=x; exact⟨z,its,n,r,k _ _ (.inl rfl) e⟩
 | tup xs=>obtain⟨z,its,r,ob,e,c⟩:=x; exact⟨z,its,r,ob,k _ _ (.inl rfl) e,c⟩
 | dK kvs=>obtain⟨z,y,vs,r,ob,es,ep,e,c⟩:=x; exact⟨z,y,vs,r,ob,es,ep,k _ _ (.inl rfl) e,c⟩
 | dT kvs =>
  obtain⟨z,y,xs,r,ob,es,ep,e,c⟩:=x
  exact⟨z,y,xs,Paired.KD r fun p q z=>⟨z.1,ht _ _ z.2.1,z.2.2⟩,ob,es,ep,k _ _ (.inl rfl) e,c⟩
 | set S n=>obtain⟨ob,es,ep,t,e,c⟩:=x; exact⟨ob,es,ep,t,k _ _ (.inl rfl) e,c⟩
 | ins C dx fs =>
  obtain⟨d,z,ne,e,mA,⟨od,es,ep,e2,c⟩,r⟩:=x
  exact⟨ho _ d,z,ne,k _ _ (.inl rfl) e,mA,⟨od,es,ep,k _ _ (.inr d) e2,c⟩,r⟩
 | own y=>obtain⟨ob,e⟩:=x; exact⟨ob,k _ _ (.inl rfl) e⟩
 | xd fs=>obtain⟨mA,⟨od,es,ep,e,c⟩,r⟩:=x; exact⟨mA,⟨od,es,ep,k _ _ (.inl rfl) e,c⟩,r⟩
 | rng lo hi=>obtain⟨t,u,v,e⟩:=x; exact⟨t,u,v,k _ _ (.inl rfl) e⟩
 | frz ob u ih=>obtain⟨e,q⟩:=x; exact⟨k _ _ (.inl rfl) e,ih q⟩
 | tbl ps =>
  have e:h.get? a=some { cls:=.none,data:=.fields ps }:=x
  show h'.get? a=some { cls:=.none,data:=.fields ps }
  exact k a _ (.inl rfl) e
 | met f y =>
  have e:h.get? a=some (PySem.W.methodObj (.ref f) (.ref y)):=x
  show h'.get? a=some (PySem.W.methodObj (.ref f) (.ref y))
  exact k a _ (.inl rfl) e
 | ext φ=>obtain⟨p,⟨o,e⟩,st⟩:=x; exact⟨st _ _ p fun o q=>k _ _ (.inl rfl) q,⟨o,k _ _ (.inl rfl) e⟩,st⟩
theorem HOk.lt (x:HOk P w H h) (e:H a=some o):a < h.objs.size:=(x a o e).lt
theorem HOk.fresh (x:HOk P w H h) (e:h.objs.size≤a):H a=none:=by
 cases q:H a with
 | none=>rfl
 | some u=>exact absurd (Nat.lt_of_lt_of_le (x.lt q) e) (Nat.lt_irrefl _)
theorem HOk.kept (x:HOk P w H h) (k:∀ b u,h.get? b=some u→h'.get? b=some u):HOk P w H h':=fun a o e =>
 (x a o e).stay (fun b u _ q=>k b u q) (fun _ q=>q) fun _ _ q=>q
theorem HOk.laid (x:HOk P w H h) (k:∀ b u,h.get? b=some u→h'.get? b=some u) (hp:h.objs.size≤a) (new:c8 P w (upd H a o) h' a o):HOk P w (upd H a o) h':=fun b u e=>by
 have hn:=x.fresh hp
 by_cases hb:b=a
 ·subst hb; rw [af] at e; cases e; exact new
 ·rw [aj hb] at e
  exact (x b u e).stay (fun c v _ q=>k c v q) (fun c q=>by rw [aj (aq q hn)]; exact q) fun c xs q=>by rw [aj (aq q hn)]; exact q
end
def Rd (H:Hp) (a:Addr) (u:HO):Prop:=H a=some u∨∃ o,H a=some (.frz o u)
theorem Rd.ok {P:Program} {w:World} {H:Hp} {h:Heap} {a:Addr} {u:HO} (r:Rd H a u) (x:HOk P w H h):c8 P w H h a u:=by
 rcases r with r | ⟨o,r⟩
 ·exact x a u r
 ·obtain⟨_,q⟩:=x a _ r
  exact q
def Mut:Option HO→Prop
 | some (.lst _)=>True
 | some (.dK _)=>True
 | some (.dT _)=>True
 | some (.set _ _)=>True
 | some (.ins _ _ _)=>True
 | some (.ext _)=>True
 | _=>False
section
variable {P:Program} {w:World} {H:Hp} {h h':Heap} {x e:Addr} {o':HO}
theorem HOk.write (ok:HOk P w H h) (mu:Mut (H x)) (he:e=x∨H e=some (.own x)) (k:∀ b u,b≠e→h.get? b=some u→h'.get? b=some u) (heo:∃ u,h'.get? e=some u)
  (new:c8 P w (upd H x o') h' x o'):HOk P w (upd H x o') h':=fun b u q=>by
 have nown:∀ c y,H c=some (.own y)→c≠x:=fun c y r z=>by subst z; rw [r] at mu; exact mu
 have ntup:∀ c xs,H c=some (.tup xs)→c≠x:=fun c xs r z=>by subst z; rw [r] at mu; exact mu
 by_cases hb:b=x
 ·subst hb; rw [af] at q; cases q; exact new
 ·rw [aj hb] at q
  by_cases hbe:b=e
  ·have q':H b=some (.own x):=by
    rcases he with z | z
    ·exact absurd (hbe.trans z) hb
    ·rw [hbe]; exact z
   rw [q] at q'; cases q'
   obtain⟨v,hv⟩:=heo
   exact⟨v,by rw [hbe]; exact hv⟩
  ·refine (ok b u q).stay (fun c v hc r=>k c v ?_ r) (fun c r=>by rw [aj (nown c b r)]; exact r) fun c xs r=>by rw [aj (ntup c xs r)]; exact r
   rcases hc with rfl | hc
   ·exact hbe
   ·rintro rfl
    rcases he with z | z
    ·exact nown c b hc z
    ·rw [hc] at z; cases z; exact hb rfl
end
structure Un (fs ex:List Addr) (H H':Hp) (h h':Heap):Prop where
 keep:∀ b o,h.get? b=some o→H b=none→b∉fs→b∉ex→h'.get? b=some o
 slot:∀ b o,h.get? b=some o→H b=none→b∈fs→b∉ex→∃ sl,h'.get? b=some { o with slots:=sl }
 free:∀ b o,h.get? b=some o→H b=none→b∉ex→H' b=none
 there:∀ b o,h.get? b=some o→b∉ex→∃ o',h'.get? b=some o'
 uO:∀ b xs,H b=some (.tup xs)→H' b=some (.tup xs)
 rA:∀ b o u,H b=some (.frz o u)→H' b=some (.frz o u)
 uN:∀ b ps,H b=some (.tbl ps)→∃ more,H' b=some (.tbl (ps ++ more))
section
variable {fs fs' ex ex':List Addr} {H H1 H2:Hp} {h h1 h2 h':Heap} {a x e:Addr} {o:HO}
theorem Un.any (u:Un fs ex H H1 h h1) {b:Addr} {ob:Obj} (q:h.get? b=some ob) (n:H b=none) (hx:b∉ex):∃ sl,h1.get? b=some { ob with slots:=sl }:=by
 by_cases hb:b∈fs
 ·exact u.slot b ob q n hb hx
 ·exact⟨ob.slots,u.keep b ob q n hb hx⟩
theorem Un.kept (k:∀ b u,h.get? b=some u→h'.get? b=some u):Un fs ex H H h h' :=
 ⟨fun b ob q _ _ _=>k b ob q,fun b ob q _ _ _=>⟨ob.slots,k b ob q⟩,fun _ _ _ n _=>n,fun b ob q _=>⟨ob,k b ob q⟩,fun _ _ q=>q,fun _ _ _ q=>q,fun _ ps q=>⟨#[],by rw [q]; simp⟩⟩
theorem Un.refl:Un fs ex H H h h:=Un.kept fun _ _ q=>q
theorem Un.laid (k:∀ b u,h.get? b=some u→h'.get? b=some u) (hp:h.objs.size≤a) (hn:H a=none):Un fs ex H (upd H a o) h h' where
 keep:=fun b u q _ _ _=>k b u q
 slot:=fun b u q _ _ _=>⟨u.slots,k b u q⟩
 free:=fun b u q n _=>by rw [aj (Nat.ne_of_lt (Nat.lt_of_lt_of_le (Heap.lt_size q) hp))]; exact n
 there:=fun b u q _=>⟨u,k b u q⟩
 uO:=fun b xs q=>by rw [aj (aq q hn)]; exact q
 rA:=fun b u xs q=>by rw [aj (aq q hn)]; exact q
 uN:=fun b ps q=>⟨#[],by rw [aj (aq q hn),q]; simp⟩
theorem Un.write (mu:Mut (H x)) (he:e=x∨H e=some (.own x)) (k:∀ b u,b≠e→h.get? b=some u→h'.get? b=some u) (heo:∃ u,h'.get? e=some u):Un fs ex H (upd H x o) h h':=by
 have hx:∀ b,H b=none→b≠x:=fun b n z=>by subst z; rw [n] at mu; exact mu
 have hb:∀ b,H b=none→b≠e:=fun b n z=>by
  subst z
  rcases he with r | r
  ·exact hx b n r
  ·rw [n] at r; cases r
 have hm:∀ b u,H b=some u→¬ Mut (some u)→b≠x:=fun b u q nm z=>by subst z; rw [q] at mu; exact nm mu
 refine⟨fun b u q n _ _=>k b u (hb b n) q,fun b u q n _ _=>⟨u.slots,k b u (hb b n) q⟩,fun b u q n _=>by rw [aj (hx b n)]; exact n,fun b u q _=>?_,
  fun b xs q=>by rw [aj (hm b _ q fun z=>z)]; exact q,fun b u xs q=>by rw [aj (hm b _ q fun z=>z)]; exact q,fun b ps q=>⟨#[],by rw [aj (hm b _ q fun z=>z),q]; simp⟩⟩
 by_cases hbe:b=e
 ·subst hbe; exact heo
 ·exact⟨u,k b u hbe q⟩
end
def trk (h:Heap) (H:Hp):List Addr:=(List.range h.objs.size).filter fun a=>(H a).isSome
def A1 (h:Heap) (H:Hp):Heap:=PySem.W.hideAll h (trk h H)
theorem Fw (h:Heap) (H:Hp):(A1 h H).objs.size=h.objs.size:=PySem.W.hideAll_size _ _
theorem Hq {h:Heap} {H:Hp} {b:Addr} {o:Obj} (e:h.get? b=some o) (n:H b=none):(A1 h H).get? b=some o :=
 PySem.W.hideAll_get _ e fun hm=>by
  have q:(H b).isSome=true:=(List.mem_filter.mp hm).2
  rw [n] at q; simp at q
theorem Jl {h:Heap} {H:Hp} {b:Addr} {o:Obj} (e:(A1 h H).get? b=some o):h.get? b=some o∧H b=none:=by
 have e':h.get? b=some o:=PySem.W.of_hideAll (trk h H) e
 refine⟨e',?_⟩
 cases q:H b with
 | none=>rfl
 | some x =>
  have hm:b∈trk h H:=List.mem_filter.mpr ⟨List.mem_range.mpr (Heap.lt_size e'),by simp [q]⟩
  have z:(A1 h H).get? b=none:=PySem.W.hideAll_none (trk h H) hm
  rw [z] at e; cases e
end L2
namespace L2
open PySem PySem.Spec PyProof.Rows
structure Mod (K:PySem.W.Frag) (mg:Str→Option Value) (base:Heap):Prop where
 kin:K.In base
 glob:base.Ns mainGlobals mg
 blt:∃ mb,base.Ns builtinsNs mb∧∀ x:Str,x≠"__name__"→mb x=bootBuiltins x
 nolimit:base.NoLimit
structure Cx where
 prog:Program
 w:World
 K:PySem.W.Frag
 mg:Str→Option Value
 base:Heap
 A:Around
 N:List Str
 s_0:Shared
 H_0:Hp
 env:Env
 outer:List Env
 stack:List Env
 ex:List Addr
 fn:Str→Bool
 calm:Bool
 pn:List (Addr×Obj)
 xe:Value→Shared→Prop
def frs (l:List Env):List Addr:=l.filterMap (·.frame)
abbrev Cx.fs (X:Cx):List Addr:=frs X.outer
def Vis (sc:Scope) (x:Str):Prop:=sc.names.lookup x=some .local∨sc.names.lookup x=some .cell∨sc.names.lookup x=some .free
def Loc (sc:Scope) (x:Str):Prop:=sc.names.lookup x=some .local∨sc.names.lookup x=some .cell
def Look (env:Env) (h:Heap) (m:Str→Option Value) (x:Str) (u:Value):Prop :=
 (env.kindOf x=some .local∧m x=some u)∨((env.kindOf x=some .cell∨env.kindOf x=some .free)∧∃ c,env.cells.lookup x=some c∧h.IsCell c (some u))
structure Cx.Ok (X:Cx):Prop where
 mod:Mod X.K X.mg X.base
 kind:X.env.scope.kind = .function
 glob:X.env.globals=mainGlobals
 blt:X.env.builtins=builtinsNs
 above:X.s_0.heap.objs.size≤X.env.locals
 inj:∀ x y c,X.env.cells.lookup x=some c→X.env.cells.lookup y=some c→x=y
 has:∀ x,(X.env.kindOf x=some .cell∨X.env.kindOf x=some .free)→∃ c,X.env.cells.lookup x=some c
 cab:∀ x c,X.fn x=true→X.env.cells.lookup x=some c→X.s_0.heap.objs.size≤c
 hd:X.calm=true→X.A.handled=none
 frames:X.A.frames=some X.stack
 stk:X.stack=X.outer∨(X.stack=X.env :: X.outer∧X.env.frame=some X.env.locals)
 exf:∀ b∈X.ex,b≠X.env.locals∧∀ x c,X.env.cells.lookup x=some c→c≠b
 bs:∀ b o,X.base.get? b=some o→X.s_0.heap.get? b=some o∧X.H_0 b=none
 bsz:X.base.objs.size≤X.s_0.heap.objs.size
 HE:∀ b o,X.base.get? b=some o→b∉X.ex
 Fu:∀ b∈X.ex,b∉X.fs
 wo:X.s_0.heap.FunFrames X.base X.outer
 frf:∀ b∈X.fs,X.H_0 b=none
structure Inv (X:Cx) (pins:List (Addr×Obj)) (σ:List (Option V)) (H:Hp) (s:Shared):Prop where
 ok:X.Ok
 os:s.os=X.s_0.os
 bare:AllBare s.gens
 base:Un X.fs X.ex X.H_0 H X.s_0.heap s.heap
 loc:∃ m,s.heap.Ns X.env.locals m∧∀ (i:Nat) (x:Str) (v:V),X.N[i]?=some x→σ[i]?=some (some v)→Vis X.env.scope x→∃ u,RelV v u∧Look X.env s.heap m x u
 cell:∀ x c,X.env.cells.lookup x=some c→∃ v,s.heap.IsCell c v
 free:H X.env.locals=none
 jU:∀ x c,X.env.cells.lookup x=some c→H c=none
 pin:∀ p∈X.pn ++ pins,s.heap.get? p.1=some p.2∧H p.1=none∧p.1≠X.env.locals∧p.1∉X.fs∧∀ v,p.2.data≠.cell v
 hok:HOk X.prog X.w H s.heap
 len:σ.length=X.N.length
section
variable {X:Cx} {pins:List (Addr×Obj)} {σ:List (Option V)} {H H':Hp} {s:Shared} {h':Heap}
theorem Cx.Ok.Mf (ok:X.Ok) {b:Addr} {o:Obj} (e:X.base.get? b=some o):b∉X.fs:=fun hb=>by
 have:=(ok.wo.mem hb).1
 rw [e] at this; cases this
theorem Inv.bs (I:Inv X pins σ H s):∀ b o,X.base.get? b=some o→s.heap.get? b=some o∧H b=none:=fun b o e =>
 ⟨I.base.keep b o (I.ok.bs b o e).1 (I.ok.bs b o e).2 (I.ok.Mf e) (I.ok.HE b o e),I.base.free b o (I.ok.bs b o e).1 (I.ok.bs b o e).2 (I.ok.HE b o e)⟩
theorem Inv.bk (I:Inv X pins σ H s):∀ b o,X.base.get? b=some o→s.heap.get? b=some o:=fun b o e=>(I.bs b o e).1
theorem Inv.mod (I:Inv X pins σ H s):Mod X.K X.mg X.base:=I.ok.mod
theorem Inv.kIn (I:Inv X pins σ H s):X.K.In s.heap:=I.ok.mod.kin.keeps I.bk
theorem Inv.fr (I:Inv X pins σ H s):∃ m,Fr X.base X.env.locals s.heap m :=
 let ⟨m,hn,_⟩:=I.loc
 ⟨m,hn,I.bk,Nat.le_trans I.ok.bsz I.ok.above⟩
theorem Inv.lt (I:Inv X pins σ H s):X.env.locals < s.heap.objs.size:=let ⟨_,hn,_⟩:=I.loc; hn.lt
theorem Inv.sz (I:Inv X pins σ H s):X.s_0.heap.objs.size≤s.heap.objs.size:=Nat.le_trans I.ok.above (Nat.le_of_lt I.lt)
theorem Inv.Mg (I:Inv X pins σ H s) {a:Addr} (h:s.heap.objs.size≤a):a∉X.fs:=fun hb=>by
 obtain⟨_,o,ho,_⟩:=I.ok.wo.mem hb
 exact absurd (Nat.lt_of_lt_of_le (Heap.lt_size ho) (Nat.le_trans I.sz h)) (Nat.lt_irrefl _)
theorem Inv.cne (I:Inv X pins σ H s):∀ x c,X.env.cells.lookup x=some c→c≠X.env.locals:=fun x c e z=>by
 obtain⟨v,o,ho,hd⟩:=I.cell x c e
 obtain⟨m,⟨o',es,ep,ho',hd',_⟩,_⟩:=I.loc
 rw [z,ho'] at ho; cases ho; rw [hd'] at hd; cases hd
theorem Inv.wo (I:Inv X pins σ H s):s.heap.FunFrames X.base X.outer:=by
 have all:∀ (l:List Env),(∀ b∈frs l,b∈X.fs)→X.s_0.heap.FunFrames X.base l→s.heap.FunFrames X.base l:=by
  intro l
  induction l with
  | nil=>intro _ _; trivial
  | cons env r ih =>
   intro hs hl
   obtain⟨hk,⟨L,o,hf,hn,ho,hd⟩,hr⟩:=hl
   have hL:L∈X.fs:=hs L (by unfold frs; rw [List.filterMap_cons,hf]; exact List.mem_cons_self)
   obtain⟨sl,e⟩:=I.base.slot L o ho (I.ok.frf L hL) hL fun z=>I.ok.Fu L z hL
   exact⟨hk,⟨L,_,hf,hn,e,hd⟩,ih (fun b hb=>hs b (by unfold frs; rw [List.filterMap_cons,hf]; exact List.mem_cons_of_mem _ hb)) hr⟩
 exact all X.outer (fun _ hb=>hb) I.ok.wo
theorem Inv.stack (I:Inv X pins σ H s):s.heap.FunFrames X.base X.stack:=by
 rcases I.ok.stk with e | ⟨e,hf⟩
 ·rw [e]; exact I.wo
 ·rw [e]
  obtain⟨m,hn,_⟩:=I.loc
  refine .cons (by rw [I.ok.kind]; decide) hf hn ?_ I.wo
  exact Heap.get?_none_of_le (Nat.le_trans I.ok.bsz I.ok.above)
theorem Inv.D1 (I:Inv X pins σ H s):∀ b∈frs X.stack,b∈X.env.locals :: X.fs:=fun b hb=>by
 rcases I.ok.stk with e | ⟨e,hf⟩
 ·rw [e] at hb; exact List.mem_cons_of_mem _ hb
 ·rw [e] at hb
  unfold frs at hb
  rw [List.filterMap_cons,hf] at hb
  exact hb
theorem Inv.yf (I:Inv X pins σ H s):∀ b∈frs X.stack,H b=none:=fun b hb=>by
 rcases List.mem_cons.mp (I.D1 b hb) with e | hb
 ·rw [e]; exact I.free
 ·obtain⟨_,o,ho,_⟩:=I.ok.wo.mem hb
  exact I.base.free b o ho (I.ok.frf b hb) fun z=>I.ok.Fu b z hb
theorem Inv.step {g':Array GenState} {t':Nat} {d':Drawn} {ch:List Addr} (I:Inv X pins σ H s)
  (hch:∀ b∈ch,(b∈X.ex∨X.s_0.heap.objs.size≤b)∧b≠X.env.locals∧(∀ x c,X.env.cells.lookup x=some c→c≠b)∧∀ p∈X.pn ++ pins,p.1≠b)
  (keep:∀ b o,b≠X.env.locals→b∉X.fs→b∉ch→s.heap.get? b=some o→H b=none→h'.get? b=some o)
  (slot:∀ b o,b≠X.env.locals→b∈X.fs→b∉ch→s.heap.get? b=some o→H b=none→∃ sl,h'.get? b=some { o with slots:=sl }) (free:∀ b o,b∉ch→s.heap.get? b=some o→H b=none→H' b=none)
  (there:∀ b o,b∉ch→s.heap.get? b=some o→∃ o',h'.get? b=some o')
  (uO:∀ b xs,H b=some (.tup xs)→H' b=some (.tup xs)) (rA:∀ b o u,H b=some (.frz o u)→H' b=some (.frz o u)) (uN:∀ b ps,H b=some (.tbl ps)→∃ more,H' b=some (.tbl (ps ++ more)))
  (ns:∀ m,s.heap.Ns X.env.locals m→h'.Ns X.env.locals m) (hok:HOk X.prog X.w H' h') (hg:AllBare g') :
  Inv X pins σ H' { s with heap:=h',gens:=g',drawn:=d',toks:=t' }:=by
 have neL:∀ b o,X.s_0.heap.get? b=some o→b≠X.env.locals:=fun b o e=>Nat.ne_of_lt (Nat.lt_of_lt_of_le (Heap.lt_size e) I.ok.above)
 have neC:∀ b o,X.s_0.heap.get? b=some o→b∉X.ex→b∉ch:=fun b o e hx hb=>by
  rcases (hch b hb).1 with z | z
  ·exact hx z
  ·exact absurd (Nat.lt_of_lt_of_le (Heap.lt_size e) z) (Nat.lt_irrefl _)
 have cellK:∀ x c,X.env.cells.lookup x=some c→∀ v,s.heap.IsCell c v→h'.IsCell c v:=fun x c e v ⟨o,ho,hd⟩=>by
  have nch:c∉ch:=fun z=>(hch c z).2.2.1 x c e rfl
  by_cases hc:c∈X.fs
  ·obtain⟨sl,q⟩:=slot c o (I.cne x c e) hc nch ho (I.jU x c e)
   exact⟨_,q,hd⟩
  ·exact⟨o,keep c o (I.cne x c e) hc nch ho (I.jU x c e),hd⟩
 refine⟨I.ok,I.os,hg,⟨fun b o e n hb hx=>?_,fun b o e n hb hx=>?_,fun b o e n hx=>?_,fun b o e hx=>?_,fun b xs e=>uO b xs (I.base.uO b xs e),fun b o xs e=>rA b o xs (I.base.rA b o xs e),fun b ps e=>?_⟩,?_,fun x c e=>?_,?_,fun x c e=>?_,fun p hp=>?_,hok,I.len⟩
 ·exact keep b o (neL b o e) hb (neC b o e hx) (I.base.keep b o e n hb hx) (I.base.free b o e n hx)
 ·obtain⟨sl,e1⟩:=I.base.slot b o e n hb hx
  obtain⟨sl',e2⟩:=slot b _ (neL b o e) hb (neC b o e hx) e1 (I.base.free b o e n hx)
  exact⟨sl',e2⟩
 ·obtain⟨o',e1⟩:=I.base.there b o e hx
  exact free b o' (neC b o e hx) e1 (I.base.free b o e n hx)
 ·obtain⟨o',e1⟩:=I.base.there b o e hx
  exact there b o' (neC b o e hx) e1
 ·obtain⟨m1,e1⟩:=I.base.uN b ps e
  obtain⟨m2,e2⟩:=uN b _ e1
  exact⟨m1 ++ m2,by rw [e2,Array.append_assoc]⟩
 ·obtain⟨m,hn,hl⟩:=I.loc
  refine⟨m,ns m hn,fun i x v e1 e2 e3=>?_⟩
  obtain⟨u,r,l⟩:=hl i x v e1 e2 e3
  refine⟨u,r,?_⟩
  rcases l with l | ⟨k,c,e,z⟩
  ·exact .inl l
  ·exact .inr ⟨k,c,e,cellK x c e _ z⟩
 ·obtain⟨v,z⟩:=I.cell x c e
  exact⟨v,cellK x c e v z⟩
 ·obtain⟨m,⟨o,_,_,ho,_⟩,_⟩:=I.loc
  exact free _ o (fun z=>(hch _ z).2.1 rfl) ho I.free
 ·obtain⟨v,o,ho,hd⟩:=I.cell x c e
  exact free c o (fun z=>(hch c z).2.2.1 x c e rfl) ho (I.jU x c e)
 ·obtain⟨e,n,ne,nf,d⟩:=I.pin p hp
  have nch:p.1∉ch:=fun z=>(hch p.1 z).2.2.2 p hp rfl
  exact⟨keep p.1 p.2 ne nf nch e n,free p.1 p.2 nch e n,ne,nf,d⟩
theorem Inv.un {t':Nat} (I:Inv X pins σ H s) (u:Un X.fs [] H H' s.heap h') (hok:HOk X.prog X.w H' h'):Inv X pins σ H' { s with heap:=h',toks:=t' }:=by
 obtain⟨m,⟨o,es,ep,ho,r⟩,_⟩:=id I.loc
 obtain⟨sl,hL⟩:=u.any ho I.free (by simp)
 exact I.step (g':=s.gens) (d':=s.drawn) (ch:=[]) (fun _ z=>nomatch z) (fun b o _ hb _ e n=>u.keep b o e n hb (by simp)) (fun b o _ hb _ e n=>u.slot b o e n hb (by simp)) (fun b o _ e n=>u.free b o e n (by simp)) (fun b o _ e=>u.there b o e (by simp)) u.uO u.rA u.uN (fun m' hm=>by
  obtain⟨o',es',ep',ho',r'⟩:=hm
  rw [ho] at ho'; cases ho'
  exact⟨_,es',ep',hL,r'⟩) hok I.bare
theorem Inv.call {g':Array GenState} {t':Nat} {d':Drawn} {ch:List Addr} (I:Inv X pins σ H s) (u:Un (frs X.stack) ch H H' s.heap h') (hok:HOk X.prog X.w H' h') (hg:AllBare g')
  (hch:∀ b∈ch,(b∈X.ex∨X.s_0.heap.objs.size≤b)∧b≠X.env.locals∧(∀ x c,X.env.cells.lookup x=some c→c≠b)∧∀ p∈X.pn ++ pins,p.1≠b) :
  Inv X pins σ H' { s with heap:=h',gens:=g',drawn:=d',toks:=t' }:=by
 obtain⟨m,⟨o,es,ep,ho,r⟩,_⟩:=id I.loc
 obtain⟨sl,hL⟩:=u.any ho I.free fun z=>(hch _ z).2.1 rfl
 exact I.step (ch:=ch) hch (fun b o hL hb hc e n=>u.keep b o e n (fun z=>(List.mem_cons.mp (I.D1 b z)).elim hL hb) hc) (fun b o _ _ hc e n=>u.any e n hc) (fun b o hc e n=>u.free b o e n hc) (fun b o hc e=>u.there b o e hc) u.uO u.rA u.uN (fun m' hm=>by
  obtain⟨o',es',ep',ho',r'⟩:=hm
  rw [ho] at ho'; cases ho'
  exact⟨_,es',ep',hL,r'⟩) hok hg
theorem Inv.turned {t':Nat} {it:Addr} (I:Inv X pins σ H s) (k:∀ b o,b≠it→s.heap.get? b=some o→h'.get? b=some o) (hn:H it=none) (hL:it≠X.env.locals)
  (h1:it∈X.ex∨X.s_0.heap.objs.size≤it) (h2:∀ x c,X.env.cells.lookup x=some c→c≠it) (h3:∀ p∈X.pn ++ pins,p.1≠it):Inv X pins σ H { s with heap:=h',toks:=t' }:=by
 have nit:∀ b u,H b=some u→b≠it:=fun b u e z=>by rw [z,hn] at e; cases e
 refine I.step (g':=s.gens) (d':=s.drawn) (ch:=[it]) (fun b hb=>?_) (fun b o _ _ hc e _=>k b o (fun z=>hc (by simp [z])) e) (fun b o _ _ hc e _=>⟨o.slots,k b o (fun z=>hc (by simp [z])) e⟩) (fun _ _ _ _ n=>n)
  (fun b o hc e=>⟨o,k b o (fun z=>hc (by simp [z])) e⟩) (fun _ _ e=>e) (fun _ _ _ e=>e) (fun b ps e=>⟨#[],by rw [e]; simp⟩) (fun m hm=>?_) (fun b u e=>?_) I.bare
 ·have e:b=it:=by simpa using hb
  subst e
  exact⟨h1,hL,h2,h3⟩
 ·obtain⟨o,es,ep,ho,r⟩:=hm
  exact⟨o,es,ep,k _ o (Ne.symm hL) ho,r⟩
 ·refine (I.hok b u e).stay (fun c v hc q=>k c v ?_ q) (fun _ q=>q) fun _ _ q=>q
  rcases hc with z | z
  ·rw [z]; exact nit b u e
  ·exact nit c _ z
theorem Inv.tok (I:Inv X pins σ H s) (t:Nat):Inv X pins σ H { s with toks:=t }:=I.un (h':=s.heap) (t':=t) Un.refl I.hok
theorem Inv.kept {t':Nat} (I:Inv X pins σ H s) (k:∀ b u,s.heap.get? b=some u→h'.get? b=some u):Inv X pins σ H { s with heap:=h',toks:=t' }:=I.un (Un.kept k) (I.hok.kept k)
theorem Inv.laid {a:Addr} {o:HO} {t':Nat} (I:Inv X pins σ H s) (k:∀ b u,s.heap.get? b=some u→h'.get? b=some u) (hp:s.heap.objs.size≤a) (new:c8 X.prog X.w (upd H a o) h' a o) :
  Inv X pins σ (upd H a o) { s with heap:=h',toks:=t' }:=I.un (Un.laid k hp (I.hok.fresh hp)) (I.hok.laid k hp new)
theorem Inv.write {x e:Addr} {o:HO} {t':Nat} (I:Inv X pins σ H s) (mu:Mut (H x)) (he:e=x∨H e=some (.own x)) (k:∀ b u,b≠e→s.heap.get? b=some u→h'.get? b=some u) (heo:∃ u,h'.get? e=some u)
  (new:c8 X.prog X.w (upd H x o) h' x o):Inv X pins σ (upd H x o) { s with heap:=h',toks:=t' }:=I.un (Un.write mu he k heo) (I.hok.write mu he k heo new)
theorem Inv.weak {σ':List (Option V)} (I:Inv X pins σ H s) (hl:σ'.length=σ.length) (w:∀ (i:Nat) v,σ'[i]?=some (some v)→σ[i]?=some (some v)):Inv X pins σ' H s :=
 ⟨I.ok,I.os,I.bare,I.base,let ⟨m,hn,hl'⟩:=I.loc; ⟨m,hn,fun i x v e1 e2 e3=>hl' i x v e1 (w i v e2) e3⟩,I.cell,I.free,I.jU,I.pin,I.hok,hl.trans I.len⟩
theorem Inv.EV {pins':List (Addr×Obj)} (I:Inv X pins σ H s) (h:∀ p∈pins',s.heap.get? p.1=some p.2∧H p.1=none∧p.1≠X.env.locals∧p.1∉X.fs∧∀ v,p.2.data≠.cell v):Inv X pins' σ H s :=
 ⟨I.ok,I.os,I.bare,I.base,I.loc,I.cell,I.free,I.jU,fun p hp=>(List.mem_append.mp hp).elim (fun z=>I.pin p (List.mem_append_left _ z)) (h p),I.hok,I.len⟩
theorem yP {N:List Str} (hN:N.Nodup) {i j:Nat} {x:Str} (a:N[i]?=some x) (b:N[j]?=some x):i=j:=by
 obtain⟨h1,e1⟩:=List.getElem?_eq_some_iff.mp a
 obtain⟨h2,e2⟩:=List.getElem?_eq_some_iff.mp b
 exact (List.getElem_inj hN).mp (e1.trans e2.symm)
theorem AE {M:Model} {A:Around} {E:Value→Shared→Prop} {i:Nat} {x:Str} {v:V} {u:Value} {Q:Unit→Shared→Prop} (I:Inv X pins σ H s) (hN:X.N.Nodup) (hi:X.N[i]?=some x) (hx:Loc X.env.scope x) (r:RelV v u)
  (h:∀ s',Inv X pins (σ.set i (some v)) H s'→(∃ a,Heap.SameBut a s.heap s'.heap∧(a=X.env.locals∨X.env.cells.lookup x=some a))→Q () s') (hf:X.fn x=true∨X.env.scope.names.lookup x=some .local:=by first | exact .inl rfl | exact .inr rfl | assumption):wpAny M A (storeName X.env x u) Q E s:=by
 obtain⟨m,hn,hl⟩:=id I.loc
 have hcls:(X.env.scope.kind == .class || (X.env.scope.kind == .module && X.env.locals != X.env.globals))=false:=by rw [I.ok.kind]; rfl
 have hiσ:i < σ.length:=by rw [I.len]; exact (List.getElem?_eq_some_iff.mp hi).1
 have cne:=I.cne
 have tracked:∀ {a:Addr} {h':Heap},(∃ o,s.heap.get? a=some o∧H a=none)→Heap.SameBut a s.heap h'→HOk X.prog X.w H h':=fun {a h'} ha hs b ob e=>by
  obtain⟨_,_,hfree⟩:=ha
  refine (I.hok b ob e).stay (fun c w' hc q=>(hs.2 c ?_).trans q) (fun _ q=>q) fun _ _ q=>q
  rintro rfl
  rcases hc with rfl | hc
  ·rw [hfree] at e; cases e
  ·rw [hfree] at hc; cases hc
 rcases hx with hk | hk
 ·refine wpAny_storeName_local hk hn (fun h' hn' hs=>?_) hcls
  obtain⟨oL,_,_,hoL,_⟩:=id hn
  refine h _ ⟨I.ok,I.os,I.bare,⟨fun b o e n hb hx=>?_,fun b o e n hb hx=>?_,I.base.free,fun b o e hx=>?_,I.base.uO,I.base.rA,I.base.uN⟩,⟨_,hn',fun j y v' e1 e2 e3=>?_⟩,fun y c e=>?_,I.free,I.jU,fun p hp=>?_,tracked ⟨oL,hoL,I.free⟩ hs,by simpa using I.len⟩ ⟨_,hs,.inl rfl⟩
  ·exact (hs.2 b (Nat.ne_of_lt (Nat.lt_of_lt_of_le (Heap.lt_size e) I.ok.above))).trans (I.base.keep b o e n hb hx)
  ·obtain⟨sl,e1⟩:=I.base.slot b o e n hb hx
   exact⟨sl,(hs.2 b (Nat.ne_of_lt (Nat.lt_of_lt_of_le (Heap.lt_size e) I.ok.above))).trans e1⟩
  ·obtain⟨o',e1⟩:=I.base.there b o e hx
   exact⟨o',(hs.2 b (Nat.ne_of_lt (Nat.lt_of_lt_of_le (Heap.lt_size e) I.ok.above))).trans e1⟩
  ·by_cases hj:j=i
   ·subst hj
    rw [hi] at e1; cases e1
    rw [List.getElem?_set_self hiσ] at e2
    cases e2
    exact⟨u,r,.inl ⟨hk,by simp⟩⟩
   ·rw [List.getElem?_set_ne (Ne.symm hj)] at e2
    obtain⟨u',r',q⟩:=hl j y v' e1 e2 e3
    refine⟨u',r',?_⟩
    rcases q with ⟨k,e⟩ | ⟨k,c,e,z⟩
    ·refine .inl ⟨k,?_⟩
     have:y≠x:=fun e=>hj (yP hN e1 (e ▸ hi))
     simp [this,e]
    ·exact .inr ⟨k,c,e,z.sameBut hs (cne y c e)⟩
  ·obtain⟨w',z⟩:=I.cell y c e
   exact⟨w',z.sameBut hs (cne y c e)⟩
  ·obtain⟨e,n,ne,nf,d⟩:=I.pin p hp
   exact⟨(hs.2 p.1 ne).trans e,n,ne,nf,d⟩
 ·have hfn:X.fn x=true:=by
   rcases hf with z | z
   ·exact z
   ·rw [z] at hk; cases hk
  obtain⟨c,hc⟩:=I.ok.has x (.inl hk)
  obtain⟨w',z⟩:=I.cell x c hc
  refine wpAny_storeName_cell I.ok.kind hk hc z (fun h' hc' hs=>?_)
  obtain⟨oc,hoc,hocd⟩:=id z
  refine h { s with heap:=h' } ⟨I.ok,I.os,I.bare,⟨fun b o e n hb hx=>?_,fun b o e n hb hx=>?_,I.base.free,fun b o e hx=>?_,I.base.uO,I.base.rA,I.base.uN⟩,⟨m,hn.sameBut hs (Ne.symm (cne x c hc)),fun j y v' e1 e2 e3=>?_⟩,fun y c' e=>?_,I.free,I.jU,fun p hp=>?_,tracked ⟨oc,hoc,I.jU x c hc⟩ hs,by simpa using I.len⟩ ⟨c,hs,.inr hc⟩
  ·exact (hs.2 b (Nat.ne_of_lt (Nat.lt_of_lt_of_le (Heap.lt_size e) (I.ok.cab x c hfn hc)))).trans (I.base.keep b o e n hb hx)
  ·obtain⟨sl,e1⟩:=I.base.slot b o e n hb hx
   exact⟨sl,(hs.2 b (Nat.ne_of_lt (Nat.lt_of_lt_of_le (Heap.lt_size e) (I.ok.cab x c hfn hc)))).trans e1⟩
  ·obtain⟨o',e1⟩:=I.base.there b o e hx
   exact⟨o',(hs.2 b (Nat.ne_of_lt (Nat.lt_of_lt_of_le (Heap.lt_size e) (I.ok.cab x c hfn hc)))).trans e1⟩
  ·by_cases hj:j=i
   ·subst hj
    rw [hi] at e1; cases e1
    rw [List.getElem?_set_self hiσ] at e2
    cases e2
    exact⟨u,r,.inr ⟨.inl hk,c,hc,hc'⟩⟩
   ·rw [List.getElem?_set_ne (Ne.symm hj)] at e2
    obtain⟨u',r',q⟩:=hl j y v' e1 e2 e3
    refine⟨u',r',?_⟩
    rcases q with q | ⟨k,c',e,z'⟩
    ·exact .inl q
    ·refine .inr ⟨k,c',e,z'.sameBut hs ?_⟩
     rintro rfl
     exact hj (yP hN e1 (I.ok.inj _ _ _ e hc ▸ hi))
  ·by_cases hcc:c'=c
   ·subst hcc; exact⟨_,hc'⟩
   ·obtain⟨w2,z2⟩:=I.cell y c' e
    exact⟨w2,z2.sameBut hs hcc⟩
  ·obtain⟨e,n,ne,nf,d⟩:=I.pin p hp
   refine⟨(hs.2 p.1 ?_).trans e,n,ne,nf,d⟩
   intro q
   rw [q,hoc] at e
   have q':oc=p.2:=Option.some.inj e
   exact d w' (by rw [← q']; exact hocd)
theorem zv {M:Model} {A:Around} {E:Value→Shared→Prop} {i:Nat} {x:Str} {v:V} {u:Value} {Q:Unit→Shared→Prop} (I:Inv X pins σ H s) (hN:X.N.Nodup) (hi:X.N[i]?=some x) (hx:Loc X.env.scope x) (r:RelV v u)
  (h:∀ s',Inv X pins (σ.set i (some v)) H s'→Q () s') (hf:X.fn x=true∨X.env.scope.names.lookup x=some .local:=by first | exact .inl rfl | exact .inr rfl | assumption):wpAny M A (storeName X.env x u) Q E s :=
 AE I hN hi hx r (fun s' I' _=>h s' I') hf
theorem Inv.JX {s':Shared} {ch:List Addr} (I:Inv X pins σ H s) (ho:s'.os=s.os) (u:Un (frs X.stack) ch H H' s.heap s'.heap) (hok:HOk X.prog X.w H' s'.heap) (hg:AllBare s'.gens)
  (hch:∀ b∈ch,(b∈X.ex∨X.s_0.heap.objs.size≤b)∧b≠X.env.locals∧(∀ x c,X.env.cells.lookup x=some c→c≠b)∧∀ p∈X.pn ++ pins,p.1≠b):Inv X pins σ H' s':=by
 obtain⟨h',g',d',t',o'⟩:=s'
 have e:o'=s.os:=ho
 subst e
 exact I.call (g':=g') (t':=t') (d':=d') u hok hg hch
end
abbrev XK:=Value→Option Addr→Hp→Prop
abbrev St:=List (Option V)
abbrev VK:=V→Hp→Prop
abbrev TE:=St→Hp→VK→Prop
abbrev TT:=St→Hp→(Bool→Hp→Prop)→Prop
abbrev TA:=St→Hp→(List V→Hp→Prop)→Prop
structure Ends where
 nx:St→Hp→Prop
 rt:VK
 bk:St→Hp→Prop:=fun _ _=>False
 ct:St→Hp→Prop:=fun _ _=>False
abbrev TS:=Ends→St→Hp→Prop
def EP (X:Cx) (pins:List (Addr×Obj)) (σ:St) (Q:VK) (u:Value) (s':Shared):Prop:=∃ v H',Inv X pins σ H' s'∧RelV v u∧Q v H'
def TP (X:Cx) (pins:List (Addr×Obj)) (σ:St) (Q:Bool→Hp→Prop) (b:Bool) (s':Shared):Prop:=∃ H',Inv X pins σ H' s'∧Q b H'
def AP (X:Cx) (pins:List (Addr×Obj)) (σ:St) (Q:List V→Hp→Prop) (us:List Value) (s':Shared):Prop:=∃ vs H',Inv X pins σ H' s'∧Vals vs us∧Q vs H'
def SP (X:Cx) (pins:List (Addr×Obj)) (D:Ends) (f:Flow) (s':Shared):Prop :=
 match f with
 | .next=>∃ σ' H',Inv X pins σ' H' s'∧D.nx σ' H'
 | .brk=>∃ σ' H',Inv X pins σ' H' s'∧D.bk σ' H'
 | .cont=>∃ σ' H',Inv X pins σ' H' s'∧D.ct σ' H'
 | .ret u=>∃ v σ' H',Inv X pins σ' H' s'∧RelV v u∧D.rt v H'
def PE (X:Cx) (e:Expr) (t:TE):Prop :=
 ∀ (pins:List (Addr×Obj)) (s:Shared) (σ:St) (H:Hp) (Q:VK),Inv X pins σ H s→t σ H Q→wpAny (model X.prog X.w) X.A (eval e X.env) (EP X pins σ Q) X.xe s
def PT (X:Cx) (e:Expr) (t:TT):Prop :=
 ∀ (pins:List (Addr×Obj)) (s:Shared) (σ:St) (H:Hp) (Q:Bool→Hp→Prop),Inv X pins σ H s→t σ H Q→wpAny (model X.prog X.w) X.A (isTrue e X.env (eval e X.env)) (TP X pins σ Q) X.xe s
def PW (X:Cx) (e:Expr) (t:TT):Prop :=
 ∀ (whole:Sem Value) (pins:List (Addr×Obj)) (s:Shared) (σ:St) (H:Hp) (Q:Bool→Hp→Prop),Inv X pins σ H s→t σ H Q→wpAny (model X.prog X.w) X.A (isTrue e X.env whole) (TP X pins σ Q) X.xe s
theorem PW.pt {X:Cx} {e:Expr} {t:TT} (h:PW X e t):PT X e t:=h _
def PA (X:Cx) (es:List Expr) (t:TA):Prop :=
 ∀ (pos:Pos) (pins:List (Addr×Obj)) (s:Shared) (σ:St) (H:Hp) (Q:List V→Hp→Prop),Inv X pins σ H s→t σ H Q→wpAny (model X.prog X.w) X.A (spliced (backTo pos (starEach es X.env))) (AP X pins σ Q) X.xe s
def PS (X:Cx) (st:Stmt) (t:TS):Prop :=
 ∀ (pins:List (Addr×Obj)) (s:Shared) (σ:St) (H:Hp) (D:Ends),Inv X pins σ H s→t D σ H→wpAny (model X.prog X.w) X.A (exec st X.env) (SP X pins D) X.xe s
def PSs (X:Cx) (st:List Stmt) (t:TS):Prop :=
 ∀ (pins:List (Addr×Obj)) (s:Shared) (σ:St) (H:Hp) (D:Ends),Inv X pins σ H s→t D σ H→wpAny (model X.prog X.w) X.A (execs st X.env) (SP X pins D) X.xe s
theorem thn {α:Type} {t:Sem α} {Q Q':α→Shared→Prop} {M:Model} {A:Around} {E:Value→Shared→Prop} {s:Shared} (h:wpAny M A t Q E s) (hQ:∀ a s,Q a s→Q' a s):wpAny M A t Q' E s:=wpAny_mono h hQ fun _ _ x=>x
end L2
namespace L2
open PySem PySem.Spec PyProof.Rows
section
variable {X:Cx}
theorem bin {a b:Expr} {ta tb:TE} (ha:PE X a ta) (hb:PE X b tb) {pins:List (Addr×Obj)} {s:Shared} {σ:St} {H:Hp} {R:V→V→Hp→Prop} (I:Inv X pins σ H s) (h:ta σ H fun x H1=>tb σ H1 fun y H2=>R x y H2)
  {α:Type} {Q:α→Shared→Prop} {f:Value→Value→Sem α}
  (hf:∀ v u s2 x y H2,Inv X pins σ H2 s2→RelV x v→RelV y u→R x y H2→wpAny (model X.prog X.w) X.A (f v u) Q X.xe s2) :
  wpAny (model X.prog X.w) X.A (eval a X.env) (fun v s₁=>wpAny (model X.prog X.w) X.A (eval b X.env) (fun u s₂=>wpAny (model X.prog X.w) X.A (f v u) Q X.xe s₂) X.xe s₁) X.xe s:=by
 refine thn (ha pins s σ H _ I h) fun v s1 ⟨x,H1,I1,r1,q1⟩=>?_
 refine thn (hb pins s1 σ H1 _ I1 q1) fun u s2 ⟨y,H2,I2,r2,q2⟩=>?_
 exact hf v u s2 x y H2 I2 r1 r2 q2
def tY (i:Nat):TE:=fun σ H Q=>∃ v,σ[i]?=some (some v)∧Q v H
def tC (v:V):TE:=fun _ H Q=>Q v H
theorem HU {i:Nat} {x:Str} {pos:Pos} (hN:X.N[i]?=some x) (hv:Vis X.env.scope x) (hd:(x == ("__debug__":Str))=false:=by decide) (hcd:(x == ("__classdict__":Str))=false:=by decide):PE X (.Name x pos) (tY i):=by
 intro pins s σ H Q I h
 obtain⟨v,e,h⟩:=h
 obtain⟨m,hn,hl⟩:=I.loc
 obtain⟨u,r,l⟩:=hl i x v hN e hv
 have fin:EP X pins σ Q u s:=⟨v,H,I,r,h⟩
 rcases l with ⟨hk,hm⟩ | ⟨hk,c,hc,hcell⟩
 ·exact wpAny_Name (wpAny_loadName_local I.ok.kind hk hn hm fin) hd
 ·rcases hk with hk | hk
  ·exact wpAny_Name (wpAny_loadName_cell I.ok.kind hk hc hcell fin) hd
  ·exact wpAny_Name (wpAny_loadName_free I.ok.kind hk hc hcell fin hcd) hd
theorem az {i j pos}:PE X (.Constant (.int i) j pos) (tC (.int i)):=fun _ _ _ H _ I h=>wpAny_Constant_int ⟨.int i,H,I.tok _,⟨_,rfl⟩,h⟩
theorem sg {b j pos}:PE X (.Constant (.bool b) j pos) (tC (.bl b)):=fun _ _ _ H _ I h=>Constant_bool ⟨.bl b,H,I,rfl,h⟩
theorem gb {j pos}:PE X (.Constant .none j pos) (tC .non):=fun _ _ _ H _ I h=>Constant_none ⟨.non,H,I,rfl,h⟩
def Gl (X:Cx) (x:Str):Prop:=X.env.kindOf x=some .globalImplicit
theorem qf {E:Value→Shared→Prop} {pins:List (Addr×Obj)} {s:Shared} {σ:St} {H:Hp} {x:Str} {u:Value} {pos:Pos} {Q:Value→Shared→Prop} (I:Inv X pins σ H s) (hg:Gl X x) (hm:X.mg x=some u) (h:Q u s)
  (hd:(x == ("__debug__":Str))=false:=by decide):wpAny (model X.prog X.w) X.A (eval (.Name x pos) X.env) Q E s :=
 Calls.Name_function_global I.ok.kind hg (Calls.loadGlobal_global (by rw [I.ok.glob]; exact I.mod.glob.keeps I.bk) hm h) hd
theorem wz {E:Value→Shared→Prop} {pins:List (Addr×Obj)} {s:Shared} {σ:St} {H:Hp} {x:Str} {u:Value} {pos:Pos} {Q:Value→Shared→Prop} (I:Inv X pins σ H s) (hg:Gl X x) (hm:X.mg x=none) (hv:bootBuiltins x=some u) (h:Q u s)
  (hn:x≠"__name__":=by decide) (hd:(x == ("__debug__":Str))=false:=by decide):wpAny (model X.prog X.w) X.A (eval (.Name x pos) X.env) Q E s:=by
 obtain⟨mb,h1,h2⟩:=I.mod.blt
 exact Calls.Name_function_global I.ok.kind hg (Calls.loadGlobal_builtin (by rw [I.ok.glob]; exact I.mod.glob.keeps I.bk) hm (by rw [I.ok.blt]; exact h1.keeps I.bk) ((h2 x hn).trans hv) h) hd
theorem vO {x:Str} {v:V} {u:Value} {pos:Pos} (hg:Gl X x) (hm:X.mg x=some u) (r:RelV v u) (hd:(x == ("__debug__":Str))=false:=by decide):PE X (.Name x pos) (tC v) :=
 fun _ _ _ H _ I h=>qf I hg hm ⟨v,H,I,r,h⟩ hd
def t2I (ta tb:TE) (k:Int→Int→Hp→Prop):St→Hp→Prop:=fun σ H=>ta σ H fun x H1=>tb σ H1 fun y H2=>∃ i j,x = .int i∧y = .int j∧k i j H2
variable {a b:Expr} {ta tb:TE} {pos:Pos}
def PC (X:Cx) (op:CmpOp) (a b:Expr) (t:TE):Prop :=
 ∀ (pins:List (Addr×Obj)) (s:Shared) (σ:St) (H:Hp) (Q:VK),Inv X pins σ H s→t σ H Q →
  wpAny (model X.prog X.w) X.A (eval a X.env) (fun v s₁=>wpAny (model X.prog X.w) X.A (eval b X.env) (fun u s₂=>wpAny (model X.prog X.w) X.A (compareOp op v u) (EP X pins σ Q) X.xe s₂) X.xe s₁) X.xe s
theorem Cb (b:Expr) {op:CmpOp} (h:op≠.In) (h2:op≠.NotIn):behindInMarks op b=false:=by
 have e1:(op == CmpOp.In)=false:=by cases op<;>first | rfl | exact absurd rfl h
 have e2:(op == CmpOp.NotIn)=false:=by cases op<;>first | rfl | exact absurd rfl h2
 cases b<;>simp [behindInMarks,e1,e2]
def D4 (p:Int→Int→Bool) (ta tb:TE):TE:=fun σ H Q=>t2I ta tb (fun i j H2=>Q (.bl (p i j)) H2) σ H
abbrev tLt:TE→TE→TE:=D4 fun i j=>decide (i < j)
abbrev tLe:TE→TE→TE:=D4 fun i j=>decide (i≤j)
abbrev tGt:TE→TE→TE:=D4 fun i j=>decide (j < i)
abbrev tGe:TE→TE→TE:=D4 fun i j=>decide (j≤i)
abbrev My:TE→TE→TE:=D4 fun i j=>decide (i=j)
abbrev MC:TE→TE→TE:=D4 fun i j=>!decide (i=j)
theorem wU {op:CmpOp} {p:Int→Int→Bool} (ha:PE X a ta) (hb:PE X b tb)
  (rule:∀ (i j:Int) (t u:Tok) (Q:Value→Shared→Prop) (s:Shared),Q (.bool (p i j)) s→wpAny (model X.prog X.w) X.A (compareOp op (.int i t) (.int j u)) Q X.xe s):PC X op a b (D4 p ta tb):=by
 intro pins s σ H Q I h
 refine bin ha hb I h fun v u s2 x y H2 I2 rx ry q=>?_
 obtain⟨i,j,rfl,rfl,q⟩:=q
 obtain⟨t,rfl⟩:=rx
 obtain⟨t',rfl⟩:=ry
 exact rule i j t t' _ s2 ⟨.bl _,H2,I2,rfl,q⟩
theorem pz (ha:PE X a ta) (hb:PE X b tb):PC X .Lt a b (tLt ta tb):=wU ha hb fun _ _ _ _ _ _ h=>lt_int h
theorem HK (ha:PE X a ta) (hb:PE X b tb):PC X .LtE a b (tLe ta tb):=wU ha hb fun _ _ _ _ _ _ h=>le_int h
theorem qD (ha:PE X a ta) (hb:PE X b tb):PC X .Gt a b (tGt ta tb):=wU ha hb fun _ _ _ _ _ _ h=>gt_int h
theorem J3 (ha:PE X a ta) (hb:PE X b tb):PC X .GtE a b (tGe ta tb):=wU ha hb fun _ _ _ _ _ _ h=>ge_int h
theorem wR (ha:PE X a ta) (hb:PE X b tb):PC X .Eq a b (My ta tb):=wU ha hb fun _ _ _ _ _ _ h=>eq_int (by rw [Bool.beq_eq_decide_eq]; exact h)
theorem KN (ha:PE X a ta) (hb:PE X b tb):PC X .NotEq a b (MC ta tb):=wU ha hb fun _ _ _ _ _ _ h=>ne_int (by rw [bne,Bool.beq_eq_decide_eq]; exact h)
def MA (ta:TE):TE:=fun σ H Q=>ta σ H fun x H1=>Q (.bl (decide (x = .non))) H1
def LS (ta:TE):TE:=fun σ H Q=>ta σ H fun x H1=>Q (.bl (!decide (x = .non))) H1
theorem RelV.Cc {x:V} {v:Value} (r:RelV x v):(v == Value.none)=decide (x = .non):=by
 cases x with
 | non=>cases r; rfl
 | bl _=>cases r; rfl
 | int _=>obtain⟨t,rfl⟩:=r; rfl
 | str _=>obtain⟨t,rfl⟩:=r; rfl
 | byt _=>obtain⟨t,rfl⟩:=r; rfl
 | flt _=>obtain⟨t,rfl⟩:=r; rfl
 | ref _=>cases r; rfl
 | ty _=>cases r; rfl
theorem uG {j pos'} (ha:PE X a ta):PC X .Is a (.Constant .none j pos') (MA ta):=by
 intro pins s σ H Q I h
 refine thn (ha pins s σ H _ I h) fun v s1 ⟨x,H1,I1,r1,q1⟩=>?_
 exact Constant_none (is_none_gen ⟨.bl _,H1,I1,by rw [r1.Cc]; rfl,q1⟩)
theorem ET {j pos'} (ha:PE X a ta):PC X .IsNot a (.Constant .none j pos') (LS ta):=by
 intro pins s σ H Q I h
 refine thn (ha pins s σ H _ I h) fun v s1 ⟨x,H1,I1,r1,q1⟩=>?_
 exact Constant_none (isnot_none_gen ⟨.bl _,H1,I1,by rw [r1.Cc]; rfl,q1⟩)
def tB (t:TE):TT:=fun σ H Q=>t σ H fun x H1=>∃ c,x = .bl c∧Q c H1
theorem lx {op:CmpOp} {t:TE} (h:PC X op a b t) (h1:behindInMarks op b=false:=by first | exact Cb _ (by decide) (by decide) | rfl):PE X (.Compare a [op] [b] pos) t:=fun pins s σ H Q I hw=>wpAny_Compare1 (h pins s σ H Q I hw) h1
theorem bx {op:CmpOp} {t:TE} (h:PC X op a b t) (h1:behindInMarks op b=false:=by first | exact Cb _ (by decide) (by decide) | rfl):PT X (.Compare a [op] [b] pos) (tB t):=by
 intro pins s σ H Q I hw
 refine wpAny_isTrue_Compare1 (thn (h pins s σ H _ I hw) fun v s1 h1=>thn h1 fun u s2 h2=>thn h2 fun c s3 ⟨x,H1,I1,r1,q1⟩=>?_) h1
 obtain⟨d,rfl,q⟩:=q1
 cases r1
 exact wpAny_truthy_bool ⟨H1,I1,q⟩
theorem gc {e:Expr} {t:TE} (h:PE X e t) (he:∀ whole,isTrue e X.env whole=(do let v ← whole; standAt e.pos; holding [v] (truthy v)):=by intro _; rfl):PT X e (tB t):=by
 intro pins s σ H Q I hw
 refine isTrue_plain (thn (h pins s σ H _ I hw) fun v s1 ⟨x,H1,I1,r1,q1⟩=>?_) (he _)
 obtain⟨d,rfl,q⟩:=q1
 cases r1
 exact wpAny_truthy_bool ⟨H1,I1,q⟩
variable {tA tB':TT} {rest:List Expr}
def LM (t u:TT):TT:=fun σ H Q=>t σ H fun c H1=>if c=true then u σ H1 Q else Q false H1
def tOr (t u:TT):TT:=fun σ H Q=>t σ H fun c H1=>if c=true then Q true H1 else u σ H1 Q
def MD (t:TT):TT:=fun σ H Q=>t σ H fun c H1=>Q (!c) H1
theorem EW (ha:PT X a tA):PW X (.BoolOp .And [a] pos) tA:=by
 intro wh pins s σ H Q I h
 refine isTrue_and (thn (ha pins s σ H Q I h) fun c s1 e=>?_)
 cases c with
 | true=>exact isTrue_and_nil e
 | false=>exact e
theorem Bi (ha:PT X a tA):PW X (.BoolOp .Or [a] pos) tA:=by
 intro wh pins s σ H Q I h
 refine isTrue_or (thn (ha pins s σ H Q I h) fun c s1 e=>?_)
 cases c with
 | false=>exact isTrue_or_nil e
 | true=>exact e
theorem HY (ha:PT X a tA) (hb:PW X (.BoolOp .And (b :: rest) pos) tB'):PW X (.BoolOp .And (a :: b :: rest) pos) (LM tA tB'):=by
 intro wh pins s σ H Q I h
 refine isTrue_and (thn (ha pins s σ H _ I h) fun c s1 ⟨H1,I1,q1⟩=>?_)
 cases c with
 | true=>exact hb wh pins s1 σ H1 Q I1 q1
 | false=>exact⟨H1,I1,q1⟩
theorem EX (ha:PT X a tA) (hb:PW X (.BoolOp .Or (b :: rest) pos) tB'):PW X (.BoolOp .Or (a :: b :: rest) pos) (tOr tA tB'):=by
 intro wh pins s σ H Q I h
 refine isTrue_or (thn (ha pins s σ H _ I h) fun c s1 ⟨H1,I1,q1⟩=>?_)
 cases c with
 | true=>exact⟨H1,I1,q1⟩
 | false=>exact hb wh pins s1 σ H1 Q I1 q1
theorem wW (ha:PT X a tA):PT X (.UnaryOp .Not a pos) (MD tA):=by
 intro pins s σ H Q I h
 exact isTrue_not (ha pins s σ H (fun c H1=>Q (!c) H1) I h)
def LN (ta tb:TE):TE:=fun σ H Q=>ta σ H fun x H1=>∃ c,x = .bl c∧if c=true then tb σ H1 Q else Q (.bl false) H1
def ME (ta tb:TE):TE:=fun σ H Q=>ta σ H fun x H1=>∃ c,x = .bl c∧if c=true then Q (.bl true) H1 else tb σ H1 Q
theorem DJ {op} {t:TE} (h:PE X a t):PE X (.BoolOp op [a] pos) t:=fun pins s σ H Q I hw=>BoolOp_one (h pins s σ H Q I hw)
theorem HL (ha:PE X a ta) (hb:PE X (.BoolOp .And (b :: rest) pos) tb):PE X (.BoolOp .And (a :: b :: rest) pos) (LN ta tb):=by
 intro pins s σ H Q I h
 refine BoolOp_and (thn (ha pins s σ H _ I h) fun v s1 ⟨x,H1,I1,r1,q1⟩=>?_)
 obtain⟨c,rfl,q1⟩:=q1
 cases r1
 refine wpAny_truthy_bool ?_
 cases c with
 | true=>exact hb pins s1 σ H1 Q I1 q1
 | false=>exact⟨.bl false,H1,I1,rfl,q1⟩
theorem LA (ha:PE X a ta) (hb:PE X (.BoolOp .Or (b :: rest) pos) tb):PE X (.BoolOp .Or (a :: b :: rest) pos) (ME ta tb):=by
 intro pins s σ H Q I h
 refine BoolOp_or (thn (ha pins s σ H _ I h) fun v s1 ⟨x,H1,I1,r1,q1⟩=>?_)
 obtain⟨c,rfl,q1⟩:=q1
 cases r1
 refine wpAny_truthy_bool ?_
 cases c with
 | false=>exact hb pins s1 σ H1 Q I1 q1
 | true=>exact⟨.bl true,H1,I1,rfl,q1⟩
def tIf (t:TT) (ta tb:TE):TE:=fun σ H Q=>t σ H fun c H1=>if c=true then ta σ H1 Q else tb σ H1 Q
theorem l5 {c:Expr} (hc:PT X c tA) (ha:PE X a ta) (hb:PE X b tb):PE X (.IfExp c a b pos) (tIf tA ta tb):=by
 intro pins s σ H Q I h
 refine wpAny_IfExp (thn (hc pins s σ H _ I h) fun d s1 ⟨H1,I1,q1⟩=>?_)
 cases d with
 | true=>exact ha pins s1 σ H1 Q I1 q1
 | false=>exact hb pins s1 σ H1 Q I1 q1
end
end L2
namespace L2
open PySem PySem.Spec PyProof.Rows
def SqL (K:PySem.W.Frag) (H:Hp) (a:Addr) (xs:List V):Prop :=
 Rd H a (.lst xs) ∨
  ∃ (o:Obj) (its:Array Value) (n:Nat),K.lookup a=some o∧o.cls = .type "list"∧o.dict=none∧o.data = .seq its n∧its.size≤sizeLine∧Vals xs its.toList
def SqT (K:PySem.W.Frag) (H:Hp) (a:Addr) (xs:List V):Prop :=
 Rd H a (.tup xs) ∨
  ∃ (o:Obj) (its:Array Value) (n:Nat),K.lookup a=some o∧o.cls = .type "tuple"∧o.data = .seq its n∧its.size≤sizeLine∧Vals xs its.toList
def G8:Value→Option V
 | .none=>some .non
 | .bool b=>some (.bl b)
 | .int i _=>some (.int i)
 | .str x _=>some (.str x)
 | .bytes b _=>some (.byt b)
 | .float b _=>some (.flt b)
 | .ref a=>some (.ref a)
 | .type n=>some (.ty n)
 | _=>none
theorem RelV.abs {x:V} {u:Value} (r:RelV x u):G8 u=some x:=by
 cases x with
 | non=>cases r; rfl
 | bl _=>cases r; rfl
 | int _=>obtain⟨t,rfl⟩:=r; rfl
 | str _=>obtain⟨t,rfl⟩:=r; rfl
 | byt _=>obtain⟨t,rfl⟩:=r; rfl
 | flt _=>obtain⟨t,rfl⟩:=r; rfl
 | ref _=>cases r; rfl
 | ty _=>cases r; rfl
theorem RelV.inj {x y:V} {u:Value} (r:RelV x u) (q:RelV y u):x=y:=Option.some.inj (r.abs.symm.trans q.abs)
theorem Vals.inj:∀ {xs ys:List V} {us:List Value},Vals xs us→Vals ys us→xs=ys
 | _,_,_,.nil,.nil=>rfl
 | _,_,_,.cons r t,.cons r' t'=>by rw [r.inj r',Vals.inj t t']
section
variable {X:Cx} {pins:List (Addr×Obj)} {σ:St} {H:Hp} {s:Shared} {a:Addr} {xs ys:List V}
theorem SqL.of {K:PySem.W.Frag} (h:H a=some (.lst xs)):SqL K H a xs:=.inl (.inl h)
theorem SqT.of {K:PySem.W.Frag} (h:H a=some (.tup xs)):SqT K H a xs:=.inl (.inl h)
theorem Inv.list (I:Inv X pins σ H s) (h:SqL X.K H a xs):∃ its:List Value,Vals xs its∧PlainL s.heap a its.toArray∧xs.length≤sizeLine:=by
 rcases h with h | ⟨o,its,n,hk,hc,hd,hs,hz,r⟩
 ·obtain⟨z,its,n,r,e⟩:=h.ok I.hok
  exact⟨its,r,⟨_,n,e,rfl,rfl,rfl⟩,z⟩
 ·refine⟨its.toList,r,⟨o,n,I.kIn a o hk,hc,hd,by simpa using hs⟩,?_⟩
  have e:=r.length
  simp only [Array.length_toList] at e
  omega
theorem Inv.tuple (I:Inv X pins σ H s) (h:SqT X.K H a xs):∃ its:List Value,Vals xs its∧IsTup s.heap a its.toArray∧xs.length≤sizeLine:=by
 rcases h with h | ⟨o,its,n,hk,hc,hs,hz,r⟩
 ·obtain⟨z,its,r,p⟩:=h.ok I.hok
  exact⟨its,r,p,z⟩
 ·refine⟨its.toList,r,⟨o,I.kIn a o hk,hc,n,by simpa using hs⟩,?_⟩
  have e:=r.length
  simp only [Array.length_toList] at e
  omega
theorem Inv.yI (I:Inv X pins σ H s) (h:SqL X.K H a xs) (h':SqL X.K H a ys):xs=ys:=by
 obtain⟨its,r,⟨o,n,e,_,_,d⟩,_⟩:=I.list h
 obtain⟨its',r',⟨o',n',e',_,_,d'⟩,_⟩:=I.list h'
 rw [e] at e'; cases e'
 rw [d] at d'
 injection d' with d1 _
 have:its=its':=by simpa using congrArg Array.toList d1
 subst this
 exact r.inj r'
end
section
variable {X:Cx} {st:Stmt} {rest:List Stmt} {t u:TS} {e:Expr} {te:TE} {pos:Pos}
def Ka:TS:=fun D σ H=>D.nx σ H
def LV (t u:TS):TS:=fun D σ H=>t { D with nx:=u D } σ H
theorem cu:PSs X [] Ka:=fun _ _ σ H _ I h=>wpAny_execs_nil ⟨σ,H,I,h⟩
theorem ae (h1:PS X st t) (h2:PSs X rest u):PSs X (st :: rest) (LV t u):=by
 intro pins s σ H D I h
 refine wpAny_execs_cons (thn (h1 pins s σ H { D with nx:=u D } I h) fun f s1 q=>?_)
 cases f with
 | next =>
  obtain⟨σ',H',I',q⟩:=q
  exact h2 pins s1 σ' H' D I' q
 | ret v=>exact q
 | brk=>exact q
 | cont=>exact q
theorem ak (h1:PS X st t):PSs X [st] t:=by
 intro pins s σ H D I h
 refine wpAny_execs_cons (thn (h1 pins s σ H D I h) fun f s1 q=>?_)
 cases f with
 | next=>exact wpAny_execs_nil q
 | ret v=>exact q
 | brk=>exact q
 | cont=>exact q
theorem Inv.quiet {pins:List (Addr×Obj)} {σ:St} {H:Hp} {s:Shared} (I:Inv X pins σ H s):interactive X.env=false:=by simp [interactive,I.ok.kind]
def LQ (te:TE):TS:=fun D σ H=>te σ H fun _ H1=>D.nx σ H1
theorem aK (he:PE X e te) (hs:swapsWith e none pos.line X.env=pure false:=by rfl):PS X (.Expr e pos) (LQ te):=by
 intro pins s σ H D I h
 exact wpAny_Expr_any (thn (he pins s σ H _ I h) fun v s1 ⟨x,H1,I1,r1,q1⟩=>⟨σ,H1,I1,q1⟩) I.quiet hs
def MF (te:TE):TS:=fun D σ H=>te σ H D.rt
theorem aF (he:PE X e te):PS X (.Return (some e) pos) (MF te):=by
 intro pins s σ H D I h
 exact wpAny_Return_some (thn (he pins s σ H _ I h) fun v s1 ⟨x,H1,I1,r1,q1⟩=>⟨x,σ,H1,I1,r1,q1⟩)
def K9 (c:TT) (t u:TS):TS:=fun D σ H=>c σ H fun b H1=>if b=true then t D σ H1 else u D σ H1
theorem iC {c:Expr} {a b:List Stmt} {tc:TT} (hc:PT X c tc) (ha:PSs X a t) (hb:PSs X b u):PS X (.If c a b pos) (K9 tc t u):=by
 intro pins s σ H D I h
 refine wpAny_If (thn (hc pins s σ H _ I h) fun d s1 ⟨H1,I1,q1⟩=>?_)
 cases d with
 | true=>exact ha pins s1 σ H1 D I1 q1
 | false=>exact hb pins s1 σ H1 D I1 q1
end
abbrev TG:=V→St→Hp→(St→Hp→Prop)→Prop
abbrev TGs:=List V→St→Hp→(St→Hp→Prop)→Prop
def PG (X:Cx) (target:Expr) (t:TG):Prop :=
 ∀ (pins:List (Addr×Obj)) (s:Shared) (σ:St) (H:Hp) (v:V) (u:Value) (Q:St→Hp→Prop),Inv X pins σ H s→RelV v u→t v σ H Q →
  wpAny (model X.prog X.w) X.A (assign target X.env u) (fun _ s'=>∃ σ' H',Inv X pins σ' H' s'∧Q σ' H') X.xe s
def PGs (X:Cx) (ts:List Expr) (t:TGs):Prop :=
 ∀ (pins:List (Addr×Obj)) (s:Shared) (σ:St) (H:Hp) (vs:List V) (us:List Value) (Q:St→Hp→Prop),Inv X pins σ H s→Vals vs us→t vs σ H Q →
  wpAny (model X.prog X.w) X.A (assignInOrder ((assignEach ts X.env).map (·.2)) us) (fun _ s'=>∃ σ' H',Inv X pins σ' H' s'∧Q σ' H') X.xe s
abbrev Ke:=V→V→V→Hp→(Hp→Prop)→Prop
def Lh (X:Cx) (t:Ke):Prop :=
 ∀ (pins:List (Addr×Obj)) (s:Shared) (σ:St) (H:Hp) (o i v:V) (ov iv u:Value) (Q:Hp→Prop),Inv X pins σ H s→RelV o ov→RelV i iv→RelV v u→t o i v H Q →
  wpAny (model X.prog X.w) X.A (setItem ov iv u) (fun _ s'=>∃ H',Inv X pins σ H' s'∧Q H') X.xe s
section
variable {X:Cx} {pos:Pos}
def fM (i:Nat):TG:=fun v σ H Q=>Q (σ.set i (some v)) H
theorem aL {i:Nat} {x:Str} (hN:X.N.Nodup) (hi:X.N[i]?=some x) (hx:Loc X.env.scope x) (hf:X.fn x=true∨X.env.scope.names.lookup x=some .local:=by first | exact .inl rfl | exact .inr rfl | assumption):PG X (.Name x pos) (fM i):=by
 intro pins s σ H v u Q I r h
 exact wpAny_assign_Name (zv I hN hi hx r (fun s' I'=>⟨_,H,I',h⟩) hf)
def Kr:TGs:=fun vs σ H Q=>vs=[]∧Q σ H
def BU (t:TG) (u:TGs):TGs:=fun vs σ H Q=>∃ v r,vs=v :: r∧t v σ H fun σ' H'=>u r σ' H' Q
theorem Jr:PGs X [] Kr:=by
 intro pins s σ H vs us Q I r h
 obtain⟨e,h⟩:=h
 subst e
 cases r
 exact assignInOrder_nil ⟨σ,H,I,h⟩
theorem Ck {e:Expr} {es:List Expr} {t:TG} {u:TGs} (h1:PG X e t) (h2:PGs X es u)
  (hs:(assignEach (e :: es) X.env).map (·.2)=assign e X.env :: (assignEach es X.env).map (·.2):=by rfl):PGs X (e :: es) (BU t u):=by
 intro pins s σ H vs us Q I r h
 obtain⟨v,vr,e1,h⟩:=h
 subst e1
 cases r with
 | cons r rr =>
  rw [hs]
  refine assignInOrder_cons (thn (h1 pins s σ H _ _ _ I r h) fun _ s1 ⟨σ1,H1,I1,q1⟩=>?_)
  exact h2 pins s1 σ1 H1 _ _ Q I1 rr q1
def Ks (K:PySem.W.Frag) (n:Nat) (t:TGs):TG:=fun v σ H Q=>∃ a xs,v = .ref a∧SqT K H a xs∧xs.length=n∧t xs σ H Q
theorem KO {es:List Expr} {k:Nat} {t:TGs} {n:Nat} (hc:X.calm=true) (h:PGs X es t)
  (hn:(assignEach es X.env).length=n:=by rfl) (hst:(assignEach es X.env).findIdx? (·.1)=none:=by rfl):PG X (.Tuple es k pos) (Ks X.K n t):=by
 intro pins s σ H v u Q I r hw
 obtain⟨a,xs,e1,hq,hl,hw⟩:=hw
 subst e1
 cases r
 obtain⟨its,rv,ht,hz⟩:=I.tuple hq
 refine assign_Tuple_tuple (I.ok.hd hc) ht (by simp [hn,← hl,rv.length]) hst fun h' hx=>?_
 have I1:Inv X pins σ H { s with heap:=h' }:=I.kept (t':=s.toks) fun b o e=>hx b o (Nat.ne_of_lt (Heap.lt_size e)) e
 exact h pins _ σ H xs _ Q I1 (by simpa using rv) hw
def Ma (to ti:TE) (t:Ke):TG:=fun v σ H Q=>to σ H fun o H1=>ti σ H1 fun i H2=>t o i v H2 fun H3=>Q σ H3
theorem Bf {o i:Expr} {to ti:TE} {t:Ke} (ho:PE X o to) (hi:PE X i ti) (hs:Lh X t)
  (ha:∀ v,assign (.Subscript o i pos) X.env v=(do
   let ov ← holding [v] (eval o X.env)
   let iv ← holding [v,ov] (eval i X.env)
   standAt pos
   holding [v,ov,iv] (setItem ov iv v)
   release [v,ov,iv] []):=by intro _; rfl):PG X (.Subscript o i pos) (Ma to ti t):=by
 intro pins s σ H v u Q I r h
 rw [ha]
 refine wpAny_bind (wpAny_holding (thn (ho pins s σ H _ I h) fun ov s1 ⟨x,H1,I1,r1,q1⟩=>?_))
 refine wpAny_bind (wpAny_holding (thn (hi pins s1 σ H1 _ I1 q1) fun iv s2 ⟨y,H2,I2,r2,q2⟩=>?_))
 refine wpAny_bind (wpAny_standAt (wpAny_bind (wpAny_holding (thn (hs pins s2 σ H2 x y v ov iv u _ I2 r1 r2 r q2) fun _ s3 ⟨H3,I3,q3⟩=>?_))))
 exact wpAny_release ⟨σ,H3,I3,q3⟩
def K3 (te:TE) (g:TG):TS:=fun D σ H=>te σ H fun x H1=>g x σ H1 D.nx
theorem Bh {tg e:Expr} {te:TE} {g:TG} (he:PE X e te) (hg:PG X tg g) (hs:swapsWithSole [tg] e pos.line X.env=pure false:=by rfl) (hw:swappedStores [tg] e X.env=pure none:=by rfl)
  (h1:(assignEach [tg] X.env).map (·.2)=[assign tg X.env]:=by rfl):PS X (.Assign [tg] e pos) (K3 te g):=by
 intro pins s σ H D I h
 refine wpAny_Assign_stores (thn (he pins s σ H _ I h) fun v s1 ⟨x,H1,I1,r1,q1⟩=>?_) hs hw
 rw [h1]
 exact thn (hg pins s1 σ H1 x v _ I1 r1 q1) fun _ s2 q=>q
theorem aD {i:Nat} {x:Str} {e:Expr} {te:TE} {pos':Pos} (hN:X.N.Nodup) (hi:X.N[i]?=some x) (hx:Loc X.env.scope x) (he:PE X e te) (hs:swapsWith e (some (.Name x pos')) pos.line X.env=pure false:=by rfl) (hf:X.fn x=true∨X.env.scope.names.lookup x=some .local:=by first | exact .inl rfl | exact .inr rfl | assumption) :
  PS X (.Assign [.Name x pos'] e pos) (K3 te (fM i)):=by
 intro pins s σ H D I h
 refine wpAny_Assign_Name (thn (he pins s σ H _ I h) fun v s1 ⟨y,H1,I1,r1,q1⟩=>?_) hs
 exact zv I1 hN hi hx r1 (fun s2 I2=>⟨_,H1,I2,q1⟩) hf
end
section
variable {X:Cx} {pos:Pos}
def Lb (c:TT) (tb:TS):TS:=fun D σ H=>∃ W:Nat→St→Hp→Prop,(∃ m,W m σ H)∧∀ m σ H,W m σ H →
 c σ H fun b H1=>if b=true then ∃ N:St→Hp→Prop,(∀ σ' H',N σ' H'→∃ m',m' < m∧W m' σ' H')∧tb { D with nx:=N,ct:=N,bk:=D.nx } σ H1 else D.nx σ H1
theorem js {c:Expr} {body:List Stmt} {tc:TT} {tb:TS} (hp:PassesOwn (model X.prog X.w) X.A X.env X.xe) (hc:PT X c tc) (hb:PSs X body tb):PS X (.While c body [] pos) (Lb tc tb):=by
 intro pins s σ H D I h
 obtain⟨W,⟨m0,w0⟩,turn⟩:=h
 refine wpAny_While (codeAny_whileLoop (fun n s'=>∃ σ' H',Inv X pins σ' H' s'∧W n σ' H') ?_ m0 ⟨σ,H,I,w0⟩)
 rintro n s1 ⟨σ1,H1,I1,w1⟩
 refine wpAny_passesOwn hp (thn (hc pins s1 σ1 H1 _ I1 (turn n σ1 H1 w1)) fun b s2 ⟨H2,I2,q2⟩=>?_)
 cases b with
 | true =>
  obtain⟨N,hN,q2⟩:=q2
  rw [if_pos rfl]
  refine wpAny_passesOwn hp (thn (hb pins s2 σ1 H2 _ I2 q2) fun f s3 q3=>?_)
  cases f with
  | next =>
   obtain⟨σ3,H3,I3,n3⟩:=q3
   obtain⟨m',hm,w3⟩:=hN σ3 H3 n3
   exact⟨m',hm,σ3,H3,I3,w3⟩
  | cont =>
   obtain⟨σ3,H3,I3,n3⟩:=q3
   obtain⟨m',hm,w3⟩:=hN σ3 H3 n3
   exact⟨m',hm,σ3,H3,I3,w3⟩
  | brk=>exact q3
  | ret v=>exact q3
 | false =>
  rw [if_neg Bool.false_ne_true]
  exact wpAny_execs_nil ⟨σ1,H2,I2,q2⟩
end
structure It where
 go:Nat→Hp→Prop
 yld:Nat→Hp→V→Hp→Prop
 stop:Nat→Hp→Prop
def xy (X:Cx) (pins:List (Addr×Obj)) (H:Hp) (b:Addr):Prop :=
 H b=none∧b≠X.env.locals∧b∉X.fs∧(b∈X.ex∨X.s_0.heap.objs.size≤b)∧(∀ x c,X.env.cells.lookup x=some c→c≠b)∧∀ p∈X.pn ++ pins,p.1≠b
theorem Inv.Hl {X:Cx} {pins:List (Addr×Obj)} {σ:St} {H H':Hp} {s:Shared} {b:Addr} (I:Inv X pins σ H s) (hb:s.heap.objs.size≤b) (hn:H' b=none):xy X pins H' b:=by
 refine⟨hn,Nat.ne_of_gt (Nat.lt_of_lt_of_le I.lt hb),I.Mg hb,.inr (Nat.le_trans I.sz hb),fun x c e z=>?_,fun p hp z=>?_⟩
 ·obtain⟨v,q⟩:=I.cell x c e
  exact absurd (Nat.lt_of_lt_of_le q.lt (by rw [z]; exact hb)) (Nat.lt_irrefl _)
 ·exact absurd (Nat.lt_of_lt_of_le (Heap.lt_size (I.pin p hp).1) (by rw [z]; exact hb)) (Nat.lt_irrefl _)
structure Turn (P:Program) (w:World) (K:PySem.W.Frag) (tg:Expr) (J:It) (fp:List Addr) (it:Addr) (tn:Nat→Heap→Prop):Prop where
 mem:it∈fp
 obj:∀ i h,tn i h→∀ b∈fp,∃ o,h.get? b=some o∧∀ v,o.data≠.cell v
 keep:∀ i h h',tn i h→(∀ b∈fp,∀ o,h.get? b=some o→h'.get? b=some o)→tn i h'
 item:∀ (X:Cx),X.prog=P→X.w=w→X.K=K→X.calm=true→∀ (i:Nat) (pins:List (Addr×Obj)) (s:Shared) (σ:St) (H:Hp) (E:Value→Shared→Prop),Inv X pins σ H s→(∀ b∈fp,xy X pins H b)→tn i s.heap→J.go i H →
  wpAny (model P w) X.A (pyNext (.ref it)) (fun r s1=>∃ u,r=some u ∧
   wpAny (model P w) X.A (letOwnedTupleGo tg (.ref it) u) (fun _ s2=>∃ x H',Inv X pins σ H' s2∧RelV x u∧J.yld i H x H'∧tn (i + 1) s2.heap∧∀ b∈fp,H' b=none) E s1) E s
 done:∀ (X:Cx),X.prog=P→X.w=w→X.K=K→X.calm=true→∀ (i:Nat) (pins:List (Addr×Obj)) (s:Shared) (σ:St) (H:Hp) (E:Value→Shared→Prop),Inv X pins σ H s→(∀ b∈fp,xy X pins H b)→tn i s.heap→J.stop i H →
  wpAny (model P w) X.A (pyNext (.ref it)) (fun r s1=>r=none∧Inv X pins σ H s1) E s
 self:∀ (A:Around) (i:Nat) (s:Shared) (Q:Value→Shared→Prop) (E:Value→Shared→Prop),tn i s.heap→Q (.ref it) s→wpAny (model P w) A (pyIter (.ref it)) Q E s
abbrev TI:=St→Hp→(It→Hp→Prop)→Prop
def PIE (X:Cx) (pins:List (Addr×Obj)) (σ:St) (tg:Expr) (R:It→Hp→Prop) (itv:Value) (s2:Shared):Prop :=
 ∃ (it:Addr) (fp:List Addr) (tn:Nat→Heap→Prop) (J:It) (H':Hp),itv = .ref it∧Inv X pins σ H' s2∧Turn X.prog X.w X.K tg J fp it tn∧tn 0 s2.heap∧(∀ b∈fp,xy X pins H' b)∧R J H'
def PI (X:Cx) (tg iter:Expr) (wi:TI):Prop :=
 ∀ (pins:List (Addr×Obj)) (s:Shared) (σ:St) (H:Hp) (R:It→Hp→Prop),Inv X pins σ H s→wi σ H R →
  wpAny (model X.prog X.w) X.A (eval iter X.env) (fun v s1=>wpAny (model X.prog X.w) X.A (pyIter v) (PIE X pins σ tg R) X.xe s1) X.xe s
theorem EE {M:Model} {A:Around} {E:Value→Shared→Prop} {s:Shared} {tg:Expr} {it:Addr} {u:Value} {o:Obj} {n:String} {vs:Array Value} {Q:Unit→Shared→Prop} (ho:s.heap.get? it=some o) (hc:o.cls = .type n) (hd:o.data = .fields vs)
  (hn:["enumerate","zip","dict_itemiterator","dict_reverseitemiterator","odict_iterator","itertools.zip_longest","itertools.pairwise"].contains n=false) (hQ:Q () s):wpAny M A (letOwnedTupleGo tg (.ref it) u) Q E s:=by
 unfold letOwnedTupleGo
 cases tg<;>first
  | exact wpAny_pure hQ
  | (cases u<;>first
    | exact wpAny_pure hQ
    | (
     refine wpAny_bind (wpAny_load ho ?_)
     rw [hc,hd]
     show wpAny M A (if (["enumerate","zip","dict_itemiterator","dict_reverseitemiterator","odict_iterator","itertools.zip_longest","itertools.pairwise"].contains n && vs[0]? == some (rawInt _))=true then _ else _) Q E s
     rw [if_neg (by intro h; rw [hn,Bool.false_and] at h; cases h)]
     exact wpAny_pure hQ))
def Itl (K:PySem.W.Frag) (a:Addr):It :=
 ⟨fun i H=>∃ xs x,SqL K H a xs∧xs[i]?=some x,fun i H x H'=>H'=H∧∀ xs,SqL K H a xs→xs[i]?=some x,fun i H=>∃ xs,SqL K H a xs∧xs.length≤i⟩
def Itr (lo:Int) (n:Nat):It:=⟨fun i _=>i < n,fun i H x H'=>H'=H∧x = .int (lo + i),fun i _=>n≤i⟩
theorem Gz {P:Program} {w:World} {K:PySem.W.Frag} {tg:Expr} (a it:Addr):Turn P w K tg (Itl K a) [it] it (fun i h=>h.IsListIter it a i) where
 mem:=by simp
 obj:=fun i h st b hb=>by
  have e:b=it:=by simpa using hb
  subst e
  obtain⟨o,e,c,d⟩:=st
  exact⟨o,e,fun v z=>by rw [d] at z; cases z⟩
 keep:=fun i h h' st k=>st.at fun o e=>k it (by simp) o e
 item:=by
  intro X hP hw hK hc i pins s σ H E I hf st hg
  subst hP hw hK
  obtain⟨xs,x,hq,hx⟩:=hg
  obtain⟨its,rv,p,hz⟩:=I.list hq
  obtain⟨u,hu,ru⟩:=rv.get hx
  obtain⟨f0,f1,f2,f3,f4,f5⟩:=hf it (by simp)
  refine wpAny_pyNext_list_item st p.isList (x:=u) (by simpa using hu) fun h' st' sb=>?_
  have I1:Inv X pins σ H { s with heap:=h' }:=I.turned (t':=s.toks) (fun b o hb e=>(sb.2 b hb).trans e) f0 f1 f3 f4 f5
  obtain⟨o,e,c,d⟩:=id st'
  exact⟨u,rfl,EE (s:={ s with heap:=h' }) e c d (by decide) ⟨x,H,I1,ru,⟨rfl,fun ys hy=>by rw [I.yI hy hq]; exact hx⟩,st',fun b hb=>(hf b hb).1⟩⟩
 done:=by
  intro X hP hw hK hc i pins s σ H E I hf st hg
  subst hP hw hK
  obtain⟨xs,hq,hx⟩:=hg
  obtain⟨its,rv,p,hz⟩:=I.list hq
  obtain⟨f0,f1,f2,f3,f4,f5⟩:=hf it (by simp)
  have hl:=rv.length
  exact wpAny_pyNext_list_end (I.ok.hd hc) st p.isList (by simp; omega) fun h' eb=>⟨rfl,I.turned (t':=s.toks) (fun b o hb e=>eb b o hb e) f0 f1 f3 f4 f5⟩
 self:=fun _ _ _ _ _ st h=>wpAny_pyIter_listiter st h
theorem El {P:Program} {w:World} {K:PySem.W.Frag} {tg:Expr} (it:Addr) (lo:Int) (n:Nat):Turn P w K tg (Itr lo n) [it] it (fun i h=>IsRangeIter h it (lo + (i:Nat) * 1) ((n:Int) - (i:Nat)) 1) where
 mem:=by simp
 obj:=fun i h st b hb=>by
  have e:b=it:=by simpa using hb
  subst e
  exact⟨_,st,fun v z=>by
   have z':Data.fields _=Data.cell v:=z
   cases z'⟩
 keep:=fun i h h' st k=>k it (by simp) _ st
 item:=by
  intro X hP hw hK hc i pins s σ H E I hf st hg
  subst hP hw hK
  obtain⟨f0,f1,f2,f3,f4,f5⟩:=hf it (by simp)
  have W:=Walks.range (prog:=X.prog) (w:=X.w) (I.ok.hd hc) it lo 1 n
  refine W.item i s _ _ hg st fun v h' tk hv st' kk=>?_
  obtain⟨t,rfl⟩:=hv
  have I1:Inv X pins σ H { s with heap:=h',toks:=tk }:=I.turned (fun b o hb e=>kk b o (by simpa using hb) e) f0 f1 f3 f4 f5
  refine⟨_,rfl,EE (s:={ s with heap:=h',toks:=tk }) (n:="range_iterator") st' rfl rfl (by decide) ⟨.int (lo + i),H,I1,⟨t,?_⟩,⟨rfl,rfl⟩,st',fun b hb=>(hf b hb).1⟩⟩
  rw [Int.mul_one]
 done:=by
  intro X hP hw hK hc i pins s σ H E I hf st hg
  subst hP hw hK
  obtain⟨f0,f1,f2,f3,f4,f5⟩:=hf it (by simp)
  exact wpAny_pyNext_range_end (I.ok.hd hc) st (by have:n≤i:=hg; omega) fun h' eb=>⟨rfl,I.turned (t':=s.toks) (fun b o hb e=>eb b o hb e) f0 f1 f3 f4 f5⟩
 self:=fun _ _ _ _ _ st h=>wpAny_pyIter_rangeiter st h
end L2
namespace L2
open PySem PySem.Spec PyProof.Rows
section
variable {X:Cx} {tg:Expr}
def Lu (K:PySem.W.Frag) (tl:TE):TI:=fun σ H R=>tl σ H fun x H1=>∃ a,x = .ref a∧(∃ xs,SqL K H1 a xs)∧R (Itl K a) H1
theorem aY {l:Expr} {tl:TE} (hl:PE X l tl):PI X tg l (Lu X.K tl):=by
 intro pins s σ H R I h
 refine thn (hl pins s σ H _ I h) fun v s1 ⟨x,H1,I1,r1,q1⟩=>?_
 obtain⟨a,e,⟨xs,hq⟩,q⟩:=q1
 subst e
 cases r1
 obtain⟨its,rv,p,hz⟩:=I1.list hq
 refine wpAny_pyIter_list p.isList ?_
 refine⟨s1.heap.objs.size,[s1.heap.objs.size],_,_,H1,rfl,I1.kept (t':=s1.toks) fun b o e=>Heap.get?_push_of_some _ e,Gz a _,⟨_,Heap.get?_push_size _ rfl,rfl,rfl⟩,fun b hb=>?_,q⟩
 have e:b=s1.heap.objs.size:=by simpa using hb
 subst e
 exact I1.Hl (Nat.le_refl _) (I1.hok.fresh (Nat.le_refl _))
theorem Cn {pins:List (Addr×Obj)} {σ:St} {H:Hp} {s:Shared} {R:It→Hp→Prop} {E:Value→Shared→Prop} {lo hi:Int} {t u v:Tok} {tk:Nat} (I:Inv X pins σ H s) (h1:-(2 ^ 62)≤lo) (h2:lo < 2 ^ 62) (h3:-(2 ^ 62)≤hi) (h4:hi < 2 ^ 62)
  (q:R (Itr lo (hi - lo).toNat) H):wpAny (model X.prog X.w) X.A (pyIter (.ref s.heap.objs.size)) (PIE X pins σ tg R) E { s with heap:=s.heap.push { cls:=.type "range",data:=.fields #[.int lo t,.int hi u,.int 1 v] },toks:=tk }:=by
 refine wpAny_pyIter_range (IsRange.new ..) (small_one h1 h2 h3 h4) ?_
 have I1:Inv X pins σ H { s with heap:=s.heap.push { cls:=.type "range",data:=.fields #[.int lo t,.int hi u,.int 1 v] },toks:=tk }:=I.kept fun b o e=>Heap.get?_push_of_some _ e
 refine⟨(s.heap.push { cls:=.type "range",data:=.fields #[.int lo t,.int hi u,.int 1 v] }).objs.size,[(s.heap.push { cls:=.type "range",data:=.fields #[.int lo t,.int hi u,.int 1 v] }).objs.size],_,_,H,rfl,
  I1.kept (t':=tk) fun b o e=>Heap.get?_push_of_some _ e,El _ lo (hi - lo).toNat,?_,fun b hb=>?_,q⟩
 ·have e1:lo + ((0:Nat):Int) * 1=lo:=by simp
  have e2:(((hi - lo).toNat:Nat):Int) - ((0:Nat):Int)=Builtin.Range.rangeSize lo hi 1:=by rw [rangeSize_one]; split<;>omega
  show IsRangeIter _ _ (lo + ((0:Nat):Int) * 1) ((((hi - lo).toNat:Nat):Int) - ((0:Nat):Int)) 1
  rw [e1,e2]
  exact Heap.get?_push_size _ rfl
 ·have e:b=(s.heap.push { cls:=.type "range",data:=.fields #[.int lo t,.int hi u,.int 1 v] }).objs.size:=by simpa using hb
  subst e
  exact I1.Hl (Nat.le_refl _) (I1.hok.fresh (Nat.le_refl _))
def Lv (ta:TA):TI:=fun σ H R=>ta σ H fun vs H1=>∃ j:Int,vs=[.int j]∧-(2 ^ 62)≤j∧j < 2 ^ 62∧R (Itr 0 j.toNat) H1
def Lw (ta:TA):TI:=fun σ H R=>ta σ H fun vs H1=>∃ i j:Int,vs=[.int i,.int j]∧(-(2 ^ 62)≤i∧i < 2 ^ 62∧-(2 ^ 62)≤j∧j < 2 ^ 62)∧R (Itr i (j - i).toNat) H1
theorem gQ {a:Expr} {ta:TA} {p pos:Pos} (hg:Gl X "range") (hm:X.mg "range" = none) (ha:PA X [a] ta) (hs:starEach [a] X.env=[(false,eval a X.env)]:=by rfl):PI X tg (.Call (.Name "range" p) [a] [] pos) (Lv ta):=by
 intro pins s σ H R I h
 refine Call_ (wz I hg hm boot_range (PyProof.Rows.callWith_type1 (thn (ha pos pins s σ H _ I h) fun us s1 ⟨vs,H1,I1,r1,q1⟩=>?_) hs rfl))
 obtain⟨j,e,q1,q2,q⟩:=q1
 subst e
 cases r1 with
 | cons r rr =>
  cases rr
  obtain⟨t,rfl⟩:=r
  exact call_range_1 (Cn I1 (by omega) (by omega) q1 q2 (by simpa using q))
theorem F4 {a b:Expr} {ta:TA} {p pos:Pos} (hg:Gl X "range") (hm:X.mg "range" = none) (ha:PA X [a,b] ta) (hs:starEach [a,b] X.env=[(false,eval a X.env),(false,eval b X.env)]:=by rfl) (hs2:starEach [b] X.env=[(false,eval b X.env)]:=by rfl) :
  PI X tg (.Call (.Name "range" p) [a,b] [] pos) (Lw ta):=by
 intro pins s σ H R I h
 refine Call_ (wz I hg hm boot_range (PyProof.Rows.callWith_type1 (thn (ha pos pins s σ H _ I h) fun us s1 ⟨vs,H1,I1,r1,q1⟩=>?_) (by rw [hs,hs2]) (by rw [hs2]; rfl)))
 obtain⟨i,j,e,⟨q1,q2,q3,q4⟩,q⟩:=q1
 subst e
 cases r1 with
 | cons r rr =>
  cases rr with
  | cons r' rr =>
   cases rr
   obtain⟨t,rfl⟩:=r
   obtain⟨t',rfl⟩:=r'
   exact call_range_2 (Cn I1 q1 q2 q3 q4 q)
def Mz (wi:TI) (g:TG) (tb:TS):TS:=fun D σ H=>wi σ H fun J H1=>∃ W:Nat→Nat→St→Hp→Prop,(∃ m,W 0 m σ H1)∧∀ i m σ H,W i m σ H →
 (J.stop i H∧D.nx σ H)∨(J.go i H∧∃ N:St→Hp→Prop,(∀ σ' H',N σ' H'→∃ m',m' < m∧W (i + 1) m' σ' H')∧∀ x H',J.yld i H x H'→g x σ H' fun σ2 H2=>tb { D with nx:=N,ct:=N,bk:=D.nx } σ2 H2)
def zj (fp:List Addr) (h:Heap):List (Addr×Obj):=fp.filterMap fun b=>(h.get? b).map fun o=>(b,o)
theorem uu {fp:List Addr} {h:Heap} {b:Addr} {o:Obj} (hb:b∈fp) (e:h.get? b=some o):(b,o)∈zj fp h:=List.mem_filterMap.mpr ⟨b,hb,by rw [e]; rfl⟩
theorem F2 {fp:List Addr} {h:Heap} {p:Addr×Obj} (hp:p∈zj fp h):p.1∈fp∧h.get? p.1=some p.2:=by
 obtain⟨b,hb,e⟩:=List.mem_filterMap.mp hp
 cases q:h.get? b with
 | none=>rw [q] at e; cases e
 | some o =>
  rw [q] at e
  have e':(b,o)=p:=Option.some.inj e
  subst e'
  exact⟨hb,q⟩
theorem Inv.pinned {pins:List (Addr×Obj)} {σ:St} {H:Hp} {s:Shared} {fp:List Addr} (I:Inv X pins σ H s) (hf:∀ b∈fp,xy X pins H b) (ho:∀ b∈fp,∃ o,s.heap.get? b=some o∧∀ v,o.data≠.cell v):Inv X (pins ++ zj fp s.heap) σ H s :=
 I.EV fun p hp=>(List.mem_append.mp hp).elim (fun z=>I.pin p (List.mem_append_right _ z)) fun z=>by
  obtain⟨hb,e⟩:=F2 z
  obtain⟨f0,f1,f2,_⟩:=hf p.1 hb
  obtain⟨o,e',d⟩:=ho p.1 hb
  rw [e] at e'; cases e'
  exact⟨e,f0,f1,f2,d⟩
theorem Inv.vY {pins pl:List (Addr×Obj)} {σ:St} {H:Hp} {s:Shared} (I:Inv X (pins ++ pl) σ H s):Inv X pins σ H s:=I.EV fun p hp=>I.pin p (List.mem_append_right _ (List.mem_append_left _ hp))
theorem iB {iter:Expr} {body:List Stmt} {wi:TI} {g:TG} {tb:TS} {pos:Pos} (hp:PassesOwn (model X.prog X.w) X.A X.env X.xe) (hc:X.calm=true) (hi:PI X tg iter wi) (hg:PG X tg g) (hb:PSs X body tb)
  (hs:∀ x,foldedSetIterable iter X.env x=pure x:=by intro _; rfl):PS X (.For tg iter body [] pos) (Mz wi g tb):=by
 intro pins s σ H D I h
 refine wpAny_For (thn (hi pins s σ H _ I h) fun v s1 h1=>thn h1 fun itv s2 h2=>?_) hs
 obtain⟨it,fp,tn,J,H2,e,I2,T,st2,f2,W,⟨m0,w0⟩,turn⟩:=h2
 subst e
 have stat:∀ {H':Hp},(∀ b∈fp,H' b=none)→∀ b∈fp,xy X pins H' b:=fun hn b hb=>⟨hn b hb,(f2 b hb).2⟩
 refine codeAny_forLoop_any (fun n s'=>∃ i σ' H',Inv X pins σ' H' s'∧tn i s'.heap∧(∀ b∈fp,H' b=none)∧W i n σ' H') ?_ m0 ⟨0,σ,H2,I2,st2,fun b hb=>(f2 b hb).1,w0⟩
 rintro n s3 ⟨i,σ3,H3,I3,st3,fr3,w3⟩
 rcases turn i n σ3 H3 w3 with ⟨stop,qn⟩ | ⟨go,N,hN,step⟩
 ·refine wpAny_passesOwn hp (thn (T.done X rfl rfl rfl hc i pins s3 σ3 H3 X.xe I3 (stat fr3) st3 stop) fun r s4 ⟨hr,I4⟩=>?_)
  subst hr
  exact wpAny_execs_nil ⟨σ3,H3,I4,qn⟩
 ·refine wpAny_passesOwn hp (thn (T.item X rfl rfl rfl hc i pins s3 σ3 H3 X.xe I3 (stat fr3) st3 go) fun r s4 ⟨u,hr,h4⟩=>?_)
  subst hr
  refine wpAny_passesOwn hp (thn h4 fun _ s5 ⟨x,H5,I5,r5,y5,st5,fr5⟩=>?_)
  have I5':=I5.pinned (stat fr5) (T.obj _ _ st5)
  refine wpAny_passesOwn hp (thn (hg _ s5 σ3 H5 x u _ I5' r5 (step x H5 y5)) fun _ s6 ⟨σ6,H6,I6,q6⟩=>?_)
  refine wpAny_passesOwn hp (thn (hb _ s6 σ6 H6 _ I6 q6) fun f s7 q7=>?_)
  have again:∀ {σ7:St} {H7:Hp},Inv X (pins ++ zj fp s5.heap) σ7 H7 s7→N σ7 H7→∃ m,m < n∧∃ i σ' H',Inv X pins σ' H' s7∧tn i s7.heap∧(∀ b∈fp,H' b=none)∧W i m σ' H':=fun {σ7 H7} I7 n7=>by
   obtain⟨m',hm,w7⟩:=hN σ7 H7 n7
   refine⟨m',hm,i + 1,σ7,H7,I7.vY,T.keep _ _ _ st5 fun b hb o e=>(I7.pin (b,o) (List.mem_append_right _ (List.mem_append_right _ (uu hb e)))).1,fun b hb=>?_,w7⟩
   obtain⟨o,e,d⟩:=T.obj _ _ st5 b hb
   exact (I7.pin (b,o) (List.mem_append_right _ (List.mem_append_right _ (uu hb e)))).2.1
  cases f with
  | next=>obtain⟨σ7,H7,I7,n7⟩:=q7; exact again I7 n7
  | cont=>obtain⟨σ7,H7,I7,n7⟩:=q7; exact again I7 n7
  | brk=>obtain⟨σ7,H7,I7,q7⟩:=q7; exact⟨σ7,H7,I7.vY,q7⟩
  | ret v=>obtain⟨x7,σ7,H7,I7,r7,q7⟩:=q7; exact⟨x7,σ7,H7,I7.vY,r7,q7⟩
end
theorem jl {K:PySem.W.Frag} {a:Addr} {xs:List V} {g:TG} {tb:TS} {D:Ends} {σ:St} {H:Hp} (Pv:Nat→St→Hp→Prop) (h0:Pv 0 σ H) (hl:∀ i σ H,i≤xs.length→Pv i σ H→SqL K H a xs)
  (hs:∀ i x σ H,xs[i]?=some x→Pv i σ H→g x σ H fun σ2 H2=>tb { D with nx:=Pv (i + 1),ct:=Pv (i + 1),bk:=D.nx } σ2 H2) (hd:∀ σ H,Pv xs.length σ H→D.nx σ H) :
  ∃ W:Nat→Nat→St→Hp→Prop,(∃ m,W 0 m σ H)∧∀ i m σ H,W i m σ H →
   ((Itl K a).stop i H∧D.nx σ H)∨((Itl K a).go i H∧∃ N:St→Hp→Prop,(∀ σ' H',N σ' H'→∃ m',m' < m∧W (i + 1) m' σ' H')∧∀ x H',(Itl K a).yld i H x H'→g x σ H' fun σ2 H2=>tb { D with nx:=N,ct:=N,bk:=D.nx } σ2 H2):=by
 refine⟨fun i m σ H=>m=xs.length - i∧i≤xs.length∧Pv i σ H,⟨xs.length,by simp,Nat.zero_le _,h0⟩,?_⟩
 rintro i m σ H ⟨rfl,hi,p⟩
 have q:=hl i σ H hi p
 by_cases hlt:i < xs.length
 ·refine .inr ⟨⟨xs,xs[i],q,by simp [hlt]⟩,Pv (i + 1),fun σ' H' p'=>⟨xs.length - (i + 1),by omega,rfl,hlt,p'⟩,fun x H' y=>?_⟩
  obtain⟨e,y⟩:=y
  subst e
  exact hs i x σ _ (y xs q) p
 ·have e:i=xs.length:=by omega
  subst e
  exact .inl ⟨⟨xs,q,Nat.le_refl _⟩,hd σ H p⟩
theorem sX {lo:Int} {n:Nat} {g:TG} {tb:TS} {D:Ends} {σ:St} {H:Hp} (Pv:Nat→St→Hp→Prop) (h0:Pv 0 σ H)
  (hs:∀ i σ H,i < n→Pv i σ H→g (.int (lo + i)) σ H fun σ2 H2=>tb { D with nx:=Pv (i + 1),ct:=Pv (i + 1),bk:=D.nx } σ2 H2) (hd:∀ σ H,Pv n σ H→D.nx σ H) :
  ∃ W:Nat→Nat→St→Hp→Prop,(∃ m,W 0 m σ H)∧∀ i m σ H,W i m σ H →
   ((Itr lo n).stop i H∧D.nx σ H)∨((Itr lo n).go i H∧∃ N:St→Hp→Prop,(∀ σ' H',N σ' H'→∃ m',m' < m∧W (i + 1) m' σ' H')∧∀ x H',(Itr lo n).yld i H x H'→g x σ H' fun σ2 H2=>tb { D with nx:=N,ct:=N,bk:=D.nx } σ2 H2):=by
 refine⟨fun i m σ H=>m=n - i∧i≤n∧Pv i σ H,⟨n,by simp,Nat.zero_le _,h0⟩,?_⟩
 rintro i m σ H ⟨rfl,hi,p⟩
 by_cases hlt:i < n
 ·refine .inr ⟨hlt,Pv (i + 1),fun σ' H' p'=>⟨n - (i + 1),by omega,rfl,hlt,p'⟩,fun x H' y=>?_⟩
  obtain⟨e,y⟩:=y
  subst e y
  exact hs i σ _ hlt p
 ·have e:i=n:=by omega
  subst e
  exact .inl ⟨Nat.le_refl _,hd σ H p⟩
end L2
namespace L2
open PySem PySem.Spec PyProof.Rows
abbrev R2:=V→V→Hp→VK→Prop
def OpR (X:Cx) (f:Value→Value→Sem Value) (r:R2):Prop :=
 ∀ (pins:List (Addr×Obj)) (s:Shared) (σ:St) (H:Hp) (x y:V) (v u:Value) (Q:VK),Inv X pins σ H s→RelV x v→RelV y u→r x y H Q →
  wpAny (model X.prog X.w) X.A (f v u) (EP X pins σ Q) X.xe s
def UnR (X:Cx) (f:Value→Sem Value) (r:V→Hp→VK→Prop):Prop :=
 ∀ (pins:List (Addr×Obj)) (s:Shared) (σ:St) (H:Hp) (x:V) (v:Value) (Q:VK),Inv X pins σ H s→RelV x v→r x H Q →
  wpAny (model X.prog X.w) X.A (f v) (EP X pins σ Q) X.xe s
def mC (X:Cx) (f:Value) (r:List V→Hp→VK→Prop):Prop :=
 ∀ (pins:List (Addr×Obj)) (s:Shared) (σ:St) (H:Hp) (xs:List V) (us:List Value) (Q:VK),Inv X pins σ H s→Vals xs us→r xs H Q →
  wpAny (model X.prog X.w) X.A (call f us) (EP X pins σ Q) X.xe s
def tOp (r:R2) (ta tb:TE):TE:=fun σ H Q=>ta σ H fun x H1=>tb σ H1 fun y H2=>r x y H2 Q
def tUn (r:V→Hp→VK→Prop) (ta:TE):TE:=fun σ H Q=>ta σ H fun x H1=>r x H1 Q
def rI (C:Int→Int→Prop) (g:Int→Int→V):R2:=fun x y H Q=>∃ i j,x = .int i∧y = .int j∧C i j∧Q (g i j) H
def rI0 (g:Int→Int→V):R2:=fun x y H Q=>∃ i j,x = .int i∧y = .int j∧Q (g i j) H
def rU (g:Int→V):V→Hp→VK→Prop:=fun x H Q=>∃ i,x = .int i∧Q (g i) H
section
variable {X:Cx} {a b c:Expr} {ta tb tc:TE} {pos:Pos}
theorem Kh (ha:PE X a ta) (hb:PE X b tb) {pins:List (Addr×Obj)} {s:Shared} {σ:St} {H:Hp} {R:V→V→Hp→Prop} (I:Inv X pins σ H s)
  (h:ta σ H fun x H1=>tb σ H1 fun y H2=>R x y H2) {Q:Value→Shared→Prop} {f:Value→Value→Sem Value}
  (hf:∀ v u s2 x y H2,Inv X pins σ H2 s2→RelV x v→RelV y u→R x y H2→wpAny (model X.prog X.w) X.A (f v u) Q X.xe s2) :
  wpAny (model X.prog X.w) X.A (eval a X.env) (fun v s₁=>wpAny (model X.prog X.w) X.A (eval b X.env) (fun u s₂=>wpAny (model X.prog X.w) X.A (f v u) Q X.xe s₂) X.xe s₁) X.xe s:=by
 refine thn (ha pins s σ H _ I h) fun v s1 ⟨x,H1,I1,r1,q1⟩=>?_
 refine thn (hb pins s1 σ H1 _ I1 q1) fun u s2 ⟨y,H2,I2,r2,q2⟩=>?_
 exact hf v u s2 x y H2 I2 r1 r2 q2
theorem bj {op:Operator} {r:R2} (ho:OpR X (binaryOp op) r) (ha:PE X a ta) (hb:PE X b tb):PE X (.BinOp a op b pos) (tOp r ta tb):=by
 intro pins s σ H Q I h
 exact wpAny_BinOp (Kh ha hb I h fun v u s2 x y H2 I2 rx ry q=>ho pins s2 σ H2 x y v u Q I2 rx ry q)
theorem t6 {op:UnaryOp} {r:V→Hp→VK→Prop} (ho:UnR X (unaryOp op) r) (ha:PE X a ta):PE X (.UnaryOp op a pos) (tUn r ta):=by
 intro pins s σ H Q I h
 exact UnaryOp_ (thn (ha pins s σ H _ I h) fun v s1 ⟨x,H1,I1,r1,q1⟩=>ho pins s1 σ H1 x v Q I1 r1 q1)
theorem opI {f:Value→Value→Sem Value} {C:Int→Int→Prop} {g:Int→Int→Int}
  (rule:∀ (i j:Int) (t u:Tok) (s:Shared) (Q:Value→Shared→Prop) (E:Value→Shared→Prop),C i j→Q (.int (g i j) s.toks) { s with toks:=s.toks + 1 }→wpAny (model X.prog X.w) X.A (f (.int i t) (.int j u)) Q E s) :
  OpR X f (rI C fun i j=>.int (g i j)):=by
 intro pins s σ H x y v u Q I rx ry h
 obtain⟨i,j,rfl,rfl,hc,q⟩:=h
 obtain⟨t,rfl⟩:=rx
 obtain⟨t',rfl⟩:=ry
 exact rule i j t t' s _ _ hc ⟨.int (g i j),H,I.tok _,⟨_,rfl⟩,q⟩
theorem Jm {f:Value→Value→Sem Value} {g:Int→Int→Int}
  (rule:∀ (i j:Int) (t u:Tok) (s:Shared) (Q:Value→Shared→Prop) (E:Value→Shared→Prop),Q (.int (g i j) s.toks) { s with toks:=s.toks + 1 }→wpAny (model X.prog X.w) X.A (f (.int i t) (.int j u)) Q E s) :
  OpR X f (rI0 fun i j=>.int (g i j)):=by
 intro pins s σ H x y v u Q I rx ry h
 obtain⟨i,j,rfl,rfl,q⟩:=h
 obtain⟨t,rfl⟩:=rx
 obtain⟨t',rfl⟩:=ry
 exact rule i j t t' s _ _ ⟨.int (g i j),H,I.tok _,⟨_,rfl⟩,q⟩
theorem Mh {f:Value→Value→Sem Value} {g:Int→Int→Bool}
  (rule:∀ (i j:Int) (t u:Tok) (s:Shared) (Q:Value→Shared→Prop) (E:Value→Shared→Prop),Q (.bool (g i j)) s→wpAny (model X.prog X.w) X.A (f (.int i t) (.int j u)) Q E s) :
  OpR X f (rI0 fun i j=>.bl (g i j)):=by
 intro pins s σ H x y v u Q I rx ry h
 obtain⟨i,j,rfl,rfl,q⟩:=h
 obtain⟨t,rfl⟩:=rx
 obtain⟨t',rfl⟩:=ry
 exact rule i j t t' s _ _ ⟨.bl (g i j),H,I,rfl,q⟩
def Kb (i j:Int):Prop:=(-(2 ^ 64) < i∧i < 2 ^ 64)∨(-(2 ^ 64) < j∧j < 2 ^ 64)
theorem Kb.ok {i j:Int} (h:Kb i j):IntMulOk i j:=by
 rcases h with ⟨h1,h2⟩ | ⟨h1,h2⟩
 ·exact .of_left (intBits_le_64 h1 h2)
 ·exact .of_right (intBits_le_64 h1 h2)
theorem iz:OpR X (binaryOp .Add) (rI0 fun i j=>.int (i + j)):=Jm fun _ _ _ _ _ _ _ q=>add_int q
theorem mz:OpR X (binaryOp .Sub) (rI0 fun i j=>.int (i - j)):=Jm fun _ _ _ _ _ _ _ q=>sub_int q
theorem qo:OpR X (binaryOp .Mult) (rI Kb fun i j=>.int (i * j)):=opI fun _ _ _ _ _ _ _ hc q=>mul_int q hc.ok
theorem KL:OpR X (binaryOp .Mod) (rI (fun _ j=>0 < j) fun i j=>.int (i % j)):=opI fun i j _ _ _ _ _ hc q=>by
 have h1:(0:Int) < j:=hc
 exact mod_int' (by omega) (by rw [Int.fmod_eq_emod_of_nonneg i (by omega)]; exact q)
theorem KI:OpR X (binaryOp .BitAnd) (rI0 fun i j=>.int (Builtin.bitAnd i j)):=Jm fun _ _ _ _ _ _ _ q=>and_int q
theorem J1:OpR X (binaryOp .BitOr) (rI0 fun i j=>.int (Builtin.bitOr i j)):=Jm fun _ _ _ _ _ _ _ q=>or_int q
theorem unI {f:Value→Sem Value} {g:Int→Int}
  (rule:∀ (i:Int) (t:Tok) (s:Shared) (Q:Value→Shared→Prop) (E:Value→Shared→Prop),Q (.int (g i) s.toks) { s with toks:=s.toks + 1 }→wpAny (model X.prog X.w) X.A (f (.int i t)) Q E s) :
  UnR X f (rU fun i=>.int (g i)):=by
 intro pins s σ H x v Q I rx h
 obtain⟨i,rfl,q⟩:=h
 obtain⟨t,rfl⟩:=rx
 exact rule i t s _ _ ⟨.int (g i),H,I.tok _,⟨_,rfl⟩,q⟩
theorem o6:UnR X (unaryOp .USub) (rU fun i=>.int (-i)):=unI fun _ _ _ _ _ q=>neg_int q
end
section
variable {X:Cx} {a b c:Expr} {ta tb tc:TE} {pos:Pos}
theorem HI:OpR X (compareOp .LtE) (rI0 fun i j=>.bl (decide (i≤j))):=Mh fun _ _ _ _ _ _ _ q=>le_int q
theorem HF (b:Expr) {op:CmpOp} (h:op≠.In:=by decide) (h2:op≠.NotIn:=by decide):behindInMarks op b=false:=by
 have e1:(op == CmpOp.In)=false:=by cases op<;>first | rfl | exact absurd rfl h
 have e2:(op == CmpOp.NotIn)=false:=by cases op<;>first | rfl | exact absurd rfl h2
 cases b<;>simp [behindInMarks,e1,e2]
theorem EU {op:CmpOp} {r:R2} (ho:OpR X (compareOp op) r) (ha:PE X a ta) (hb:PE X b tb) (hm:behindInMarks op b=false):PE X (.Compare a [op] [b] pos) (tOp r ta tb):=by
 intro pins s σ H Q I h
 exact wpAny_Compare1 (Kh ha hb I h fun v u s2 x y H2 I2 rx ry q=>ho pins s2 σ H2 x y v u Q I2 rx ry q) hm
def LW (t:TE):TT:=fun σ H Q=>t σ H fun x H'=>∃ k,x = .bl k∧Q k H'
theorem yc {op:CmpOp} {r:R2} (ho:OpR X (compareOp op) r) (ha:PE X a ta) (hb:PE X b tb) (hm:behindInMarks op b=false):PT X (.Compare a [op] [b] pos) (LW (tOp r ta tb)):=by
 intro pins s σ H Q I h
 refine wpAny_isTrue_Compare1 (thn (ha pins s σ H _ I h) fun v s1 ⟨x,H1,I1,r1,q1⟩=>thn (hb pins s1 σ H1 _ I1 q1) fun u s2 ⟨y,H2,I2,r2,q2⟩ =>
  thn (ho pins s2 σ H2 x y v u _ I2 r1 r2 q2) fun c s3 ⟨z,H3,I3,r3,k,e,q3⟩=>?_) hm
 subst e
 cases r3
 exact wpAny_truthy_bool ⟨H3,I3,q3⟩
def K6 (r r':R2) (ta tb tc:TE):TE:=fun σ H Q=>ta σ H fun x H1=>tb σ H1 fun y H2=>r x y H2 fun z H3=>∃ k,z = .bl k ∧
 (if k=true then tc σ H3 fun w' H4=>r' y w' H4 Q else Q (.bl false) H3)
theorem HQ {op op':CmpOp} {r r':R2} (ho:OpR X (compareOp op) r) (ho':OpR X (compareOp op') r') (ha:PE X a ta) (hb:PE X b tb) (hc:PE X c tc)
  (hm:lastMarks [op,op'] [b,c]=false:=by with_unfolding_all rfl):PE X (.Compare a [op,op'] [b,c] pos) (K6 r r' ta tb tc):=by
 intro pins s σ H Q I h
 refine Compare_chain (thn (ha pins s σ H _ I h) fun v s1 ⟨x,H1,I1,r1,q1⟩=>chain_link (thn (hb pins s1 σ H1 _ I1 q1) fun u s2 ⟨y,H2,I2,r2,q2⟩ =>
  thn (ho pins s2 σ H2 x y v u _ I2 r1 r2 q2) fun d s3 ⟨z,H3,I3,r3,k,e,q3⟩=>?_)) hm
 subst e
 cases r3
 refine wpAny_truthy_bool ?_
 cases k with
 | false=>exact ite_ff ⟨.bl false,H3,I3,rfl,q3⟩
 | true=>exact ite_tt (chain_last (thn (hc pins s3 σ H3 _ I3 q3) fun w' s4 ⟨z',H4,I4,r4,q4⟩=>ho' pins s4 σ H4 y z' u w' Q I4 r2 r4 q4))
theorem A8:(sizeLine:Nat) < 2 ^ 63:=by rw [sizeLine_eq]; decide
theorem vals1 {x:V} {us:List Value} (r:Vals [x] us):∃ u,us=[u]∧RelV x u:=by
 cases r with
 | cons r1 r2=>cases r2; exact⟨_,rfl,r1⟩
theorem vals2 {x y:V} {us:List Value} (r:Vals [x,y] us):∃ u w',us=[u,w']∧RelV x u∧RelV y w':=by
 cases r with
 | cons r1 r2 =>
  cases r2 with
  | cons r3 r4=>cases r4; exact⟨_,_,rfl,r1,r3⟩
theorem Ah (hc:X.calm=true):mC X (.builtin "max") (fun xs H Q=>∃ i j,xs=[.int i,.int j]∧Q (.int (if j > i then j else i)) H):=by
 intro pins s σ H xs us Q I r h
 obtain⟨i,j,rfl,q⟩:=h
 obtain⟨u,w',rfl,⟨t,rfl⟩,⟨t',rfl⟩⟩:=vals2 r
 refine max_two_ints (I.ok.hd hc) fun h' tk k=>⟨_,H,I.kept k,?_,q⟩
 by_cases hj:j > i
 ·rw [if_pos hj,if_pos hj]; exact⟨_,rfl⟩
 ·rw [if_neg hj,if_neg hj]; exact⟨_,rfl⟩
theorem Fj (hc:X.calm=true):mC X (.builtin "min") (fun xs H Q=>∃ i j,xs=[.int i,.int j]∧Q (.int (if j < i then j else i)) H):=by
 intro pins s σ H xs us Q I r h
 obtain⟨i,j,rfl,q⟩:=h
 obtain⟨u,w',rfl,⟨t,rfl⟩,⟨t',rfl⟩⟩:=vals2 r
 refine min_two_ints (I.ok.hd hc) fun h' tk k=>⟨_,H,I.kept k,?_,q⟩
 by_cases hj:j < i
 ·rw [if_pos hj,if_pos hj]; exact⟨_,rfl⟩
 ·rw [if_neg hj,if_neg hj]; exact⟨_,rfl⟩
end
end L2
namespace L2
open PySem PySem.Spec PyProof.Rows
structure C8 (h:Heap) (x dx C:Addr) (mA:Str→Option Value):Prop where
 obj:h.get? x=some (PySem.W.instObj C dx)
 ns:h.Ns1 dx mA
 ne:dx≠x
theorem Ao {h:Heap} {dx:Addr} {mA:Str→Option Value} (n:h.Ns1 dx mA):∃ od,h.get? dx=some od∧∀ name,PySem.W.lookIn name od=some (mA name):=by
 obtain⟨o,es,ep,ho,hd,hk,_,hm⟩:=n
 refine⟨o,ho,fun name=>?_⟩
 have e:=hm name
 unfold nsFind findBy at e
 rw [← Array.find?_toList] at e
 unfold PySem.W.lookIn
 rw [hd]
 dsimp only
 split
 ·rename_i y q
  rw [q] at e
  exact congrArg some e
 ·rename_i q
  rw [q] at e
  have a:es.toList.any (·.refKey)=false:=by
   rw [List.any_eq_false]
   intro y hy
   obtain⟨z,t,hkey⟩:=hk y (Array.mem_toList_iff.mp hy)
   simp [DictEntry.refKey,hkey]
  have a':¬ es.toList.any (·.refKey)=true:=by rw [a]; exact Bool.false_ne_true
  rw [if_neg a']
  exact congrArg some e
theorem C8.look {h:Heap} {x dx C:Addr} {mA:Str→Option Value} (I:C8 h x dx C mA):∃ od,PySem.W.InstAt h x (PySem.W.instObj C dx) C (some od)∧∀ name,PySem.W.lookIn name od=some (mA name) :=
 let ⟨od,ho,hl⟩:=Ao I.ns
 ⟨od,⟨I.obj,rfl,rfl,ho⟩,hl⟩
section
variable {prog:Program} {w:World} {A:Around} {E:Value→Shared→Prop} {s:Shared} {K:PySem.W.Frag} {x dx C f:Addr} {mA:Str→Option Value} {name:Str} {v:Value}
theorem get_map {expr:Bool} {Q:Value→Shared→Prop} (X:K.In s.heap) (I:C8 s.heap x dx C mA) (hg:PySem.W.plainGet K C name=true) (hh:PySem.W.hasDictIn K C=true)
  (ha:PySem.W.findIn K (.ref C) name=some none) (hv:mA name=some v) (hv':PySem.W.handedIn v=true) (h:Q v { s with toks:=s.toks + 1 }) :
  wpAny (model prog w) A (getAttr (.ref x) name expr) Q E s:=by
 obtain⟨od,J,hl⟩:=I.look
 exact PySem.W.get_value X J (PySem.W.plainGet_of hg).1 (PySem.W.findObj_own hh ha rfl (by rw [hl,hv])) hv' h
theorem Ho {pl:Sem Bool} {Q:Value×List Value→Shared→Prop} (X:K.In s.heap) (I:C8 s.heap x dx C mA) (hg:PySem.W.plainGet K C name=true)
  (hf:PySem.W.findIn K (.ref C) name=some (some (.ref f))) (ht:PySem.W.isFn K (.ref f)=true) (hv:mA name=none) (h:Q (.ref f,[.ref x]) s) :
  wpAny (model prog w) A (getMethod (.ref x) name pl) Q E s:=by
 obtain⟨od,J,hl⟩:=I.look
 exact PySem.W.method_fn X J (PySem.W.plainGet_of hg).1 (PySem.W.plainGet_of hg).2 hf (beq_iff_eq.mp ht) (by show (PySem.W.lookIn name od).map (·.isSome)=some false; rw [hl,hv]; rfl) h
theorem Jz {ns:List Str} {Q:Unit→Shared→Prop} (X:K.In s.heap) (I:C8 s.heap x dx C mA)
  (hs:PySem.W.findIn K (.ref C) "__setattr__" = some (some (.builtin "object.__setattr__"))) (hp:PySem.W.plainOver K C=true) (ht:PySem.W.takerIn K C name=some none) (hh:PySem.W.hasDictIn K C=true)
  (hw:PySem.Within mA ns) (hsz:ns.length≤sizeLine)
  (h:∀ h',C8 h' x dx C (fun y=>if y=name then some v else mA y)→Heap.SameBut dx s.heap h'→Q () { s with heap:=h',toks:=s.toks + 2 }) :
  wpAny (model prog w) A (setAttr (.ref x) name v) Q E s:=by
 obtain⟨od,J,hl⟩:=I.look
 refine PySem.W.set_plain X J hs (PySem.W.osa_open (s:={ s with toks:=s.toks + 1 }) (r:=none) X J hp ht fun b=>?_)
 obtain⟨cd,hc,hd'⟩:=PySem.W.any_some hh
 have hx:s.heap.get? x=some ⟨.ref C,some dx,.plain,#[]⟩:=I.obj
 refine wpAny_bind (wpAny_pure (wpAny_bind (wpAny_bind (wpAny_loadPart hx (wpAny_bind (PySem.W.Looks.here (s:={ s with toks:=s.toks + 1 }) (PySem.W.looks_clsIn X hc) ?_))))))
 rw [hd']
 refine wpAny_pure (a:=some dx) (wpAny_bind (wpAny_pure (wpAny_bind ?_)))
 refine wpAny_nsSet1 (s:={ s with toks:=s.toks + 1 }) I.ns fun h' hn2 hs2=>?_
 obtain⟨oD,esD,epD,hoD,hdD,hcD⟩:=hn2.count (PySem.Within.cons name v hw)
 refine wpAny_bind (wpAny_lookBehind hoD (by rw [hdD]; exact pastItsLine_dict (Nat.le_trans hcD (by rw [List.length_cons]; omega))) ?_)
 exact wpAny_pure (h _ ⟨(hs2.2 _ (Ne.symm I.ne)).trans I.obj,hn2,I.ne⟩ hs2)
theorem Hx {R:Result→Shared→Prop} {vs:List Value} {kw:List (Str×Value)} (X:K.In s.heap) (hm:PySem.W.makesIn K C=true)
  (hi:PySem.W.findIn K (.ref C) "__init__" = some (some (.ref f))) (hf:PySem.W.typeIn K (.ref f)=some (.type "function"))
  (h:codeAny (model prog w) (A.under (.builtin "type.__call__" ⟨.ref C :: vs,kw⟩)) (.call (.ref f) ⟨.ref (s.heap.objs.size + 1) :: vs,kw⟩) (PySem.W.InitBack (s.heap.objs.size + 1) R)
   { s with heap:=(s.heap.push PySem.W.emptyDict).push (PySem.W.instObj C s.heap.objs.size) }) :
  codeAny (model prog w) A (.call (.ref C) ⟨vs,kw⟩) R s:=by
 obtain⟨hh,g,d,t,os⟩:=s
 exact PySem.W.make_core (PySem.W.makes_of X hm) (PySem.W.looks_findIn X hi) (fun self=>PySem.W.bind_fn X self hf) (.inl rfl) h
end
def tS (f:Str) (v:V):List (Str×V)→List (Str×V)
 | []=>[(f,v)]
 | (g,x) :: r=>if g=f then (g,v) :: r else (g,x) :: tS f v r
theorem xn (f g:Str) (v:V):∀ fs:List (Str×V),(tS f v fs).lookup g=if g=f then some v else fs.lookup g
 | []=>by
  show List.lookup g [(f,v)]=_
  by_cases h:g=f
  ·have hb:(g == f)=true:=beq_iff_eq.mpr h
   simp only [List.lookup,hb,if_pos h]
  ·have hb:(g == f)=false:=beq_eq_false_iff_ne.mpr h
   simp only [List.lookup,hb,if_neg h]
 | (k,x) :: r=>by
  have ih:=xn f g v r
  rw [show tS f v ((k,x) :: r)=(if k=f then (k,v) :: r else (k,x) :: tS f v r) from rfl]
  by_cases hk:k=f
  ·rw [if_pos hk]
   by_cases h:g=k
   ·have hb:(g == k)=true:=beq_iff_eq.mpr h
    simp only [List.lookup,hb,if_pos (h.trans hk)]
   ·have hb:(g == k)=false:=beq_eq_false_iff_ne.mpr h
    simp only [List.lookup,hb,if_neg (fun e:g=f=>h (e.trans hk.symm))]
  ·rw [if_neg hk]
   by_cases h:g=k
   ·have hb:(g == k)=true:=beq_iff_eq.mpr h
    simp only [List.lookup,hb,if_neg (fun e:g=f=>hk (h.symm.trans e))]
   ·have hb:(g == k)=false:=beq_eq_false_iff_ne.mpr h
    simp only [List.lookup,hb]
    exact ih
theorem wx (f:Str) (v:V):∀ fs:List (Str×V),f∈(tS f v fs).map (·.1)∧∀ g,g∈fs.map (·.1)→g∈(tS f v fs).map (·.1)
 | []=>⟨by simp [tS],fun g h=>by simp at h⟩
 | (k,x) :: r=>by
  obtain⟨i1,i2⟩:=wx f v r
  rw [show tS f v ((k,x) :: r)=(if k=f then (k,v) :: r else (k,x) :: tS f v r) from rfl]
  by_cases hk:k=f
  ·rw [if_pos hk]
   subst hk
   exact⟨by simp,fun g h=>by simpa using h⟩
  ·rw [if_neg hk]
   refine⟨?_,fun g h=>?_⟩
   ·rw [List.map_cons]
    exact List.mem_cons_of_mem _ i1
   ·rw [List.map_cons] at h ⊢
    rcases List.mem_cons.mp h with e | e
    ·exact List.mem_cons.mpr (.inl e)
    ·exact List.mem_cons_of_mem _ (i2 g e)
theorem xm (f:Str) (v:V):∀ fs:List (Str×V),(tS f v fs).length≤fs.length + 1
 | []=>by simp [tS]
 | (k,x) :: r=>by
  have ih:=xm f v r
  rw [show tS f v ((k,x) :: r)=(if k=f then (k,v) :: r else (k,x) :: tS f v r) from rfl]
  by_cases hk:k=f
  ·rw [if_pos hk,List.length_cons,List.length_cons]; omega
  ·rw [if_neg hk,List.length_cons,List.length_cons]; omega
theorem qM.some_of {v:V} {o:Option Value} (r:qM (some v) o):∃ u,o=some u∧RelV v u:=by
 cases o with
 | none=>exact (show False from r).elim
 | some u=>exact⟨u,rfl,r⟩
theorem qM.none_of {o:Option Value} (r:qM none o):o=none:=by
 cases o with
 | none=>rfl
 | some u=>exact (show False from r).elim
theorem Ai {v:V} {u:Value} (r:RelV v u):PySem.W.handedIn u=true:=by
 cases v with
 | non=>cases (show u=Value.none from r); rfl
 | bl b=>cases (show u=Value.bool b from r); rfl
 | int i=>obtain⟨t,e⟩:=(show ∃ t,u=Value.int i t from r); cases e; rfl
 | str x=>obtain⟨t,e⟩:=(show ∃ t,u=Value.str x t from r); cases e; rfl
 | byt b=>obtain⟨t,e⟩:=(show ∃ t,u=Value.bytes b t from r); cases e; rfl
 | flt b=>obtain⟨t,e⟩:=(show ∃ t,u=Value.float b t from r); cases e; rfl
 | ref a=>cases (show u=Value.ref a from r); rfl
 | ty n=>cases (show u=Value.type n from r); rfl
section
variable {P:Program} {w:World} {H H':Hp} {h h':Heap} {a C dx:Addr} {fs fs':List (Str×V)}
theorem A3 (hok:HOk P w H h) (e:H a=some (.ins C dx fs)):∃ mA,C8 h a dx C mA∧(∀ f,qM (fs.lookup f) (mA f))∧PySem.Within mA (fs.map (·.1))∧fs.length≤1000∧H dx=some (.own a):=by
 obtain⟨d,z,ne,ob,mA,n,r,q⟩:=(show c8 P w H h a (.ins C dx fs) from hok a _ e)
 exact⟨mA,⟨ob,n,ne⟩,r,q,z,d⟩
end
structure Cls (K:PySem.W.Frag) (C:Addr):Prop where
 pg:PySem.W.plainGet K C Str.empty=true
 hd:PySem.W.hasDictIn K C=true
 po:PySem.W.plainOver K C=true
 sa:PySem.W.findIn K (.ref C) "__setattr__" = some (some (.builtin "object.__setattr__"))
theorem Cls.get {K:PySem.W.Frag} {C:Addr} (c:Cls K C) (f:Str):PySem.W.plainGet K C f=true:=c.pg
def aV (K:PySem.W.Frag) (C:Addr) (f:Str):Prop:=PySem.W.findIn K (.ref C) f=some none
theorem aV.LX {K:PySem.W.Frag} {C:Addr} {f:Str} (n:aV K C f):PySem.W.takerIn K C f=some none:=by
 unfold PySem.W.takerIn
 rw [show PySem.W.findIn K (.ref C) f=some none from n]
 rfl
structure Meth (K:PySem.W.Frag) (C:Addr) (m:Str) (f:Addr):Prop where
 at_:PySem.W.findIn K (.ref C) m=some (some (.ref f))
 fn:PySem.W.isFn K (.ref f)=true
 kp:PySem.W.keepIn K (.ref f)=true
section
variable {X:Cx} {pins:List (Addr×Obj)} {σ:St} {H:Hp} {s:Shared} {a C dx:Addr} {fs:List (Str×V)} {f:Str} {v:V} {A:Around} {E:Value→Shared→Prop}
theorem Dx {b:Bool} {Q:Value→Shared→Prop} (I:Inv X pins σ H s) (e:H a=some (.ins C dx fs)) (c:Cls X.K C) (n:aV X.K C f) (l:fs.lookup f=some v)
  (h:∀ u s',Inv X pins σ H s'→RelV v u→Q u s'):wpAny (model X.prog X.w) A (getAttr (.ref a) f b) Q E s:=by
 obtain⟨mA,O,r,_,_,_⟩:=A3 I.hok e
 obtain⟨u,hu,ru⟩:=qM.some_of (v:=v) (o:=mA f) (by rw [← l]; exact r f)
 exact get_map I.kIn O (c.get f) c.hd n hu (Ai ru) (h u _ (I.tok _) ru)
theorem uj {m:Str} {g:Addr} {pl:Sem Bool} {Q:Value×List Value→Shared→Prop} (I:Inv X pins σ H s) (e:H a=some (.ins C dx fs)) (c:Cls X.K C) (k:Meth X.K C m g) (l:fs.lookup m=none)
  (h:Q (.ref g,[.ref a]) s):wpAny (model X.prog X.w) A (getMethod (.ref a) m pl) Q E s:=by
 obtain⟨mA,O,r,_,_,_⟩:=A3 I.hok e
 have hn:mA m=none:=qM.none_of (by rw [← l]; exact r m)
 exact Ho I.kIn O (c.get m) k.at_ k.fn hn h
theorem DN {y:V} {u:Value} {Q:Unit→Shared→Prop} (I:Inv X pins σ H s) (e:H a=some (.ins C dx fs)) (c:Cls X.K C) (n:aV X.K C f) (hl:fs.length < 1000) (ry:RelV y u)
  (h:∀ s',Inv X pins σ (upd H a (.ins C dx (tS f y fs))) s'→Q () s'):wpAny (model X.prog X.w) A (setAttr (.ref a) f u) Q E s:=by
 obtain⟨mA,O,r,wi,_,ho⟩:=A3 I.hok e
 have hz:(fs.map (·.1)).length≤sizeLine:=by rw [List.length_map,sizeLine_eq]; omega
 refine Jz I.kIn O c.sa c.po n.LX c.hd wi hz fun h' O' sb=>h _ ?_
 have hd:∃ o,h'.get? dx=some o:=let ⟨o,_,_,e',_⟩:=O'.ns; ⟨o,e'⟩
 refine I.write (x:=a) (e:=dx) (by rw [e]; exact True.intro) (.inr ho) (fun b q hb z=>(sb.2 b hb).trans z) hd ?_
 refine⟨by rw [aj O.ne]; exact ho,?_,O.ne,O'.obj,_,O'.ns,fun g=>?_,fun g hg=>?_⟩
 ·have:=xm f y fs; omega
 ·show qM ((tS f y fs).lookup g) (if g=f then some u else mA g)
  rw [xn]
  by_cases q:g=f
  ·rw [if_pos q,if_pos q]; exact ry
  ·rw [if_neg q,if_neg q]; exact r g
 ·by_cases q:g=f
  ·rw [q]; exact (wx f y fs).1
  ·refine (wx f y fs).2 g (wi g fun z=>hg ?_)
   show (if g=f then some u else mA g)=none
   rw [if_neg q]; exact z
theorem Inv.made (I:Inv X pins σ H s):Inv X pins σ (upd (upd H s.heap.objs.size (.own (s.heap.objs.size + 1))) (s.heap.objs.size + 1) (.ins C s.heap.objs.size []))
  { s with heap:=(s.heap.push PySem.W.emptyDict).push (PySem.W.instObj C s.heap.objs.size) }:=by
 have e1:(s.heap.push PySem.W.emptyDict).get? s.heap.objs.size=some PySem.W.emptyDict:=Heap.get?_push_size s.heap rfl
 have e2:((s.heap.push PySem.W.emptyDict).push (PySem.W.instObj C s.heap.objs.size)).get? (s.heap.objs.size + 1)=some (PySem.W.instObj C s.heap.objs.size):=by
  have:=Heap.get?_push_size (s.heap.push PySem.W.emptyDict) (o:=PySem.W.instObj C s.heap.objs.size) rfl
  rwa [Heap.size_push] at this
 have e3:(s.heap.push PySem.W.emptyDict).Ns s.heap.objs.size (fun _=>none):=⟨PySem.W.emptyDict,#[],_,e1,rfl,(fun e he=>absurd he (by simp)),fun _=>rfl⟩
 have I1:=I.laid (a:=s.heap.objs.size) (o:=.own (s.heap.objs.size + 1)) (h':=s.heap.push PySem.W.emptyDict) (t':=s.toks) (fun b u q=>Heap.get?_push_of_some _ q) (Nat.le_refl _) ⟨_,e1⟩
 refine I1.laid (a:=s.heap.objs.size + 1) (o:=.ins C s.heap.objs.size []) (t':=s.toks) (fun b u q=>Heap.get?_push_of_some _ q) (Nat.le_of_eq (Heap.size_push _ _)) ?_
 have ne:s.heap.objs.size≠s.heap.objs.size + 1:=Nat.ne_of_lt (Nat.lt_succ_self _)
 refine⟨by rw [aj ne,af],Nat.zero_le _,ne,e2,fun _=>none,(Heap.Ns1.of_empty e3).at fun o q=>Heap.get?_push_of_some _ q,fun _=>True.intro,fun y hy=>absurd rfl hy⟩
theorem Eu {prog:Program} {w:World} {env:Env} {e:Expr} {f:Str} {pos:Pos} {s:Shared} {Q:Value→Shared→Prop} (hb:attributeBase e f env (eval e env)=eval e env)
  (h:wpAny (model prog w) A (eval e env) (fun o s₁=>wpAny (model prog w) A (getAttr o f true) Q E s₁) E s):wpAny (model prog w) A (eval (.Attribute e f pos) env) Q E s :=
 Attribute_any_ h (by rw [arm_eval_Attribute,hb])
end
def BA (K:PySem.W.Frag) (ta:TE) (f:Str):TE:=fun σ H Q=>ta σ H fun x H1=>∃ a C dx fs v,x = .ref a∧H1 a=some (.ins C dx fs)∧Cls K C∧aV K C f∧fs.lookup f=some v∧Q v H1
def Mt (K:PySem.W.Frag) (ta tv:TE) (f:Str):TS:=fun D σ H=>tv σ H fun y H1=>ta σ H1 fun x H2=>∃ a C dx fs,x = .ref a∧H2 a=some (.ins C dx fs)∧Cls K C∧aV K C f∧fs.length < 1000 ∧
 D.nx σ (upd H2 a (.ins C dx (tS f y fs)))
section
variable {X:Cx} {o e value:Expr} {f:Str} {pos pos' tpos:Pos} {ta tv:TE}
theorem aw (he:PE X e ta) (hb:attributeBase e f X.env (eval e X.env)=eval e X.env):PE X (.Attribute e f pos) (BA X.K ta f):=by
 intro pins s σ H Q I h
 refine Eu hb (thn (he pins s σ H _ I h) fun u s1 ⟨x,H1,I1,rx,a,C,dx,fs,v,ex,ea,c,n,l,q⟩=>?_)
 subst ex
 obtain rfl:u=Value.ref a:=rx
 exact Dx I1 ea c n l fun u' s2 I2 ru=>⟨v,H1,I2,ru,q⟩
theorem bU (ha:PE X o ta) (hv:PE X value tv) (hs:swapsWith value (some (.Attribute o f pos')) pos.line X.env=pure false):PS X (.Assign [.Attribute o f pos'] value pos) (Mt X.K ta tv f):=by
 intro pins s σ H D I h
 refine plainObj_wpAny_Assign_Attribute (thn (hv pins s σ H _ I h) fun u s1 ⟨y,H1,I1,ry,q⟩=>thn (ha pins s1 σ H1 _ I1 q) fun ov s2 ⟨x,H2,I2,rx,a,C,dx,fs,ex,ea,c,n,l,q2⟩=>?_) hs
 subst ex
 obtain rfl:ov=Value.ref a:=rx
 exact DN I2 ea c n l ry fun s3 I3=>⟨σ,_,I3,q2⟩
theorem methcall_of {pl:Sem Bool} {m:Str} {apos:Pos} {args:List Expr} {pins:List (Addr×Obj)} {s:Shared} {σ:St} {H:Hp} {Q:Value→Shared→Prop} {te:TE} (he:PE X e te) (I:Inv X pins σ H s)
  (h:te σ H fun x H1=>∃ a C dx fs g,x = .ref a∧H1 a=some (.ins C dx fs)∧Cls X.K C∧Meth X.K C m g∧fs.lookup m=none ∧
   ∀ s1,Inv X pins σ H1 s1→wpAny (model X.prog X.w) X.A (callWith pos (.ref g) [.ref a] (backTo pos (starEach args X.env)) (backToKw pos (keywordEach [] X.env))) Q X.xe s1)
  (ht:eval (.Call (.Attribute e m apos) args [] pos) X.env=(do
   let ov ← eval e X.env
   standAt apos.atName
   let (f,first) ← holding [ov] (getMethod ov m pl)
   callWith pos f first (backTo pos (starEach args X.env)) (backToKw pos (keywordEach [] X.env)))) :
  wpAny (model X.prog X.w) X.A (eval (.Call (.Attribute e m apos) args [] pos) X.env) Q X.xe s:=by
 refine PySem.W.methodCall_KW (pl:=pl) (thn (he pins s σ H _ I h) fun u s1 ⟨x,H1,I1,rx,a,C,dx,fs,g,ex,ea,c,k,l,q⟩=>?_) ht
 subst ex
 obtain rfl:u=Value.ref a:=rx
 exact uj I1 ea c k l (q s1 I1)
end
end L2
namespace L2
open PySem PySem.Spec PyProof.Rows
structure cf (k:Nat) (A:Around):Prop where
 hd:A.handled=none
 dp:A.depth + 3 * k + 5 < recursionLimit
 un:A.units + 16 * k + 200 < cLine
theorem cf.mono {j k:Nat} {A:Around} (r:cf k A) (h:j≤k):cf j A:=⟨r.hd,by have:=r.dp; omega,by have:=r.un; omega⟩
theorem cf.deeper {k:Nat} {A:Around} (r:cf (k + 1) A) (env:Env):cf k (A.deeper env) :=
 ⟨r.hd,by have:=r.dp; show A.depth + 1 + 3 * k + 5 < _; omega,by have:=r.un; show A.units + 3 + 16 * k + 200 < _; omega⟩
theorem DB {A:Around} {C:Addr} {us:List Value} {kw:List (Str×Value)}:(A.under (.builtin "type.__call__" ⟨.ref C :: us,kw⟩)).depth=A.depth + 1:=by
 first | rfl | simp [Around.under,Code.weight,Code.isCreation,Code.isGuard,Code.isCaller,Code.frames,Code.isFrame,guardIds]
theorem DC {A:Around} {C:Addr} {us:List Value} {kw:List (Str×Value)}:(A.under (.builtin "type.__call__" ⟨.ref C :: us,kw⟩)).units=A.units + 1:=by
 first | rfl | simp [Around.under,Code.cUnits,Code.frames,Code.isFrame]
theorem cf.make {k:Nat} {A:Around} (r:cf (k + 1) A) (C:Addr) (us:List Value) (kw:List (Str×Value)):cf k (A.under (.builtin "type.__call__" ⟨.ref C :: us,kw⟩)) :=
 ⟨r.hd,by have:=r.dp; rw [DB]; omega,by have:=r.un; rw [DC]; omega⟩
theorem cf.depth {k:Nat} {A:Around} (r:cf k A):A.depth < recursionLimit:=by have:=r.dp; omega
theorem cf.units {k:Nat} {A:Around} (r:cf k A):A.units + 64 < cLine:=by have:=r.un; omega
def CN:TA:=fun _ H Q=>Q [] H
def ID (ta:TE) (tr:TA):TA:=fun σ H Q=>ta σ H fun x H1=>tr σ H1 fun xs H2=>Q (x :: xs) H2
section
variable {X:Cx} {e:Expr} {es:List Expr} {te:TE} {t:TA} {pos:Pos}
theorem ai:PA X [] CN:=fun _ _ _ _ H Q I h=>Calls.spliced_nil ⟨[],H,I,.nil,h⟩
theorem aa (ha:PE X e te) (hr:PA X es t) (hs:starEach (e :: es) X.env=(false,eval e X.env) :: starEach es X.env:=by rfl):PA X (e :: es) (ID te t):=by
 intro pos pins s σ H Q I h
 rw [hs]
 show wpAny _ _ (spliced ((false,eval e X.env) :: backTo pos (starEach es X.env))) _ _ s
 refine Calls.spliced_cons (thn (ha pins s σ H _ I h) fun u s1 ⟨x,H1,I1,r1,q1⟩=>?_)
 exact thn (hr pos pins s1 σ H1 _ I1 q1) fun us s2 ⟨xs,H2,I2,r2,q2⟩=>⟨x :: xs,H2,I2,.cons r1 r2,q2⟩
def MB (t:TA):TE:=fun σ H Q=>t σ H fun xs H1=>xs.length≤sizeLine∧∀ p,H1 p=none→Q (.ref p) (upd H1 p (.lst xs))
theorem bQ (h:PA X es t):PE X (.List es pos) (MB t):=by
 intro pins s σ H Q I hq
 refine wpAny_List_spliced (thn (h pos pins s σ H _ I hq) fun us s1 ⟨xs,H1,I1,r,z,q⟩=>⟨by rw [← r.length]; exact z,?_⟩)
 have hf:H1 s1.heap.objs.size=none:=I1.hok.fresh (Nat.le_refl _)
 refine⟨.ref s1.heap.objs.size,upd H1 s1.heap.objs.size (.lst xs),I1.laid (t':=s1.toks) (fun b u e=>Heap.get?_push_of_some _ e) (Nat.le_refl _) ?_,rfl,q _ hf⟩
 exact⟨z,us,0,r,Heap.get?_push_size _ rfl⟩
end
abbrev Sp:=List V→Hp→VK→XK→Prop
abbrev CXT:=List Env→Hp→Shared→XK→Value→Shared→Prop
structure C7 (P:Program) (w:World) (K:PySem.W.Frag) (mg:Str→Option Value) (base:Heap) (A:Around) (outer:List Env) (s:Shared) (H:Hp):Prop where
 frames:A.frames=some outer
 mod:Mod K mg base
 bs:∀ b o,base.get? b=some o→s.heap.get? b=some o∧H b=none
 bsz:base.objs.size≤s.heap.objs.size
 wo:s.heap.FunFrames base outer
 frf:∀ b∈frs outer,H b=none
 hok:HOk P w H s.heap
 bare:AllBare s.gens
def CE (outer:List Env) (P:Program) (w:World) (H:Hp) (s:Shared) (Q:VK) (u:Value) (s':Shared):Prop :=
 ∃ v H',s'.os=s.os∧AllBare s'.gens∧Un (frs outer) [] H H' s.heap s'.heap∧HOk P w H' s'.heap∧RelV v u∧Q v H'
def CR (CX:CXT) (outer:List Env) (P:Program) (w:World) (H:Hp) (s:Shared) (Q:VK) (E:XK) (r:Result) (s':Shared):Prop :=
 match r with
 | .ok (.ret u)=>CE outer P w H s Q u s'
 | .ok _=>False
 | .error e=>CX outer H s E e s'
structure oE (P:Program) (w:World) (K:PySem.W.Frag) (mg:Str→Option Value) (base:Heap) (CX:CXT) (k:Nat) (f:Addr) (fd:FuncData) (ps:List Str) (sp:Sp):Prop where
 len:∀ vs H Q E,sp vs H Q E→vs.length=ps.length
 run:∀ (A:Around) (outer:List Env) (s:Shared) (H:Hp) (args:Args) (us:List Value) (vs:List V) (Q:VK) (E:XK),cf k A→C7 P w K mg base A outer s H→BindsTo s fd args (ps.zip us)→Vals vs us→sp vs H Q E →
  codeAny (model P w) A (.call (.ref f) args) (CR CX outer P w H s Q E) s
theorem oE.mono {P:Program} {w:World} {K:PySem.W.Frag} {mg:Str→Option Value} {base:Heap} {CX:CXT} {j k:Nat} {f:Addr} {fd:FuncData} {ps:List Str} {sp:Sp} (F:oE P w K mg base CX j f fd ps sp) (h:j≤k) :
  oE P w K mg base CX k f fd ps sp:=⟨F.len,fun A outer s H args us vs Q E hr=>F.run A outer s H args us vs Q E (hr.mono h)⟩
theorem C7.make {P:Program} {w:World} {K:PySem.W.Frag} {mg:Str→Option Value} {base:Heap} {A:Around} {outer:List Env} {s:Shared} {H:Hp} (e:C7 P w K mg base A outer s H) (C:Addr) (us:List Value) (kw:List (Str×Value)) :
  C7 P w K mg base (A.under (.builtin "type.__call__" ⟨.ref C :: us,kw⟩)) outer s H:=⟨by first | exact e.frames | (simpa [Around.under,Code.envs,Code.isFrame,pushEnvs] using e.frames),e.mod,e.bs,e.bsz,e.wo,e.frf,e.hok,e.bare⟩
section
variable {X:Cx} {pins:List (Addr×Obj)} {σ:St} {H:Hp} {s s':Shared}
theorem Inv.Kn (I:Inv X pins σ H s):C7 X.prog X.w X.K X.mg X.base X.A X.stack s H :=
 ⟨I.ok.frames,I.ok.mod,I.bs,Nat.le_trans I.ok.bsz I.sz,I.stack,I.yf,I.hok,I.bare⟩
theorem Inv.after {Q:VK} {u:Value} (I:Inv X pins σ H s) (h:CE X.stack X.prog X.w H s Q u s'):EP X pins σ Q u s':=by
 obtain⟨v,H',os,bare,un,hok,r,q⟩:=h
 obtain⟨hh,g,d,t,os'⟩:=s'
 obtain rfl:os'=s.os:=os
 exact⟨v,H',I.call (h':=hh) (g':=g) (d':=d) (t':=t) (ch:=[]) un hok bare (fun b z=>absurd z (by simp)),r,q⟩
end
def J6 (sp:Sp) (dvs:List V) (E:XK) (t:TA):TE:=fun σ H Q=>t σ H fun vs H1=>sp (vs ++ dvs) H1 Q E
def J9 (C:Addr) (m:Str) (sp:Sp) (dvs:List V) (E:XK) (ta:TE) (t:TA):TE:=fun σ H Q=>ta σ H fun x H1=>∃ a dx fs,x = .ref a∧H1 a=some (.ins C dx fs)∧fs.lookup m=none ∧
 t σ H1 fun vs H2=>sp (x :: (vs ++ dvs)) H2 Q E
def J8 (C:Addr) (sp:Sp) (dvs:List V) (E:XK) (t:TA):TE:=fun σ H Q=>t σ H fun vs H1=>∀ x dx,H1 x=none→H1 dx=none→dx≠x →
 sp (.ref x :: (vs ++ dvs)) (upd (upd H1 dx (.own x)) x (.ins C dx [])) (fun v H2=>v = .non∧Q (.ref x) H2) E
def Binds (K:PySem.W.Frag) (fd:FuncData) (ps:List Str) (ds:List Value):Prop :=
 ∀ (s:Shared) (us:List Value),K.In s.heap→(us ++ ds).length=ps.length→BindsTo s fd ⟨us,[]⟩ (ps.zip (us ++ ds))
theorem Binds.all {K:PySem.W.Frag} {fd:FuncData} {ps:List Str} (h:∀ us:List Value,us.length=ps.length→bindArgs fd ⟨us,[]⟩=pure (ps.zip us)):Binds K fd ps []:=fun s us _ hl=>by
 rw [List.append_nil] at hl ⊢
 exact .of_eq (h us hl)
def Passes (CX:CXT) (X:Cx) (E:XK):Prop:=∀ (pins:List (Addr×Obj)) (σ:St) (H:Hp) (s:Shared) (e:Value) (s':Shared),Inv X pins σ H s→CX X.stack H s E e s'→X.xe e s'
section
variable {X:Cx} {CX:CXT} {k:Nat} {f C:Addr} {fd:FuncData} {ps:List Str} {sp:Sp} {dvs:List V} {ds:List Value} {E:XK} {x m:Str} {p pos apos:Pos} {e o:Expr} {es:List Expr} {ta:TE} {t:TA}
theorem zo {pins:List (Addr×Obj)} {σ:St} {H:Hp} {s:Shared} {Q:VK} {us:List Value} {vs:List V} (F:oE X.prog X.w X.K X.mg X.base CX k f fd ps sp) (hr:cf k X.A) (hb:Binds X.K fd ps ds) (hd:Vals dvs ds) (hx:Passes CX X E)
  (I:Inv X pins σ H s) (r:Vals vs us) (h:sp (vs ++ dvs) H Q E):wpAny (model X.prog X.w) X.A (call (.ref f) us) (EP X pins σ Q) X.xe s:=by
 have r2:Vals (vs ++ dvs) (us ++ ds):=r.append hd
 have hl:(us ++ ds).length=ps.length:=by rw [← r2.length]; exact F.len _ _ _ _ h
 refine wpAny_call (codeAny_mono (F.run X.A X.stack s H ⟨us,[]⟩ (us ++ ds) (vs ++ dvs) Q E hr I.Kn (hb s us I.kIn hl) r2 h) fun r s' hq=>?_)
 cases r with
 | error e=>exact hx pins σ H s e s' I hq
 | ok fl =>
  cases fl with
  | ret u=>exact I.after hq
  | next=>exact False.elim hq
  | brk=>exact False.elim hq
  | cont=>exact False.elim hq
theorem aA (F:oE X.prog X.w X.K X.mg X.base CX k f fd ps sp) (hr:cf k X.A) (hg:Gl X x) (hm:X.mg x=some (.ref f)) (hk:PySem.W.keepIn X.K (.ref f)=true) (hb:Binds X.K fd ps ds) (hd:Vals dvs ds) (hx:Passes CX X E)
  (ha:PA X (e :: es) t) (hdb:(x == ("__debug__":Str))=false:=by decide) (he:starEach (e :: es) X.env=(false,eval e X.env) :: starEach es X.env:=by rfl) (hpl:(backTo pos (starEach es X.env)).any (·.1)=false:=by rfl) :
  PE X (.Call (.Name x p) (e :: es) [] pos) (J6 sp dvs E t):=by
 intro pins s σ H Q I h
 refine wpAny_Call_Name_kw (qf I hg hm ?_ hdb)
 refine PySem.W.callWith_K (h₀:=X.base) I.ok.mod.kin hk (thn (ha pos pins s σ H _ I h) fun us s1 ⟨vs,H1,I1,r,q⟩=>⟨I1.kIn,?_⟩) he hpl
 exact zo F hr hb hd hx I1 r q
theorem bz {pl:Sem Bool} (he:PE X o ta) (c:Cls X.K C) (hm:Meth X.K C m f) (F:oE X.prog X.w X.K X.mg X.base CX k f fd ps sp) (hr:cf k X.A) (hb:Binds X.K fd ps ds) (hd:Vals dvs ds) (hx:Passes CX X E) (ha:PA X (e :: es) t)
  (hst:starEach (e :: es) X.env=(false,eval e X.env) :: starEach es X.env:=by rfl) (hpl:(backTo pos (starEach es X.env)).any (·.1)=false:=by rfl)
  (ht:eval (.Call (.Attribute o m apos) (e :: es) [] pos) X.env=(do
   let ov ← eval o X.env
   standAt apos.atName
   let (f,first) ← holding [ov] (getMethod ov m pl)
   callWith pos f first (backTo pos (starEach (e :: es) X.env)) (backToKw pos (keywordEach [] X.env))):=by rfl) :
  PE X (.Call (.Attribute o m apos) (e :: es) [] pos) (J9 C m sp dvs E ta t):=by
 intro pins s σ H Q I h
 refine PySem.W.methodCall_KW (pl:=pl) (thn (he pins s σ H _ I h) fun u s1 ⟨x,H1,I1,rx,a,dx,fs,ex,ea,l,q⟩=>?_) ht
 subst ex
 obtain rfl:u=Value.ref a:=rx
 refine uj I1 ea c hm l ?_
 refine PySem.W.callWith_K (first:=[.ref a]) (h₀:=X.base) I.ok.mod.kin hm.kp (thn (ha pos pins s1 σ H1 _ I1 q) fun us s2 ⟨vs,H2,I2,r,q2⟩=>⟨I2.kIn,?_⟩) hst hpl
 exact zo (us:=.ref a :: us) (vs:=.ref a :: vs) F hr hb hd hx I2 (.cons rfl r) q2
theorem cq {pl:Sem Bool} (he:PE X o ta) (c:Cls X.K C) (hm:Meth X.K C m f) (F:oE X.prog X.w X.K X.mg X.base CX k f fd ps sp) (hr:cf k X.A) (hb:Binds X.K fd ps ds) (hd:Vals dvs ds) (hx:Passes CX X E)
  (ht:eval (.Call (.Attribute o m apos) [] [] pos) X.env=(do
   let ov ← eval o X.env
   standAt apos.atName
   let (f,first) ← holding [ov] (getMethod ov m pl)
   callWith pos f first (backTo pos (starEach [] X.env)) (backToKw pos (keywordEach [] X.env))):=by rfl) :
  PE X (.Call (.Attribute o m apos) [] [] pos) (J9 C m sp dvs E ta CN):=by
 intro pins s σ H Q I h
 refine PySem.W.methodCall_KW (pl:=pl) (thn (he pins s σ H _ I h) fun u s1 ⟨x,H1,I1,rx,a,dx,fs,ex,ea,l,q⟩=>?_) ht
 subst ex
 obtain rfl:u=Value.ref a:=rx
 refine uj I1 ea c hm l ?_
 exact PySem.W.callWith_K0 (first:=[.ref a]) I1.kIn hm.kp (zo (us:=[.ref a]) (vs:=[.ref a]) F hr hb hd hx I1 (.cons rfl .nil) q)
structure Mk (K:PySem.W.Frag) (C f:Addr):Prop where
 makes:PySem.W.makesIn K C=true
 init:PySem.W.findIn K (.ref C) "__init__" = some (some (.ref f))
 fn:PySem.W.isFn K (.ref f)=true
 kp:PySem.W.keepIn K (.ref C)=true
theorem Ct {pins:List (Addr×Obj)} {σ:St} {H:Hp} {s:Shared} {Q:VK} {us:List Value} {vs:List V} (M:Mk X.K C f) (F:oE X.prog X.w X.K X.mg X.base CX k f fd ps sp) (hr:cf (k + 1) X.A) (hb:Binds X.K fd ps ds) (hd:Vals dvs ds)
  (hx:Passes CX X E) (I:Inv X pins σ H s) (r:Vals vs us)
  (h:∀ x dx,H x=none→H dx=none→dx≠x→sp (.ref x :: (vs ++ dvs)) (upd (upd H dx (.own x)) x (.ins C dx [])) (fun v H2=>v = .non∧Q (.ref x) H2) E) :
  wpAny (model X.prog X.w) X.A (call (.ref C) us) (EP X pins σ Q) X.xe s:=by
 have hq:=h (s.heap.objs.size + 1) s.heap.objs.size (I.hok.fresh (Nat.le_succ _)) (I.hok.fresh (Nat.le_refl _)) (Nat.ne_of_lt (Nat.lt_succ_self _))
 have I2:=Inv.made (C:=C) I
 have r2:Vals (V.ref (s.heap.objs.size + 1) :: (vs ++ dvs)) (Value.ref (s.heap.objs.size + 1) :: (us ++ ds)):=.cons rfl (r.append hd)
 have hl:(Value.ref (s.heap.objs.size + 1) :: us ++ ds).length=ps.length:=by
  have e:=r2.length
  rw [F.len _ _ _ _ hq] at e
  exact e.symm
 refine wpAny_call (Hx (f:=f) I.kIn M.makes M.init (beq_iff_eq.mp M.fn) (codeAny_mono (F.run _ X.stack _ _ ⟨Value.ref (s.heap.objs.size + 1) :: us,[]⟩ (Value.ref (s.heap.objs.size + 1) :: (us ++ ds)) _ _ E (hr.make C us [])
  (I2.Kn.make C us []) (hb _ (Value.ref (s.heap.objs.size + 1) :: us) I2.kIn hl) r2 hq) fun r s' hq'=>?_))
 cases r with
 | error e=>exact hx pins σ _ _ e s' I2 hq'
 | ok fl =>
  cases fl with
  | ret u =>
   obtain⟨v,H',I3,rv,ev,q3⟩:=I2.after hq'
   subst ev
   exact⟨rv,⟨V.ref (s.heap.objs.size + 1),H',I3,rfl,q3⟩⟩
  | next=>exact False.elim hq'
  | brk=>exact False.elim hq'
  | cont=>exact False.elim hq'
theorem tD (M:Mk X.K C f) (F:oE X.prog X.w X.K X.mg X.base CX k f fd ps sp) (hr:cf (k + 1) X.A) (hg:Gl X x) (hm:X.mg x=some (.ref C)) (hb:Binds X.K fd ps ds) (hd:Vals dvs ds) (hx:Passes CX X E)
  (ha:PA X (e :: es) t) (hdb:(x == ("__debug__":Str))=false:=by decide) (he:starEach (e :: es) X.env=(false,eval e X.env) :: starEach es X.env:=by rfl) (hpl:(backTo pos (starEach es X.env)).any (·.1)=false:=by rfl) :
  PE X (.Call (.Name x p) (e :: es) [] pos) (J8 C sp dvs E t):=by
 intro pins s σ H Q I h
 refine wpAny_Call_Name_kw (qf I hg hm ?_ hdb)
 refine PySem.W.callWith_K (h₀:=X.base) I.ok.mod.kin M.kp (thn (ha pos pins s σ H _ I h) fun us s1 ⟨vs,H1,I1,r,q⟩=>⟨I1.kIn,?_⟩) he hpl
 exact Ct M F hr hb hd hx I1 r q
theorem HR (M:Mk X.K C f) (F:oE X.prog X.w X.K X.mg X.base CX k f fd ps sp) (hr:cf (k + 1) X.A) (hg:Gl X x) (hm:X.mg x=some (.ref C)) (hb:Binds X.K fd ps ds) (hd:Vals dvs ds) (hx:Passes CX X E)
  (hdb:(x == ("__debug__":Str))=false:=by decide):PE X (.Call (.Name x p) [] [] pos) (J8 C sp dvs E CN):=by
 intro pins s σ H Q I h
 refine wpAny_Call_Name_kw (qf I hg hm ?_ hdb)
 exact PySem.W.callWith_K0 I.kIn M.kp (Ct (us:=[]) M F hr hb hd hx I .nil h)
end
def PK (X:Cx) (kws:List Keyword) (t:TA):Prop :=
 ∀ (pos:Pos) (pins:List (Addr×Obj)) (s:Shared) (σ:St) (H:Hp) (Q:List V→Hp→Prop),Inv X pins σ H s→t σ H Q→wpAny (model X.prog X.w) X.A (evalAll ((backToKw pos (keywordEach kws X.env)).map (·.2))) (AP X pins σ Q) X.xe s
section
variable {X:Cx} {CX:CXT} {k:Nat} {f C:Addr} {fd:FuncData} {ps ks:List Str} {sp:Sp} {E:XK} {x m:Str} {p pos apos kpos:Pos} {e o:Expr} {es:List Expr} {kws:List Keyword} {te ta:TE} {t tk:TA} {nm:Option Str}
theorem DK:PK X [] CN:=fun _ _ _ _ H Q I h=>wpAny_evalAll_nil ⟨[],H,I,.nil,h⟩
theorem Bg (ha:PE X e te) (hr:PK X kws t):PK X (⟨nm,e,kpos⟩ :: kws) (ID te t):=by
 intro pos pins s σ H Q I h
 show wpAny _ _ (evalAll ((do let v ← eval e X.env; standAt pos; pure v) :: (backToKw pos (keywordEach kws X.env)).map (·.2))) _ _ s
 refine wpAny_evalAll_cons (wpAny_bind (thn (ha pins s σ H _ I h) fun u s1 ⟨x,H1,I1,r1,q1⟩=>wpAny_bind (wpAny_standAt (wpAny_pure ?_))))
 exact thn (hr pos pins s1 σ H1 _ I1 q1) fun us s2 ⟨xs,H2,I2,r2,q2⟩=>⟨x :: xs,H2,I2,.cons r1 r2,q2⟩
variable {g:List Value→List Value→List Value} {gV:List V→List V→List V}
end
structure ay (N P:List Str) (sc:Scope):Prop where
 kind:sc.kind = .function
 co:sc.isCoroutine=false
 gen:sc.isGenerator=false
 nd:N.Nodup
 pre:N.take P.length=P
 par:∀ x∈P,sc.names.lookup x=some .local∨sc.names.lookup x=some .cell
 KH:∀ y∈sc.names,y.2≠.free
theorem Af {kindOf:Str→Option NameKind} {x:Str}:∀ {binds:List (Str×Value)} {m:Str→Option Value},(∀ v,(x,v)∉binds)→bindL kindOf binds m x=m x
 | [],_,_=>rfl
 | (n,v) :: r,m,h=>by
  unfold bindL
  rw [Af fun w hw=>h w (List.mem_cons_of_mem _ hw)]
  split
  ·have:x≠n:=by rintro rfl; exact h v List.mem_cons_self
   simp [this]
  ·rfl
theorem Ac {kindOf:Str→Option NameKind} {x:Str}:∀ {binds:List (Str×Value)} {m:Str→Option Value},(∀ v,(x,v)∉binds)→bindC kindOf binds m x=m x
 | [],_,_=>rfl
 | (n,v) :: r,m,h=>by
  unfold bindC
  rw [Ac fun w hw=>h w (List.mem_cons_of_mem _ hw)]
  split
  ·rfl
  ·have:x≠n:=by rintro rfl; exact h v List.mem_cons_self
   simp [this]
theorem Ae {kindOf:Str→Option NameKind} {x:Str} {v:Value}:∀ {P:List Str} {vs:List Value} {i:Nat} {m:Str→Option Value},P.Nodup→P[i]?=some x→vs[i]?=some v→kindOf x=some .local →
  bindL kindOf (P.zip vs) m x=some v
 | [],_,_,_,_,h,_,_=>by simp at h
 | _ :: _,[],_,_,_,_,h,_=>by simp at h
 | p :: P,w :: vs,0,m,nd,h1,h2,hk=>by
  simp at h1 h2; subst h1; subst h2
  show bindL kindOf ((p,w) :: P.zip vs) m p=_
  unfold bindL
  rw [Af fun v hv=>(List.nodup_cons.mp nd).1 (List.of_mem_zip hv).1,if_pos hk]
  simp
 | p :: P,w :: vs,i + 1,m,nd,h1,h2,hk=>by
  show bindL kindOf ((p,w) :: P.zip vs) m x=_
  unfold bindL
  exact Ae (i:=i) (List.nodup_cons.mp nd).2 (by simpa using h1) (by simpa using h2) hk
theorem Ab {kindOf:Str→Option NameKind} {x:Str} {v:Value}:∀ {P:List Str} {vs:List Value} {i:Nat} {m:Str→Option Value},P.Nodup→P[i]?=some x→vs[i]?=some v→kindOf x≠some .local →
  bindC kindOf (P.zip vs) m x=some v
 | [],_,_,_,_,h,_,_=>by simp at h
 | _ :: _,[],_,_,_,_,h,_=>by simp at h
 | p :: P,w :: vs,0,m,nd,h1,h2,hk=>by
  simp at h1 h2; subst h1; subst h2
  show bindC kindOf ((p,w) :: P.zip vs) m p=_
  unfold bindC
  rw [Ac fun v hv=>(List.nodup_cons.mp nd).1 (List.of_mem_zip hv).1,if_neg hk]
  simp
 | p :: P,w :: vs,i + 1,m,nd,h1,h2,hk=>by
  show bindC kindOf ((p,w) :: P.zip vs) m x=_
  unfold bindC
  exact Ab (i:=i) (List.nodup_cons.mp nd).2 (by simpa using h1) (by simpa using h2) hk
def start (N:List Str) (vs:List V):St:=vs.map some ++ List.replicate (N.length - vs.length) none
def AU (CX:CXT) (P:Program) (w:World) (K:PySem.W.Frag) (mg:Str→Option Value) (base:Heap) (N:List Str) (qual:Str) (scope:Scope) (f:Addr) (cd:Value) (A:Around) (outer:List Env) (s:Shared) (H:Hp) (E:XK):Cx where
 prog:=P
 w:=w
 K:=K
 mg:=mg
 base:=base
 A:=A.deeper (envOfC qual scope s.heap.objs.size f cd)
 N:=N
 s_0:=s
 H_0:=H
 env:=envOfC qual scope s.heap.objs.size f cd
 outer:=outer
 stack:=envOfC qual scope s.heap.objs.size f cd :: outer
 ex:=[]
 calm:=true
 fn:=fun _=>true
 pn:=[]
 xe:=fun e s'=>wpAny (model P w) (A.deeper (envOfC qual scope s.heap.objs.size f cd)) (leaving (envOfC qual scope s.heap.objs.size f cd) e) (fun _ s''=>CX outer H s E e s'') (fun e' s''=>CX outer H s E e' s'') s'
theorem BJ {sc:Scope} {n:Nat} {x:Str} (h:sc.names.lookup x=some .cell):∃ c,(cellsFrom n sc.names []).lookup x=some c:=by
 have q:=PySem.W.cellsFrom_some sc.names n [] (.inl h)
 exact Option.isSome_iff_exists.mp q
theorem Fx {CX:CXT} {P:Program} {w:World} {K:PySem.W.Frag} {mg:Str→Option Value} {base:Heap} {N ps:List Str} {qual:Str} {scope:Scope} {f:Addr} {cd:Value} {A:Around} {outer:List Env} {s s1:Shared} {H:Hp} {E:XK} {us:List Value} {vs:List V}
  (S:ay N ps scope) (hd:A.handled=none) (e0:C7 P w K mg base A outer s H) (hl:vs.length=ps.length) (r:Vals vs us)
  (x:InCallC s s.heap.objs.size (bindL (envOfC qual scope s.heap.objs.size f cd).kindOf (ps.zip us) fun _=>none) (cellsFrom (s.heap.objs.size + 1) scope.names []) (bindC (envOfC qual scope s.heap.objs.size f cd).kindOf (ps.zip us) fun _=>none) s1) :
  Inv (AU CX P w K mg base N qual scope f cd A outer s H E) [] (start N vs) H s1:=by
 have hpl:ps.length≤N.length:=by have:=congrArg List.length S.pre; rw [List.length_take] at this; omega
 obtain⟨h1,tk,rfl,hk⟩:=x.done
 have noA:∀ b:Addr,b∉(AU CX P w K mg base N qual scope f cd A outer s H E).ex:=fun b z=>absurd (show b∈([]:List Addr) from z) (by simp)
 refine⟨⟨e0.mod,S.kind,rfl,rfl,Nat.le_refl _,fun y z c h1 h2=>?_,fun y hy=>?_,fun y c _ h=>?_,fun _=>hd,Around.frames_deeper e0.frames,.inr ⟨rfl,rfl⟩,fun b z=>absurd z (noA b),e0.bs,e0.bsz,fun b _ _=>noA b,fun b z=>absurd z (noA b),e0.wo,e0.frf⟩,
  rfl,e0.bare,Un.kept hk,⟨_,x.toInCall.ns,fun i y v h1 h2 h3=>?_⟩,fun y c h=>⟨_,x.cell y c h⟩,e0.hok.fresh (Nat.le_refl _),fun y c h=>?_,fun p hp=>absurd (show p∈([]:List (Addr×Obj)) from hp) (by simp),e0.hok.kept hk,?_⟩
 ·exact name_of_addr x.apart (PySem.mem_of_lookup h1) (PySem.mem_of_lookup h2)
 ·have hy:scope.names.lookup y=some .cell∨scope.names.lookup y=some .free:=hy
  rcases hy with hy | hy
  ·exact BJ hy
  ·exact absurd rfl (S.KH _ (PySem.mem_of_lookup hy))
 ·exact Nat.le_of_lt (x.above y c (PySem.mem_of_lookup h))
 ·have hi:i < vs.length:=by
   unfold start at h2
   by_cases hi:i < vs.length
   ·exact hi
   ·rw [List.getElem?_append_right (by simpa using hi)] at h2
    rw [List.getElem?_replicate] at h2
    split at h2<;>cases h2
  have ha:vs[i]?=some v:=by
   unfold start at h2
   rw [List.getElem?_append_left (by simpa using hi),List.getElem?_map] at h2
   cases e:vs[i]? with
   | none=>rw [e] at h2; cases h2
   | some a=>rw [e] at h2; cases h2; rfl
  obtain⟨u,hu,rv⟩:=r.get ha
  have hp:ps[i]?=some y:=by
   rw [← S.pre,List.getElem?_take_of_lt (by omega)]; exact h1
  have ndP:ps.Nodup:=by rw [← S.pre]; exact S.nd.sublist (List.take_sublist _ _)
  refine⟨u,rv,?_⟩
  rcases S.par y (List.mem_of_getElem? hp) with k | k
  ·exact .inl ⟨k,Ae ndP hp hu k⟩
  ·obtain⟨c,e⟩:=BJ (n:=s.heap.objs.size + 1) k
   refine .inr ⟨.inl k,c,e,?_⟩
   have q:=x.cell y c e
   rw [Ab ndP hp hu (by show scope.names.lookup y≠_; rw [k]; decide)] at q
   exact q
 ·exact e0.hok.fresh (Nat.le_of_lt (x.above y c (PySem.mem_of_lookup h)))
 ·unfold start
  show _=N.length
  rw [List.length_append,List.length_map,List.length_replicate]
  omega
theorem Lr {CX:CXT} {P:Program} {w:World} {K:PySem.W.Frag} {mg:Str→Option Value} {base:Heap} {k:Nat} {f:Addr} {name qual:Str} {params:Arguments} {body:List Stmt} {scope:Scope} {dV kV doc pm cdv ct oc:Value} {an od:Option Addr}
  {osl:Array (Option Value)} {N ps:List Str} {sp:Sp} (lk:K.lookup f=some ⟨oc,od,.func (PySem.W.fnOf name qual params body scope dV kV doc pm an cdv ct),osl⟩) (hcd:PySem.W.codeIn K cdv qual=true) (S:ay N ps scope)
  (len:∀ vs H Q E,sp vs H Q E→vs.length=ps.length)
  (hbody:∀ (A:Around) (outer:List Env) (s:Shared) (H:Hp) (vs:List V) (Q:VK) (E:XK),cf k (A.deeper (envOfC qual scope s.heap.objs.size f cdv))→sp vs H Q E →
   ∃ t,PSs (AU CX P w K mg base N qual scope f cdv A outer s H E) body t∧t { nx:=fun _ H'=>Q .non H',rt:=Q } (start N vs) H) :
  oE P w K mg base CX (k + 1) f (PySem.W.fnOf name qual params body scope dV kV doc pm an cdv ct) ps sp:=by
 refine⟨len,fun A outer s H args us vs Q E hr e0 hb r hsp=>?_⟩
 have hl:=len _ _ _ _ hsp
 have KX:K.In s.heap:=e0.mod.kin.keeps fun b o e=>(e0.bs b o e).1
 have lim:s.heap.NoLimit:=e0.mod.nolimit.keeps fun b o e=>(e0.bs b o e).1
 have hkind:∀ y∈ps.zip us,scope.names.lookup y.1=some .local∨(scope.names.lookup y.1=some .cell∧((cellsFrom (s.heap.objs.size + 1) scope.names []).lookup y.1).isSome=true):=fun ⟨n,v⟩ hy=>by
  rcases S.par n (List.of_mem_zip hy).1 with q | q
  ·exact .inl q
  ·exact .inr ⟨q,PySem.W.cellsFrom_some _ _ _ (.inl q)⟩
 refine codeAny_call_function hr.depth (KX _ _ lk) rfl S.co S.gen rfl (PySem.W.codeRec_of KX hcd) (hb _ _ _ _ ?_)
 refine wpAny_newFunctionEnv_cells S.kind hkind fun env he s1 x=>?_
 subst he
 refine⟨lim.keeps x.toInCall.keep,codeAny_func ?_⟩
 obtain⟨t,ht,hq⟩:=hbody A outer s H vs Q E (hr.deeper _) hsp
 have I:Inv (AU CX P w K mg base N qual scope f cdv A outer s H E) [] (start N vs) H s1:=Fx S hr.hd e0 hl r x
 refine wpAny_mono (ht [] s1 (start N vs) H _ I hq) (fun fl s' hs=>?_) fun e s' hs=>hs
 have fin:∀ {σ':St} {H':Hp} {v:V} {u:Value},Inv (AU CX P w K mg base N qual scope f cdv A outer s H E) [] σ' H' s'→RelV v u→Q v H'→CE outer P w H s Q u s' :=
  fun {σ' H' v u} J rv q=>⟨v,H',J.os,J.bare,J.base,J.hok,rv,q⟩
 cases fl with
 | ret u =>
  obtain⟨v,σ',H',J,rv,q⟩:=hs
  exact fin J rv q
 | next =>
  obtain⟨σ',H',J,q⟩:=hs
  exact fin (v:=V.non) (u:=Value.none) J rfl q
 | brk =>
  obtain⟨_,_,_,q⟩:=hs
  exact False.elim q
 | cont =>
  obtain⟨_,_,_,q⟩:=hs
  exact False.elim q
end L2
namespace L2
open PySem PySem.Spec PyProof.Rows
section
variable {X:Cx} {x:Str} {p pos:Pos} {e:Expr} {es:List Expr} {t:TA} {id T:String} {r:List V→Hp→VK→Prop}
def tCB (r:List V→Hp→VK→Prop) (t:TA):TE:=fun σ H Q=>t σ H fun vs H1=>r vs H1 Q
theorem aO (hc:mC X (.builtin id) r) (hg:Gl X x) (hm:X.mg x=none) (hv:bootBuiltins x=some (.builtin id)) (ha:PA X (e :: es) t) (hn:x≠"__name__":=by decide) (hdb:(x == ("__debug__":Str))=false:=by decide)
  (he:starEach (e :: es) X.env=(false,eval e X.env) :: starEach es X.env:=by rfl) (hpl:(backTo pos (starEach es X.env)).any (·.1)=false:=by rfl):PE X (.Call (.Name x p) (e :: es) [] pos) (tCB r t):=by
 intro pins s σ H Q I h
 refine wpAny_Call_Name_kw (wz I hg hm hv ?_ hn hdb)
 exact PyProof.Rows.callWith_builtin1 (thn (ha pos pins s σ H _ I h) fun us s1 ⟨vs,H1,I1,r1,q1⟩=>hc pins s1 σ H1 vs us Q I1 r1 q1) he hpl
theorem tx (hc:mC X (.type T) r) (hg:Gl X x) (hm:X.mg x=none) (hv:bootBuiltins x=some (.type T)) (ha:PA X (e :: es) t) (hn:x≠"__name__":=by decide) (hdb:(x == ("__debug__":Str))=false:=by decide)
  (he:starEach (e :: es) X.env=(false,eval e X.env) :: starEach es X.env:=by rfl) (hpl:(backTo pos (starEach es X.env)).any (·.1)=false:=by rfl):PE X (.Call (.Name x p) (e :: es) [] pos) (tCB r t):=by
 intro pins s σ H Q I h
 refine wpAny_Call_Name_kw (wz I hg hm hv ?_ hn hdb)
 exact PyProof.Rows.callWith_type1 (thn (ha pos pins s σ H _ I h) fun us s1 ⟨vs,H1,I1,r1,q1⟩=>hc pins s1 σ H1 vs us Q I1 r1 q1) he hpl
end
end L2
namespace HT
open PySem PyProof.Rows
section
variable {prog:Program} {w:World} {A:Around} {E:Value→Shared→Prop} {s:Shared}
def sIx (n d:Nat):Option Int→Nat
 | none=>d
 | some v=>if v < 0 then (v + (n:Int)).toNat else min v.toNat n
theorem tH (n d k:Nat):sIx n d (some (k:Int))=min k n:=by
 show (if (k:Int) < 0 then ((k:Int) + (n:Int)).toNat else min (k:Int).toNat n)=min k n
 rw [if_neg (by omega),Int.toNat_natCast]
end
end HT
namespace L2
open PySem PySem.Spec PyProof.Rows
abbrev TO:=St→Hp→(Option Int→Hp→Prop)→Prop
def PO (X:Cx) (e:Option Expr) (t:TO):Prop :=
 ∀ (pins:List (Addr×Obj)) (s:Shared) (σ:St) (H:Hp) (Q:Option Int→Hp→Prop),Inv X pins σ H s→t σ H Q →
  wpAny (model X.prog X.w) X.A (evalPart e X.env) (fun u s'=>∃ o H',Inv X pins σ H' s'∧IsPart u o∧Q o H') X.xe s
def LU (t:TE):TO:=fun σ H Q=>t σ H fun x H1=>∃ i,x = .int i∧Q (some i) H1
section
variable {X:Cx} {e:Expr} {te:TE} {lo hi:Option Expr} {tl th:TO} {pos p2:Pos}
theorem tE (h:PE X e te):PO X (some e) (LU te):=by
 intro pins s σ H Q I hw
 rw [evalPart_some]
 refine thn (h pins s σ H _ I hw) fun u s1 ⟨x,H1,I1,r1,q1⟩=>?_
 obtain⟨i,rfl,q⟩:=q1
 obtain⟨t,rfl⟩:=r1
 exact⟨some i,H1,I1,.int i t,q⟩
def SlR (X:Cx) (r:V→Option Int→Option Int→Hp→VK→Prop):Prop :=
 ∀ (pins:List (Addr×Obj)) (s:Shared) (σ:St) (H:Hp) (x:V) (v vl vu:Value) (lo hi:Option Int) (sl:Addr) (Q:VK),Inv X pins σ H s→RelV x v→s.heap.IsSliceOf sl vl vu .none→IsPart vl lo→IsPart vu hi→r x lo hi H Q →
  ∃ T id,typeLookup (.type T) "__getitem__" = pure (some (.builtin id))∧s.TypeIs v T∧wpAny (model X.prog X.w) X.A (getItem v (.ref sl)) (EP X pins σ Q) X.xe s
def tSl (r:V→Option Int→Option Int→Hp→VK→Prop) (te:TE) (tl th:TO):TE:=fun σ H Q=>te σ H fun x H1=>tl σ H1 fun l H2=>th σ H2 fun u H3=>r x l u H3 Q
theorem zi {r:V→Option Int→Option Int→Hp→VK→Prop} (hr:SlR X r) (he:PE X e te) (hl:PO X lo tl) (hu:PO X hi th):PE X (.Subscript e (.Slice lo hi none p2) pos) (tSl r te tl th):=by
 intro pins s σ H Q I h
 refine Subscript_ (thn (he pins s σ H _ I h) fun v s1 ⟨x,H1,I1,r1,q1⟩=>?_)
 refine wpAny_Slice (thn (hl pins s1 σ H1 _ I1 q1) fun vl s2 ⟨l,H2,I2,pl,q2⟩=>thn (hu pins s2 σ H2 _ I2 q2) fun vu s3 ⟨u,H3,I3,pu,q3⟩=>?_)
 rw [evalPart_none]
 refine wpAny_pure ?_
 have I4:Inv X pins σ H3 { s3 with heap:=s3.heap.push { cls:=.type "slice",data:=.fields #[vl,vu,.none] } }:=I3.kept (t':=s3.toks) fun b ob q=>Heap.get?_push_of_some _ q
 obtain⟨T,id,hT,ht,hg⟩:=hr pins { s3 with heap:=s3.heap.push { cls:=.type "slice",data:=.fields #[vl,vu,.none] } } σ H3 x v vl vu l u s3.heap.objs.size Q I4 r1 (Heap.IsSliceOf.new ..) pl pu q3
 show wpAny (model X.prog X.w) X.A (subscriptTail e (.Slice lo hi none p2) v (.ref s3.heap.objs.size)) (EP X pins σ Q) X.xe { s3 with heap:=s3.heap.push { cls:=.type "slice",data:=.fields #[vl,vu,.none] } }
 exact tail_any (ops:=[.ref s3.heap.objs.size,v]) ht hT hg (by with_unfolding_all rfl)
def wm (xs:List V) (lo hi:Option Int):List V:=(xs.drop (HT.sIx xs.length 0 lo)).take (HT.sIx xs.length xs.length hi - HT.sIx xs.length 0 lo)
theorem BK (xs:List V) (lo hi:Option Int):(wm xs lo hi).length≤xs.length:=by
 unfold wm
 rw [List.length_take,List.length_drop]
 omega
end
end L2
namespace L2
open PySem PySem.Spec PyProof.Rows
def ixN (n:Nat) (i:Int):Option Nat:=if 0≤i then (if i < n then some i.toNat else none) else if -(n:Int)≤i then some (i + n).toNat else none
def atI {α:Type} (xs:List α) (i:Int):Option α:=(ixN xs.length i).bind fun j=>xs[j]?
theorem EJ {n:Nat} {i:Int} {j:Nat} (h:ixN n i=some j):seqIndex? i n=some j∧j < n∧-(n:Int)≤i∧i < n:=by
 unfold ixN at h
 by_cases h0:0≤i
 ·rw [if_pos h0] at h
  by_cases h1:i < n
  ·rw [if_pos h1] at h
   have e:i.toNat=j:=Option.some.inj h
   exact⟨by rw [seqIndex_of h0 h1,e],by omega,by omega,h1⟩
  ·rw [if_neg h1] at h; cases h
 ·rw [if_neg h0] at h
  by_cases h1:-(n:Int)≤i
  ·rw [if_pos h1] at h
   have e:(i + n).toNat=j:=Option.some.inj h
   exact⟨by rw [seqIndex_neg (by omega) h1,e],by omega,h1,by omega⟩
  ·rw [if_neg h1] at h; cases h
theorem Et {α:Type} {xs:List α} {i:Int} {v:α} (h:atI xs i=some v):∃ j,seqIndex? i xs.length=some j∧xs[j]?=some v∧j < xs.length∧-(xs.length:Int)≤i∧i < xs.length:=by
 unfold atI at h
 cases e:ixN xs.length i with
 | none=>rw [e] at h; cases h
 | some j =>
  rw [e] at h
  obtain⟨h1,h2,h3,h4⟩:=EJ e
  exact⟨j,h1,h,h2,h3,h4⟩
theorem bg {α:Type} {xs:List α} {j:Nat} {v:α} (h:xs[j]?=some v):atI xs (j:Int)=some v:=by
 have hj:j < xs.length:=(List.getElem?_eq_some_iff.mp h).1
 have e:ixN xs.length (j:Int)=some j:=by
  unfold ixN
  rw [if_pos (by omega),if_pos (by omega)]; simp
 unfold atI; rw [e]; exact h
theorem yl {α:Type} (xs:List α) (v:α):atI (xs ++ [v]) (-1)=some v:=by
 have hl:(xs ++ [v]).length=xs.length + 1:=by simp
 have e:ixN (xs ++ [v]).length (-1)=some xs.length:=by
  unfold ixN
  rw [hl,if_neg (by decide),if_pos (by omega)]
  congr 1
  omega
 unfold atI
 rw [e]
 show (xs ++ [v])[xs.length]?=some v
 simp
def IK (b:Expr):Prop:=∀ o i,subscripted b false o i=operate [o,i] (getItem o i)
def IxR (X:Cx) (r:R2):Prop :=
 ∀ (value slice:Expr) (pins:List (Addr×Obj)) (s:Shared) (σ:St) (H:Hp) (x y:V) (v u:Value) (Q:VK),Inv X pins σ H s→RelV x v→RelV y u→r x y H Q →
  subscripted slice false v u=operate [v,u] (getItem v u)→wpAny (model X.prog X.w) X.A (subscriptTail value slice v u) (EP X pins σ Q) X.xe s
def MtR (X:Cx) (id:String) (r:V→List V→Hp→VK→Prop):Prop :=
 ∀ (pins:List (Addr×Obj)) (s:Shared) (σ:St) (H:Hp) (x:V) (xs:List V) (v:Value) (us:List Value) (Q:VK),Inv X pins σ H s→RelV x v→Vals xs us→r x xs H Q →
  wpAny (model X.prog X.w) X.A (call (.builtin id) (v :: us)) (EP X pins σ Q) X.xe s
section
variable {X:Cx} {a b:Expr} {ta tb:TE} {pos:Pos}
theorem aS {r:R2} (hr:IxR X r) (ha:PE X a ta) (hb:PE X b tb) (hs:IK b):PE X (.Subscript a b pos) (tOp r ta tb):=by
 intro pins s σ H Q I h
 exact Subscript_ (Kh ha hb I h fun v u s2 x y H2 I2 rx ry q=>hr a b pins s2 σ H2 x y v u Q I2 rx ry q (hs _ _))
def qW (K:PySem.W.Frag):R2:=fun x y H Q=>∃ p xs i v,x = .ref p∧y = .int i∧SqL K H p xs∧atI xs i=some v∧Q v H
def Mm (K:PySem.W.Frag):R2:=fun x y H Q=>∃ p xs i v,x = .ref p∧y = .int i∧SqT K H p xs∧atI xs i=some v∧Q v H
theorem aG:IxR X (qW X.K):=by
 intro value slice pins s σ H x y v u Q I rx ry h hs
 obtain⟨p,xs,i,z,rfl,rfl,hq,he,q⟩:=h
 cases rx
 obtain⟨t,rfl⟩:=ry
 obtain⟨its,r,pl,hz⟩:=I.list hq
 obtain⟨j,h1,h2,h3,h4,h5⟩:=Et he
 obtain⟨w,ew,rw'⟩:=r.get h2
 have hl:=r.length
 have hn:=A8
 have fin:EP X pins σ Q w s:=⟨z,H,I,rw',q⟩
 by_cases h0:0≤i
 ·have hj:i.toNat=j:=by
   rw [seqIndex_of h0 h5] at h1
   exact Option.some.inj h1
  exact item_listR pl.isList h0 (by omega) (by rw [hj]; simpa using ew) fin hs
 ·have hj:(i + (its.toArray.size:Int)).toNat=j:=by
   rw [seqIndex_neg (by omega) h4] at h1
   rw [List.size_toArray,← hl]
   exact Option.some.inj h1
  exact subscriptTail_builtinR (x:=w) pl.isList.typeIs slot_list_getitem.lookup
   (wpAny_getItem_list_neg (Q:=fun r s'=>r=w∧EP X pins σ Q r s') pl.isList (by omega) (by rw [List.size_toArray]<;>omega) (by omega) (by rw [hj]; simpa using ew) ⟨rfl,fin⟩) hs
theorem Hs:IxR X (Mm X.K):=by
 intro value slice pins s σ H x y v u Q I rx ry h hs
 obtain⟨p,xs,i,z,rfl,rfl,hq,he,q⟩:=h
 cases rx
 obtain⟨t,rfl⟩:=ry
 obtain⟨its,r,pl,hz⟩:=I.tuple hq
 obtain⟨j,h1,h2,h3,h4,h5⟩:=Et he
 obtain⟨w,ew,rw'⟩:=r.get h2
 have hl:=r.length
 have hn:=A8
 have fin:EP X pins σ Q w s:=⟨z,H,I,rw',q⟩
 exact subscriptTail_builtinR (x:=w) pl.typeIs slot_tuple_getitem.lookup
  (getItem_tuple (j:=j) (Q:=fun r s'=>r=w∧EP X pins σ Q r s') pl (by omega) (by omega) (by rw [List.size_toArray,← hl]; exact h1) (by simpa using ew) ⟨rfl,fin⟩) hs
theorem DD (its:List Value) (n j:Nat) (u:Value):Obj.mapSeq (·.setIfInBounds j u) { cls:=.type "list",data:=.seq its.toArray n } = { cls:=.type "list",data:=.seq (its.set j u).toArray n }:=by
 simp [Obj.mapSeq]
theorem Inv.lst {pins:List (Addr×Obj)} {σ:St} {H:Hp} {s:Shared} {p:Addr} {xs:List V} (I:Inv X pins σ H s) (h:H p=some (.lst xs)) :
  ∃ (its:List Value) (n:Nat),Vals xs its∧s.heap.get? p=some { cls:=.type "list",data:=.seq its.toArray n }∧xs.length≤sizeLine:=by
 obtain⟨z,its,n,r,e⟩:=I.hok p _ h
 exact⟨its,n,r,e,z⟩
theorem Inv.KA {pins:List (Addr×Obj)} {σ:St} {H:Hp} {s:Shared} {p:Addr} {xs ys:List V} {its its':List Value} {n n':Nat} {f:Obj→Obj} (I:Inv X pins σ H s) (h:H p=some (.lst xs))
  (ho:s.heap.get? p=some { cls:=.type "list",data:=.seq its.toArray n }) (hf:f { cls:=.type "list",data:=.seq its.toArray n } = { cls:=.type "list",data:=.seq its'.toArray n' }) (r:Vals ys its') (hz:ys.length≤sizeLine) (t:Nat) :
  Inv X pins σ (upd H p (.lst ys)) { s with heap:=s.heap.update p f,toks:=t }:=by
 have e:(s.heap.update p f).get? p=some { cls:=.type "list",data:=.seq its'.toArray n' }:=by
  rw [Heap.get?_update_self f ho (by rw [hf]<;>rfl),hf]
 refine I.write (x:=p) (e:=p) (by rw [h]; trivial) (.inl rfl) (fun b u hb q=>(Heap.get?_update_other _ _ (Ne.symm hb)).trans q) ⟨_,e⟩ ?_
 exact⟨hz,its',n',r,e⟩
def LF:V→V→V→Hp→(Hp→Prop)→Prop:=fun o i v H Q=>∃ p xs k j,o = .ref p∧i = .int k∧H p=some (.lst xs)∧ixN xs.length k=some j∧Q (upd H p (.lst (xs.set j v)))
theorem set_list:Lh X LF:=by
 intro pins s σ H o i v ov iv u Q I ro ri rv h
 obtain⟨p,xs,k,j,rfl,rfl,hp,hj,q⟩:=h
 cases ro
 obtain⟨t,rfl⟩:=ri
 obtain⟨its,n,r,ho,hz⟩:=I.lst hp
 obtain⟨h1,h2,h3,h4⟩:=EJ hj
 have hl:=r.length
 have hn:=A8
 have I':Inv X pins σ (upd H p (.lst (xs.set j v))) { s with heap:=s.heap.update p (Obj.mapSeq (·.setIfInBounds j u)) } :=
  I.KA hp ho (DD its n j u) (r.set rv j) (by rw [List.length_set]; exact hz) s.toks
 by_cases h0:0≤k
 ·have hk:k.toNat=j:=by
   rw [seqIndex_of h0 h4] at h1
   exact Option.some.inj h1
  exact PySem.W.ki_setAt ho h0 (by omega) (by rw [List.size_toArray,← hl]; exact h4) (by rw [hk]; exact⟨_,I',q⟩)
 ·have hk:(k + (its.toArray.size:Int)).toNat=j:=by
   rw [seqIndex_neg (by omega) h3] at h1
   rw [List.size_toArray,← hl]
   exact Option.some.inj h1
  exact PySem.W.ki_setBack ho (by omega) (by rw [List.size_toArray,← hl]; exact h3) (by omega) (by rw [hk]; exact⟨_,I',q⟩)
theorem Bt (lo hi:Option Int) (n:Nat):(sliceBounds lo hi none n).1=((HT.sIx n 0 lo:Nat):Int)∧(sliceBounds lo hi none n).2.1=((HT.sIx n n hi:Nat):Int)∧(sliceBounds lo hi none n).2.2=1:=by
 refine⟨?_,?_,rfl⟩
 ·cases lo with
  | none=>simp [sliceBounds,HT.sIx]
  | some i =>
   simp only [sliceBounds,HT.sIx,Option.getD_none,show (1:Int) > 0 by decide,if_true]
   by_cases h:i < 0
   ·simp only [h,if_true]<;>omega
   ·simp only [h,if_false]<;>omega
 ·cases hi with
  | none=>simp [sliceBounds,HT.sIx]
  | some i =>
   simp only [sliceBounds,HT.sIx,Option.getD_none,show (1:Int) > 0 by decide,if_true]
   by_cases h:i < 0
   ·simp only [h,if_true]<;>omega
   ·simp only [h,if_false]<;>omega
theorem z0 (its:List Value) (lo hi:Option Int):slicePick its.toArray lo hi none=((its.drop (HT.sIx its.length 0 lo)).take (HT.sIx its.length its.length hi - HT.sIx its.length 0 lo)).toArray:=by
 obtain⟨h1,h2,h3⟩:=Bt lo hi its.toArray.size
 unfold slicePick
 rw [h1,h2,h3]
 simp only [sliceRange_one,pick_run,List.size_toArray]<;>rfl
def Mq (K:PySem.W.Frag):V→Option Int→Option Int→Hp→VK→Prop:=fun x lo hi H Q=>∃ a xs,x = .ref a∧SqL K H a xs∧∀ p,H p=none→Q (.ref p) (upd H p (.lst (wm xs lo hi)))
theorem Bs:SlR X (Mq X.K):=by
 intro pins s σ H x v vl vu lo hi sl Q I rx hs pl pu h
 obtain⟨a,xs,rfl,hx,q⟩:=h
 cases rx
 obtain⟨its,r,ht,hz⟩:=I.list hx
 have hlen:=r.length
 refine⟨"list",_,slot_list_getitem.lookup,ht.isList.typeIs,?_⟩
 refine wpAny_getItem_list_slice ht.isList hs pl pu .none (by simp) ?_ (by rw [List.size_toArray]<;>omega)
 rw [z0,← hlen]
 refine⟨.ref s.heap.objs.size,_,I.laid (t':=s.toks) (o:=.lst (wm xs lo hi)) (fun b ob q=>Heap.get?_push_of_some _ q) (Nat.le_refl _) ?_,rfl,q _ (I.hok.fresh (Nat.le_refl _))⟩
 exact⟨Nat.le_trans (BK xs lo hi) hz,_,0,(r.drop (HT.sIx xs.length 0 lo)).take (HT.sIx xs.length xs.length hi - HT.sIx xs.length 0 lo),Heap.get?_push_size _ rfl⟩
def vg:V→Bool
 | .non=>true
 | .bl _=>true
 | .int _=>true
 | .str _=>true
 | _=>false
def eqV:V→V→Bool
 | .non,.non=>true
 | .bl a,.bl b=>a == b
 | .bl a,.int b=>(if a then 1 else 0) == b
 | .int a,.bl b=>a == (if b then 1 else 0)
 | .int a,.int b=>a == b
 | .str a,.str b=>a == b
 | _,_=>false
theorem Ko {A:Around} {s:Shared} {y x:V} {u v:Value} (ry:RelV y u) (rx:RelV x v) (fy:vg y=true) (fx:vg x=true):SeqAt.EqAt A s u v (eqV y x):=by
 cases y with
 | non =>
  cases ry
  cases x with
  | non=>cases rx; exact SeqAt.EqAt.same _
  | bl b=>cases rx; exact SeqAt.EqAt.none_bool b
  | int b=>obtain⟨t,rfl⟩:=rx; exact SeqAt.EqAt.none_int b t
  | str b=>obtain⟨t,rfl⟩:=rx; exact SeqAt.EqAt.none_str b t
  | _=>exact absurd (show false=true from fx) Bool.false_ne_true
 | bl a =>
  cases ry
  cases x with
  | non=>cases rx; exact SeqAt.EqAt.bool_none a
  | bl b=>cases rx; exact SeqAt.EqAt.bool_bool a b
  | int b=>obtain⟨t,rfl⟩:=rx; exact SeqAt.EqAt.bool_int a b t
  | str b=>obtain⟨t,rfl⟩:=rx; exact SeqAt.EqAt.bool_str a b t
  | _=>exact absurd (show false=true from fx) Bool.false_ne_true
 | int a =>
  obtain⟨t',rfl⟩:=ry
  cases x with
  | non=>cases rx; exact SeqAt.EqAt.int_none a t'
  | bl b=>cases rx; exact SeqAt.EqAt.int_bool a t' b
  | int b=>obtain⟨t,rfl⟩:=rx; exact SeqAt.EqAt.int_int a t' b t
  | str b=>obtain⟨t,rfl⟩:=rx; exact SeqAt.EqAt.int_str a t' b t
  | _=>exact absurd (show false=true from fx) Bool.false_ne_true
 | str a =>
  obtain⟨t',rfl⟩:=ry
  cases x with
  | non=>cases rx; exact SeqAt.EqAt.str_none a t'
  | bl b=>cases rx; exact SeqAt.EqAt.str_bool a t' b
  | int b=>obtain⟨t,rfl⟩:=rx; exact SeqAt.EqAt.str_int a t' b t
  | str b=>obtain⟨t,rfl⟩:=rx; exact SeqAt.EqAt.str_str a t' b t
  | _=>exact absurd (show false=true from fx) Bool.false_ne_true
 | _=>exact absurd (show false=true from fy) Bool.false_ne_true
def eqU (x:V) (u:Value):Bool:=match u with
 | .none=>eqV .non x
 | .bool b=>eqV (.bl b) x
 | .int i _=>eqV (.int i) x
 | .str z _=>eqV (.str z) x
 | _=>false
theorem Hk {x y:V} {u:Value} (r:RelV y u) (f:vg y=true):eqU x u=eqV y x:=by
 cases y with
 | non=>cases r; rfl
 | bl b=>cases r; rfl
 | int i=>obtain⟨t,rfl⟩:=r; rfl
 | str z=>obtain⟨t,rfl⟩:=r; rfl
 | _=>exact absurd (show false=true from f) Bool.false_ne_true
theorem uW {x:V}:∀ {xs:List V} {us:List Value},Vals xs us→xs.all vg=true→us.any (eqU x)=xs.any fun y=>eqV y x
 | _,_,.nil,_=>rfl
 | y :: xs,u :: us,.cons r t,f=>by
  rw [List.all_cons,Bool.and_eq_true] at f
  rw [List.any_cons,List.any_cons,Hk r f.1,uW t f.2]
theorem rQ {A:Around} {s:Shared} {x:V} {v:Value} (rx:RelV x v) (fx:vg x=true):∀ {xs:List V} {us:List Value},Vals xs us→xs.all vg=true→∀ u∈us,SeqAt.EqAt A s u v (eqU x u)
 | _,_,.nil,_=>fun u hu=>by cases hu
 | y :: xs,u :: us,.cons r t,f=>fun u' hu=>by
  rw [List.all_cons,Bool.and_eq_true] at f
  rcases List.mem_cons.mp hu with rfl | hu
  ·rw [Hk r f.1]; exact Ko r rx f.1 fx
  ·exact rQ rx fx t f.2 u' hu
def inV (x:V) (xs:List V):Bool:=xs.any fun y=>eqV y x
def rIn (K:PySem.W.Frag) (neg:Bool):R2:=fun x y H Q=>∃ p xs,y = .ref p∧(SqL K H p xs∨SqT K H p xs)∧vg x=true∧xs.all vg=true∧Q (.bl (if neg then !inV x xs else inV x xs)) H
theorem Ar:OpR X (compareOp .In) (rIn X.K false):=by
 intro pins s σ H x y v u Q I rx ry h
 obtain⟨p,xs,rfl,hq,fx,fs,q⟩:=h
 cases ry
 rcases hq with hq | hq
 ·obtain⟨its,r,pl,hz⟩:=I.list hq
  refine SeqAt.in_listAt (eqU x) pl.isList (fun w hw=>rQ rx fx r fs w (by simpa using hw)) ⟨.bl _,H,I,rfl,?_⟩
  rw [show its.toArray.any (eqU x)=its.any (eqU x) by simp,uW r fs]
  exact q
 ·obtain⟨its,r,pl,hz⟩:=I.tuple hq
  refine SeqAt.in_tupleAt (eqU x) pl (fun w hw=>rQ rx fx r fs w (by simpa using hw)) ⟨.bl _,H,I,rfl,?_⟩
  rw [show its.toArray.any (eqU x)=its.any (eqU x) by simp,uW r fs]
  exact q
theorem vM:OpR X (compareOp .NotIn) (rIn X.K true):=by
 intro pins s σ H x y v u Q I rx ry h
 obtain⟨p,xs,rfl,hq,fx,fs,q⟩:=h
 cases ry
 rcases hq with hq | hq
 ·obtain⟨its,r,pl,hz⟩:=I.list hq
  refine SeqAt.notIn_listAt (eqU x) pl.isList (fun w hw=>rQ rx fx r fs w (by simpa using hw)) ⟨.bl _,H,I,rfl,?_⟩
  rw [show its.toArray.any (eqU x)=its.any (eqU x) by simp,uW r fs]
  exact q
 ·obtain⟨its,r,pl,hz⟩:=I.tuple hq
  refine SeqAt.notIn_tupleAt (eqU x) pl (fun w hw=>rQ rx fx r fs w (by simpa using hw)) ⟨.bl _,H,I,rfl,?_⟩
  rw [show its.toArray.any (eqU x)=its.any (eqU x) by simp,uW r fs]
  exact q
theorem aN:mC X (.builtin "len") (fun xs H Q=>∃ p ys,xs=[.ref p]∧(SqL X.K H p ys∨SqT X.K H p ys)∧Q (.int ys.length) H):=by
 intro pins s σ H xs us Q I r h
 obtain⟨p,ys,rfl,hq,q⟩:=h
 obtain⟨u,rfl,rx⟩:=vals1 r
 cases rx
 have hn:=A8
 rcases hq with hq | hq
 ·obtain⟨its,r',pl,hz⟩:=I.list hq
  have hlen:=r'.length
  exact Calls.call_len_list pl.isList (by simp only [List.size_toArray]<;>omega) ⟨.int ys.length,H,I.tok _,⟨s.toks + 1,by rw [List.size_toArray,hlen]⟩,q⟩
 ·obtain⟨its,r',pl,hz⟩:=I.tuple hq
  have hlen:=r'.length
  exact len_tuple pl (by simp only [List.size_toArray]<;>omega) ⟨.int ys.length,H,I.tok _,⟨s.toks + 1,by rw [List.size_toArray,hlen]⟩,q⟩
theorem AQ:mC X (.type "list") (fun xs H Q=>∃ p ys,xs=[.ref p]∧(SqL X.K H p ys∨SqT X.K H p ys)∧∀ l,H l=none→Q (.ref l) (upd H l (.lst ys))):=by
 intro pins s σ H xs us Q I r h
 obtain⟨p,ys,rfl,hq,q⟩:=h
 obtain⟨u,rfl,rx⟩:=vals1 r
 cases rx
 have fin:∀ (its:List Value),Vals ys its→ys.length≤sizeLine→∀ (h':Heap) (c':Nat),(∀ b o',s.heap.get? b=some o'→h'.get? b=some o') →
   h'.get? s.heap.objs.size=some { cls:=.type "list",dict:=none,data:=.seq its.toArray c',slots:=#[] }→EP X pins σ Q (.ref s.heap.objs.size) { s with heap:=h' }:=fun its r' hz h' c' kp e =>
  ⟨.ref s.heap.objs.size,_,I.laid (t':=s.toks) kp (Nat.le_refl _) (show c8 X.prog X.w _ h' _ (.lst ys) from ⟨hz,its,c',r',e⟩),rfl,q _ (I.hok.fresh (Nat.le_refl _))⟩
 rcases hq with hq | hq
 ·obtain⟨its,r',pl,hz⟩:=I.list hq
  have hlen:=r'.length
  obtain⟨o,ho,hc,n,hd⟩:=pl.isList
  exact call_list_seq p (.inl rfl) ho hc hd (fun h' c' kp e=>fin its r' hz h' c' kp e) (by simp only [List.size_toArray]<;>omega)
 ·obtain⟨its,r',pl,hz⟩:=I.tuple hq
  have hlen:=r'.length
  obtain⟨o,ho,hc,n,hd⟩:=pl
  exact call_list_seq p (.inr rfl) ho hc hd (fun h' c' kp e=>fin its r' hz h' c' kp e) (by simp only [List.size_toArray]<;>omega)
def tyV (K:PySem.W.Frag) (T:String) (x:V) (H:Hp):Prop:=match x with
 | .str _=>T = "str"
 | .int _=>T = "int"
 | .ref p=>(T = "list"∧∃ xs,SqL K H p xs)∨(T = "tuple"∧∃ o,K.lookup p=some o∧o.cls = .type "tuple"∧o.dict=none) ∨
   (T = "dict"∧((∃ kvs,H p=some (.dK kvs))∨∃ kvs,H p=some (.dT kvs)))∨(T = "set"∧∃ S n,H p=some (.set S n))
 | _=>False
theorem IG {pins:List (Addr×Obj)} {σ:St} {H:Hp} {s:Shared} {T:String} {x:V} {v:Value} (I:Inv X pins σ H s) (r:RelV x v) (ty:tyV X.K T x H) :
  s.TypeIs v T∧∀ a,v = .ref a→∃ ob,s.heap.get? a=some ob∧ob.dict=none:=by
 cases x with
 | str z =>
  obtain⟨t,rfl⟩:=r
  cases (show T = "str" from ty)
  exact⟨typeIs_str s z t,fun _ e=>nomatch e⟩
 | int i =>
  obtain⟨t,rfl⟩:=r
  cases (show T = "int" from ty)
  exact⟨typeIs_int s i t,fun _ e=>nomatch e⟩
 | ref p =>
  cases r
  rcases ty with ⟨rfl,xs,hq⟩ | ⟨rfl,o,hk,hc,hd⟩ | ⟨rfl,hk⟩ | ⟨rfl,S,n,hk⟩
  ·obtain⟨its,_,pl,_⟩:=I.list hq
   refine⟨pl.isList.typeIs,fun a e=>?_⟩
   cases e
   obtain⟨o,n,e,c,hd,_⟩:=pl
   exact⟨o,e,hd⟩
  ·refine⟨⟨o,I.kIn p o hk,hc⟩,fun a e=>?_⟩
   cases e
   exact⟨o,I.kIn _ o hk,hd⟩
  ·have z:∃ o,s.heap.get? p=some o∧o.ExactDict:=by
    rcases hk with ⟨kvs,hk⟩ | ⟨kvs,hk⟩
    ·obtain⟨_,_,_,_,o,_,_,e,ex,_⟩:=I.hok p _ hk
     exact⟨o,e,ex⟩
    ·obtain⟨_,_,_,_,o,_,_,e,ex,_⟩:=I.hok p _ hk
     exact⟨o,e,ex⟩
   obtain⟨o,e,ex⟩:=z
   refine⟨⟨o,e,ex.1⟩,fun a e2=>?_⟩
   cases e2
   exact⟨o,e,ex.2.1⟩
  ·obtain⟨o,_,_,_,e,ex,_⟩:=I.hok p _ hk
   refine⟨⟨o,e,ex.1⟩,fun a e2=>?_⟩
   cases e2
   exact⟨o,e,ex.2.1⟩
 | _=>exact False.elim ty
def Mw (K:PySem.W.Frag) (T:String) (r:V→List V→Hp→VK→Prop) (to:TE):TE:=fun σ H Q=>to σ H fun x H1=>tyV K T x H1∧r x [] H1 Q
def tBM (K:PySem.W.Frag) (T:String) (r:V→List V→Hp→VK→Prop) (to:TE) (t:TA):TE:=fun σ H Q=>to σ H fun x H1=>tyV K T x H1∧t σ H1 fun xs H2=>r x xs H2 Q
variable {o e:Expr} {es:List Expr} {to:TE} {t:TA} {name:Str} {apos cpos:Pos} {T id:String} {r:V→List V→Hp→VK→Prop}
theorem HN (pa:PlainAttrs T) (slot:Slot T name id) (hty:typeOf (.builtin id)=pure (.type "method_descriptor")) (hm:MtR X id r) (ho:PE X o to)
  (hbase:attributeBase o name X.env (eval o X.env)=eval o X.env:=by rfl) (hline:(apos.endLine == cpos.line)=true:=by rfl):PE X (.Call (.Attribute o name apos) [] [] cpos) (Mw X.K T r to):=by
 intro pins s σ H Q I h
 refine wpAny_Call_method0_late hbase hline (thn (ho pins s σ H _ I h) fun v s1 ⟨x,H1,I1,r1,ty,q1⟩=>?_)
 obtain⟨h1,h2⟩:=IG I1 r1 ty
 exact⟨T,id,pa,slot,hty,h1,h2,Calls.callWith_builtin rfl (PySem.evalArgs_none (hm pins s1 σ H1 x [] v [] Q I1 r1 .nil q1))⟩
theorem qE (pa:PlainAttrs T) (slot:Slot T name id) (hty:typeOf (.builtin id)=pure (.type "method_descriptor")) (hm:MtR X id r) (ho:PE X o to) (ha:PA X (e :: es) t)
  (hbase:attributeBase o name X.env (eval o X.env)=eval o X.env:=by rfl)
  (hfew:((backTo cpos (starEach (e :: es) X.env)).all (fun x=>!x.1) && (backToKw cpos (keywordEach [] X.env)).all (fun x=>x.1.isSome)
   && decide ((e :: es).length + ([]:List Keyword).length + (if ([]:List Keyword).isEmpty then 0 else 1) < 30))=true:=by rfl)
  (hline:(apos.endLine == cpos.line)=true:=by rfl) (hs:starEach (e :: es) X.env=(false,eval e X.env) :: starEach es X.env:=by rfl) (hplain:(backTo cpos (starEach es X.env)).any (·.1)=false:=by rfl) :
  PE X (.Call (.Attribute o name apos) (e :: es) [] cpos) (tBM X.K T r to t):=by
 intro pins s σ H Q I h
 refine wpAny_Call_method_late hbase hfew hline rfl (thn (ho pins s σ H _ I h) fun v s1 ⟨x,H1,I1,r1,ty,q1⟩=>?_)
 obtain⟨h1,h2⟩:=IG I1 r1 ty
 refine⟨T,id,pa,slot,hty,h1,h2,?_⟩
 have hA:=ha cpos pins s1 σ H1 _ I1 q1
 rw [hs] at hA ⊢
 refine Calls.callWith_builtin (by show (false || (backTo cpos (starEach es X.env)).any (·.1))=false; rw [hplain]<;>rfl) (Calls.evalArgs_plain ?_)
 exact thn hA fun us s2 ⟨vs,H2,I2,r2,q2⟩=>hm pins s2 σ H2 x vs v us Q I2 r1 r2 q2
end
end L2
namespace L2
open PySem PySem.Spec PyProof.Rows
def MtM (X:Cx) (id:String) (r:V→List V→Hp→VK→Prop):Prop :=
 ∀ (pins:List (Addr×Obj)) (s:Shared) (σ:St) (H:Hp) (x:V) (xs:List V) (v:Value) (us:List Value) (Q:VK),Inv X pins σ H s→RelV x v→Vals xs us→r x xs H Q →
  wpAny (model X.prog X.w) X.A (call (.builtin id) (v :: us)) (EP X pins σ Q) X.xe s
theorem Vals.one:∀ {x:V} {us:List Value},Vals [x] us→∃ u,us=[u]∧RelV x u
 | _,_,.cons r .nil=>⟨_,rfl,r⟩
theorem Vals.zero:∀ {us:List Value},Vals [] us→us=[]
 | _,.nil=>rfl
theorem Vals.dropLast {xs:List V} {us:List Value} (h:Vals xs us):Vals xs.dropLast us.dropLast:=by
 induction h with
 | nil=>exact .nil
 | cons r t ih =>
  cases t with
  | nil=>exact .nil
  | cons q t'=>exact .cons r ih
theorem Dn {α:Type} (l:List α):l.eraseIdx (l.length - 1)=l.dropLast:=by
 induction l with
 | nil=>rfl
 | cons a r ih =>
  cases r with
  | nil=>rfl
  | cons b r =>
   have e:(a :: b :: r).length - 1=((b :: r).length - 1) + 1:=by
    have h1:(a :: b :: r).length=r.length + 2:=rfl
    have h2:(b :: r).length=r.length + 1:=rfl
    omega
   rw [e,List.eraseIdx_cons_succ,ih]
   all_goals rfl
section
variable {X:Cx} {pins:List (Addr×Obj)} {σ:St} {H:Hp} {s:Shared} {l b:Addr} {xs ys zs:List V}
theorem Inv.Kz {its its':List Value} {n:Nat} {f:Array Value→Array Value} {t':Nat} (I:Inv X pins σ H s) (hH:H l=some (.lst xs))
  (e:s.heap.get? l=some { cls:=.type "list",data:=.seq its.toArray n }) (hf:f its.toArray=its'.toArray) (hv:Vals ys its') (hz:ys.length≤sizeLine) :
  Inv X pins σ (upd H l (.lst ys)) { s with heap:=s.heap.update l (Obj.mapSeq f),toks:=t' }:=by
 have q:=PySem.IsL.update e f
 rw [hf] at q
 refine I.write (x:=l) (e:=l) (by rw [hH]; exact trivial) (.inl rfl) (fun b' u hb hu=>(Heap.get?_update_other s.heap (Obj.mapSeq f) (Ne.symm hb)).trans hu) ⟨_,q⟩ ?_
 exact⟨hz,its',_,hv,q⟩
theorem Inv.Me {its:List Value} {t':Nat} (I:Inv X pins σ H s) (hv:Vals ys its) (hz:ys.length≤sizeLine) :
  Inv X pins σ (upd H s.heap.objs.size (.lst ys)) { s with heap:=s.heap.push { cls:=.type "list",data:=.seq its.toArray },toks:=t' } :=
 I.laid (fun _ _ q=>Heap.get?_push_of_some _ q) (Nat.le_refl _) ⟨hz,its,0,hv,Heap.get?_push_size _ rfl⟩
theorem Inv.fresh (I:Inv X pins σ H s):H s.heap.objs.size=none:=I.hok.fresh (Nat.le_refl _)
theorem Inv.FJ (I:Inv X pins σ H s) (hH:H l=some (.lst xs)):xs.length≤sizeLine∧∃ (its:List Value) (n:Nat),Vals xs its∧xs.length=its.length∧s.heap.get? l=some { cls:=.type "list",data:=.seq its.toArray n }:=by
 obtain⟨z,its,n,r,e⟩:=I.hok l _ hH
 exact⟨z,its,n,r,r.length,e⟩
theorem HH {n:Nat} (h:n≤sizeLine):Builtin.List.listTooLong n=false:=by
 unfold Builtin.List.listTooLong
 exact decide_eq_false (by omega)
end
section
variable {X:Cx}
def Ju:V→List V→Hp→VK→Prop:=fun x vs H Q=>∃ l xs y,x = .ref l∧vs=[y]∧H l=some (.lst xs)∧xs.length < sizeLine∧Q .non (upd H l (.lst (xs ++ [y])))
theorem fE:MtM X "list.append" Ju:=by
 intro pins s σ H x vs v us Q I rx rv h
 obtain⟨l,xs,y,rfl,rfl,hH,hz,q⟩:=h
 cases rx
 obtain⟨u,rfl,ru⟩:=rv.one
 obtain⟨z,its,n,r,hl,e⟩:=I.FJ hH
 refine call_meets F.slot_list_append ⟨_,e,rfl⟩ F.entry_list_append (F.args_list_append_2 _ _) (PySem.list_append l its.toArray n u (by rw [List.size_toArray]; omega)) ⟨e,?_⟩
 refine⟨.non,_,I.Kz (its':=its ++ [u]) hH e (by simp) (r.append (.cons ru .nil)) ?_,rfl,q⟩
 rw [List.length_append,List.length_singleton]
 omega
def Jv:V→List V→Hp→VK→Prop:=fun x vs H Q=>∃ l b xs zs,x = .ref l∧vs=[.ref b]∧H l=some (.lst xs)∧H b=some (.lst zs)∧xs.length + zs.length≤sizeLine∧Q .non (upd H l (.lst (xs ++ zs)))
theorem F0:MtM X "list.extend" Jv:=by
 intro pins s σ H x vs v us Q I rx rv h
 obtain⟨l,b,xs,zs,rfl,rfl,hH,hB,hz,q⟩:=h
 cases rx
 obtain⟨u,rfl,ru⟩:=rv.one
 cases ru
 obtain⟨z,its,n,r,hl,e⟩:=I.FJ hH
 obtain⟨z2,its2,n2,r2,hl2,e2⟩:=I.FJ hB
 have hsz:its.toArray.size + its2.toArray.size≤sizeLine:=by rw [List.size_toArray,List.size_toArray]; omega
 have hlong:¬ (!its.toArray.isEmpty && Builtin.List.listTooLong (its.toArray.size + its2.toArray.size))=true:=by
  rw [HH hsz,Bool.and_false]
  exact Bool.false_ne_true
 refine call_meets F.slot_list_extend ⟨_,e,rfl⟩ F.entry_list_extend (F.args_list_extend_2 _ _)
  (AutoSeq1.list_extend_list_list_0 l its.toArray n b its2.toArray n2 hlong (by rw [List.size_toArray]; omega) (by omega)) ⟨e,e2,?_⟩
 refine⟨.non,_,I.Kz (its':=its ++ its2) hH e (by simp) (r.append r2) ?_,rfl,q⟩
 rw [List.length_append]
 omega
def Mp:V→List V→Hp→VK→Prop:=fun x vs H Q=>∃ l xs y,x = .ref l∧vs=[]∧H l=some (.lst xs)∧xs[xs.length - 1]?=some y∧Q y (upd H l (.lst xs.dropLast))
theorem HC:MtM X "list.pop" Mp:=by
 intro pins s σ H x vs v us Q I rx rv h
 obtain⟨l,xs,y,rfl,rfl,hH,hy,q⟩:=h
 cases rx
 have hus:=rv.zero
 subst hus
 obtain⟨z,its,n,r,hl,e⟩:=I.FJ hH
 obtain⟨u,hu,ru⟩:=r.get hy
 have hy':its.toArray[its.toArray.size - 1]?=some u:=by
  show its.toArray[its.length - 1]?=some u
  rw [← Array.getElem?_toList,← hl]
  exact hu
 refine call_meets F.slot_list_pop ⟨_,e,rfl⟩ F.entry_list_pop (F.args_list_pop_1 _) (MeetsSeq.list_pop_last l its.toArray n u hy' (by rw [List.size_toArray]; omega)) ⟨e,?_⟩
 refine⟨y,_,I.Kz (its':=its.dropLast) hH e ?_ r.dropLast ?_,ru,q⟩
 ·show its.toArray.eraseIdxIfInBounds (its.toArray.size - 1)=its.dropLast.toArray
  rw [List.size_toArray,List.eraseIdxIfInBounds_toArray,Dn]
 ·rw [List.length_dropLast]
  omega
def Ml:R2:=fun x y H Q=>∃ l b xs zs,x = .ref l∧y = .ref b∧H l=some (.lst xs)∧H b=some (.lst zs)∧xs.length + zs.length≤sizeLine∧∀ p,H p=none→Q (.ref p) (upd H p (.lst (xs ++ zs)))
theorem uF:OpR X (binaryOp .Add) Ml:=by
 intro pins s σ H x y v u Q I rx ry h
 obtain⟨l,b,xs,zs,rfl,rfl,hH,hB,hz,q⟩:=h
 cases rx
 cases ry
 obtain⟨z,its,n,r,hl,e⟩:=I.FJ hH
 obtain⟨z2,its2,n2,r2,hl2,e2⟩:=I.FJ hB
 refine PySem.P.add_list e e2 ?_ (by rw [List.size_toArray,List.size_toArray]; omega)
 have ea:its.toArray ++ its2.toArray=(its ++ its2).toArray:=by simp
 rw [ea]
 exact⟨.ref _,_,I.Me (t':=s.toks) (r.append r2) (by rw [List.length_append]; omega),rfl,q _ I.fresh⟩
end
section
variable {prog:Program} {w:World} {A:Around} {E:Value→Shared→Prop} {s:Shared}
set_option maxRecDepth 100000 in
end
end L2
namespace L2
open PySem PySem.Spec PyProof.Rows
theorem Vals.ints:∀ {ns:List Int} {us:List Value},Vals (ns.map V.int) us→IntsAre us ns
 | [],us,h=>by
  rw [List.map_nil] at h
  cases h
  exact IntsAre.nil
 | n :: ns,us,h=>by
  rw [List.map_cons] at h
  cases h with
  | cons r t =>
   obtain⟨k,rfl⟩:=r
   exact IntsAre.cons n k (Vals.ints t)
theorem wa:∀ {us:List Value} {ns:List Int},IntsAre us ns→Vals (ns.map V.int) us
 | _,_,.nil=>by rw [List.map_nil]; exact Paired.nil
 | _,_,.cons n t h=>by rw [List.map_cons]; exact Paired.cons (show RelV (V.int n) (Value.int n t) from ⟨t,rfl⟩) (wa h)
theorem Vals.bls:∀ {bs:List Bool} {us:List Value},Vals (bs.map V.bl) us→us=bs.map Value.bool
 | [],us,h=>by
  rw [List.map_nil] at h
  cases h
  rfl
 | b :: bs,us,h=>by
  rw [List.map_cons] at h
  cases h with
  | cons r t =>
   cases r
   rw [Vals.bls t,List.map_cons]
theorem Vals.Bj {a:Addr} {us:List Value} (r:Vals [V.ref a] us):us=[Value.ref a]:=by
 cases r with
 | cons r t =>
  cases t
  cases r
  rfl
section
variable {prog:Program} {w:World} {A:Around} {E:Value→Shared→Prop} {s:Shared} {l:Addr} {its:List Value} {ns:List Int} {Q:Value→Shared→Prop}
theorem JQ (hh:A.handled=none) (hl:s.heap.IsList l its.toArray) (hi:IntsAre its ns)
  (h:∀ h' tk t',(∀ b o,s.heap.get? b=some o→h'.get? b=some o)→Q (.int ns.sum t') { s with heap:=h',toks:=tk }):wpAny (model prog w) A (call (.builtin "sum") [.ref l]) Q E s:=by
 obtain⟨xs,e⟩:=hi.allInts.items
 have hn:numsOf (intItems xs).toList=ns:=by rw [← e]; exact hi.numsOf
 rw [nums_intItems] at hn
 rw [e] at hl
 refine PySem.sum_intListG hh hl fun h' tk t' hk=>?_
 have:=h h' tk t' hk
 rw [preSum_eq,List.take_of_length_le (by simp),hn]; exact this
theorem Jg (hh:A.handled=none) (hl:s.heap.IsList l its.toArray) (hi:IntsAre its ns) (hne:0 < ns.length)
  (h:∀ h' tk M t',(∀ b o,s.heap.get? b=some o→h'.get? b=some o)→M∈ns→(∀ a,a∈ns→a≤M)→Q (.int M t') { s with heap:=h',toks:=tk }):wpAny (model prog w) A (call (.builtin "max") [.ref l]) Q E s:=by
 obtain⟨xs,e⟩:=hi.allInts.items
 have hn:numsOf (intItems xs).toList=ns:=by rw [← e]; exact hi.numsOf
 rw [nums_intItems] at hn
 subst hn
 rw [e] at hl
 have hsz:0 < xs.size:=by simpa using hne
 refine PySem.max_intList hh hl hsz fun v h' tk hv hk=>?_
 obtain⟨t,rfl⟩:=intItems_at hv
 obtain⟨h1,h2⟩:=argBest_gt (numAt xs) (xs.size - 1)
 refine h h' tk _ t hk ?_ fun a ha=>?_
 ·rw [numAt_eq]; exact PySem.getD_mem (by rw [List.length_map,Array.length_toList]; omega)
 ·obtain⟨j,hj,rfl⟩:=mem_getD ha
  rw [List.length_map,Array.length_toList] at hj
  rw [← numAt_eq]; exact h2 j (by omega)
theorem Jh (hh:A.handled=none) (hl:s.heap.IsList l its.toArray) (hi:IntsAre its ns) (hne:0 < ns.length)
  (h:∀ h' tk M t',(∀ b o,s.heap.get? b=some o→h'.get? b=some o)→M∈ns→(∀ a,a∈ns→M≤a)→Q (.int M t') { s with heap:=h',toks:=tk }):wpAny (model prog w) A (call (.builtin "min") [.ref l]) Q E s:=by
 obtain⟨xs,e⟩:=hi.allInts.items
 have hn:numsOf (intItems xs).toList=ns:=by rw [← e]; exact hi.numsOf
 rw [nums_intItems] at hn
 subst hn
 rw [e] at hl
 have hsz:0 < xs.size:=by simpa using hne
 refine PySem.min_intList hh hl hsz fun v h' tk hv hk=>?_
 obtain⟨t,rfl⟩:=intItems_at hv
 obtain⟨h1,h2⟩:=argBest_lt (numAt xs) (xs.size - 1)
 refine h h' tk _ t hk ?_ fun a ha=>?_
 ·rw [numAt_eq]; exact PySem.getD_mem (by rw [List.length_map,Array.length_toList]; omega)
 ·obtain⟨j,hj,rfl⟩:=mem_getD ha
  rw [List.length_map,Array.length_toList] at hj
  rw [← numAt_eq]; exact h2 j (by omega)
end
section
variable {X:Cx}
def Mr (K:PySem.W.Frag):List V→Hp→VK→Prop:=fun vs H Q=>∃ (a:Addr) (ns:List Int),vs=[V.ref a]∧SqL K H a (ns.map V.int)∧Q (.int ns.sum) H
def Mn (K:PySem.W.Frag):List V→Hp→VK→Prop:=fun vs H Q=>∃ (a:Addr) (ns:List Int),vs=[V.ref a]∧SqL K H a (ns.map V.int)∧0 < ns.length∧∀ m,m∈ns→(∀ y,y∈ns→y≤m)→Q (.int m) H
def Mo (K:PySem.W.Frag):List V→Hp→VK→Prop:=fun vs H Q=>∃ (a:Addr) (ns:List Int),vs=[V.ref a]∧SqL K H a (ns.map V.int)∧0 < ns.length∧∀ m,m∈ns→(∀ y,y∈ns→m≤y)→Q (.int m) H
theorem He (hc:X.calm=true):mC X (.builtin "sum") (Mr X.K):=by
 intro pins s σ H vs us Q I r h
 obtain⟨a,ns,rfl,hs,q⟩:=h
 obtain⟨its,rv,hl,_⟩:=I.list hs
 rw [Vals.Bj r]
 exact JQ (I.ok.hd hc) hl.isList rv.ints fun h' tk t' hk=>⟨.int _,H,I.kept hk,⟨_,rfl⟩,q⟩
theorem Hd (hc:X.calm=true):mC X (.builtin "max") (Mn X.K):=by
 intro pins s σ H vs us Q I r h
 obtain⟨a,ns,rfl,hs,hne,q⟩:=h
 obtain⟨its,rv,hl,_⟩:=I.list hs
 rw [Vals.Bj r]
 exact Jg (I.ok.hd hc) hl.isList rv.ints hne fun h' tk m t' hk h1 h2=>⟨.int _,H,I.kept hk,⟨_,rfl⟩,q m h1 h2⟩
theorem Kk (hc:X.calm=true):mC X (.builtin "min") (Mo X.K):=by
 intro pins s σ H vs us Q I r h
 obtain⟨a,ns,rfl,hs,hne,q⟩:=h
 obtain⟨its,rv,hl,_⟩:=I.list hs
 rw [Vals.Bj r]
 exact Jh (I.ok.hd hc) hl.isList rv.ints hne fun h' tk m t' hk h1 h2=>⟨.int _,H,I.kept hk,⟨_,rfl⟩,q m h1 h2⟩
def EY (K:PySem.W.Frag):List V→Hp→VK→Prop:=fun vs H Q=>∃ (a:Addr) (ns:List Int),vs=[V.ref a]∧SqL K H a (ns.map V.int)∧ns.length < 64 ∧
 ∀ (ns':List Int) (p:Addr),ns'.Perm ns→ns'.Pairwise (·≤·)→H p=none→Q (.ref p) (upd H p (.lst (ns'.map V.int)))
theorem JB {n:Nat} (h:n < 64):n≤sizeLine:=by rw [sizeLine_eq]; omega
theorem Fp:mC X (.builtin "sorted") (EY X.K):=by
 intro pins s σ H vs us Q I r h
 obtain⟨a,ns,rfl,hs,h64,q⟩:=h
 obtain⟨its,rv,hl,_⟩:=I.list hs
 rw [Vals.Bj r]
 have hi:=rv.ints
 refine PyProof.Rows.sorted_ints hl.isList hi (by rw [hi.length]; exact h64) fun out ns' h1 h2 h3=>?_
 obtain⟨ep,he'⟩:=PyProof.Rows.sortedAll_at s.heap its out
 have hlen:(ns'.map V.int).length≤sizeLine:=by rw [List.length_map,h2.length_eq]; exact JB h64
 exact⟨.ref _,upd H (s.heap.objs.size + 1) (.lst (ns'.map V.int)),I.laid (t':=s.toks) (fun _ _=>PyProof.Rows.sortedAll_old) (Nat.le_succ _) ⟨hlen,out.toList,ep,wa h1,he'⟩,rfl,q ns' _ h2 h3 (I.hok.fresh (Nat.le_succ _))⟩
end
theorem B1 {prog:Program} {w:World} {A:Around} {E:Value→Shared→Prop} {s:Shared} {l:Addr} {items:Array Value} {Q:Value→Shared→Prop} (hl:s.heap.IsList l items)
  (h:∀ s₂:Shared,s₂ = { s with heap:=s.heap.push { cls:=.type "list_iterator",data:=.fields #[.ref l,.int 0 0] } } →
   (s₂.heap.IsListIter s.heap.objs.size l 0∧s₂.heap.IsList l items)→l≠s.heap.objs.size→Q (.ref s.heap.objs.size) s₂):wpAny (model prog w) A (pyIter (.ref l)) Q E s:=by
 have hlt:l < s.heap.objs.size:=by obtain⟨_,e,_⟩:=hl; exact Heap.lt_size e
 exact wpAny_pyIter_list hl (h _ rfl ⟨⟨_,Heap.get?_push_size _ rfl,rfl,rfl⟩,hl.push _⟩ (Nat.ne_of_lt hlt))
theorem xw {prog:Program} {w:World} {A:Around} {bs:List Bool} {its:List Value} (e:its=bs.map Value.bool) :
  TruthOf prog w A (fun i v=>its.toArray[i]?=some v) (fun i=>bs.getD i false):=fun i v s Q E hv hq=>by
 have hv':its[i]?=some v:=by simpa using hv
 rw [e,List.getElem?_map] at hv'
 obtain⟨b,hb,rfl⟩:=Option.map_eq_some_iff.mp hv'
 have hg:bs.getD i false=b:=by rw [List.getD_eq_getElem?_getD,hb]<;>rfl
 have hq':Q (bs.getD i false) s:=hq
 rw [hg] at hq'
 exact wpAny_truthy_bool hq'
theorem any_range:∀ bs:List Bool,(List.range bs.length).any (fun i=>bs.getD i false)=bs.any id
 | []=>rfl
 | b :: bs=>by
  rw [List.length_cons,List.range_succ_eq_map,List.any_cons,List.any_map,List.any_cons,← any_range bs]
  all_goals rfl
theorem all_range:∀ bs:List Bool,(List.range bs.length).all (fun i=>bs.getD i false)=bs.all id
 | []=>rfl
 | b :: bs=>by
  rw [List.length_cons,List.range_succ_eq_map,List.all_cons,List.all_map,List.all_cons,← all_range bs]
  all_goals rfl
section
variable {X:Cx}
def Mj (K:PySem.W.Frag):List V→Hp→VK→Prop:=fun vs H Q=>∃ (a:Addr) (bs:List Bool),vs=[V.ref a]∧SqL K H a (bs.map V.bl)∧Q (.bl (bs.any id)) H
def Mi (K:PySem.W.Frag):List V→Hp→VK→Prop:=fun vs H Q=>∃ (a:Addr) (bs:List Bool),vs=[V.ref a]∧SqL K H a (bs.map V.bl)∧Q (.bl (bs.all id)) H
theorem Kj (hc:X.calm=true):mC X (.builtin "any") (Mj X.K):=by
 intro pins s σ H vs us Q I r h
 obtain⟨a,bs,rfl,hs,q⟩:=h
 obtain⟨its,rv,hl,_⟩:=I.list hs
 rw [Vals.Bj r]
 have hb:=rv.bls
 refine call_any_walk (B1 hl.isList fun s₂ e2 st hne=>?_)
 subst e2
 refine⟨_,_,_,_,_,_,_,rfl,Walks.list (A:=X.A.in1) (I.ok.hd hc) _ a hne its.toArray,st,xw hb,fun h' tk hk=>?_⟩
 refine⟨.bl _,H,I.kept fun b o eo=>hk b o (fun hmem=>?_) (Heap.get?_push_of_some _ eo),?_,q⟩
 ·rcases List.mem_cons.mp hmem with e1 | hmem
  ·exact absurd (e1 ▸ Heap.lt_size eo) (Nat.lt_irrefl _)
  ·cases hmem
 ·show Value.bool _=Value.bool _
  rw [← any_range,hb,List.size_toArray,List.length_map]
theorem Dk (hc:X.calm=true):mC X (.builtin "all") (Mi X.K):=by
 intro pins s σ H vs us Q I r h
 obtain⟨a,bs,rfl,hs,q⟩:=h
 obtain⟨its,rv,hl,_⟩:=I.list hs
 rw [Vals.Bj r]
 have hb:=rv.bls
 refine call_all_walk (B1 hl.isList fun s₂ e2 st hne=>?_)
 subst e2
 refine⟨_,_,_,_,_,_,_,rfl,Walks.list (A:=X.A.in1) (I.ok.hd hc) _ a hne its.toArray,st,xw hb,fun h' tk hk=>?_⟩
 refine⟨.bl _,H,I.kept fun b o eo=>hk b o (fun hmem=>?_) (Heap.get?_push_of_some _ eo),?_,q⟩
 ·rcases List.mem_cons.mp hmem with e1 | hmem
  ·exact absurd (e1 ▸ Heap.lt_size eo) (Nat.lt_irrefl _)
  ·cases hmem
 ·show Value.bool _=Value.bool _
  rw [← all_range,hb,List.size_toArray,List.length_map]
end
mutual
inductive Dp (K:PySem.W.Frag) (H:Hp):V→PyData→Prop
 | non:Dp K H .non .none
 | bl (b:Bool):Dp K H (.bl b) (.bool b)
 | int (i:Int):Dp K H (.int i) (.int i)
 | str (x:Str):Dp K H (.str x) (.str x)
 | lst {a:Addr} {xs:List V} {ds:List PyData}:SqL K H a xs→yh K H xs ds→Dp K H (.ref a) (.list ds)
 | tup {a:Addr} {xs:List V} {ds:List PyData}:SqT K H a xs→yh K H xs ds→Dp K H (.ref a) (.tuple ds)
inductive yh (K:PySem.W.Frag) (H:Hp):List V→List PyData→Prop
 | nil:yh K H [] []
 | cons {v:V} {vs:List V} {d:PyData} {ds:List PyData}:Dp K H v d→yh K H vs ds→yh K H (v :: vs) (d :: ds)
end
section
variable {X:Cx} {pins:List (Addr×Obj)} {σ:St} {H:Hp} {s:Shared}
mutual
theorem Dp.reads (I:Inv X pins σ H s):∀ (d:PyData) (v:V) (u:Value),Dp X.K H v d→RelV v u→∃ as,Reads s.heap u d as
 | .none,_,_,h,r=>by
  cases h
  cases r
  exact⟨_,Reads.none⟩
 | .bool b,_,_,h,r=>by
  cases h
  cases r
  exact⟨_,Reads.bool b⟩
 | .int i,_,_,h,r=>by
  cases h
  obtain⟨t,rfl⟩:=r
  exact⟨_,Reads.int i t⟩
 | .str x,_,_,h,r=>by
  cases h
  obtain⟨t,rfl⟩:=r
  exact⟨_,Reads.str x t⟩
 | .list ds,_,_,h,r=>by
  cases h with
  | lst hs ha =>
   cases r
   obtain⟨its,rv,⟨o,n,ho,hc,_,hd⟩,_⟩:=I.list hs
   obtain⟨as,hr⟩:=Dp.readsAll I ds _ its ha rv
   exact⟨_,Reads.list ho hc hd hr⟩
 | .tuple ds,_,_,h,r=>by
  cases h with
  | tup hs ha =>
   cases r
   obtain⟨its,rv,⟨o,ho,hc,n,hd⟩,_⟩:=I.tuple hs
   obtain⟨as,hr⟩:=Dp.readsAll I ds _ its ha rv
   exact⟨_,Reads.tuple ho hc hd hr⟩
 | .dict _,_,_,h,_=>by cases h
theorem Dp.readsAll (I:Inv X pins σ H s):∀ (ds:List PyData) (vs:List V) (us:List Value),yh X.K H vs ds→Vals vs us→∃ as,ReadsAll s.heap us ds as
 | [],_,_,h,r=>by
  cases h
  cases r
  exact⟨_,ReadsAll.nil⟩
 | d :: ds,_,_,h,r=>by
  cases h with
  | cons h1 h2 =>
   cases r with
   | cons r1 r2 =>
    obtain⟨as,q1⟩:=Dp.reads I d _ _ h1 r1
    obtain⟨bs,q2⟩:=Dp.readsAll I ds _ _ h2 r2
    exact⟨_,ReadsAll.cons q1 q2⟩
end
end
section
variable {X:Cx}
def LB (K:PySem.W.Frag):R2:=fun x y H Q=>∃ d e,Dp K H x d∧Dp K H y e∧SeqAt.shaped d=true∧SeqAt.shaped e=true∧Q (.bl (PyData.eqv d e)) H
theorem KJ (hu:X.A.units + 64 < cLine):OpR X (compareOp .Eq) (LB X.K):=by
 intro pins s σ H x y v u Q I rx ry h
 obtain⟨d,e,hd,he,sd,se,q⟩:=h
 obtain⟨as,r1⟩:=Dp.reads I d x v hd rx
 obtain⟨bs,r2⟩:=Dp.reads I e y u he ry
 exact SeqAt.compareEq_shaped r1 r2 sd se hu ⟨.bl _,H,I,rfl,q⟩
end
end L2
namespace L2
open PySem PySem.Spec PyProof.Rows
abbrev GV (h:Heap) (c:Addr) (v:Option Value):Prop:=h.IsCell c v
def Ms (scope sc:Scope):Scope :=
 { scope with names:=scope.names.map fun (n,k)=>if (k == .free && sc.kind == .function && sc.names.lookup n == some .cell) then (n,.cell) else (n,k) }
def cI (cells:List (Str×Addr)):List (Str×NameKind)→List (Str×Addr)→List (Str×Addr)
 | [],acc=>acc
 | (n,k) :: r,acc=>if k == .free then cI cells r ((n,(cells.lookup n).getD 0) :: acc) else cI cells r acc
theorem u5 (env:Env) (f:Str×NameKind→List (Str×Addr)→Sem (ForInStep (List (Str×Addr))))
  (hf:∀ n k c,f (n,k) c=if k == .free then (do let a ← cellOf env n; pure (.yield ((n,a) :: c))) else pure (.yield c)) :
  ∀ (names:List (Str×NameKind)) (acc:List (Str×Addr)),(∀ y∈names,y.2 = .free→∃ c,env.cells.lookup y.1=some c)→forIn names acc f=pure (cI env.cells names acc)
 | [],acc,_=>by rw [List.forIn_nil]; rfl
 | (n,k) :: r,acc,h=>by
  rw [List.forIn_cons,hf]
  have ih:=fun acc=>u5 env f hf r acc fun y hy=>h y (List.mem_cons_of_mem _ hy)
  unfold cI
  by_cases hk:(k == NameKind.free)=true
  ·rw [if_pos hk,if_pos hk]
   obtain⟨c,hc⟩:=h (n,k) List.mem_cons_self (by simpa using hk)
   have e:cellOf env n=pure c:=by unfold cellOf; rw [hc]
   rw [e]
   have e2:(env.cells.lookup n).getD 0=c:=by rw [hc]; rfl
   rw [e2]
   exact ih _
  ·rw [if_neg hk,if_neg hk]
   exact ih _
theorem Dj {scope:Scope} {env:Env} (h:∀ y∈scope.names,y.2 = .free→∃ c,env.cells.lookup y.1=some c):closureFor scope env=pure (cI env.cells scope.names []):=by
 simp only [closureFor]
 rw [u5 env _ (fun n k c=>rfl) scope.names [] h]
 rfl
theorem mem_lookup {α:Type}:∀ {l:List (Str×α)} {n:Str} {c:α},(n,c)∈l→∃ c',l.lookup n=some c'
 | (k,v) :: r,n,c,h=>by
  rw [List.lookup_cons]
  cases hb:n == k with
  | true=>exact⟨_,rfl⟩
  | false =>
   rcases List.mem_cons.mp h with e | h
   ·cases e; simp at hb
   ·exact mem_lookup h
theorem nU {cells:List (Str×Addr)}:∀ {names:List (Str×NameKind)} {acc:List (Str×Addr)} {n:Str} {c:Addr},(n,c)∈cI cells names acc→(n,c)∈acc∨((n,.free)∈names∧c=(cells.lookup n).getD 0)
 | [],_,_,_,h=>.inl h
 | (m,k) :: r,acc,n,c,h=>by
  unfold cI at h
  split at h
  ·rename_i hk
   have hk:k = .free:=by simpa using hk
   rcases nU h with h | ⟨h1,h2⟩
   ·rcases List.mem_cons.mp h with e | h
    ·cases e; exact .inr ⟨hk ▸ List.mem_cons_self,rfl⟩
    ·exact .inl h
   ·exact .inr ⟨List.mem_cons_of_mem _ h1,h2⟩
  ·rcases nU h with h | ⟨h1,h2⟩
   ·exact .inl h
   ·exact .inr ⟨List.mem_cons_of_mem _ h1,h2⟩
theorem qZ {cells:List (Str×Addr)}:∀ {names:List (Str×NameKind)} {acc:List (Str×Addr)} {p:Str×Addr},p∈acc→p∈cI cells names acc
 | [],_,_,h=>h
 | (m,k) :: r,acc,p,h=>by
  unfold cI
  split
  ·exact qZ (List.mem_cons_of_mem _ h)
  ·exact qZ h
theorem q5 {cells:List (Str×Addr)}:∀ {names:List (Str×NameKind)} {acc:List (Str×Addr)} {n:Str},(n,.free)∈names→(n,(cells.lookup n).getD 0)∈cI cells names acc
 | (m,k) :: r,acc,n,h=>by
  unfold cI
  rcases List.mem_cons.mp h with e | h
  ·cases e
   exact qZ List.mem_cons_self
  ·split
   ·exact q5 h
   ·exact q5 h
theorem pb:∀ {names:List (Str×NameKind)} {h:Heap} {acc:List (Str×Addr)} {x:Str} {c:Addr},(x,c)∈cellsFrom h.objs.size names acc →
  (x,c)∈acc∨((x,.cell)∈names∧h.objs.size≤c∧GV (pushCells h names) c none)
 | [],_,_,_,_,h=>.inl h
 | (n,k) :: r,h,acc,x,c,hm=>by
  unfold cellsFrom at hm
  unfold pushCells
  split at hm
  ·rename_i hk
   rw [if_pos hk]
   have hk:k = .cell:=by simpa using hk
   rw [← Heap.size_push h { cls:=.type "cell",data:=.cell none }] at hm
   rcases pb hm with hm | ⟨h1,h2,h3⟩
   ·rcases List.mem_cons.mp hm with e | hm
    ·cases e
     exact .inr ⟨hk ▸ List.mem_cons_self,Nat.le_refl _,_,pushCells_keeps r _ _ _ (Heap.get?_push_size _ rfl),rfl⟩
    ·exact .inl hm
   ·rw [Heap.size_push] at h2
    exact .inr ⟨List.mem_cons_of_mem _ h1,Nat.le_of_succ_le h2,h3⟩
  ·rename_i hk
   rw [if_neg hk]
   rcases pb hm with hm | ⟨h1,h2,h3⟩
   ·exact .inl hm
   ·exact .inr ⟨List.mem_cons_of_mem _ h1,h2,h3⟩
theorem sT:∀ {names:List (Str×NameKind)} {n:Nat} {acc:List (Str×Addr)} {p:Str×Addr},p∈acc→p∈cellsFrom n names acc
 | [],_,_,_,h=>h
 | (m,k) :: r,n,acc,p,h=>by
  unfold cellsFrom
  split
  ·exact sT (List.mem_cons_of_mem _ h)
  ·exact sT h
theorem wj:∀ {names:List (Str×NameKind)} {n:Nat} {acc:List (Str×Addr)} {x:Str},(x,.cell)∈names→∃ c,(x,c)∈cellsFrom n names acc
 | (m,k) :: r,n,acc,x,h=>by
  unfold cellsFrom
  rcases List.mem_cons.mp h with e | h
  ·cases e
   exact⟨n,sT List.mem_cons_self⟩
  ·split
   ·exact wj h
   ·exact wj h
theorem wk:∀ {names:List (Str×NameKind)} {h:Heap} {acc:List (Str×Addr)} {x y:Str} {c:Addr},(∀ p∈acc,p.2 < h.objs.size)→(∀ x y c,(x,c)∈acc→(y,c)∈acc→x=y) →
  (x,c)∈cellsFrom h.objs.size names acc→(y,c)∈cellsFrom h.objs.size names acc→x=y
 | [],_,_,_,_,_,_,hi,h1,h2=>hi _ _ _ h1 h2
 | (n,k) :: r,h,acc,x,y,c,hl,hi,h1,h2=>by
  unfold cellsFrom at h1 h2
  split at h1
  ·rename_i hk
   rw [if_pos hk] at h2
   rw [← Heap.size_push h { cls:=.type "cell",data:=.cell none }] at h1 h2
   refine wk (h:=h.push _) (fun p hp=>?_) (fun x y c a b=>?_) h1 h2
   ·rw [Heap.size_push]
    rcases List.mem_cons.mp hp with rfl | hp
    ·exact Nat.lt_succ_self _
    ·exact Nat.lt_succ_of_lt (hl p hp)
   ·rcases List.mem_cons.mp a with e | a<;>rcases List.mem_cons.mp b with e' | b
    ·cases e; cases e'; rfl
    ·cases e; exact absurd (hl _ b) (Nat.lt_irrefl _)
    ·cases e'; exact absurd (hl _ a) (Nat.lt_irrefl _)
    ·exact hi _ _ _ a b
  ·rename_i hk
   rw [if_neg hk] at h2
   exact wk hl hi h1 h2
theorem B9 {M:Model} {A:Around} {E:Value→Shared→Prop} {s:Shared} {scope:Scope} {globals:Addr} {closure:List (Str×Addr)} {qual:Str} {func:Option Addr} {code:Value} {around:Env} {builtins:Addr} {Q:Env→Shared→Prop}
  (h:Q (newEnv scope s.heap.objs.size globals (cellsFrom (s.heap.objs.size + 1) scope.names closure) qual func code (some around) builtins)
   { s with heap:=pushCells (s.heap.push { cls:=.type "dict",data:=.dict #[] }) scope.names }) :
  wpAny M A (newFunctionEnv scope globals closure [] qual func code (some around) builtins) Q E s:=by
 simp only [newFunctionEnv,Option.isSome_some,if_true]
 refine wpAny_bind (wpAny_alloc ?_)
 refine wpAny_bind (wpAny_layCells _ (fun n k c=>rfl) scope.names closure _ _ ?_)
 rw [show ({ s with heap:=s.heap.push { cls:=.type "dict",data:=.dict #[] } }:Shared).heap.objs.size=s.heap.objs.size + 1 from Heap.size_push ..]
 rw [List.forIn_nil]
 exact wpAny_bind (wpAny_pure (wpAny_pure h))
theorem rM {sc:Scope}:∀ {names:List (Str×NameKind)} {x:Str} {k:NameKind},
  (names.map fun (n,k)=>if (k == NameKind.free && sc.kind == .function && sc.names.lookup n == some .cell) then (n,NameKind.cell) else (n,k)).lookup x=some k →
  ∃ k',names.lookup x=some k'∧(k=k'∨(k' = .free∧k = .cell))
 | [],_,_,h=>by simp at h
 | (n,k₀) :: r,x,k,h=>by
  have ih:=@rM sc r x k
  have h':List.lookup x ((if (k₀ == NameKind.free && sc.kind == .function && sc.names.lookup n == some .cell)=true then (n,NameKind.cell) else (n,k₀)) :: (r.map _))=some k:=h
  cases hx:x == n with
  | true =>
   simp only [List.lookup_cons,hx]
   by_cases hc:(k₀ == NameKind.free && sc.kind == .function && sc.names.lookup n == some .cell)=true
   ·rw [if_pos hc] at h'
    simp only [List.lookup_cons,hx] at h'
    cases h'
    simp only [Bool.and_eq_true,beq_iff_eq] at hc
    exact⟨k₀,rfl,.inr ⟨hc.1.1,rfl⟩⟩
   ·rw [if_neg hc] at h'
    simp only [List.lookup_cons,hx] at h'
    cases h'
    exact⟨_,rfl,.inl rfl⟩
  | false =>
   simp only [List.lookup_cons,hx]
   by_cases hc:(k₀ == NameKind.free && sc.kind == .function && sc.names.lookup n == some .cell)=true
   ·rw [if_pos hc] at h'
    simp only [List.lookup_cons,hx] at h'
    exact ih h'
   ·rw [if_neg hc] at h'
    simp only [List.lookup_cons,hx] at h'
    exact ih h'
structure BC (N:List Str) (sc scope:Scope) (own:List (Str×Nat)):Prop where
 kind:scope.kind = .function
 uniq:∀ y∈scope.names,scope.names.lookup y.1=some y.2
 ix:∀ p∈own,N[p.2]?=some p.1
 free:∀ y∈scope.names,y.2 = .free→sc.names.lookup y.1=some .cell∨sc.names.lookup y.1=some .free
 own:∀ y∈scope.names,y.2 = .local∨y.2 = .cell→y.1∈own.map (·.1)∨y.1∉N
def wipe (σ:St):List Nat→St
 | []=>σ
 | v :: vs=>(wipe σ vs).set v none
theorem jW (σ:St):∀ vs:List Nat,(wipe σ vs).length=σ.length
 | []=>rfl
 | v :: vs=>by unfold wipe; rw [List.length_set,jW σ vs]
theorem xb {σ:St} {i:Nat} {x:V}:∀ {vs:List Nat},(wipe σ vs)[i]?=some (some x)→σ[i]?=some (some x)∧i∉vs
 | [],h=>⟨h,by simp⟩
 | v :: vs,h=>by
  unfold wipe at h
  by_cases hi:v=i
  ·subst hi
   by_cases hv:v < (wipe σ vs).length
   ·rw [List.getElem?_set_self hv] at h; cases h
   ·rw [List.getElem?_eq_none (by simpa using hv)] at h; cases h
  ·rw [List.getElem?_set_ne hi] at h
   obtain⟨h1,h2⟩:=xb h
   exact⟨h1,by simp only [List.mem_cons,not_or]; exact⟨fun e=>hi e.symm,h2⟩⟩
abbrev Cx.blk (X:Cx) (s:Shared) (H:Hp) (scope:Scope) (cenv:Env) (fp:List Addr):Cx:={ X with s_0:=s,H_0:=H,env:=cenv,outer:=X.stack,ex:=fp,fn:=fun x=>scope.names.lookup x == some .cell,pn:=[],xe:=fun _ _=>False }
section
variable {X:Cx} {pins:List (Addr×Obj)} {σ:St} {H:Hp} {s:Shared}
theorem BH {scope:Scope} {own:List (Str×Nat)} {fp:List Addr} (I:Inv X pins σ H s) (ok:BC X.N X.env.scope scope own) (hN:X.N.Nodup) (hfp:∀ b∈fp,xy X pins H b∧b < s.heap.objs.size) :
  Inv (X.blk s H scope (compEnvC scope (cellsFrom (s.heap.objs.size + 1) scope.names (cI X.env.cells scope.names [])) s.heap.objs.size X.env) fp) [] (wipe σ (own.map (·.2))) H { s with heap:=pushCells (s.heap.push { cls:=.type "dict",data:=.dict #[] }) scope.names }:=by
 have hfree:∀ y∈scope.names,y.2 = .free→∃ c,X.env.cells.lookup y.1=some c:=fun y hy e=>by
  rcases ok.free y hy e with k | k
  ·exact I.ok.has _ (.inl k)
  ·exact I.ok.has _ (.inr k)
 generalize hcenv:compEnvC scope (cellsFrom (s.heap.objs.size + 1) scope.names (cI X.env.cells scope.names [])) s.heap.objs.size X.env=cenv
 have kp:∀ b o,s.heap.get? b=some o→(pushCells (s.heap.push { cls:=.type "dict",data:=.dict #[] }) scope.names).get? b=some o:=fun b o e=>pushCells_keeps _ _ _ _ (Heap.get?_push_of_some _ e)
 have hL:cenv.locals=s.heap.objs.size:=by rw [← hcenv]; rfl
 have hcl:cenv.cells=cellsFrom (s.heap.objs.size + 1) scope.names (cI X.env.cells scope.names []):=by rw [← hcenv]; rfl
 have hsc:cenv.scope=Ms scope X.env.scope:=by rw [← hcenv]; rfl
 rw [← Heap.size_push s.heap { cls:=.type "dict",data:=.dict #[] }] at hcl
 have cm:∀ {y c},(y,c)∈cI X.env.cells scope.names []→X.env.cells.lookup y=some c∧c < s.heap.objs.size:=fun {y c} hm=>by
  rcases nU hm with hm | ⟨h1,rfl⟩
  ·cases hm
  ·obtain⟨c,hc⟩:=hfree _ h1 rfl
   rw [hc]
   obtain⟨w,z⟩:=I.cell _ _ hc
   exact⟨rfl,z.lt⟩
 have mem:∀ {y c},cenv.cells.lookup y=some c→(X.env.cells.lookup y=some c∧c < s.heap.objs.size)∨(s.heap.objs.size + 1≤c∧GV (pushCells (s.heap.push { cls:=.type "dict",data:=.dict #[] }) scope.names) c none):=fun {y c} e=>by
  rw [hcl] at e
  rcases pb (PySem.mem_of_lookup e) with hm | ⟨_,h2,h3⟩
  ·exact .inl (cm hm)
  ·rw [Heap.size_push] at h2; exact .inr ⟨h2,h3⟩
 have look:∀ {y},scope.names.lookup y=some .free→∃ c,cenv.cells.lookup y=some c∧X.env.cells.lookup y=some c:=fun {y} hl=>by
  have hy:(y,NameKind.free)∈scope.names:=PySem.mem_of_lookup hl
  obtain⟨c',e'⟩:=mem_lookup (sT (names:=scope.names) (n:=(s.heap.push { cls:=.type "dict",data:=.dict #[] }).objs.size) (q5 (cells:=X.env.cells) (acc:=[]) hy))
  rw [← hcl] at e'
  refine⟨c',e',?_⟩
  rw [hcl] at e'
  rcases pb (PySem.mem_of_lookup e') with hm | ⟨h1,_,_⟩
  ·exact (cm hm).1
  ·have:=ok.uniq _ h1
   rw [hl] at this; cases this
 have okB:(X.blk s H scope cenv fp).Ok:=by
  refine⟨I.ok.mod,by show cenv.scope.kind=_; rw [hsc]; exact ok.kind,by show cenv.globals=_; rw [← hcenv]; exact I.ok.glob,by show cenv.builtins=_; rw [← hcenv]; exact I.ok.blt,by show s.heap.objs.size≤cenv.locals; rw [hL]; exact Nat.le_refl _,
   fun y z c e1 e2=>?_,fun y hy=>?_,fun y c z e=>?_,I.ok.hd,I.ok.frames,.inl rfl,fun b hb=>⟨?_,fun y c e z=>?_⟩,I.bs,Nat.le_trans I.ok.bsz I.sz,fun b o e hb=>?_,fun b hb z=>?_,I.stack,I.yf⟩
  ·have e1:cenv.cells.lookup y=some c:=e1
   have e2:cenv.cells.lookup z=some c:=e2
   rw [hcl] at e1 e2
   refine wk (fun p hp=>?_) (fun y z c a b=>I.ok.inj y z c (cm a).1 (cm b).1) (PySem.mem_of_lookup e1) (PySem.mem_of_lookup e2)
   rw [Heap.size_push]
   exact Nat.lt_succ_of_lt (cm (y:=p.1) (c:=p.2) hp).2
  ·show ∃ c,cenv.cells.lookup y=some c
   have key:∀ k,cenv.kindOf y=some k→(k = .cell∨k = .free)→∃ c,cenv.cells.lookup y=some c:=fun k hk hk'=>by
    unfold Env.kindOf at hk
    rw [hsc] at hk
    obtain⟨k',e,r⟩:=rM hk
    have:k' = .cell∨k' = .free:=by
     rcases r with rfl | ⟨rfl,_⟩
     ·exact hk'
     ·exact .inr rfl
    rcases this with rfl | rfl
    ·obtain⟨c,hm⟩:=wj (n:=(s.heap.push { cls:=.type "dict",data:=.dict #[] }).objs.size) (acc:=cI X.env.cells scope.names []) (PySem.mem_of_lookup e)
     obtain⟨c',e'⟩:=mem_lookup hm
     exact⟨c',by rw [hcl]; exact e'⟩
    ·obtain⟨c,h1,_⟩:=look e
     exact⟨c,h1⟩
   rcases hy with hy | hy
   ·exact key _ hy (.inl rfl)
   ·exact key _ hy (.inr rfl)
  ·have z:(scope.names.lookup y == some NameKind.cell)=true:=z
   have z:scope.names.lookup y=some .cell:=by simpa using z
   have e:cenv.cells.lookup y=some c:=e
   rw [hcl] at e
   rcases pb (PySem.mem_of_lookup e) with hm | ⟨_,h2,_⟩
   ·rcases nU hm with hm | ⟨h1,_⟩
    ·cases hm
    ·have q:=ok.uniq _ h1
     rw [z] at q; cases q
   ·rw [Heap.size_push] at h2
    exact Nat.le_of_succ_le h2
  ·show b≠cenv.locals
   rw [hL]; exact Nat.ne_of_lt (hfp b hb).2
  ·have e:cenv.cells.lookup y=some c:=e
   rcases mem e with ⟨h1,_⟩ | ⟨h1,_⟩
   ·exact (hfp b hb).1.2.2.2.2.1 y c h1 z
   ·have h2:s.heap.objs.size + 1≤b:=by rw [← z]; exact h1
    exact absurd (Nat.lt_of_lt_of_le (hfp b hb).2 (Nat.le_of_succ_le h2)) (Nat.lt_irrefl _)
  ·rcases (hfp b hb).1.2.2.2.1 with z | z
   ·exact I.ok.HE b o e z
   ·exact absurd (Nat.lt_of_lt_of_le (Heap.lt_size e) (Nat.le_trans I.ok.bsz z)) (Nat.lt_irrefl _)
  ·rcases List.mem_cons.mp (I.D1 b z) with z | z
   ·exact (hfp b hb).1.2.1 z
   ·exact (hfp b hb).1.2.2.1 z
 refine⟨okB,rfl,I.bare,Un.kept kp,⟨fun _=>none,?_,fun i y av e1 e2 e3=>?_⟩,fun y c e=>?_,?_,fun y c e=>?_,fun p hp=>?_,I.hok.kept kp,by rw [jW]; exact I.len⟩
 ·show Heap.Ns _ cenv.locals _
  rw [hL]
  exact Heap.Ns.keeps (Heap.Ns.new ..) fun b o e=>pushCells_keeps _ _ _ _ e
 ·obtain⟨e2,hne⟩:=xb e2
  have hfr:scope.names.lookup y=some .free∧(cenv.kindOf y=some .cell∨cenv.kindOf y=some .free):=by
   have key:∀ k,cenv.scope.names.lookup y=some k→k = .local∨k = .cell∨k = .free→scope.names.lookup y=some .free∧(cenv.kindOf y=some .cell∨cenv.kindOf y=some .free):=fun k hk hk'=>by
    have hk0:=hk
    rw [hsc] at hk
    obtain⟨k',e,r⟩:=rM hk
    have no:¬ (k' = .local∨k' = .cell):=fun hh=>by
     rcases ok.own _ (PySem.mem_of_lookup e) hh with e' | e'
     ·obtain⟨p,hp,hpy⟩:=List.mem_map.mp e'
      have e3:=ok.ix p hp
      have:p.1=y:=hpy
      rw [this] at e3
      exact hne (List.mem_map.mpr ⟨p,hp,yP hN e3 e1⟩)
     ·exact e' (List.mem_of_getElem? e1)
    rcases r with rfl | ⟨rfl,rfl⟩
    ·rcases hk' with rfl | rfl | rfl
     ·exact absurd (.inl rfl) no
     ·exact absurd (.inr rfl) no
     ·exact⟨e,.inr hk0⟩
    ·exact⟨e,.inl hk0⟩
   have e3:Vis cenv.scope y:=e3
   rcases e3 with e3 | e3 | e3
   ·exact key _ e3 (.inl rfl)
   ·exact key _ e3 (.inr (.inl rfl))
   ·exact key _ e3 (.inr (.inr rfl))
  obtain⟨m,hn,hl⟩:=I.loc
  have hvis:Vis X.env.scope y:=(ok.free _ (PySem.mem_of_lookup hfr.1) rfl).elim (fun k=>.inr (.inl k)) (fun k=>.inr (.inr k))
  obtain⟨w,r,q⟩:=hl i y av e1 e2 hvis
  refine⟨w,r,.inr ⟨hfr.2,?_⟩⟩
  obtain⟨c,h1,h2⟩:=look hfr.1
  rcases q with ⟨k,_⟩ | ⟨_,c',e',z⟩
  ·have k:X.env.scope.names.lookup y=some .local:=k
   rcases ok.free _ (PySem.mem_of_lookup hfr.1) rfl with k' | k'<;>rw [show X.env.scope.names.lookup y=_ from k'] at k<;>cases k
  ·rw [h2] at e'; cases e'
   exact⟨c,h1,z.keeps kp⟩
 ·have e:cenv.cells.lookup y=some c:=e
  rcases mem e with ⟨h1,_⟩ | ⟨_,z⟩
  ·obtain⟨w,z⟩:=I.cell y c h1
   exact⟨w,z.keeps kp⟩
  ·exact⟨_,z⟩
 ·show H cenv.locals=none
  rw [hL]; exact I.hok.fresh (Nat.le_refl _)
 ·have e:cenv.cells.lookup y=some c:=e
  rcases mem e with ⟨h1,_⟩ | ⟨h1,_⟩
  ·exact I.jU y c h1
  ·exact I.hok.fresh (Nat.le_of_succ_le h1)
 ·exact absurd (show p∈([]:List (Addr×Obj)) ++ [] from hp) (by simp)
theorem Kg {E:Value→Shared→Prop} {D:Addr} {xs:List V} {y:V} {v:Value} {Q:Value→Shared→Prop} (I:Inv X pins σ H s) (hD:H D=some (.lst xs)) (hz:xs.length < sizeLine) (r:RelV y v)
  (h:∀ s',Inv X pins σ (upd H D (.lst (xs ++ [y]))) s'→Q .none s'):wpAny (model X.prog X.w) X.A (call (.builtin "list.append") [.ref D,v]) Q E s:=by
 obtain⟨hz',its,n,ri,e⟩:=I.hok D _ hD
 have hl:=ri.length
 refine append_at (hsz:=by rw [List.size_toArray]; omega) e fun h' sb ho'=>?_
 refine h { s with heap:=h' } (I.write (t':=s.toks) (by rw [hD]; trivial) (.inl rfl) (fun b u hb q=>(sb.2 b hb).trans q) ⟨_,ho'⟩ ⟨by rw [List.length_append]; exact hz,its ++ [v],n + 1,ri.append (.cons r .nil),?_⟩)
 rw [ho']
 simp
def PTs (X:Cx) (ifs:List Expr) (t:TT):Prop :=
 ∀ (pins:List (Addr×Obj)) (s:Shared) (σ:St) (H:Hp) (Q:Bool→Hp→Prop),Inv X pins σ H s→t σ H Q →
  wpAny (model X.prog X.w) X.A (forIn ifs true fun c r=>if r=true then do let ok ← isTrue c X.env (eval c X.env); pure (ForInStep.yield ok) else pure (ForInStep.yield r)) (TP X pins σ Q) X.xe s
def xP:TT:=fun _ H Q=>Q true H
theorem cw:PTs X [] xP:=fun _ _ _ H _ I h=>wpAny_tests_nil ⟨H,I,h⟩
theorem lK {c:Expr} {t:TT} (h:PT X c t):PTs X [c] t:=fun pins s σ H Q I hw=>wpAny_tests_one (h pins s σ H Q I hw)
end
theorem Gw {α:Type} {t:Sem α} {Q Q':α→Shared→Prop} {M:Model} {A:Around} {E:Value→Shared→Prop} {s:Shared} (h:wpAny M A t Q (fun _ _=>False) s) (hQ:∀ a s,Q a s→Q' a s):wpAny M A t Q' E s:=wpAny_mono h hQ fun _ _ z=>False.elim z
theorem AS {prog:Program} {w:World} {A:Around} {R:Result→Shared→Prop} {s:Shared} {elt target iter:Expr} {ifs:List Expr} {scope:Scope} {pos:Pos} {it acc:Value} {env:Env} (I:Nat→Shared→Prop)
  (turn:∀ n s,I n s→wpAny (model prog w) A (pyNext it) (fun r s₁=>match r with
   | none=>R (.ok .next) s₁
   | some v=>wpAny (model prog w) A (letOwnedTupleGo target it v) (fun _ s₁'=>wpAny (model prog w) A (assign target env v) (fun _ s₂ =>
     wpAny (model prog w) A (forIn ifs true fun c r=>if r=true then do let ok ← isTrue c env (eval c env); pure (ForInStep.yield ok) else pure (ForInStep.yield r)) (fun ok s₃ =>
      if ok=true then wpAny (model prog w) A (eval elt env) (fun x s₄ =>
       wpAny (model prog w) A (call (.builtin "list.append") [acc,x]) (fun _ s₅=>∃ m,m < n∧I m s₅) (notedBy (model prog w) A env fun e s'=>R (.error e) s') s₄) (notedBy (model prog w) A env fun e s'=>R (.error e) s') s₃
      else ∃ m,m < n∧I m s₃) (notedBy (model prog w) A env fun e s'=>R (.error e) s') s₂) (notedBy (model prog w) A env fun e s'=>R (.error e) s') s₁') (notedBy (model prog w) A env fun e s'=>R (.error e) s') s₁) (notedBy (model prog w) A env fun e s'=>R (.error e) s') s)
  (n:Nat) (h:I n s) :
  codeAny (model prog w) A (.compLoop (.ListComp elt [⟨target,iter,ifs,0⟩] scope pos) 0 it acc env) R s:=by
 refine codeAny_loop rfl I (fun n s hI=>?_) n h
 show wpAny _ A ((compTurn (.ListComp elt [⟨target,iter,ifs,0⟩] scope pos) 0 it acc env).onRaise (fun x=>do noteFrame x env; theTreesLotGoes x)) _ _ s
 refine wpAny_noted ?_
 rw [compTurn_list]
 refine wpAny_bind (wpAny_standAt (wpAny_bind (wpAny_mono (turn n s hI) (fun r s₁ h₁=>?_) fun _ _ h'=>h')))
 cases r with
 | none=>exact wpAny_pure h₁
 | some v =>
  refine wpAny_bind (wpAny_mono h₁ (fun _ s₁' h₁'=>?_) fun _ _ h'=>h')
  refine wpAny_bind (wpAny_mono h₁' (fun _ s₂ h₂=>wpAny_bind (wpAny_mono h₂ (fun ok s₃ h₃=>?_) fun _ _ h'=>h')) fun _ _ h'=>h')
  cases ok with
  | false=>exact wpAny_pure ⟨rfl,h₃⟩
  | true =>
   exact wpAny_bind (wpAny_bind (wpAny_mono h₃ (fun x s₄ h₄=>wpAny_bind (wpAny_mono h₄ (fun _ s₅ h₅=>wpAny_pure (wpAny_pure ⟨rfl,h₅⟩)) fun _ _ h'=>h')) fun _ _ h'=>h'))
section
variable {X:Cx}
def tLc (wi:TI) (g:TG) (tt:TT) (te:TE) (vs:List Nat):TE:=fun σ H Q=>wi σ H fun J H1=>∀ D,H1 D=none→∃ W:Nat→Nat→Hp→Prop,(∃ m,W 0 m (upd H1 D (.lst [])))∧∀ i m H,W i m H →
 (J.stop i H∧Q (.ref D) H)∨(J.go i H∧∃ Nx:Hp→Prop,(∀ H',Nx H'→∃ m',m' < m∧W (i + 1) m' H')∧∀ x H',J.yld i H x H'→g x (wipe σ vs) H' fun σ2 H2=>wipe σ2 vs=wipe σ vs∧tt σ2 H2 fun b H3 =>
  if b=true then te σ2 H3 fun y H4=>∃ acc,H4 D=some (.lst acc)∧acc.length < sizeLine∧Nx (upd H4 D (.lst (acc ++ [y]))) else Nx H3)
theorem EK {pins:List (Addr×Obj)} {s:Shared} {σ:St} {H:Hp} {Q:VK} {elt tg iter:Expr} {ifs:List Expr} {scope:Scope} {own:List (Str×Nat)} {pos pos':Pos} {wi:TI} {g:TG} {tt:TT} {te:TE} {use:Option (Value→Sem Unit)} {Qf:Value→Shared→Prop}
  (hc:X.calm=true) (hN:X.N.Nodup) (I:Inv X pins σ H s) (hi:PI X tg iter wi) (ok:BC X.N X.env.scope scope own)
  (hg:∀ (s:Shared) (H:Hp) (C:Addr) (cl:List (Str×Addr)) (fp:List Addr),PG (X.blk s H scope (compEnvC scope cl C X.env) fp) tg g) (ht:∀ (s:Shared) (H:Hp) (C:Addr) (cl:List (Str×Addr)) (fp:List Addr),PTs (X.blk s H scope (compEnvC scope cl C X.env) fp) ifs tt)
  (he:∀ (s:Shared) (H:Hp) (C:Addr) (cl:List (Str×Addr)) (fp:List Addr),PE (X.blk s H scope (compEnvC scope cl C X.env) fp) elt te) (hs:∀ x,foldedSetIterable iter X.env x=pure x)
  (h:tLc wi g tt te (own.map (·.2)) σ H Q)
  (hRR:∀ D C s' m H',Inv X pins σ H' s'→Q (.ref D) H'→s'.heap.Ns C m→xy X pins H' C→compPost (model X.prog X.w) X.A X.xe use Qf (.ref D) C (.ok .next) s') :
  wpAny (model X.prog X.w) X.A (comprehension (.ListComp elt [⟨tg,iter,ifs,0⟩] scope pos) scope X.env pos' (newList []) false (eval iter X.env) use) Qf X.xe s:=by
 have hfree:∀ y∈scope.names,y.2 = .free→∃ c,X.env.cells.lookup y.1=some c:=fun y hy e=>by
  rcases ok.free y hy e with k | k
  ·exact I.ok.has _ (.inl k)
  ·exact I.ok.has _ (.inr k)
 refine wpAny_comprehension_free (use:=use) rfl hs (Dj hfree) ok.kind (fun y hy e=>by rw [ok.uniq y hy,e])
  (thn (hi pins s σ H _ I h) fun xv s1 hx=>thn hx fun itv s2 h2=>?_)
 obtain⟨it,fp,tn,J,H2,e,I2,T,st2,f2,q⟩:=h2
 subst e
 refine wpAny_newObj_type (B9 ?_) (by show 0≤sizeLine; decide)
 generalize hD:s2.heap.objs.size=D
 have hDn:H2 D=none:=I2.hok.fresh (Nat.le_of_eq hD)
 obtain⟨W,⟨m0,w0⟩,turn⟩:=q D hDn
 generalize hs3:({ s2 with heap:=s2.heap.push { cls:=.type "list",data:=.seq ([]:List Value).toArray } }:Shared)=s3
 have I3:Inv X pins σ (upd H2 D (.lst [])) s3:=by
  rw [← hs3]
  refine I2.laid (t':=s2.toks) (fun b o e=>Heap.get?_push_of_some _ e) (Nat.le_of_eq hD) ⟨Nat.zero_le _,[],0,.nil,?_⟩
  rw [← hD]
  exact Heap.get?_push_size _ rfl
 have h3:s3.heap=s2.heap.push { cls:=.type "list",data:=.seq ([]:List Value).toArray }:=by rw [← hs3]
 have sz:∀ b∈fp,b < s2.heap.objs.size:=fun b hb=>by
  obtain⟨o,e,_⟩:=T.obj _ _ st2 b hb
  exact Heap.lt_size e
 have f3:∀ b∈fp,xy X pins (upd H2 D (.lst [])) b∧b < s3.heap.objs.size:=fun b hb=>by
  have hlt:=sz b hb
  refine⟨⟨?_,(f2 b hb).2⟩,by rw [h3,Heap.size_push]; exact Nat.lt_succ_of_lt hlt⟩
  rw [aj (by rw [← hD]; exact Nat.ne_of_lt hlt)]
  exact (f2 b hb).1
 have st3:tn 0 s3.heap:=T.keep _ _ _ st2 fun b _ o e=>by rw [h3]; exact Heap.get?_push_of_some _ e
 have I4:=BH I3 ok hN f3
 have pg:=hg s3 (upd H2 D (.lst [])) s3.heap.objs.size (cellsFrom (s3.heap.objs.size + 1) scope.names (cI X.env.cells scope.names [])) fp
 have pt:=ht s3 (upd H2 D (.lst [])) s3.heap.objs.size (cellsFrom (s3.heap.objs.size + 1) scope.names (cI X.env.cells scope.names [])) fp
 have pe:=he s3 (upd H2 D (.lst [])) s3.heap.objs.size (cellsFrom (s3.heap.objs.size + 1) scope.names (cI X.env.cells scope.names [])) fp
 show codeAny _ _ (.compStart (.ListComp elt [⟨tg,iter,ifs,0⟩] scope pos) 0 (.ref it) (.ref D) (compEnvC scope (cellsFrom (s3.heap.objs.size + 1) scope.names (cI X.env.cells scope.names [])) s3.heap.objs.size X.env)) (compPost (model X.prog X.w) X.A X.xe use Qf (.ref D) s3.heap.objs.size) { s3 with heap:=pushCells (s3.heap.push { cls:=.type "dict",data:=.dict #[] }) scope.names }
 have nfp:∀ b∈fp,(upd H2 D (.lst [])) b=none:=fun b hb=>(f3 b hb).1.1
 generalize hce:compEnvC scope (cellsFrom (s3.heap.objs.size + 1) scope.names (cI X.env.cells scope.names [])) s3.heap.objs.size X.env=ce at I4 pg pt pe ⊢
 have cL:ce.locals=s3.heap.objs.size:=by subst hce; rfl
 generalize hH3:upd H2 D (.lst [])=H3 at I3 I4 pg pt pe w0 nfp f3
 generalize hs4:({ s3 with heap:=pushCells (s3.heap.push { cls:=.type "dict",data:=.dict #[] }) scope.names }:Shared)=s4 at I4 ⊢
 have st4:tn 0 s4.heap:=T.keep _ _ _ st3 fun b _ o e=>by rw [← hs4]; exact pushCells_keeps _ _ _ _ (Heap.get?_push_of_some _ e)
 have stat:∀ {σ':St} {H':Hp} {s':Shared},Inv (X.blk s3 H3 scope ce fp) [] σ' H' s'→(∀ b∈fp,H' b=none)→∀ b∈fp,xy (X.blk s3 H3 scope ce fp) [] H' b:=fun {σ' H' s'} I' hn b hb =>
  ⟨hn b hb,(I'.ok.exf b hb).1,I'.ok.Fu b hb,.inl hb,fun x c e=>(I'.ok.exf b hb).2 x c e,fun p hp=>absurd (show p∈([]:List (Addr×Obj)) ++ [] from hp) (by simp)⟩
 have loop:codeAny (model X.prog X.w) X.A (.compLoop (.ListComp elt [⟨tg,iter,ifs,0⟩] scope pos) 0 (.ref it) (.ref D) ce) (compPost (model X.prog X.w) X.A X.xe use Qf (.ref D) s3.heap.objs.size) s4:=by
  refine AS (fun n s'=>∃ i H',Inv (X.blk s3 H3 scope ce fp) [] (wipe σ (own.map (·.2))) H' s'∧tn i s'.heap∧(∀ b∈fp,H' b=none)∧W i n H') ?_ m0 ⟨0,H3,I4,st4,nfp,w0⟩
  rintro n s5 ⟨i,H5,I5,st5,n5,w5⟩
  rcases turn i n H5 w5 with ⟨stop,qq⟩ | ⟨go,Nx,hNx,step⟩
  ·have td:=T.done (X.blk s3 H3 scope ce fp) rfl rfl rfl hc i [] s5 _ H5 (fun _ _=>False) I5 (stat I5 n5) st5 stop
   refine Gw td fun r s6 ⟨hr,I6⟩=>?_
   subst hr
   have I7:Inv X pins σ H5 s6:=I3.JX (ch:=fp) I6.os I6.base I6.hok I6.bare fun b hb=>⟨(f3 b hb).1.2.2.2.1,(f3 b hb).1.2.1,(f3 b hb).1.2.2.2.2.1,(f3 b hb).1.2.2.2.2.2⟩
   have nC:H5 s3.heap.objs.size=none:=by
    have z:H5 ce.locals=none:=I6.free
    rw [cL] at z
    exact z
   obtain⟨m,hn,_⟩:=I6.loc
   have hn:s6.heap.Ns ce.locals m:=hn
   rw [cL] at hn
   exact hRR D s3.heap.objs.size s6 m H5 I7 qq hn (I3.Hl (Nat.le_refl _) nC)
  ·have ti:=T.item (X.blk s3 H3 scope ce fp) rfl rfl rfl hc i [] s5 _ H5 (fun _ _=>False) I5 (stat I5 n5) st5 go
   refine Gw ti fun r s6 ⟨u,hr,h6⟩=>?_
   subst hr
   refine Gw h6 fun _ s7 ⟨x,H7,I7,r7,y7,st7,n7⟩=>?_
   have I7':=I7.pinned (stat I7 n7) (T.obj _ _ st7)
   refine Gw (pg _ s7 _ H7 x u _ I7' r7 (step x H7 y7)) fun _ s8 ⟨σ8,H8,I8,hw8,q8⟩=>?_
   refine Gw (pt _ s8 σ8 H8 _ I8 q8) fun b s9 ⟨H9,I9,q9⟩=>?_
   have fin:∀ {s':Shared} {H':Hp},Inv (X.blk s3 H3 scope ce fp) ([] ++ zj fp s7.heap) σ8 H' s'→Nx H'→∃ m,m < n∧∃ i H',Inv (X.blk s3 H3 scope ce fp) [] (wipe σ (own.map (·.2))) H' s'∧tn i s'.heap∧(∀ b∈fp,H' b=none)∧W i m H':=fun {s' H'} I' nx=>by
    obtain⟨m',hm,w'⟩:=hNx H' nx
    have pin':∀ b∈fp,∀ o,s7.heap.get? b=some o→s'.heap.get? b=some o∧H' b=none:=fun b hb o e =>
     let z:=I'.pin (b,o) (List.mem_append_right _ (List.mem_append_right _ (uu hb e)))
     ⟨z.1,z.2.1⟩
    have hl:(wipe σ (own.map (·.2))).length=σ8.length:=by rw [← hw8,jW]
    refine⟨m',hm,i + 1,H',(I'.vY (pins:=[])).weak hl (fun j v e=>?_),T.keep _ _ _ st7 fun b hb o e=>(pin' b hb o e).1,fun b hb=>?_,w'⟩
    ·rw [← hw8] at e
     exact (xb e).1
    ·obtain⟨o,e,_⟩:=T.obj _ _ st7 b hb
     exact (pin' b hb o e).2
   cases b with
   | false =>
    simp only [Bool.false_eq_true,if_false] at q9 ⊢
    exact fin I9 q9
   | true =>
    simp only [if_true] at q9 ⊢
    refine Gw (pe _ s9 σ8 H9 _ I9 q9) fun z s10 ⟨yv,H10,I10,r10,acc,hD10,hz10,nx⟩=>?_
    exact Kg (X:=X.blk s3 H3 scope ce fp) I10 hD10 hz10 r10 fun s11 I11=>fin I11 nx
 exact codeAny_compStart_list loop (T.self X.A 0 _ _ _ st4 loop)
theorem iA {elt tg iter:Expr} {ifs:List Expr} {scope:Scope} {own:List (Str×Nat)} {pos:Pos} {wi:TI} {g:TG} {tt:TT} {te:TE} (hc:X.calm=true) (hN:X.N.Nodup) (hi:PI X tg iter wi) (ok:BC X.N X.env.scope scope own)
  (hg:∀ (s:Shared) (H:Hp) (C:Addr) (cl:List (Str×Addr)) (fp:List Addr),PG (X.blk s H scope (compEnvC scope cl C X.env) fp) tg g) (ht:∀ (s:Shared) (H:Hp) (C:Addr) (cl:List (Str×Addr)) (fp:List Addr),PTs (X.blk s H scope (compEnvC scope cl C X.env) fp) ifs tt)
  (he:∀ (s:Shared) (H:Hp) (C:Addr) (cl:List (Str×Addr)) (fp:List Addr),PE (X.blk s H scope (compEnvC scope cl C X.env) fp) elt te) (hs:∀ x,foldedSetIterable iter X.env x=pure x:=by intro _; rfl) :
  PE X (.ListComp elt [⟨tg,iter,ifs,0⟩] scope pos) (tLc wi g tt te (own.map (·.2))):=by
 intro pins s σ H Q I h
 rw [eval_ListComp]
 refine EK hc hN I hi ok hg ht he hs h fun D C s' m H' I' q hn f=>⟨m,hn,fun h'' sb=>?_⟩
 obtain⟨f0,f1,f2,f3,f4,f5⟩:=f
 exact⟨.ref D,H',I'.turned (t':=s'.toks) (fun b o hb e=>(sb.2 b hb).trans e) f0 f1 f3 f4 f5,rfl,q⟩
theorem jr {i:Nat} {y:Str} {py:Pos} {elt tg iter:Expr} {ifs:List Expr} {scope:Scope} {own:List (Str×Nat)} {pos spos:Pos} {wi:TI} {g:TG} {tt:TT} {te:TE} (hc:X.calm=true) (hN:X.N.Nodup) (hy:X.N[i]?=some y) (hyl:X.env.scope.names.lookup y=some .local)
  (hsw:swapsWith (.ListComp elt [⟨tg,iter,ifs,0⟩] scope pos) (some (.Name y py)) spos.line X.env=pure true) (hi:PI X tg iter wi) (ok:BC X.N X.env.scope scope own)
  (hg:∀ (s:Shared) (H:Hp) (C:Addr) (cl:List (Str×Addr)) (fp:List Addr),PG (X.blk s H scope (compEnvC scope cl C X.env) fp) tg g) (ht:∀ (s:Shared) (H:Hp) (C:Addr) (cl:List (Str×Addr)) (fp:List Addr),PTs (X.blk s H scope (compEnvC scope cl C X.env) fp) ifs tt)
  (he:∀ (s:Shared) (H:Hp) (C:Addr) (cl:List (Str×Addr)) (fp:List Addr),PE (X.blk s H scope (compEnvC scope cl C X.env) fp) elt te) (hs:∀ x,foldedSetIterable iter X.env x=pure x:=by intro _; rfl) :
  PS X (.Assign [.Name y py] (.ListComp elt [⟨tg,iter,ifs,0⟩] scope pos) spos) (K3 (tLc wi g tt te (own.map (·.2))) (fM i)):=by
 intro pins s σ H D I h
 rw [exec_Assign_Name_used _ _ _ _ hsw]
 refine wpAny_bind (wpAny_standAt (wpAny_bind ?_))
 show wpAny _ X.A (do let _ ← comprehension (.ListComp elt [⟨tg,iter,ifs,0⟩] scope pos) scope X.env (firstIterPos [⟨tg,iter,ifs,0⟩] pos) (newList []) false (eval iter X.env) (some (assign (.Name y py) X.env))) _ _ s
 have h:tLc wi g tt te (own.map (·.2)) σ H (fun x H1=>fM i x σ H1 D.nx):=h
 refine wpAny_bind (thn (EK (Qf:=fun _ s'=>SP X pins D .next s') hc hN I hi ok hg ht he hs h fun L C s' m H' I' q hn f=>?_) fun _ s' hq=>wpAny_pure (wpAny_pure hq))
 show wpAny _ _ (assign (.Name y py) X.env (.ref L)) _ _ _
 refine wpAny_assign_Name (AE (v:=V.ref L) I' hN hy (.inl hyl) rfl (fun s2 I2 ⟨a,sb,ha⟩=>?_) (.inr hyl))
 obtain⟨f0,f1,f2,f3,f4,f5⟩:=f
 have haC:C≠a:=by
  rcases ha with z | z
  ·rw [z]; exact f1
  ·exact fun e=>f4 y a z e.symm
 refine⟨m,hn.sameBut sb haC,fun h3 sb3=>?_⟩
 exact⟨_,H',I2.turned (t':=s2.toks) (fun b o hb e=>(sb3.2 b hb).trans e) f0 f1 f3 f4 f5,q⟩
theorem lM {elt:Expr} {gs:List Comprehension} {scope:Scope} {pos py:Pos} {y:Str} {l:Nat} {env:Env} (hk:env.scope.kind = .function) (hy:env.scope.names.lookup y=some .local) (hl:(py.line == pos.line)=true)
  (ha:(scope.names.any fun (n,k)=>n == y && (k == .local || k == .cell))=false):swapsWith (.ListComp elt gs scope pos) (some (.Name y py)) l env=pure true:=by
 have ky:env.kindOf y=some .local:=hy
 have hb:env.blockKind = .function:=by unfold Env.blockKind; rw [hk]; rfl
 unfold swapsWith
 simp only [hb,ky,ha,Expr.pos,hl]
 rfl
end
theorem rH {lo:Int} {n:Nat} {g:TG} {tt:TT} {te:TE} {vs:List Nat} {σ:St} {H1:Hp} {D:Addr} {Qd:Hp→Prop} (Pv:Nat→Hp→Prop) (h0:Pv 0 (upd H1 D (.lst [])))
  (hs:∀ i H,i < n→Pv i H→g (.int (lo + i)) (wipe σ vs) H fun σ2 H2=>wipe σ2 vs=wipe σ vs∧tt σ2 H2 fun b H3 =>
   if b=true then te σ2 H3 fun y H4=>∃ acc,H4 D=some (.lst acc)∧acc.length < sizeLine∧Pv (i + 1) (upd H4 D (.lst (acc ++ [y]))) else Pv (i + 1) H3) (hd:∀ H,Pv n H→Qd H) :
  ∃ W:Nat→Nat→Hp→Prop,(∃ m,W 0 m (upd H1 D (.lst [])))∧∀ i m H,W i m H →
   ((
    Itr lo n).stop i H∧Qd H)∨((Itr lo n).go i H∧∃ Nx:Hp→Prop,(∀ H',Nx H'→∃ m',m' < m∧W (i + 1) m' H')∧∀ x H',(Itr lo n).yld i H x H'→g x (wipe σ vs) H' fun σ2 H2=>wipe σ2 vs=wipe σ vs∧tt σ2 H2 fun b H3 =>
    if b=true then te σ2 H3 fun y H4=>∃ acc,H4 D=some (.lst acc)∧acc.length < sizeLine∧Nx (upd H4 D (.lst (acc ++ [y]))) else Nx H3):=by
 refine⟨fun i m H=>m=n - i∧i≤n∧Pv i H,⟨n,by simp,Nat.zero_le _,h0⟩,?_⟩
 rintro i m H ⟨rfl,hi,p⟩
 by_cases hlt:i < n
 ·refine .inr ⟨hlt,Pv (i + 1),fun H' p'=>⟨n - (i + 1),by omega,rfl,hlt,p'⟩,fun x H' y=>?_⟩
  obtain⟨e,y⟩:=y
  subst e y
  exact hs i _ hlt p
 ·have e:i=n:=by omega
  subst e
  exact .inl ⟨Nat.le_refl _,hd H p⟩
theorem A6 {K:PySem.W.Frag} {a:Addr} {xs:List V} {g:TG} {tt:TT} {te:TE} {vs:List Nat} {σ:St} {H1:Hp} {D:Addr} {Qd:Hp→Prop} (Pv:Nat→Hp→Prop) (h0:Pv 0 (upd H1 D (.lst []))) (hl:∀ i H,i≤xs.length→Pv i H→SqL K H a xs)
  (hs:∀ i x H,xs[i]?=some x→Pv i H→g x (wipe σ vs) H fun σ2 H2=>wipe σ2 vs=wipe σ vs∧tt σ2 H2 fun b H3 =>
   if b=true then te σ2 H3 fun y H4=>∃ acc,H4 D=some (.lst acc)∧acc.length < sizeLine∧Pv (i + 1) (upd H4 D (.lst (acc ++ [y]))) else Pv (i + 1) H3) (hd:∀ H,Pv xs.length H→Qd H) :
  ∃ W:Nat→Nat→Hp→Prop,(∃ m,W 0 m (upd H1 D (.lst [])))∧∀ i m H,W i m H →
   ((
    Itl K a).stop i H∧Qd H)∨((Itl K a).go i H∧∃ Nx:Hp→Prop,(∀ H',Nx H'→∃ m',m' < m∧W (i + 1) m' H')∧∀ x H',(Itl K a).yld i H x H'→g x (wipe σ vs) H' fun σ2 H2=>wipe σ2 vs=wipe σ vs∧tt σ2 H2 fun b H3 =>
    if b=true then te σ2 H3 fun y H4=>∃ acc,H4 D=some (.lst acc)∧acc.length < sizeLine∧Nx (upd H4 D (.lst (acc ++ [y]))) else Nx H3):=by
 refine⟨fun i m H=>m=xs.length - i∧i≤xs.length∧Pv i H,⟨xs.length,by simp,Nat.zero_le _,h0⟩,?_⟩
 rintro i m H ⟨rfl,hi,p⟩
 have q:=hl i H hi p
 by_cases hlt:i < xs.length
 ·refine .inr ⟨⟨xs,xs[i],q,by simp [hlt]⟩,Pv (i + 1),fun H' p'=>⟨xs.length - (i + 1),by omega,rfl,hlt,p'⟩,fun x H' y=>?_⟩
  obtain⟨e,y⟩:=y
  subst e
  exact hs i x _ (y xs q) p
 ·have e:i=xs.length:=by omega
  subst e
  exact .inl ⟨⟨xs,q,Nat.le_refl _⟩,hd H p⟩
def Lm (N:List Str) (sc scope:Scope) (own:List (Str×Nat)):Bool :=
 (match scope.kind with | .function=>true | _=>false) && (scope.names.all fun y=>decide (scope.names.lookup y.1=some y.2)) && (own.all fun p=>decide (N[p.2]?=some p.1)) &&
  (scope.names.all fun y=>match y.2 with
   | .free=>(match sc.names.lookup y.1 with | some .cell=>true | some .free=>true | _=>false)
   | .local=>decide (y.1∈own.map (·.1)) || decide (y.1∉N)
   | .cell=>decide (y.1∈own.map (·.1)) || decide (y.1∉N)
   | _=>true)
theorem aR {N:List Str} {sc scope:Scope} {own:List (Str×Nat)} (h:Lm N sc scope own=true):BC N sc scope own:=by
 unfold Lm at h
 simp only [Bool.and_eq_true,List.all_eq_true,decide_eq_true_eq] at h
 obtain⟨⟨⟨h1,h2⟩,h3⟩,h4⟩:=h
 refine⟨?_,h2,h3,fun y hy e=>?_,fun y hy e=>?_⟩
 ·split at h1
  ·assumption
  ·cases h1
 ·have q:=h4 y hy
  simp only [e] at q
  split at q<;>first | exact .inl (by assumption) | exact .inr (by assumption) | cases q
 ·have q:=h4 y hy
  rcases e with e | e<;>(simp only [e,Bool.or_eq_true,decide_eq_true_eq] at q; exact q)
end L2
namespace L2
open PySem PySem.Spec PyProof.Rows
end L2
namespace L2
open PySem PySem.Spec PyProof.Rows
section
variable {κ:Type} [DecidableEq κ]
def vZ (kvs:List (κ×V)) (k:κ):Option V:=(kvs.find? fun kv=>decide (kv.1=k)).map (·.2)
def putK (kvs:List (κ×V)) (k:κ) (v:V):List (κ×V) :=
 if (kvs.any fun kv=>decide (kv.1=k))=true then kvs.map (fun kv=>if kv.1=k then (kv.1,v) else kv) else kvs ++ [(k,v)]
theorem v9 {p:κ×V} {r:List (κ×V)} {k:κ} (e:p.1=k):vZ (p :: r) k=some p.2:=by simp [vZ,List.find?_cons,e]
theorem sR {p:κ×V} {r:List (κ×V)} {k:κ} (e:¬ p.1=k):vZ (p :: r) k=vZ r k:=by simp [vZ,List.find?_cons,e]
theorem v8 (k:κ):∀ kvs:List (κ×V),(kvs.any fun kv=>decide (kv.1=k))=(vZ kvs k).isSome
 | []=>rfl
 | p :: r=>by
  rw [List.any_cons]
  by_cases e:p.1=k
  ·simp only [v9 e,decide_eq_true e,Bool.true_or,Option.isSome_some]
  ·rw [sR e,decide_eq_false e,Bool.false_or]; exact v8 k r
theorem rL (kvs:List (κ×V)) (k:κ) (v:V):(putK kvs k v).length≤kvs.length + 1:=by
 unfold putK
 split
 ·rw [List.length_map]; omega
 ·rw [List.length_append,List.length_cons,List.length_nil]; omega
theorem qM.wu {o:Option V} {u:Option Value} (r:qM o u):o.isSome=u.isSome:=by
 cases o with
 | none=>cases u with
  | none=>rfl
  | some _=>exact (show False from r).elim
 | some _=>cases u with
  | none=>exact (show False from r).elim
  | some _=>rfl
theorem KV.val {kvs:List (κ×V)} {vs:List (κ×Value)} (r:KV kvs vs) (k:κ):qM (vZ kvs k) (valueAt vs k):=by
 unfold KV at r
 induction r with
 | nil=>exact True.intro
 | @cons p q ps qs h t ih =>
  obtain⟨h1,h2⟩:=h
  by_cases e:p.1=k
  ·have e':q.1=k:=h1.symm.trans e
   have b:valueAt (q :: qs) k=some q.2:=by simp [valueAt,List.find?_cons,e']
   rw [v9 e,b]; exact h2
  ·have e':¬ q.1=k:=fun z=>e (h1.trans z)
   have b:valueAt (q :: qs) k=valueAt qs k:=by simp [valueAt,List.find?_cons,e']
   rw [sR e,b]; exact ih
theorem KV.any {kvs:List (κ×V)} {vs:List (κ×Value)} (r:KV kvs vs) (k:κ):(kvs.any fun kv=>decide (kv.1=k))=vs.any fun kv=>decide (kv.1=k):=by
 unfold KV at r
 induction r with
 | nil=>rfl
 | cons h t ih=>rw [List.any_cons,List.any_cons,ih,h.1]
theorem KV.KQ {kvs:List (κ×V)} {vs:List (κ×Value)} (r:KV kvs vs) (k:κ) {y:V} {u:Value} (ry:RelV y u) :
  KV (kvs.map fun kv=>if kv.1=k then (kv.1,y) else kv) (vs.map fun kv=>if kv.1=k then (kv.1,u) else kv):=by
 unfold KV at r ⊢
 induction r with
 | nil=>exact .nil
 | @cons p q ps qs h t ih =>
  rw [List.map_cons,List.map_cons]
  refine .cons ?_ ih
  obtain⟨h1,h2⟩:=h
  by_cases e:p.1=k
  ·rw [if_pos e,if_pos (h1.symm.trans e)]; exact⟨h1,ry⟩
  ·rw [if_neg e,if_neg (fun z=>e (h1.trans z))]; exact⟨h1,h2⟩
theorem KV.put {kvs:List (κ×V)} {vs:List (κ×Value)} (r:KV kvs vs) (k:κ) {y:V} {u:Value} (ry:RelV y u):KV (putK kvs k y) (stored vs k u):=by
 unfold putK stored
 rw [r.any k]
 by_cases e:(vs.any fun kv=>decide (kv.1=k))=true
 ·rw [if_pos e,if_pos e]; exact r.KQ k ry
 ·rw [if_neg e,if_neg e]; exact Paired.snoc r ⟨rfl,ry⟩
theorem KV.length {kvs:List (κ×V)} {vs:List (κ×Value)} (r:KV kvs vs):kvs.length=vs.length:=Paired.length r
end
theorem B3 {P:Program} {w:World} {k:Key} {u:Value} (r:RelV (kV k) u):(cz P w).is k u=true:=by
 cases k with
 | inl i=>obtain⟨t,e⟩:=(show ∃ t,u=Value.int i t from r); subst e; exact B7 P w i t
 | inr x=>obtain⟨t,e⟩:=(show ∃ t,u=Value.str x t from r); subst e; exact B8 P w x t
theorem Am {P:Program} {w:World}:∀ {ks:List Key} {us:List Value},Vals (ks.map kV) us→ItemsAre (cz P w) ks us
 | [],_,r=>by rw [List.map_nil] at r; cases r; exact .nil
 | k :: ks,_,r=>by
  rw [List.map_cons] at r
  cases r with
  | cons h t=>exact .cons (B3 h) (Am t)
abbrev KT (H:Hp):List (List Key×V)→List (List Key×Addr×Value)→Prop:=Paired fun p q=>p.1=q.1∧H q.2.1=some (.tup (p.1.map kV))∧RelV p.2 q.2.2
theorem KT.val {H:Hp} {kvs:List (List Key×V)} {xs:List (List Key×Addr×Value)} (r:KT H kvs xs) (k:List Key):qM (vZ kvs k) ((atKey xs k).map (·.2)):=by
 induction r with
 | nil=>exact True.intro
 | @cons p q ps qs h t ih =>
  obtain⟨h1,_,h2⟩:=h
  by_cases e:p.1=k
  ·have e':q.1=k:=h1.symm.trans e
   have b:atKey (q :: qs) k=some q.2:=by simp [atKey,List.find?_cons,e']
   rw [v9 e,b]; exact h2
  ·have e':¬ q.1=k:=fun z=>e (h1.trans z)
   have b:atKey (q :: qs) k=atKey qs k:=by simp [atKey,List.find?_cons,e']
   rw [sR e,b]; exact ih
theorem KT.KQ {H:Hp} {kvs:List (List Key×V)} {xs:List (List Key×Addr×Value)} (r:KT H kvs xs) (k:List Key) {y:V} {u:Value} (ry:RelV y u) :
  KT H (kvs.map fun kv=>if kv.1=k then (kv.1,y) else kv) (xs.map (putAt k u)):=by
 induction r with
 | nil=>exact .nil
 | @cons p q ps qs h t ih =>
  rw [List.map_cons,List.map_cons]
  refine .cons ?_ ih
  obtain⟨h1,h2,h3⟩:=h
  unfold putAt
  by_cases e:p.1=k
  ·rw [if_pos e,if_pos (h1.symm.trans e)]; exact⟨h1,h2,ry⟩
  ·rw [if_neg e,if_neg (fun z=>e (h1.trans z))]; exact⟨h1,h2,h3⟩
theorem KT.put {H:Hp} {kvs:List (List Key×V)} {xs:List (List Key×Addr×Value)} (r:KT H kvs xs) (k:List Key) {b:Addr} {y:V} {u:Value} (hb:H b=some (.tup (k.map kV))) (ry:RelV y u) :
  KT H (putK kvs k y) (storedH xs k b u):=by
 have e:(kvs.any fun kv=>decide (kv.1=k))=(atKey xs k).isSome:=by
  rw [v8,(r.val k).wu,Option.isSome_map]
 unfold putK storedH
 rw [e]
 by_cases q:(atKey xs k).isSome=true
 ·rw [if_pos q,if_pos q]; exact r.KQ k ry
 ·rw [if_neg q,if_neg q]; exact Paired.snoc r ⟨rfl,hb,ry⟩
theorem KT.keeps {H H':Hp} {kvs:List (List Key×V)} {xs:List (List Key×Addr×Value)} (r:KT H kvs xs) (ht:∀ b ys,H b=some (.tup ys)→H' b=some (.tup ys)):KT H' kvs xs :=
 Paired.KD r fun _ _ z=>⟨z.1,ht _ _ z.2.1,z.2.2⟩
section
variable {P:Program} {w:World} {H:Hp} {h:Heap} {a:Addr}
theorem J4 {u:HO} (ok:HOk P w H h) (e:Rd H a u):c8 P w H h a u:=e.ok ok
theorem BP {kvs:List (Key×V)} (ok:HOk P w H h) (e:Rd H a (.dK kvs)):kvs.length≤sizeLine∧(a == sysModules)=false∧∃ vs,KV kvs vs∧h.DictOf (cz P w) a vs :=
 show c8 P w H h a (.dK kvs) from J4 ok e
theorem JZ {kvs:List (Key×V)} (ok:HOk P w H h) (e:H a=some (.dK kvs)):kvs.length≤sizeLine∧(a == sysModules)=false∧∃ vs,KV kvs vs∧h.DictOf (cz P w) a vs:=BP ok (.inl e)
theorem A4 {ks:List Key} (ok:HOk P w H h) (e:H a=some (.tup (ks.map kV))):(tupleKind (cz P w)).is h ks a:=by
 obtain⟨_,its,r,o,h1,h2,n,h3⟩:=(show c8 P w H h a (.tup (ks.map kV)) from ok a _ e)
 exact⟨o,its.toArray,n,h1,h2,h3,by simpa using Am r⟩
theorem EB {kvs:List (List Key×V)} (ok:HOk P w H h) (e:Rd H a (.dT kvs)):kvs.length≤sizeLine∧(a == sysModules)=false ∧
  ∃ xs,KT H kvs xs∧h.DictOfH (tupleKind (cz P w)) a xs:=by
 obtain⟨z,y,xs,r,o,es,ep,h1,h2,h3,h4,h5⟩:=(show c8 P w H h a (.dT kvs) from J4 ok e)
 refine⟨z,y,xs,r,o,es,ep,h1,h2,h3,h4,fun x hx=>?_,h5⟩
 have all:∀ {l:List (List Key×V)} {m:List (List Key×Addr×Value)},KT H l m→∀ x∈m,(tupleKind (cz P w)).is h x.1 x.2.1:=by
  intro l m q
  induction q with
  | nil=>intro x hx; exact nomatch hx
  | @cons p q ps qs hq t ih =>
   intro x hx
   rcases List.mem_cons.mp hx with e | hx
   ·subst e
    exact A4 ok (by rw [← hq.1]; exact hq.2.1)
   ·exact ih x hx
 exact all r x hx
theorem Lq {kvs:List (List Key×V)} (ok:HOk P w H h) (e:H a=some (.dT kvs)):kvs.length≤sizeLine∧(a == sysModules)=false ∧
  ∃ xs,KT H kvs xs∧h.DictOfH (tupleKind (cz P w)) a xs:=EB ok (.inl e)
end
def E6 (H:Hp) (a:Addr) (y:V) (r:Option V):Prop :=
 (∃ kvs k,Rd H a (.dK kvs)∧y=kV k∧r=vZ kvs k)∨∃ kvs k b,Rd H a (.dT kvs)∧y = .ref b∧H b=some (.tup (k.map kV))∧r=vZ kvs k
def zH (H:Hp) (a:Addr) (y v:V) (H':Hp):Prop :=
 (∃ kvs k,H a=some (.dK kvs)∧y=kV k∧kvs.length < sizeLine∧H'=upd H a (.dK (putK kvs k v))) ∨
 ∃ kvs k b,H a=some (.dT kvs)∧y = .ref b∧H b=some (.tup (k.map kV))∧kvs.length < sizeLine∧H'=upd H a (.dT (putK kvs k v))
theorem zH.k {H:Hp} {a:Addr} {kvs:List (Key×V)} {k:Key} {v:V} (e:H a=some (.dK kvs)) (hl:kvs.length < sizeLine):zH H a (kV k) v (upd H a (.dK (putK kvs k v))):=.inl ⟨kvs,k,e,rfl,hl,rfl⟩
section
variable {X:Cx} {pins:List (Addr×Obj)} {σ:St} {H:Hp} {s:Shared} {a:Addr} {y v:V} {u r:Value} {o:Option V} {A:Around} {E:Value→Shared→Prop}
theorem Inv.big (I:Inv X pins σ H s):sysModules < s.heap.objs.size:=by
 have h:mainGlobals < s.heap.objs.size:=(I.mod.glob.keeps I.bk).lt
 exact Nat.lt_trans (by decide) h
theorem Fq {Q:Value→Shared→Prop} (hu:A.units + 1 < cLine) (I:Inv X pins σ H s) (g:E6 H a y (some v)) (ry:RelV y u) (h:∀ w' s',Inv X pins σ H s'→RelV v w'→Q w' s') :
  wpAny (model X.prog X.w) A (getItem (.ref a) u) Q E s:=by
 rcases g with ⟨kvs,k,e,ey,l⟩ | ⟨kvs,k,b,e,ey,eb,l⟩
 ·subst ey
  obtain⟨z,hd,vs,rel,dd⟩:=BP I.hok e
  obtain⟨w',hw,rw'⟩:=qM.some_of (v:=v) (o:=valueAt vs k) (by rw [l]; exact rel.val k)
  exact wpAny_getItem_of (B3 ry) dd.mapOf hw (h w' _ (I.tok _) rw')
 ·subst ey
  cases (show u=Value.ref b from ry)
  obtain⟨z,hd,xs,rel,dd⟩:=EB I.hok e
  obtain⟨w',hw,rw'⟩:=qM.some_of (v:=v) (o:=(atKey xs k).map (·.2)) (by rw [l]; exact rel.val k)
  obtain⟨p,hp,hp2⟩:=Option.map_eq_some_iff.mp hw
  refine wpAny_getItem_heap (tupleKind_room_in1 hu) (A4 I.hok eb) dd hp ?_
  rw [hp2]
  exact h w' _ (I.tok _) rw'
theorem IS {Q:Value→Shared→Prop} (hu:A.units + 1 < cLine) (I:Inv X pins σ H s) (g:E6 H a y o) (ry:RelV y u) (h:∀ s',Inv X pins σ H s'→Q (.bool (!o.isSome)) s') :
  wpAny (model X.prog X.w) A (compareOp .NotIn u (.ref a)) Q E s:=by
 rcases g with ⟨kvs,k,e,ey,l⟩ | ⟨kvs,k,b,e,ey,eb,l⟩
 ·subst ey
  obtain⟨z,hd,vs,rel,dd⟩:=BP I.hok e
  refine wpAny_notIn_of (B3 ry) hd dd.mapOf ?_
  rw [← (rel.val k).wu,← l]
  exact h _ (I.tok _)
 ·subst ey
  cases (show u=Value.ref b from ry)
  obtain⟨z,hd,xs,rel,dd⟩:=EB I.hok e
  refine wpAny_notIn_heap (tupleKind_room_in1 hu) (A4 I.hok eb) hd dd ?_
  have q:=(rel.val k).wu
  rw [Option.isSome_map] at q
  rw [← q,← l]
  exact h _ (I.tok _)
theorem AW {h':Heap} {t':Nat} {ob:HO} (I:Inv X pins σ H s) (mu:Mut (H a)) (hs:Heap.SameBut a s.heap h') (he:∃ q,h'.get? a=some q) (new:c8 X.prog X.w (upd H a ob) h' a ob) :
  Inv X pins σ (upd H a ob) { s with heap:=h',toks:=t' } :=
 I.write (x:=a) (e:=a) mu (.inl rfl) (fun b q hb z=>(hs.2 b hb).trans z) he new
theorem rq {P:Program} {w:World} {H':Hp} {h':Heap} {kvs:List (Key×V)} {vs:List (Key×Value)} (z:kvs.length≤sizeLine) (hd:(a == sysModules)=false) (rel:KV kvs vs) (dd:h'.DictOf (cz P w) a vs) :
  c8 P w H' h' a (.dK kvs):=⟨z,hd,vs,rel,dd⟩
theorem Fs {H':Hp} {Q:Unit→Shared→Prop} (hu:A.units + 1 < cLine) (I:Inv X pins σ H s) (g:zH H a y v H') (ry:RelV y u) (rv:RelV v r) (h:∀ s',Inv X pins σ H' s'→Q () s') :
  wpAny (model X.prog X.w) A (setItem (.ref a) u r) Q E s:=by
 rcases g with ⟨kvs,k,e,ey,l,eH⟩ | ⟨kvs,k,b,e,ey,eb,l,eH⟩
 ·subst ey eH
  obtain⟨z,hd,vs,rel,dd⟩:=JZ I.hok e
  have hz:vs.length≤sizeLine:=by rw [← rel.length]; exact z
  have hl:(putK kvs k v).length≤sizeLine:=by have:=rL kvs k v; omega
  refine wpAny_setItem_pairs (hsz:=hz) (B3 ry) dd fun h' dd' hs=>h _ ?_
  have he:∃ q,h'.get? a=some q:=let ⟨q,_,_,hq,_⟩:=dd'; ⟨q,hq⟩
  exact AW I (by rw [e]; exact True.intro) hs he (rq hl hd (rel.put k rv) dd')
 ·subst ey eH
  cases (show u=Value.ref b from ry)
  obtain⟨z,hd,xs,rel,dd⟩:=Lq I.hok e
  have hz:xs.length≤sizeLine:=by rw [← Paired.length rel]; exact z
  have hl:(putK kvs k v).length≤sizeLine:=by have:=rL kvs k v; omega
  refine wpAny_setItem_heap (hsz:=hz) (tupleKind_room_in1 hu) (A4 I.hok eb) dd fun h' dd' hs=>h _ ?_
  obtain⟨q,es,ep,hq,h2,h3,h4,_,h5⟩:=dd'
  refine AW I (by rw [e]; exact True.intro) hs ⟨q,hq⟩ ⟨hl,hd,_,(rel.put k eb rv).keeps fun c ys ec=>?_,q,es,ep,hq,h2,h3,h4,h5⟩
  rw [aj (hW ec e (fun z=>nomatch z))]
  exact ec
end
section
variable {X:Cx} {pins:List (Addr×Obj)} {σ:St} {H:Hp} {s:Shared} {a:Addr} {kvs:List (Key×V)} {k:Key} {u:Value} {A:Around} {E:Value→Shared→Prop}
theorem Ln {Q:Value→Shared→Prop} (I:Inv X pins σ H s) (e:Rd H a (.dK kvs)) (h:∀ t s',Inv X pins σ H s'→Q (.int kvs.length t) s'):wpAny (model X.prog X.w) A (call (.builtin "len") [.ref a]) Q E s:=by
 obtain⟨z,hd,vs,rel,dd⟩:=BP I.hok e
 refine call_len_dict hd dd (by rw [← rel.length]; rw [sizeLine_eq] at z; omega) ?_
 rw [← rel.length]
 exact h _ _ (I.tok _)
end
def Kd (i:Expr):Prop:=∀ ov iv,subscripted i false ov iv=operate [ov,iv] (getItem ov iv)
theorem E2 {prog:Program} {w:World} {A:Around} {E:Value→Shared→Prop} {s:Shared} {env:Env} {value slice:Expr} {pos:Pos} {T id:String} {Q:Value→Shared→Prop}
  (hl:typeLookup (.type T) "__getitem__" = pure (some (.builtin id))) (hs:Kd slice)
  (h:wpAny (model prog w) A (eval value env) (fun o s₁=>wpAny (model prog w) A (eval slice env) (fun i s₂=>s₂.TypeIs o T∧wpAny (model prog w) A (getItem o i) Q E s₂) E s₁) E s) :
  wpAny (model prog w) A (eval (.Subscript value slice pos) env) Q E s:=by
 refine Subscript_ (wpAny_mono h (fun o s₁ h₁=>wpAny_mono h₁ (fun i s₂ h₂=>?_) fun _ _ x=>x) fun _ _ x=>x)
 obtain⟨hT,h₂⟩:=h₂
 unfold subscriptTail
 refine wpAny_bind ?_
 rw [getitemInPython_of_ne hT.not_modules]
 refine wpAny_bind (wpAny_specialOf hT hl ?_)
 have fin:wpAny (model prog w) A (subscripted slice false o i) (fun r s₃=>wpAny (model prog w) A (letTemporaryGo value o r >>= fun _=>pure r) Q E s₃) E s₂:=by
  rw [hs o i]
  exact wpAny_operating (wpAny_mono h₂ (fun r s₃ h₃=>wpAny_bind (wpAny_letTemporaryGo (wpAny_pure h₃))) fun _ _ x=>x)
 first
  | exact wpAny_pure (wpAny_bind fin)
  | exact wpAny_bind (wpAny_pure (wpAny_bind fin))
  | exact wpAny_bind fin
theorem BN {X:Cx} {pins:List (Addr×Obj)} {σ:St} {H:Hp} {s:Shared} {a:Addr} {y:V} {o:Option V} (I:Inv X pins σ H s) (g:E6 H a y o):s.TypeIs (.ref a) "dict":=by
 rcases g with ⟨kvs,k,e,_,_⟩ | ⟨kvs,k,b,e,_,_,_⟩
 ·obtain⟨_,_,vs,_,dd⟩:=BP I.hok e
  exact dd.typeIs
 ·obtain⟨_,_,xs,_,dd⟩:=EB I.hok e
  exact dd.typeIs
def LO (td ty:TE):TE:=fun σ H Q=>td σ H fun x H1=>ty σ H1 fun y H2=>∃ a v,x = .ref a∧E6 H2 a y (some v)∧Q v H2
def JR (ty td:TE):TE:=fun σ H Q=>ty σ H fun y H1=>td σ H1 fun x H2=>∃ a o,x = .ref a∧E6 H2 a y o∧Q (.bl (!o.isSome)) H2
def LH (td ty tv:TE):TS:=fun D σ H=>tv σ H fun v H1=>td σ H1 fun x H2=>ty σ H2 fun y H3=>∃ a H4,x = .ref a∧zH H3 a y v H4∧D.nx σ H4
section
variable {X:Cx} {o i e value:Expr} {pos pos' tpos:Pos} {td ty tv:TE}
theorem mV (hu:X.A.units + 1 < cLine) (ho:PE X o td) (hi:PE X i ty) (hs:Kd i):PE X (.Subscript o i pos) (LO td ty):=by
 intro pins s σ H Q I h
 refine E2 PySem.F.slot_dict_getitem.lookup hs (thn (ho pins s σ H _ I h) fun u s1 ⟨x,H1,I1,rx,q1⟩=>thn (hi pins s1 σ H1 _ I1 q1) fun iv s2 ⟨y,H2,I2,ry,a,v,ex,g,q2⟩=>?_)
 subst ex
 obtain rfl:u=Value.ref a:=rx
 exact⟨BN I2 g,Fq hu I2 g ry fun w' s3 I3 rw'=>⟨v,H2,I3,rw',q2⟩⟩
theorem F3 (hu:X.A.units + 1 < cLine) (hi:PE X i ty) (ho:PE X o td):PC X .NotIn i o (JR ty td):=by
 intro pins s σ H Q I h
 refine thn (hi pins s σ H _ I h) fun iv s1 ⟨y,H1,I1,ry,q1⟩=>thn (ho pins s1 σ H1 _ I1 q1) fun u s2 ⟨x,H2,I2,rx,a,ov,ex,g,q2⟩=>?_
 subst ex
 obtain rfl:u=Value.ref a:=rx
 exact IS hu I2 g ry fun s3 I3=>⟨.bl (!ov.isSome),H2,I3,rfl,q2⟩
theorem tF (hu:X.A.units + 1 < cLine) (ho:PE X o td) (hi:PE X i ty) (hv:PE X value tv) (hs:swapsWith value (some (.Subscript o i pos')) pos.line X.env=pure false) :
  PS X (.Assign [.Subscript o i pos'] value pos) (LH td ty tv):=by
 intro pins s σ H D I h
 refine wpAny_Assign_Subscript (thn (hv pins s σ H _ I h) fun r s1 ⟨v,H1,I1,rv,q1⟩=>thn (ho pins s1 σ H1 _ I1 q1) fun u s2 ⟨x,H2,I2,rx,q2⟩=>thn (hi pins s2 σ H2 _ I2 q2) fun iv s3 ⟨y,H3,I3,ry,a,H4,ex,g,q3⟩=>?_) hs
 subst ex
 obtain rfl:u=Value.ref a:=rx
 exact Fs hu I3 g ry rv fun s4 I4=>⟨σ,H4,I4,q3⟩
end
theorem BO {P:Program} {w:World} {H:Hp} (h:Heap) (hb:sysModules < h.objs.size):c8 P w H (h.push { cls:=.type "dict",data:=.dict #[] }) h.objs.size (.dK []) :=
 ⟨Nat.zero_le _,beq_eq_false_iff_ne.mpr (Ne.symm (Nat.ne_of_lt hb)),[],.nil,Heap.DictOf.new h⟩
def K8:TE:=fun _ H Q=>∀ p,H p=none→Q (.ref p) (upd H p (.dK []))
section
variable {X:Cx} {pos:Pos}
theorem vN:PE X (.Dict [] [] pos) K8:=fun pins s σ H Q I h =>
 wpAny_Dict_empty ⟨.ref s.heap.objs.size,_,I.laid (a:=s.heap.objs.size) (o:=.dK []) (t':=s.toks) (fun _ _ q=>Heap.get?_push_of_some _ q) (Nat.le_refl _) (BO s.heap I.big),rfl,h _ (I.hok.fresh (Nat.le_refl _))⟩
end
def D7:List (TE×TE)→St→Hp→(List (V×V)→Hp→Prop)→Prop
 | [],_,H,Q=>Q [] H
 | (tk,tv) :: r,σ,H,Q=>tk σ H fun x H1=>tv σ H1 fun y H2=>D7 r σ H2 fun ps H3=>Q ((x,y) :: ps) H3
abbrev VV:List (V×V)→List (Value×Value)→Prop:=Paired fun p q=>RelV p.1 q.1∧RelV p.2 q.2
def PPs (X:Cx) (pos:Pos) (keys:List (Option Expr)) (values:List Expr) (trs:List (TE×TE)):Prop :=
 ∀ (pins:List (Addr×Obj)) (s:Shared) (σ:St) (H:Hp) (Q:List (V×V)→Hp→Prop),Inv X pins σ H s→D7 trs σ H Q →
  wpAny (model X.prog X.w) X.A (evalPairs (pairTrees keys values X.env pos)) (fun vs s'=>∃ ps H',Inv X pins σ H' s'∧VV ps vs∧Q ps H') X.xe s
theorem Js {X:Cx} {pos:Pos}:PPs X pos [] [] []:=fun pins s σ H Q I h=>pairTrees_nil_walk ⟨[],H,I,.nil,h⟩
theorem HW {X:Cx} {pos:Pos} {k v:Expr} {ks:List (Option Expr)} {vs:List Expr} {tk tv:TE} {trs:List (TE×TE)} (hk:PE X k tk) (hv:PE X v tv) (hr:PPs X pos ks vs trs) :
  PPs X pos (some k :: ks) (v :: vs) ((tk,tv) :: trs):=fun pins s σ H Q I h =>
 pairTrees_cons_walk (thn (hk pins s σ H _ I h) fun u s1 ⟨x,H1,I1,rx,q1⟩=>thn (hv pins s1 σ H1 _ I1 q1) fun w2 s2 ⟨y,H2,I2,ry,q2⟩ =>
  thn (hr pins s2 σ H2 _ I2 q2) fun ws s3 ⟨ps,H3,I3,rel,q3⟩=>⟨(x,y) :: ps,H3,I3,.cons ⟨rx,ry⟩ rel,q3⟩)
def uv (kvs more:List (Key×V)):List (Key×V):=more.foldl (fun acc kv=>putK acc kv.1 kv.2) kvs
theorem KV.merge:∀ {more:List (Key×V)} {rs:List (Key×Value)} {kvs:List (Key×V)} {vs:List (Key×Value)},KV more rs→KV kvs vs→KV (uv kvs more) (merged vs rs):=by
 intro more rs kvs vs r
 unfold KV at r
 induction r generalizing kvs vs with
 | nil=>intro q; exact q
 | @cons p q ps qs h t ih =>
  intro r0
  have e:KV (putK kvs p.1 p.2) (stored vs q.1 q.2):=by
   have:=r0.put p.1 h.2
   rw [← h.1]; exact this
  exact ih e
theorem t5:∀ (more kvs:List (Key×V)),(uv kvs more).length≤kvs.length + more.length
 | [],kvs=>by show kvs.length≤kvs.length + 0; omega
 | p :: r,kvs=>by
  have h1:=t5 r (putK kvs p.1 p.2)
  have h2:=rL kvs p.1 p.2
  show (uv (putK kvs p.1 p.2) r).length≤_
  rw [List.length_cons]; omega
theorem yr {P:Program} {w:World}:∀ {kvs:List (Key×V)} {ws:List (Value×Value)},VV (kvs.map fun kv=>(kV kv.1,kv.2)) ws→∃ rs,Carries (cz P w) ws rs∧KV kvs rs
 | [],_,r=>by rw [List.map_nil] at r; cases r; exact⟨[],True.intro,.nil⟩
 | p :: kvs,_,r=>by
  rw [List.map_cons] at r
  cases r with
  | @cons a b as bs h t =>
   obtain⟨rs,c,q⟩:=yr (P:=P) (w:=w) t
   obtain⟨b1,b2⟩:=b
   exact⟨(p.1,b2) :: rs,⟨B3 h.1,rfl,c⟩,.cons ⟨rfl,h.2⟩ q⟩
def LP (trs:List (TE×TE)):TE:=fun σ H Q=>∀ p,H p=none→D7 trs σ (upd H p (.dK [])) fun ps H2=>H2 p=some (.dK [])∧∃ kvs:List (Key×V),ps=kvs.map (fun kv=>(kV kv.1,kv.2))∧kvs.length≤15∧Q (.ref p) (upd H2 p (.dK (uv [] kvs)))
theorem Jp {X:Cx} {pos:Pos} {keys:List (Option Expr)} {values:List Expr} {trs:List (TE×TE)} (h:PPs X pos keys values trs) (hall:keys.all (·.isSome)=true) (hl:keys.length=values.length) (h0:keys≠[])
  (h15:keys.length≤15):PE X (.Dict keys values pos) (LP trs):=by
 intro pins s σ H Q I q
 have hn:=I.hok.fresh (Nat.le_refl s.heap.objs.size)
 have I1:=I.laid (a:=s.heap.objs.size) (o:=.dK []) (h':=s.heap.push { cls:=.type "dict",data:=.dict #[] }) (t':=s.toks) (fun _ _ q=>Heap.get?_push_of_some _ q) (Nat.le_refl _) (BO s.heap I.big)
 refine wpAny_Dict_walk (knd:=cz X.prog X.w) hall hl h0 h15 (thn (h pins _ σ _ _ I1 (q _ hn)) fun ws s2 ⟨ps,H2,I2,rel,e,kvs,ep,lk,q2⟩=>?_)
 subst ep
 obtain⟨rs,c,rk⟩:=yr (P:=X.prog) (w:=X.w) rel
 obtain⟨z,hd,vs0,r0,dd⟩:=JZ I2.hok e
 cases r0
 refine⟨rs,c,dd,fun h' dd' hs=>⟨.ref s.heap.objs.size,_,?_,rfl,q2⟩⟩
 have hz:(uv [] kvs).length≤sizeLine:=by
  have h1:=t5 kvs []
  rw [List.length_nil] at h1
  rw [sizeLine_eq]; omega
 have he:∃ q,h'.get? s.heap.objs.size=some q:=let ⟨q,_,_,hq,_⟩:=dd'; ⟨q,hq⟩
 exact AW I2 (by rw [e]; exact True.intro) hs he (rq hz hd (rk.merge .nil) dd')
end L2
namespace L2
open PySem PySem.Spec PyProof.Rows
end L2
namespace L2
open PySem PySem.Spec PyProof.Rows
section
variable {X:Cx} {pins:List (Addr×Obj)} {σ:St} {H:Hp} {s:Shared} {h':Heap}
theorem Inv.JS {t':Nat} {ch:List Addr} (I:Inv X pins σ H s) (k:∀ b o,b∉ch→s.heap.get? b=some o→h'.get? b=some o) (hf:∀ b∈ch,xy X pins H b):Inv X pins σ H { s with heap:=h',toks:=t' }:=by
 have nit:∀ b u,H b=some u→b∉ch:=fun b u e z=>by
  have q:=(hf b z).1
  rw [q] at e; cases e
 refine I.step (g':=s.gens) (d':=s.drawn) (ch:=ch) (fun b hb=>⟨(hf b hb).2.2.2.1,(hf b hb).2.1,(hf b hb).2.2.2.2.1,(hf b hb).2.2.2.2.2⟩) (fun b o _ _ hc e _=>k b o hc e) (fun b o _ _ hc e _=>⟨o.slots,k b o hc e⟩)
  (fun _ _ _ _ n=>n) (fun b o hc e=>⟨o,k b o hc e⟩) (fun _ _ e=>e) (fun _ _ _ e=>e) (fun b ps e=>⟨#[],by rw [e]; simp⟩) (fun m hm=>?_) (fun b u e=>?_) I.bare
 ·obtain⟨o,es,ep,ho,r⟩:=hm
  exact⟨o,es,ep,k _ o (fun z=>(hf _ z).2.1 rfl) ho,r⟩
 ·refine (I.hok b u e).stay (fun c v hc q=>k c v ?_ q) (fun _ q=>q) fun _ _ q=>q
  rcases hc with z | z
  ·rw [z]; exact nit b u e
  ·exact nit c _ z
theorem Inv.GJ {t':Nat} {ch:List Addr} {T:Addr} {ob:HO} (I:Inv X pins σ H s) (k:∀ b o,b∉ch→s.heap.get? b=some o→h'.get? b=some o) (hf:∀ b∈ch,xy X pins H b) (hT:s.heap.objs.size≤T)
  (new:c8 X.prog X.w (upd H T ob) h' T ob):Inv X pins σ (upd H T ob) { s with heap:=h',toks:=t' }:=by
 have hn:H T=none:=I.hok.fresh hT
 have nit:∀ b u,H b=some u→b∉ch:=fun b u e z=>by
  have q:=(hf b z).1
  rw [q] at e; cases e
 refine I.step (g':=s.gens) (d':=s.drawn) (ch:=ch) (fun b hb=>⟨(hf b hb).2.2.2.1,(hf b hb).2.1,(hf b hb).2.2.2.2.1,(hf b hb).2.2.2.2.2⟩) (fun b o _ _ hc e _=>k b o hc e) (fun b o _ _ hc e _=>⟨o.slots,k b o hc e⟩)
  (fun b o _ e n=>?_) (fun b o hc e=>⟨o,k b o hc e⟩) (fun b xs e=>?_) (fun b o u e=>?_) (fun b ps e=>⟨#[],?_⟩) (fun m hm=>?_) (fun b u e=>?_) I.bare
 ·rw [aj (Nat.ne_of_lt (Nat.lt_of_lt_of_le (Heap.lt_size e) hT))]; exact n
 ·rw [aj (aq e hn)]; exact e
 ·rw [aj (aq e hn)]; exact e
 ·rw [aj (aq e hn),e]; simp
 ·obtain⟨o,es,ep,ho,r⟩:=hm
  exact⟨o,es,ep,k _ o (fun z=>(hf _ z).2.1 rfl) ho,r⟩
 ·by_cases hb:b=T
  ·subst hb
   rw [af] at e
   cases e
   exact new
  ·rw [aj hb] at e
   refine (I.hok b u e).stay (fun c v hc q=>k c v ?_ q) (fun c q=>by rw [aj (aq q hn)]; exact q) fun c xs q=>by rw [aj (aq q hn)]; exact q
   rcases hc with z | z
   ·rw [z]; exact nit b u e
   ·exact nit c _ z
theorem Inv.lock {d:Addr} {u:HO} (I:Inv X pins σ H s) (h:H d=some u) (mu:Mut (some u)):∃ od,Inv X pins σ (upd H d (.frz od u)) s:=by
 have x:=I.hok d u h
 have ex:∃ od,s.heap.get? d=some od:=by
  cases u with
  | lst xs=>obtain⟨_,_,_,_,e⟩:=x; exact⟨_,e⟩
  | dK kvs=>obtain⟨_,_,_,_,o,_,_,e,_⟩:=x; exact⟨o,e⟩
  | dT kvs=>obtain⟨_,_,_,_,o,_,_,e,_⟩:=x; exact⟨o,e⟩
  | set S n=>obtain⟨o,_,_,_,e,_⟩:=x; exact⟨o,e⟩
  | ins C dx fs=>obtain⟨_,_,_,e,_⟩:=x; exact⟨_,e⟩
  | ext φ=>obtain⟨_,⟨_,e⟩,_⟩:=x; exact⟨_,e⟩
  | _=>exact False.elim mu
 obtain⟨od,e⟩:=ex
 have new:c8 X.prog X.w (upd H d (.frz od u)) s.heap d (.frz od u):=by
  refine⟨e,x.stay (fun b v _ q=>q) (fun b q=>?_) fun b xs q=>?_⟩
  ·rw [aj (fun z=>by rw [z,h] at q; cases q; exact mu)]; exact q
  ·rw [aj (fun z=>by rw [z,h] at q; cases q; exact mu)]; exact q
 exact⟨od,I.write (x:=d) (e:=d) (t':=s.toks) (h':=s.heap) (by rw [h]; exact mu) (.inl rfl) (fun b v _ q=>q) ⟨od,e⟩ new⟩
theorem Inv.ES {d:Addr} {u:HO} (I:Inv X pins σ H s) (h:H d=some u) (mu:Mut (some u)):∀ o' u',X.H_0 d≠some (.frz o' u'):=fun o' u' e=>by
 have q:=I.base.rA d o' u' e
 rw [h] at q
 cases q
 exact mu
theorem Inv.unlock {d:Addr} {od:Obj} {u:HO} (I:Inv X pins σ H s) (h:H d=some (.frz od u)) (hn:∀ o' u',X.H_0 d≠some (.frz o' u')):Inv X pins σ (upd H d u) s:=by
 have neH:∀ b o,H b=some o→(∀ o' u',o≠.frz o' u')→b≠d:=fun b o e hne z=>by
  rw [z,h] at e
  cases e
  exact hne _ _ rfl
 have neN:∀ b,H b=none→b≠d:=fun b e z=>by rw [z,h] at e; cases e
 refine⟨I.ok,I.os,I.bare,⟨I.base.keep,I.base.slot,fun b o e n hx=>?_,I.base.there,fun b xs e=>?_,fun b o x e=>?_,fun b ps e=>?_⟩,I.loc,I.cell,?_,fun x c e=>?_,fun p hp=>?_,fun b o e=>?_,I.len⟩
 ·rw [aj (neN b (I.base.free b o e n hx))]; exact I.base.free b o e n hx
 ·have q:=I.base.uO b xs e
  rw [aj (neH b _ q (fun _ _ z=>nomatch z))]; exact q
 ·have q:=I.base.rA b o x e
  rw [aj (fun z=>by rw [z] at e; exact hn _ _ e)]; exact q
 ·obtain⟨m,q⟩:=I.base.uN b ps e
  exact⟨m,by rw [aj (neH b _ q (fun _ _ z=>nomatch z))]; exact q⟩
 ·rw [aj (neN _ I.free)]; exact I.free
 ·rw [aj (neN c (I.jU x c e))]; exact I.jU x c e
 ·obtain⟨e,n,r⟩:=I.pin p hp
  exact⟨e,by rw [aj (neN _ n)]; exact n,r⟩
 ·by_cases hb:b=d
  ·rw [hb,af] at e
   cases e
   rw [hb]
   obtain⟨_,x⟩:=I.hok d _ h
   exact x.stay (fun c v _ q=>q) (fun c q=>by rw [aj (neH c _ q (fun _ _ z=>nomatch z))]; exact q) fun c xs q=>by rw [aj (neH c _ q (fun _ _ z=>nomatch z))]; exact q
  ·rw [aj hb] at e
   exact (I.hok b o e).stay (fun c v _ q=>q) (fun c q=>by rw [aj (neH c _ q (fun _ _ z=>nomatch z))]; exact q) fun c xs q=>by rw [aj (neH c _ q (fun _ _ z=>nomatch z))]; exact q
end
def LR (t:TS):TS:=fun D σ H=>∃ d u,H d=some u∧Mut (some u)∧∀ od,t ⟨fun σ' H'=>H' d=some (.frz od u)∧D.nx σ' (upd H' d u),fun v H'=>H' d=some (.frz od u)∧D.rt v (upd H' d u),fun σ' H'=>H' d=some (.frz od u)∧D.bk σ' (upd H' d u),fun σ' H'=>H' d=some (.frz od u)∧D.ct σ' (upd H' d u)⟩ σ (upd H d (.frz od u))
section
variable {X:Cx}
theorem yb {st:Stmt} {t:TS} (h:PS X st t):PS X st (LR t):=by
 intro pins s σ H D I hw
 obtain⟨d,u,hd,mu,hw⟩:=hw
 obtain⟨od,I1⟩:=I.lock hd mu
 refine thn (h pins s σ _ _ I1 (hw od)) fun f s1 q=>?_
 cases f with
 | next=>obtain⟨σ',H',I2,e,q⟩:=q; exact⟨σ',_,I2.unlock e (I.ES hd mu),q⟩
 | brk=>obtain⟨σ',H',I2,e,q⟩:=q; exact⟨σ',_,I2.unlock e (I.ES hd mu),q⟩
 | cont=>obtain⟨σ',H',I2,e,q⟩:=q; exact⟨σ',_,I2.unlock e (I.ES hd mu),q⟩
 | ret v=>obtain⟨x,σ',H',I2,r,e,q⟩:=q; exact⟨x,σ',_,I2.unlock e (I.ES hd mu),r,q⟩
theorem HV {tg:Expr} {pins:List (Addr×Obj)} {σ:St} {H:Hp} {s:Shared} {R:It→Hp→Prop} {J:It} {tn:Nat→Heap→Prop} {tk:Nat} (I:Inv X pins σ H s) (o:Obj)
  (T:Turn X.prog X.w X.K tg J [s.heap.objs.size] s.heap.objs.size tn) (st:tn 0 (s.heap.push o)) (q:R J H):PIE X pins σ tg R (.ref s.heap.objs.size) { s with heap:=s.heap.push o,toks:=tk }:=by
 refine⟨s.heap.objs.size,[s.heap.objs.size],tn,J,H,rfl,I.kept fun b ob e=>Heap.get?_push_of_some _ e,T,st,fun b hb=>?_,q⟩
 have e:b=s.heap.objs.size:=by simpa using hb
 subst e
 exact I.Hl (Nat.le_refl _) (I.hok.fresh (Nat.le_refl _))
end
section
variable {prog:Program} {w:World} {A:Around} {E:Value→Shared→Prop} {s:Shared}
theorem An {d:Addr} {o:Obj} {es:Array DictEntry} {ep:Nat} {Q:Value→Shared→Prop} (hd:(d == sysModules)=false) (ho:s.heap.get? d=some o) (hc:o.ExactDict) (hdat:o.data = .dict es ep)
  (hQ:Q (.ref s.heap.objs.size) { s with heap:=s.heap.push { cls:=.type "dict_keyiterator",data:=.fields #[.ref d,.int 0 0,.int es.size 0,.int ep 0] } }) :
  wpAny (model prog w) A (pyIter (.ref d)) Q E s:=by
 have hT:s.TypeIs (.ref d) "dict":=⟨o,ho,hc.1⟩
 refine wpAny_pyIter_slot hT F.slot_dict_iter (wpAny_call_entry F.slot_dict_iter hT F.entry_dict_iter ?_ (F.args_dict_iter_1 _))
 unfold Builtin.«dict.__iter__»
 refine wpAny_bind ?_
 unfold Builtin.Dict.dictSlotNone
 refine wpAny_bind (wpAny_notOrdered_dict hT ?_)
 show wpAny _ _ (pure (Value.ref d)) _ _ s
 refine wpAny_pure ?_
 show wpAny _ _ (Builtin.Dict.showsAll d >>= _) _ _ s
 unfold Builtin.Dict.showsAll
 rw [if_neg (by rw [hd]; exact Bool.false_ne_true)]
 refine wpAny_bind (wpAny_pure ?_)
 refine wpAny_bind (wpAny_dictEntries ho hdat ?_)
 refine wpAny_bind (wpAny_dictEpoch ho hdat ?_)
 refine wpAny_bind (wpAny_newObj_type (wpAny_pure ⟨_,rfl,"dict_keyiterator",_,⟨_,Heap.get?_push_size _ rfl,rfl⟩,F.slot_dict_keyiterator_next.lookup,?_⟩))
 simpa [rawInt] using hQ
theorem zL {it d:Addr} {i n ep:Nat} {od:Obj} {es:Array DictEntry} {en:DictEntry} {Q:Option Value→Shared→Prop} (hit:s.heap.IsKeyIter it d i n ep) (hod:s.heap.get? d=some od) (hdd:od.data = .dict es ep)
  (hsz:es.size=n) (hx:es[i]?=some en) (hQ:∀ h',h'.IsKeyIter it d (i + 1) n ep→Heap.SameBut it s.heap h'→Q (some en.key) { s with heap:=h' }):wpAny (model prog w) A (pyNext (.ref it)) Q E s:=by
 obtain⟨o,ho,hc,hd⟩:=id hit
 unfold pyNext
 refine wpAny_bind (wpAny_attempt (wpAny_callSpecial?_slot (name:=Str.ofString "__next__") hit.typeIs F.slot_dict_keyiterator_next
  (wpAny_call_entry F.slot_dict_keyiterator_next hit.typeIs F.entry_dict_keyiterator_next ?_ (F.args_dict_keyiterator_next_1 _))))
 refine wpAny_bind (wpAny_pure ?_)
 refine wpAny_bind ?_
 refine wpAny_bind ?_
 first | refine wpAny_bind (wpAny_typeNameOfWhole_keyiter hit.typeIs (wpAny_pure ?_)) | refine wpAny_bind (wpAny_typeNameOf_keyiter hit.typeIs (wpAny_pure ?_))
 refine wpAny_bind (wpAny_fieldsOf ho hd ?_)
 have hown:Builtin.Dict_items.ownsTuple "dict_keyiterator" = false:=by decide
 simp only [hown,Bool.false_eq_true,if_false]
 show wpAny _ _ (if (Value.ref d == Value.none)=true then _ else _) _ _ s
 rw [if_neg (show ¬ ((Value.ref d == Value.none)=true) from Bool.false_ne_true)]
 refine wpAny_bind (wpAny_pure ?_)
 refine wpAny_bind (wpAny_dictEntries hod hdd ?_)
 rw [if_neg (by rw [hsz]; simp)]
 refine wpAny_bind (wpAny_pure ?_)
 refine wpAny_bind (wpAny_dictEpoch hod hdd ?_)
 rw [if_neg (by simp)]
 refine wpAny_pure ?_
 obtain⟨hlt',hen⟩:=Array.getElem?_eq_some_iff.mp hx
 simp only [show ¬ ((i:Int) < 0) from by omega,if_false,Int.toNat_natCast,Array.getElem?_eq_getElem hlt']
 refine wpAny_bind ?_
 first | refine wpAny_bind (wpAny_typeNameOfWhole_keyiter hit.typeIs (wpAny_pure ?_)) | refine wpAny_bind (wpAny_typeNameOf_keyiter hit.typeIs (wpAny_pure ?_))
 refine wpAny_bind (wpAny_isOneOf_keyiter hit.typeIs ?_)
 show wpAny _ _ (setField (.ref it) 1 (rawInt ((i:Int) + 1)) >>= _) _ _ s
 refine wpAny_bind (wpAny_setField ho hd (by simp) ?_)
 have hit':(s.heap.update it (Obj.mapFields (·.setIfInBounds 1 (rawInt ((i:Int) + 1))))).IsKeyIter it d (i + 1) n ep :=
  ⟨_,Heap.get?_update_self _ ho (Obj.isFreed_of_fields (Obj.data_mapFields hd _)),(Obj.cls_mapFields ..).trans hc,by rw [Obj.data_mapFields hd]; simp [rawInt]⟩
 refine wpAny_bind (wpAny_holding ?_)
 refine wpAny_bind (wpAny_isOneOf_keyiter (s:={ s with heap:=s.heap.update it (Obj.mapFields (·.setIfInBounds 1 (rawInt ((i:Int) + 1)))) }) hit'.typeIs ?_)
 show wpAny _ _ (pure es[i].key) _ _ _
 rw [hen]
 exact wpAny_pure (wpAny_pure ⟨_,rfl,wpAny_pure (hQ _ hit' (Heap.SameBut.update ..))⟩)
theorem vB {it d:Addr} {i n ep:Nat} {od:Obj} {es:Array DictEntry} {Q:Option Value→Shared→Prop} (hh:A.handled=none) (hit:s.heap.IsKeyIter it d i n ep) (hod:s.heap.get? d=some od) (hdd:od.data = .dict es ep)
  (hsz:es.size=n) (hge:n≤i) (hQ:∀ h',Heap.ExtBut it s.heap h'→Q none { s with heap:=h' }):wpAny (model prog w) A (pyNext (.ref it)) Q E s:=by
 obtain⟨o,ho,hc,hd⟩:=id hit
 unfold pyNext
 refine wpAny_bind (wpAny_attempt (wpAny_callSpecial?_slot (name:=Str.ofString "__next__") hit.typeIs F.slot_dict_keyiterator_next
  (wpAny_call_entry F.slot_dict_keyiterator_next hit.typeIs F.entry_dict_keyiterator_next ?_ (F.args_dict_keyiterator_next_1 _))))
 refine wpAny_bind (wpAny_pure ?_)
 refine wpAny_bind ?_
 refine wpAny_bind ?_
 first | refine wpAny_bind (wpAny_typeNameOfWhole_keyiter hit.typeIs (wpAny_pure ?_)) | refine wpAny_bind (wpAny_typeNameOf_keyiter hit.typeIs (wpAny_pure ?_))
 refine wpAny_bind (wpAny_fieldsOf ho hd ?_)
 have hown:Builtin.Dict_items.ownsTuple "dict_keyiterator" = false:=by decide
 simp only [hown,Bool.false_eq_true,if_false]
 show wpAny _ _ (if (Value.ref d == Value.none)=true then _ else _) _ _ s
 rw [if_neg (show ¬ ((Value.ref d == Value.none)=true) from Bool.false_ne_true)]
 refine wpAny_bind (wpAny_pure ?_)
 refine wpAny_bind (wpAny_dictEntries hod hdd ?_)
 rw [if_neg (by rw [hsz]; simp)]
 refine wpAny_bind (wpAny_pure ?_)
 refine wpAny_bind (wpAny_dictEpoch hod hdd ?_)
 rw [if_neg (by simp)]
 refine wpAny_pure ?_
 have hge':es.size≤i:=by rw [hsz]; exact hge
 simp only [show ¬ ((i:Int) < 0) from by omega,if_false,Int.toNat_natCast,Array.getElem?_eq_none hge']
 refine wpAny_bind ?_
 first | refine wpAny_bind (wpAny_typeNameOfWhole_keyiter hit.typeIs (wpAny_pure ?_)) | refine wpAny_bind (wpAny_typeNameOf_keyiter hit.typeIs (wpAny_pure ?_))
 show wpAny _ _ (setField (.ref it) 0 .none >>= _) _ _ s
 refine wpAny_bind (wpAny_setField ho hd (by simp) ?_)
 show wpAny _ _ (newExc (.type "StopIteration") [] >>= _) _ _ _
 refine wpAny_bind ?_
 simp only [newExc,newTuple]
 refine wpAny_bind (wpAny_newObj_type ?_ (by size_fits))
 refine wpAny_bind (m:=firstArgMember _ _) (wpAny_of_eq (a:=Value.none) (by first | rfl | (simp only [firstArgMember]; rfl)) ?_)
 refine wpAny_newObj_type ?_ (by size_fits)
 simp only [raiseNew]
 refine wpAny_bind (wpAny_handled ?_)
 rw [show A.in1.handled=none from hh]
 refine wpAny_bind (wpAny_pure (wpAny_throw ?_))
 refine wpAny_bind (wpAny_isInstance (T:="StopIteration") (b:=true) ⟨_,Heap.get?_push_size _ rfl,rfl⟩ isSubtype_stop ?_)
 exact wpAny_pure (hQ _ (((Heap.SameBut.update ..).extBut.push _).push _))
end
theorem Ky {κ:Type} {kvs:List (κ×V)} {vs:List (κ×Value)} (h:KV kvs vs):∀ {i:Nat} {k:κ} {v:V},kvs[i]?=some (k,v)→∃ u,vs[i]?=some (k,u)∧RelV v u:=by
 unfold KV at h
 induction h with
 | nil=>intro i k v e; simp at e
 | @cons a b l₁ l₂ r t ih =>
  intro i k v e
  cases i with
  | zero =>
   simp only [List.getElem?_cons_zero,Option.some.injEq] at e
   subst e
   refine⟨b.2,?_,r.2⟩
   simp only [List.getElem?_cons_zero]
   exact congrArg some (Prod.ext r.1.symm rfl)
  | succ j =>
   simp only [List.getElem?_cons_succ] at e ⊢
   exact ih e
theorem zh {α β:Type} {G:α→β→Prop} {l₁:List α} {l₂:List β} (h:Paired G l₁ l₂):∀ {i:Nat} {a:α},l₁[i]?=some a→∃ b,l₂[i]?=some b∧G a b:=by
 induction h with
 | nil=>intro i a e; simp at e
 | @cons a b l₁ l₂ r t ih =>
  intro i a' e
  cases i with
  | zero =>
   simp only [List.getElem?_cons_zero,Option.some.injEq] at e
   subst e
   exact⟨b,rfl,r⟩
  | succ j =>
   simp only [List.getElem?_cons_succ] at e ⊢
   exact ih e
theorem Cp {k:Key} {u:Value} (h:xk k u=true):RelV (kV k) u:=by
 rcases dt h with ⟨i,t,rfl,rfl⟩ | ⟨x,t,rfl,rfl⟩
 ·exact⟨t,rfl⟩
 ·exact⟨t,rfl⟩
section
variable {X:Cx} {pins:List (Addr×Obj)} {σ:St} {H:Hp} {s:Shared} {d:Addr} {o:Obj}
theorem Inv.Kp {kvs:List (Key×V)} (I:Inv X pins σ H s) (h:H d=some (.frz o (.dK kvs))) :
  (d == sysModules)=false∧s.heap.get? d=some o∧o.ExactDict∧∃ (es:Array DictEntry) (ep:Nat) (vs:List (Key×Value)),o.data = .dict es ep∧es.size=kvs.length∧KV kvs vs∧s.heap.DictAt (cz X.prog X.w) d vs ep:=by
 obtain⟨hd,z,hs,vs,kv,o',es,ep,ho,hx,hdt,r⟩:=I.hok d _ h
 rw [hd] at ho
 cases ho
 refine⟨hs,hd,hx,es,ep,vs,hdt,?_,kv,o,es,hd,hx,hdt,r⟩
 have l1:=r.2.1.length
 have l2:kvs.length=vs.length:=Paired.length kv
 rw [Array.length_toList] at l1
 omega
theorem Inv.Kq {kvs:List (List Key×V)} (I:Inv X pins σ H s) (h:H d=some (.frz o (.dT kvs))) :
  (d == sysModules)=false∧s.heap.get? d=some o∧o.ExactDict∧∃ (es:Array DictEntry) (ep:Nat),o.data = .dict es ep∧es.size=kvs.length ∧
   ∀ (i:Nat) (k:List Key) (v:V),kvs[i]?=some (k,v)→∃ (en:DictEntry) (q:Addr),es[i]?=some en∧en.key = .ref q∧H q=some (.tup (k.map kV)):=by
 obtain⟨hd,z,hs,xs,pr,o',es,ep,ho,hx,hdt,he,_⟩:=I.hok d _ h
 rw [hd] at ho
 cases ho
 refine⟨hs,hd,hx,es,ep,hdt,?_,fun i k v e=>?_⟩
 ·have l1:es.size=xs.length:=size_of_entries he
  have l2:kvs.length=xs.length:=Paired.length pr
  omega
 ·obtain⟨b,hb,e1,e2,_⟩:=zh pr e
  have q:=entry_at he i
  rw [hb] at q
  exact⟨_,b.2.1,q,rfl,e2⟩
end
def Itk (d:Addr) (o:Obj) (kvs:List (Key×V)):It :=
 ⟨fun i H=>H d=some (.frz o (.dK kvs))∧i < kvs.length,fun i H x H'=>H'=H∧∃ k v,kvs[i]?=some (k,v)∧x=kV k,fun i H=>H d=some (.frz o (.dK kvs))∧kvs.length≤i⟩
def Lg (d:Addr) (o:Obj) (kvs:List (List Key×V)):It :=
 ⟨fun i H=>H d=some (.frz o (.dT kvs))∧i < kvs.length,fun i H x H'=>H'=H∧∃ (k:List Key) (v:V) (q:Addr),kvs[i]?=some (k,v)∧x = .ref q∧H q=some (.tup (k.map kV)),fun i H=>H d=some (.frz o (.dT kvs))∧kvs.length≤i⟩
theorem xT {o:Obj} {es es':Array DictEntry} {ep ep':Nat} (h:o.data = .dict es ep) (h':o.data = .dict es' ep'):es'=es∧ep'=ep:=by
 rw [h] at h'
 cases h'
 exact⟨rfl,rfl⟩
section
variable {P:Program} {w:World} {K:PySem.W.Frag} {tg:Expr} {d:Addr} {o:Obj} {es:Array DictEntry} {ep:Nat}
theorem Gy {kvs:List (Key×V)} (it:Addr) (hod:o.data = .dict es ep):Turn P w K tg (Itk d o kvs) [it] it (fun i h=>h.IsKeyIter it d i kvs.length ep) where
 mem:=by simp
 obj:=fun i h st b hb=>by
  have e:b=it:=by simpa using hb
  subst e
  obtain⟨oi,e,c,dd⟩:=st
  exact⟨oi,e,fun v z=>by rw [dd] at z; cases z⟩
 keep:=fun i h h' st k=>st.at fun oi e=>k it (by simp) oi e
 item:=by
  intro X hP hw hK hc i pins s σ H E I hf st hg
  subst hP hw hK
  obtain⟨hd,hi⟩:=hg
  obtain⟨f0,f1,f2,f3,f4,f5⟩:=hf it (by simp)
  obtain⟨hs,hgd,hx,es',ep',vs,hdt,hsz,kv,hm⟩:=I.Kp hd
  obtain⟨rfl,rfl⟩:=xT hod hdt
  obtain⟨⟨k,v⟩,hkv⟩:∃ p,kvs[i]?=some p:=⟨kvs[i],List.getElem?_eq_getElem hi⟩
  obtain⟨u,hu,ru⟩:=Ky kv hkv
  have hl:kvs.length=vs.length:=Paired.length kv
  rw [hl] at st
  refine wpAny_pyNext_dict_item st hm hu fun key h' hkey st' sb=>?_
  have I1:Inv X pins σ H { s with heap:=h' }:=I.turned (t':=s.toks) (fun b ob hb e=>(sb.2 b hb).trans e) f0 f1 f3 f4 f5
  obtain⟨oi,e,c,dd⟩:=id st'
  refine⟨key,rfl,EE (s:={ s with heap:=h' }) e c dd (by decide) ⟨kV k,H,I1,Cp (show xk k key=true from hkey),⟨rfl,k,v,hkv,rfl⟩,?_,fun b hb=>(hf b hb).1⟩⟩
  show h'.IsKeyIter it d (i + 1) kvs.length _
  rw [hl]
  exact st'
 done:=by
  intro X hP hw hK hc i pins s σ H E I hf st hg
  subst hP hw hK
  obtain⟨hd,hi⟩:=hg
  obtain⟨f0,f1,f2,f3,f4,f5⟩:=hf it (by simp)
  obtain⟨hs,hgd,hx,es',ep',vs,hdt,hsz,kv,hm⟩:=I.Kp hd
  obtain⟨rfl,rfl⟩:=xT hod hdt
  exact vB (I.ok.hd hc) st hgd hdt hsz hi fun h' eb=>⟨rfl,I.turned (t':=s.toks) (fun b ob hb e=>eb b ob hb e) f0 f1 f3 f4 f5⟩
 self:=fun A i s Q E st h=>wpAny_pyIter_keyiter st h
theorem Ek {kvs:List (List Key×V)} (it:Addr) (hod:o.data = .dict es ep):Turn P w K tg (Lg d o kvs) [it] it (fun i h=>h.IsKeyIter it d i kvs.length ep) where
 mem:=by simp
 obj:=fun i h st b hb=>by
  have e:b=it:=by simpa using hb
  subst e
  obtain⟨oi,e,c,dd⟩:=st
  exact⟨oi,e,fun v z=>by rw [dd] at z; cases z⟩
 keep:=fun i h h' st k=>st.at fun oi e=>k it (by simp) oi e
 item:=by
  intro X hP hw hK hc i pins s σ H E I hf st hg
  subst hP hw hK
  obtain⟨hd,hi⟩:=hg
  obtain⟨f0,f1,f2,f3,f4,f5⟩:=hf it (by simp)
  obtain⟨hs,hgd,hx,es',ep',hdt,hsz,ent⟩:=I.Kq hd
  obtain⟨rfl,rfl⟩:=xT hod hdt
  obtain⟨⟨k,v⟩,hkv⟩:∃ p,kvs[i]?=some p:=⟨kvs[i],List.getElem?_eq_getElem hi⟩
  obtain⟨en,q,hen,hkey,hq⟩:=ent i k v hkv
  refine zL st hgd hdt hsz hen fun h' st' sb=>?_
  have I1:Inv X pins σ H { s with heap:=h' }:=I.turned (t':=s.toks) (fun b ob hb e=>(sb.2 b hb).trans e) f0 f1 f3 f4 f5
  obtain⟨oi,e,c,dd⟩:=id st'
  exact⟨en.key,rfl,EE (s:={ s with heap:=h' }) e c dd (by decide) ⟨.ref q,H,I1,hkey,⟨rfl,k,v,q,hkv,rfl,hq⟩,st',fun b hb=>(hf b hb).1⟩⟩
 done:=by
  intro X hP hw hK hc i pins s σ H E I hf st hg
  subst hP hw hK
  obtain⟨hd,hi⟩:=hg
  obtain⟨f0,f1,f2,f3,f4,f5⟩:=hf it (by simp)
  obtain⟨hs,hgd,hx,es',ep',hdt,hsz,ent⟩:=I.Kq hd
  obtain⟨rfl,rfl⟩:=xT hod hdt
  exact vB (I.ok.hd hc) st hgd hdt hsz hi fun h' eb=>⟨rfl,I.turned (t':=s.toks) (fun b ob hb e=>eb b ob hb e) f0 f1 f3 f4 f5⟩
 self:=fun A i s Q E st h=>by
  refine wpAny_pyIter_slot st.typeIs F.slot_dict_keyiterator_iter (wpAny_call_entry F.slot_dict_keyiterator_iter st.typeIs F.entry_dict_keyiterator_iter ?_ (F.args_dict_keyiterator_iter_1 _))
  show wpAny _ _ (ret (.ref it)) _ _ s
  exact wpAny_pure ⟨_,rfl,"dict_keyiterator",_,st.typeIs,F.slot_dict_keyiterator_next.lookup,h⟩
end
def Ls (td:TE):TI:=fun σ H R=>td σ H fun x H1=>∃ d o,x = .ref d∧((∃ kvs,H1 d=some (.frz o (.dK kvs))∧R (Itk d o kvs) H1)∨∃ kvs,H1 d=some (.frz o (.dT kvs))∧R (Lg d o kvs) H1)
section
variable {X:Cx} {tg e:Expr} {td:TE} {apos cpos:Pos}
theorem ya (he:PE X e td):PI X tg e (Ls td):=by
 intro pins s σ H R I h
 refine thn (he pins s σ H _ I h) fun u s1 ⟨x,H1,I1,rx,d,o,ex,q⟩=>?_
 subst ex
 obtain rfl:u=Value.ref d:=rx
 rcases q with ⟨kvs,hd,q⟩ | ⟨kvs,hd,q⟩
 ·obtain⟨hs,hgd,hx,es,ep,vs,hdt,hsz,kv,hm⟩:=I1.Kp hd
  refine An hs hgd hx hdt (HV (tk:=s1.toks) I1 _ (Gy _ hdt) ⟨_,Heap.get?_push_size _ rfl,rfl,?_⟩ q)
  rw [hsz]<;>rfl
 ·obtain⟨hs,hgd,hx,es,ep,hdt,hsz,ent⟩:=I1.Kq hd
  refine An hs hgd hx hdt (HV (tk:=s1.toks) I1 _ (Ek _ hdt) ⟨_,Heap.get?_push_size _ rfl,rfl,?_⟩ q)
  rw [hsz]<;>rfl
end
theorem Fh:bootBuiltins "zip" = some (.type "zip"):=by decide +kernel
def Itz (K:PySem.W.Frag) (a b:Addr):It :=
 ⟨fun i H=>∃ (xs ys:List V) (x y:V),SqL K H a xs∧SqL K H b ys∧xs[i]?=some x∧ys[i]?=some y,
  fun i H v H'=>∃ T x y,v = .ref T∧H T=none∧H'=upd H T (.tup [x,y])∧(∀ xs,SqL K H a xs→xs[i]?=some x)∧∀ ys,SqL K H b ys→ys[i]?=some y,
  fun i H=>∃ xs ys:List V,SqL K H a xs∧SqL K H b ys∧(xs.length≤i∨ys.length≤i)⟩
theorem IF {P:Program} {w:World} {K:PySem.W.Frag} {elts:List Expr} {kk:Nat} {tpos:Pos} {a b z TI TO i1 i2:Addr} (D:ZipApart z TI TO i1 i2 a b) :
  Turn P w K (.Tuple elts kk tpos) (Itz K a b) [z,TI,TO,i1,i2] z (fun i h=>IsZip h z TI TO .none∧IsPair h TI (.ref i1) (.ref i2)∧(∃ x y,IsPair h TO x y)∧h.IsListIter i1 a i∧h.IsListIter i2 b i) where
 mem:=by simp
 obj:=fun i h st c hc=>by
  obtain⟨hz,hTI,⟨x,y,hTO⟩,⟨o1,e1,_,d1⟩,⟨o2,e2,_,d2⟩⟩:=st
  have e':c=z∨c=TI∨c=TO∨c=i1∨c=i2:=by simpa using hc
  rcases e' with q | q | q | q | q
  ·rw [q]; exact⟨_,hz,fun v q=>nomatch q⟩
  ·rw [q]; exact⟨_,hTI,fun v q=>nomatch q⟩
  ·rw [q]; exact⟨_,hTO,fun v q=>nomatch q⟩
  ·rw [q]; exact⟨o1,e1,fun v q=>by rw [d1] at q; cases q⟩
  ·rw [q]; exact⟨o2,e2,fun v q=>by rw [d2] at q; cases q⟩
 keep:=fun i h h' st k=>by
  obtain⟨hz,hTI,⟨x,y,hTO⟩,h1,h2⟩:=st
  exact⟨k z (by simp) _ hz,k TI (by simp) _ hTI,⟨x,y,k TO (by simp) _ hTO⟩,h1.at fun o q=>k i1 (by simp) o q,h2.at fun o q=>k i2 (by simp) o q⟩
 item:=by
  intro X hP hw hK hc i pins s σ H E I hf st hg
  subst hP hw hK
  obtain⟨hz,hTI,⟨x0,y0,hTO⟩,h1,h2⟩:=st
  obtain⟨xs,ys,x,y,hqx,hqy,hx,hy⟩:=hg
  obtain⟨its,rv,p,_⟩:=I.list hqx
  obtain⟨its2,rv2,p2,_⟩:=I.list hqy
  obtain⟨u,hu,ru⟩:=rv.get hx
  obtain⟨u2,hu2,ru2⟩:=rv2.get hy
  have hzl:z < s.heap.objs.size:=Heap.lt_size hz
  refine wpAny_pyNext_zip_item D hz hTI hTO h1 h2 p.isList p2.isList (x:=u) (y:=u2) (by simpa using hu) (by simpa using hu2) fun h' z' TO' h1' h2' hT hsz hk=>?_
  refine⟨_,rfl,wpAny_letOwnedTupleGo_zip (s:={ s with heap:=h' }) z' fun h'' z'' sb=>?_⟩
  have hT2:h''.get? s.heap.objs.size=some { cls:=.type "tuple",data:=.seq #[u,u2] }:=(sb.2 _ (Nat.ne_of_gt hzl)).trans hT
  have new:c8 X.prog X.w (upd H s.heap.objs.size (.tup [x,y])) h'' s.heap.objs.size (.tup [x,y]) :=
   ⟨by show 2≤sizeLine; decide,[u,u2],.cons ru (.cons ru2 .nil),⟨_,hT2,rfl,_,rfl⟩⟩
  have I1:Inv X pins σ (upd H s.heap.objs.size (.tup [x,y])) { s with heap:=h'' } :=
   I.GJ (t':=s.toks) (ch:=[z,TI,TO,i1,i2]) (fun c o hb q=>(sb.2 c (fun q'=>hb (by simp [q']))).trans (hk c o (fun q'=>hb (by simp [q'])) (fun q'=>hb (by simp [q'])) (fun q'=>hb (by simp [q'])) (fun q'=>hb (by simp [q'])) q)) hf (Nat.le_refl _) new
  refine⟨.ref s.heap.objs.size,_,I1,rfl,⟨_,x,y,rfl,I.hok.fresh (Nat.le_refl _),rfl,fun l hl=>by rw [I.yI hl hqx]; exact hx,fun l hl=>by rw [I.yI hl hqy]; exact hy⟩,⟨z'',?_,⟨u,u2,?_⟩,?_,?_⟩,fun c hcm=>?_⟩
  ·exact (sb.2 _ D.TIz).trans (hk _ _ D.TIz D.TITO D.TIi1 D.TIi2 hTI)
  ·exact (sb.2 _ D.TOz).trans TO'
  ·exact h1'.at fun o q=>(sb.2 _ D.i1z).trans q
  ·exact h2'.at fun o q=>(sb.2 _ D.i2z).trans q
  ·have hlt:c < s.heap.objs.size:=by
    have e':c=z∨c=TI∨c=TO∨c=i1∨c=i2:=by simpa using hcm
    rcases e' with q | q | q | q | q
    ·rw [q]; exact hzl
    ·rw [q]; exact Heap.lt_size hTI
    ·rw [q]; exact Heap.lt_size hTO
    ·rw [q]; obtain⟨_,e1,_⟩:=h1; exact Heap.lt_size e1
    ·rw [q]; obtain⟨_,e2,_⟩:=h2; exact Heap.lt_size e2
   rw [aj (Nat.ne_of_lt hlt)]
   exact (hf c hcm).1
 done:=by
  intro X hP hw hK hc i pins s σ H E I hf st hg
  subst hP hw hK
  obtain⟨hz,hTI,⟨x0,y0,hTO⟩,h1,h2⟩:=st
  obtain⟨xs,ys,hqx,hqy,hend⟩:=hg
  obtain⟨its,rv,p,_⟩:=I.list hqx
  obtain⟨its2,rv2,p2,_⟩:=I.list hqy
  have l1:=rv.length
  have l2:=rv2.length
  have he:its.toArray[i]?=none∨its2.toArray[i]?=none:=by
   rcases hend with q | q
   ·exact .inl (by simp; omega)
   ·exact .inr (by simp; omega)
  exact wpAny_pyNext_zip_end (I.ok.hd hc) D hz hTI hTO h1 h2 p.isList p2.isList he fun h' hk=>⟨rfl,I.JS (t':=s.toks) (ch:=[z,TI,TO,i1,i2]) (fun c o hb q =>
   hk c o (fun q'=>hb (by simp [q'])) (fun q'=>hb (by simp [q'])) (fun q'=>hb (by simp [q'])) (fun q'=>hb (by simp [q'])) q) hf⟩
 self:=fun A i s Q E st h=>wpAny_pyIter_zip st.1 h
def Mc (K:PySem.W.Frag) (ta:TA):TI:=fun σ H R=>ta σ H fun vs H1=>∃ a b xs ys,vs=[.ref a,.ref b]∧SqL K H1 a xs∧SqL K H1 b ys∧R (Itz K a b) H1
theorem KP {X:Cx} {e e2:Expr} {ta:TA} {p pos tpos:Pos} {elts:List Expr} {kk:Nat} (hg:Gl X "zip") (hm:X.mg "zip" = none) (ha:PA X [e,e2] ta)
  (hs:starEach [e,e2] X.env=(false,eval e X.env) :: starEach [e2] X.env:=by rfl) (hpl:(backTo pos (starEach [e2] X.env)).any (·.1)=false:=by rfl) :
  PI X (.Tuple elts kk tpos) (.Call (.Name "zip" p) [e,e2] [] pos) (Mc X.K ta):=by
 intro pins s σ H R I h
 refine Call_ (wz I hg hm Fh (PyProof.Rows.callWith_type1 (thn (ha pos pins s σ H _ I h) fun us s1 ⟨vs,H1,I1,r1,q1⟩=>?_) hs hpl))
 obtain⟨a,b,xs,ys,ex,hqx,hqy,q⟩:=q1
 subst ex
 cases r1 with
 | cons r rr =>
  cases rr with
  | cons r' rr =>
   cases rr
   cases r
   cases r'
   obtain⟨its,rv,p1,_⟩:=I1.list hqx
   obtain⟨its2,rv2,p2,_⟩:=I1.list hqy
   have la:a < s1.heap.objs.size:=p1.lt
   have lb:b < s1.heap.objs.size:=p2.lt
   refine call_zip_2 p1.isList p2.isList fun h' hz hTI hTO h1 h2 hsz hk=>wpAny_pyIter_zip hz ?_
   have I2:Inv X pins σ H1 { s1 with heap:=h' }:=I1.kept (t':=s1.toks) hk
   refine⟨s1.heap.objs.size + 4,[s1.heap.objs.size + 4,s1.heap.objs.size + 2,s1.heap.objs.size + 3,s1.heap.objs.size,s1.heap.objs.size + 1],_,_,H1,rfl,I2,IF (PySem.W.ktu_apart s1.heap.objs.size a b la lb),⟨hz,hTI,⟨_,_,hTO⟩,h1,h2⟩,fun c hcm=>?_,q⟩
   have e':c=s1.heap.objs.size + 4∨c=s1.heap.objs.size + 2∨c=s1.heap.objs.size + 3∨c=s1.heap.objs.size∨c=s1.heap.objs.size + 1:=by simpa using hcm
   have hle:s1.heap.objs.size≤c:=by
    rcases e' with z | z | z | z | z
    ·rw [z]; exact Nat.le_add_right _ _
    ·rw [z]; exact Nat.le_add_right _ _
    ·rw [z]; exact Nat.le_add_right _ _
    ·rw [z]; exact Nat.le_refl _
    ·rw [z]; exact Nat.le_add_right _ _
   exact I1.Hl hle (I1.hok.fresh hle)
end L2
section
namespace Bits
open PySem PyProof.Rows
end Bits
end
section
namespace TL
open PySem PySem.Builtin PySem.Builtin.Str PySem.StrLaws
end TL
end
namespace L2
open PySem PySem.Spec PyProof.Rows
section
variable {X:Cx}
end
end L2
namespace L2
open PySem PySem.Spec PyProof.Rows
end L2
namespace Att
open PySem PySem.W PySem.Calls PyProof.Rows
section
variable {prog:Program} {w:World} {A:Around} {E:Value→Shared→Prop} {s:Shared} {K:Frag}
end
end Att
namespace L2
open PySem PySem.Spec PyProof.Rows
theorem AF:∀ {vs:List Value} {ns:List Int},IntsAre vs ns→Vals (ns.map V.int) vs
 | _,_,.nil=>.nil
 | _,_,.cons n t h=>.cons ⟨t,rfl⟩ (AF h)
end L2
namespace L2
open PySem PySem.Spec PyProof.Rows
end L2
namespace L2
open PySem PySem.Spec PyProof.Rows
def inClass (s:Stmt) (j:Nat):Stmt:=match s with
 | .ClassDef _ _ _ body _ _ _ _ _ _ _=>body.getD j (.Pass ⟨0,0,0,0⟩)
 | _=>.Pass ⟨0,0,0,0⟩
def lC (s:Stmt):Arguments:=match s with
 | .FunctionDef _ a _ _ _ _ _ _ _ _=>a
 | _=>{ posonlyargs:=[],args:=[],vararg:=none,kwonlyargs:=[],kw_defaults:=[],kwarg:=none,defaults:=[] }
def kl (s:Stmt):List Stmt:=match s with
 | .FunctionDef _ _ b _ _ _ _ _ _ _=>b
 | _=>[]
def au (s:Stmt):Scope:=match s with
 | .FunctionDef _ _ _ _ _ _ sc _ _ _=>sc
 | _=>{ kind:=.function,names:=[],isGenerator:=false,isCoroutine:=false }
structure Fun (K:PySem.W.Frag) (x qual:Str) (st:Stmt) (f:Addr) (fd:FuncData):Prop where
 ex:∃ (oc:Value) (od:Option Addr) (kV doc pm:Value) (an:Option Addr) (cdv ct:Value) (osl:Array (Option Value)),
  fd=PySem.W.fnOf x qual (lC st) (kl st) (au st) .none kV doc pm an cdv ct∧K.lookup f=some ⟨oc,od,.func fd,osl⟩∧PySem.W.codeIn K cdv qual=true
 kp:PySem.W.keepIn K (.ref f)=true
section
variable {P:Program} {w:World} {K:PySem.W.Frag} {mg:Str→Option Value} {base:Heap}
theorem Fun.binds {x qual:Str} {st:Stmt} {f:Addr} {fd:FuncData} {ps:List Str} (F:Fun K x qual st f fd)
  (h:∀ (kV doc pm:Value) (an:Option Addr) (cdv ct:Value) (us:List Value),us.length=ps.length→bindArgs (PySem.W.fnOf x qual (lC st) (kl st) (au st) .none kV doc pm an cdv ct) ⟨us,[]⟩=pure (ps.zip us)):Binds K fd ps []:=by
 obtain⟨oc,od,kV,doc,pm,an,cdv,ct,osl,rfl,lk,hcd⟩:=F.ex
 exact .all (h kV doc pm an cdv ct)
theorem Hm {x qual:Str} {st:Stmt} {f:Addr} {oc:Value} {od an:Option Addr} {osl:Array (Option Value)} {kV doc pm cdv ct:Value} (l:K.lookup f=some ⟨oc,od,.func (PySem.W.fnOf x qual (lC st) (kl st) (au st) .none kV doc pm an cdv ct),osl⟩)
  (c:PySem.W.codeIn K cdv qual=true) (k:PySem.W.keepIn K (.ref f)=true):Fun K x qual st f (PySem.W.fnOf x qual (lC st) (kl st) (au st) .none kV doc pm an cdv ct):=⟨⟨oc,od,kV,doc,pm,an,cdv,ct,osl,rfl,l,c⟩,k⟩
end
theorem mD {A:Around} {k:Nat} (hr:cf k A):A.units + 1 < cLine:=Nat.lt_of_le_of_lt (Nat.add_le_add_left (by decide:1≤64) _) hr.units
section
variable {X:Cx}
theorem pv (i:Nat) {x:Str} {pos:Pos} (hN:X.N[i]?=some x:=by rfl) (hv:Vis X.env.scope x:=by first | exact Or.inl rfl | exact Or.inr (Or.inl rfl) | exact Or.inr (Or.inr rfl)) (hd:(x == ("__debug__":Str))=false:=by decide)
  (hcd:(x == ("__classdict__":Str))=false:=by decide):PE X (.Name x pos) (tY i):=HU hN hv hd hcd
theorem Fi:mC X (.builtin "len") (fun xs H Q=>∃ a kvs,xs=[V.ref a]∧H a=some (.dK kvs)∧Q (.int kvs.length) H):=by
 intro pins s σ H xs us Q I r h
 obtain⟨a,kvs,rfl,ha,q⟩:=h
 obtain⟨u,rfl,ru⟩:=vals1 r
 cases ru
 exact Ln I (.inl ha) fun t s' I'=>⟨.int kvs.length,H,I',⟨t,rfl⟩,q⟩
end
theorem qN {A B:Prop} (h:B):if false=true then A else B:=by
 rw [if_neg Bool.false_ne_true]
 exact h
theorem nP {A B:Prop} (h:A):if true=true then A else B:=by
 rw [if_pos rfl]
 exact h
theorem ko {c A B:Prop} [Decidable c] (h1:c→A) (h2:¬ c→B):if c then A else B:=by
 by_cases h:c
 ·rw [if_pos h]
  exact h1 h
 ·rw [if_neg h]
  exact h2 h
def aE (H H':Hp):Prop:=∀ b o,H b=some o→H' b=some o
theorem aE.trans {H H1 H2:Hp} (a:aE H H1) (b:aE H1 H2):aE H H2:=fun c o h=>b c o (a c o h)
theorem aE.free {H H':Hp} (e:aE H H') {l:Addr} (h:H' l=Option.none):H l=Option.none:=by
 cases q:H l with
 | none=>rfl
 | some o =>
  rw [e l o q] at h
  cases h
theorem aE.seq {K:PySem.W.Frag} {H H':Hp} {a:Addr} {xs:List V} (e:aE H H') (h:SqL K H a xs):SqL K H' a xs:=by
 rcases h with (h | ⟨o,h⟩) | h
 ·exact .inl (.inl (e _ _ h))
 ·exact .inl (.inr ⟨o,e _ _ h⟩)
 ·exact .inr h
theorem at_of {xs:List V} {z:Int} {j:Nat} {v:V} (e:z=(j:Int)) (h:xs[j]?=some v):atI xs z=some v:=by
 rw [e]
 exact bg h
theorem J0 {α:Type} {l:List α} (hN:l.Nodup) {i j:Nat} {x:α} (a:l[i]?=some x) (b:l[j]?=some x):i=j:=by
 obtain⟨h1,e1⟩:=List.getElem?_eq_some_iff.mp a
 obtain⟨h2,e2⟩:=List.getElem?_eq_some_iff.mp b
 exact (List.getElem_inj hN).mp (e1.trans e2.symm)
end L2
end
section
namespace L2
open PySem PySem.Spec PyProof.Rows
open PySem.W (WData Codec OpenSpec Well WellAll ReadsW ReadsAllW)
mutual
inductive Dw (K:PySem.W.Frag) (H:Hp):V→WData→Prop
 | non:Dw K H .non .none
 | bl (b:Bool):Dw K H (.bl b) (.bool b)
 | int (i:Int):Dw K H (.int i) (.int i)
 | str (x:Str):Dw K H (.str x) (.str x)
 | byt (b:Array UInt8):Dw K H (.byt b) (.bytes b.toList)
 | lst {a:Addr} {xs:List V} {ds:List WData}:SqL K H a xs→qY K H xs ds→Dw K H (.ref a) (.list ds)
 | tup {a:Addr} {xs:List V} {ds:List WData}:SqT K H a xs→qY K H xs ds→Dw K H (.ref a) (.tuple ds)
inductive qY (K:PySem.W.Frag) (H:Hp):List V→List WData→Prop
 | nil:qY K H [] []
 | cons {v:V} {vs:List V} {d:WData} {ds:List WData}:Dw K H v d→qY K H vs ds→qY K H (v :: vs) (d :: ds)
end
theorem EC {K:PySem.W.Frag} {H:Hp}:∀ ns:List Int,qY K H (ns.map V.int) (ns.map WData.int)
 | []=>.nil
 | n :: r=>.cons (.int n) (EC r)
theorem EI {K:PySem.W.Frag} {H:Hp}:∀ (ns:List Int) (xs:List V),qY K H xs (ns.map WData.int)→xs=ns.map V.int
 | [],xs,h=>by
  cases h
  rfl
 | n :: r,xs,h=>by
  cases h with
  | cons h1 h2 =>
   cases h1
   rw [EI r _ h2]<;>rfl
section
variable {P:Program} {w:World} {K:PySem.W.Frag} {H:Hp} {h:Heap} {R:PySem.W.WRecords} {cl:Str→Option Addr}
theorem K0 {a:Addr} {xs:List V} (hok:HOk P w H h) (KX:K.In h) (q:SqL K H a xs):∃ (its:List Value) (o:Obj) (n:Nat),Vals xs its∧h.get? a=some o∧o.cls = .type "list"∧o.data = .seq its.toArray n:=by
 rcases q with q | ⟨o,its,n,e,hc,_,hd,_,hv⟩
 ·obtain⟨_,its,n,hv,e⟩:=(show c8 P w H h a (.lst xs) from q.ok hok)
  exact⟨its,_,n,hv,e,rfl,rfl⟩
 ·exact⟨its.toList,o,n,hv,KX _ _ e,hc,by simp [hd]⟩
theorem K1 {a:Addr} {xs:List V} (hok:HOk P w H h) (KX:K.In h) (q:SqT K H a xs):∃ (its:List Value) (o:Obj) (n:Nat),Vals xs its∧h.get? a=some o∧o.cls = .type "tuple"∧o.data = .seq its.toArray n:=by
 rcases q with q | ⟨o,its,n,e,hc,hd,_,hv⟩
 ·obtain⟨_,its,hv,o,e,hc,n,hd⟩:=(show c8 P w H h a (.tup xs) from q.ok hok)
  exact⟨its,o,n,hv,e,hc,hd⟩
 ·exact⟨its.toList,o,n,hv,KX _ _ e,hc,by simp [hd]⟩
mutual
theorem Dw.reads (hok:HOk P w H h) (KX:K.In h):∀ (d:WData) (v:V) (u:Value),Dw K H v d→RelV v u→∃ as,ReadsW R cl h u d as
 | .none,_,_,x,r=>by
  cases x
  cases r
  exact⟨_,ReadsW.none⟩
 | .bool b,_,_,x,r=>by
  cases x
  cases r
  exact⟨_,ReadsW.bool b⟩
 | .int i,_,_,x,r=>by
  cases x
  obtain⟨t,rfl⟩:=r
  exact⟨_,ReadsW.int i t⟩
 | .str s,_,_,x,r=>by
  cases x
  obtain⟨t,rfl⟩:=r
  exact⟨_,ReadsW.str s t⟩
 | .bytes b,_,_,x,r=>by
  cases x
  obtain⟨t,rfl⟩:=r
  exact⟨_,ReadsW.bytes _ t⟩
 | .list ds,_,_,x,r=>by
  cases x with
  | lst hs ha =>
   cases r
   obtain⟨its,o,n,rv,ho,hc,hd⟩:=K0 hok KX hs
   obtain⟨as,hr⟩:=Dw.readsAll hok KX ds _ its ha rv
   exact⟨_,ReadsW.list ho hc hd hr⟩
 | .tuple ds,_,_,x,r=>by
  cases x with
  | tup hs ha =>
   cases r
   obtain⟨its,o,n,rv,ho,hc,hd⟩:=K1 hok KX hs
   obtain⟨as,hr⟩:=Dw.readsAll hok KX ds _ its ha rv
   exact⟨_,ReadsW.tuple ho hc hd hr⟩
 | .float _,_,_,x,_=>by cases x
 | .dict _,_,_,x,_=>by cases x
 | .bytearray _,_,_,x,_=>by cases x
 | .set _,_,_,x,_=>by cases x
 | .frozenset _,_,_,x,_=>by cases x
 | .obj _ _,_,_,x,_=>by cases x
theorem Dw.readsAll (hok:HOk P w H h) (KX:K.In h):∀ (ds:List WData) (vs:List V) (us:List Value),qY K H vs ds→Vals vs us→∃ as,ReadsAllW R cl h us ds as
 | [],_,_,x,r=>by
  cases x
  cases r
  exact⟨_,ReadsAllW.nil⟩
 | d :: ds,_,_,x,r=>by
  cases x with
  | cons h1 h2 =>
   cases r with
   | cons r1 r2 =>
    obtain⟨as,q1⟩:=Dw.reads hok KX d _ _ h1 r1
    obtain⟨bs,q2⟩:=Dw.readsAll hok KX ds _ _ h2 r2
    exact⟨_,ReadsAllW.cons q1 q2⟩
end
end
mutual
def plW:WData→Bool
 | .none=>true
 | .bool _=>true
 | .int _=>true
 | .str _=>true
 | .bytes _=>true
 | .list xs=>xK xs
 | .tuple xs=>xK xs
 | _=>false
def xK:List WData→Bool
 | []=>true
 | x :: r=>plW x && xK r
end
theorem Cm {α:Type} {f:α→WData} (h:∀ a,plW (f a)=true):∀ l:List α,xK (l.map f)=true
 | []=>rfl
 | x :: r=>by
  show (plW (f x) && xK (r.map f))=true
  rw [h x,Cm h r]<;>rfl
theorem si:∀ (c:Codec) (a:c.denote),plW (c.enc a)=true
 | .unit,_=>rfl
 | .bool,_=>rfl
 | .int _ _,_=>rfl
 | .nat _ _,_=>rfl
 | .u8,_=>rfl
 | .bytes _ _,_=>rfl
 | .text _ _ _ _,_=>rfl
 | .list _ _ c,a=>Cm (fun x=>si c x) a
 | .pair c d,a=>by
  show (plW (c.enc a.1) && (plW (d.enc a.2) && true))=true
  rw [si c a.1,si d a.2]<;>rfl
 | .triple c d e,a=>by
  show (plW (c.enc a.1) && (plW (d.enc a.2.1) && (plW (e.enc a.2.2) && true)))=true
  rw [si c a.1,si d a.2.1,si e a.2.2]<;>rfl
 | .option c,none=>rfl
 | .option c,some x=>si c x
theorem Aw:∀ (cs:List Codec) (a:Codec.denoteAll cs),xK (Codec.encAll cs a)=true
 | [],_=>rfl
 | c :: cs,a=>by
  show (plW (c.enc a.1) && xK (Codec.encAll cs a.2))=true
  rw [si c a.1,Aw cs a.2]<;>rfl
theorem uP:∀ {xs:List WData} {d:WData},d∈xs→d.weight≤WData.weightAll xs
 | [],d,h=>absurd h (by simp)
 | x :: r,d,h=>by
  show d.weight≤x.weight + 1 + WData.weightAll r
  rcases List.mem_cons.mp h with e | m
  ·rw [e]
   omega
  ·have z:=uP m
   omega
def toV:Value→V
 | .none=>.non
 | .bool b=>.bl b
 | .int i _=>.int i
 | .str x _=>.str x
 | .bytes b _=>.byt b
 | .ref a=>.ref a
 | _=>.non
def OkU (A:List Addr):Value→Prop
 | .none=>True
 | .bool _=>True
 | .int _ _=>True
 | .str _ _=>True
 | .bytes _ _=>True
 | .ref a=>a∈A
 | _=>False
theorem OkU.mono {A B:List Addr} (h:∀ a∈A,a∈B):∀ {u:Value},OkU A u→OkU B u:=fun {u} x=>by
 cases u with
 | ref a=>exact h a x
 | none=>trivial
 | bool b=>trivial
 | int i t=>trivial
 | str s t=>trivial
 | bytes b t=>trivial
 | _=>exact False.elim x
theorem Ia {A:List Addr} {u:Value} (x:OkU A u):RelV (toV u) u:=by
 cases u with
 | ref a=>rfl
 | none=>rfl
 | bool b=>rfl
 | int i t=>exact⟨t,rfl⟩
 | str s t=>exact⟨t,rfl⟩
 | bytes b t=>exact⟨t,rfl⟩
 | _=>exact False.elim x
theorem pK {A:List Addr}:∀ {vs:List Value},(∀ u∈vs,OkU A u)→Vals (vs.map toV) vs
 | [],_=>.nil
 | u :: r,h=>.cons (Ia (h u (List.mem_cons_self ..))) (pK fun x hx=>h x (List.mem_cons_of_mem _ hx))
def qB (h:Heap) (A:List Addr) (a:Addr):Prop:=∃ vs:List Value,vs.length≤sizeLine∧(∀ u∈vs,OkU A u) ∧
 (h.get? a=some { cls:=.type "list",data:=.seq vs.toArray }∨h.get? a=some { cls:=.type "tuple",data:=.seq vs.toArray })
theorem qB.mono {h:Heap} {A B:List Addr} {a:Addr} (k:∀ a∈A,a∈B) (x:qB h A a):qB h B a:=by
 obtain⟨vs,h1,h2,h3⟩:=x
 exact⟨vs,h1,fun u hu=>(h2 u hu).mono k,h3⟩
theorem oC {P:Params} {h:Heap}:∀ {vs:List Value} {ds:List WData},WellAll P h vs ds→vs.length=ds.length
 | _,_,.nil=>rfl
 | _,_,.cons _ b=>by
  show _ + 1=_ + 1
  rw [oC b]
theorem AH {P:Params} {h:Heap} {v:Value} {ds:List WData} (x:Well P h v (.list ds)):∃ (a:Addr) (vs:List Value),v = .ref a∧h.get? a=some { cls:=.type "list",data:=.seq vs.toArray }∧WellAll P h vs ds:=by
 cases x with
 | list ho hall=>exact⟨_,_,rfl,ho,hall⟩
theorem zy {P:Params} {h:Heap} {v:Value} {ds:List WData} (x:Well P h v (.tuple ds)):∃ (a:Addr) (vs:List Value),v = .ref a∧h.get? a=some { cls:=.type "tuple",data:=.seq vs.toArray }∧WellAll P h vs ds:=by
 cases x with
 | tuple ho hall=>exact⟨_,_,rfl,ho,hall⟩
theorem AG {P:Params} {h:Heap} {us:List Value} {d:WData} {ds:List WData} (x:WellAll P h us (d :: ds)):∃ (v:Value) (vs:List Value),us=v :: vs∧Well P h v d∧WellAll P h vs ds:=by
 cases x with
 | cons a b=>exact⟨_,_,rfl,a,b⟩
theorem EM {n:Nat} (h:n≤1048576):n≤sizeLine:=Nat.le_trans h (by decide)
section
variable {P:Params} {h:Heap}
mutual
theorem G9:∀ (d:WData) (v:Value),Well P h v d→plW d=true→d.weight≤1048576→∃ A:List Addr,OkU A v∧∀ a∈A,qB h A a
 | .none,_,x,_,_=>by
  cases x
  exact⟨[],trivial,fun a m=>absurd m (by simp)⟩
 | .bool b,_,x,_,_=>by
  cases x
  exact⟨[],trivial,fun a m=>absurd m (by simp)⟩
 | .int i,_,x,_,_=>by
  cases x
  exact⟨[],trivial,fun a m=>absurd m (by simp)⟩
 | .str s,_,x,_,_=>by
  cases x
  exact⟨[],trivial,fun a m=>absurd m (by simp)⟩
 | .bytes b,_,x,_,_=>by
  cases x
  exact⟨[],trivial,fun a m=>absurd m (by simp)⟩
 | .list ds,_,x,p,z=>by
  obtain⟨a,vs,rfl,ho,hall⟩:=AH x
  have z2:WData.weightAll ds≤1048576:=z
  obtain⟨A,h1,h2⟩:=uX ds _ hall p fun d hd=>Nat.le_trans (uP hd) z2
  have k:∀ b∈A,b∈a :: A:=fun b hb=>List.mem_cons_of_mem _ hb
  refine⟨a :: A,List.mem_cons_self ..,fun b hb=>?_⟩
  rcases List.mem_cons.mp hb with e | m
  ·rw [e]
   exact⟨vs,EM (by rw [oC hall]; exact Nat.le_trans (PySem.W.length_le_weightAllW ds) z2),fun u hu=>(h1 u hu).mono k,.inl ho⟩
  ·exact (h2 b m).mono k
 | .tuple ds,_,x,p,z=>by
  obtain⟨a,vs,rfl,ho,hall⟩:=zy x
  have z2:WData.weightAll ds≤1048576:=z
  obtain⟨A,h1,h2⟩:=uX ds _ hall p fun d hd=>Nat.le_trans (uP hd) z2
  have k:∀ b∈A,b∈a :: A:=fun b hb=>List.mem_cons_of_mem _ hb
  refine⟨a :: A,List.mem_cons_self ..,fun b hb=>?_⟩
  rcases List.mem_cons.mp hb with e | m
  ·rw [e]
   exact⟨vs,EM (by rw [oC hall]; exact Nat.le_trans (PySem.W.length_le_weightAllW ds) z2),fun u hu=>(h1 u hu).mono k,.inr ho⟩
  ·exact (h2 b m).mono k
 | .float _,_,_,p,_=>Bool.noConfusion (show false=true from p)
 | .dict _,_,_,p,_=>Bool.noConfusion (show false=true from p)
 | .bytearray _,_,_,p,_=>Bool.noConfusion (show false=true from p)
 | .set _,_,_,p,_=>Bool.noConfusion (show false=true from p)
 | .frozenset _,_,_,p,_=>Bool.noConfusion (show false=true from p)
 | .obj _ _,_,_,p,_=>Bool.noConfusion (show false=true from p)
theorem uX:∀ (ds:List WData) (vs:List Value),WellAll P h vs ds→xK ds=true→(∀ d∈ds,d.weight≤1048576)→∃ A:List Addr,(∀ u∈vs,OkU A u)∧∀ a∈A,qB h A a
 | [],_,x,_,_=>by
  cases x
  exact⟨[],fun u m=>absurd m (by simp),fun a m=>absurd m (by simp)⟩
 | d :: ds,_,x,p,z=>by
  obtain⟨v,vs,rfl,x1,x2⟩:=AG x
  have q:plW d=true∧xK ds=true:=Bool.and_eq_true_iff.mp p
  obtain⟨A,a1,a2⟩:=G9 d v x1 q.1 (z d (List.mem_cons_self ..))
  obtain⟨B,b1,b2⟩:=uX ds vs x2 q.2 fun e he=>z e (List.mem_cons_of_mem _ he)
  have kA:∀ b∈A,b∈A ++ B:=fun b hb=>List.mem_append.mpr (.inl hb)
  have kB:∀ b∈B,b∈A ++ B:=fun b hb=>List.mem_append.mpr (.inr hb)
  refine⟨A ++ B,fun u hu=>?_,fun b hb=>?_⟩
  ·rcases List.mem_cons.mp hu with e | m
   ·rw [e]
    exact a1.mono kA
   ·exact (b1 u m).mono kB
  ·rcases List.mem_append.mp hb with m | m
   ·exact (a2 b m).mono kA
   ·exact (b2 b m).mono kB
end
end
def IY (o:Obj):Option HO:=match o.data with
 | .seq vs _=>if (o.cls == Value.type "list")=true then some (.frz o (.lst (vs.toList.map toV))) else some (.frz o (.tup (vs.toList.map toV)))
 | _=>none
def pO (K:PySem.W.Frag) (h:Heap) (A:List Addr):Hp:=fun b=>if b∈A then (if (K.lookup b).isNone=true then (h.get? b).bind IY else none) else none
def Ep (H:Hp):Prop:=∀ b,H b=none∨∃ o u,H b=some (.frz o u)
theorem BW (vs:List Value):IY { cls:=.type "list",data:=.seq vs.toArray } = some (.frz { cls:=.type "list",data:=.seq vs.toArray } (.lst (vs.map toV))):=by
 show (if (Value.type "list" == Value.type "list")=true then some (HO.frz { cls:=.type "list",data:=.seq vs.toArray } (.lst (vs.toArray.toList.map toV))) else some (HO.frz { cls:=.type "list",data:=.seq vs.toArray } (.tup (vs.toArray.toList.map toV))))=_
 rw [if_pos (beq_self_eq_true _)]
theorem BX (vs:List Value):IY { cls:=.type "tuple",data:=.seq vs.toArray } = some (.frz { cls:=.type "tuple",data:=.seq vs.toArray } (.tup (vs.map toV))):=by
 show (if (Value.type "tuple" == Value.type "list")=true then some (HO.frz { cls:=.type "tuple",data:=.seq vs.toArray } (.lst (vs.toArray.toList.map toV))) else some (HO.frz { cls:=.type "tuple",data:=.seq vs.toArray } (.tup (vs.toArray.toList.map toV))))=_
 rw [if_neg (by decide)]
section
variable {P:Program} {w:World} {K:PySem.W.Frag} {h:Heap} {A:List Addr}
theorem xR {b:Addr} {o:Obj} (hb:b∈A) (hk:K.lookup b=none) (e:h.get? b=some o):pO K h A b=IY o:=by
 unfold pO
 rw [if_pos hb,hk,if_pos (show (none:Option Obj).isNone=true from rfl),e]<;>rfl
theorem Jk {b:Addr} {u:HO} (q:pO K h A b=some u):b∈A∧K.lookup b=none:=by
 unfold pO at q
 by_cases hb:b∈A
 ·rw [if_pos hb] at q
  cases hk:K.lookup b with
  | none=>exact⟨hb,rfl⟩
  | some o =>
   rw [hk,if_neg (by simp)] at q
   cases q
 ·rw [if_neg hb] at q
  cases q
theorem xS (ar:∀ a∈A,qB h A a) {b:Addr} {u:HO} (q:pO K h A b=some u):K.lookup b=none∧∃ vs:List Value,vs.length≤sizeLine∧(∀ u∈vs,OkU A u) ∧
  (
  (h.get? b=some { cls:=.type "list",data:=.seq vs.toArray }∧u = .frz { cls:=.type "list",data:=.seq vs.toArray } (.lst (vs.map toV))) ∨
  (h.get? b=some { cls:=.type "tuple",data:=.seq vs.toArray }∧u = .frz { cls:=.type "tuple",data:=.seq vs.toArray } (.tup (vs.map toV)))):=by
 obtain⟨hb,hk⟩:=Jk q
 obtain⟨vs,h1,h2,h3⟩:=ar b hb
 refine⟨hk,vs,h1,h2,?_⟩
 rcases h3 with e | e
 ·rw [xR hb hk e,BW] at q
  exact .inl ⟨e,(Option.some.inj q).symm⟩
 ·rw [xR hb hk e,BX] at q
  exact .inr ⟨e,(Option.some.inj q).symm⟩
theorem E8 (ar:∀ a∈A,qB h A a):Ep (pO K h A):=fun b=>by
 cases q:pO K h A b with
 | none=>exact .inl rfl
 | some u =>
  obtain⟨_,vs,_,_,⟨_,e⟩ | ⟨_,e⟩⟩:=xS ar q
  ·exact .inr ⟨_,_,by rw [e]⟩
  ·exact .inr ⟨_,_,by rw [e]⟩
theorem IP (ar:∀ a∈A,qB h A a):HOk P w (pO K h A) h:=fun b u q=>by
 obtain⟨_,vs,h1,h2,⟨e,rfl⟩ | ⟨e,rfl⟩⟩:=xS ar q
 ·exact⟨e,by rw [List.length_map]; exact h1,vs,_,pK h2,e⟩
 ·exact⟨e,by rw [List.length_map]; exact h1,vs,pK h2,_,e,rfl,_,rfl⟩
theorem yd {c c':Value} {vs us:List Value} (e:(some { cls:=c,data:=.seq vs.toArray }:Option Obj)=some { cls:=c',data:=.seq us.toArray }):c=c'∧vs=us:=by
 have e1:=Option.some.inj e
 have e2:c=c':=congrArg Obj.cls e1
 have e3:Data.seq vs.toArray=Data.seq us.toArray:=congrArg Obj.data e1
 injection e3 with e4
 refine⟨e2,?_⟩
 have e5:=congrArg Array.toList e4
 simpa using e5
theorem L8 (KX:K.In h) (ar:∀ a∈A,qB h A a) {a:Addr} {vs:List Value} (ha:a∈A) (e:h.get? a=some { cls:=.type "list",data:=.seq vs.toArray }):(∀ u∈vs,OkU A u)∧SqL K (pO K h A) a (vs.map toV):=by
 obtain⟨us,h1,h2,h3⟩:=ar a ha
 have hu:us=vs:=by
  rcases h3 with q | q
  ·rw [e] at q
   exact (yd q).2.symm
  ·rw [e] at q
   exact absurd (Value.type.inj (yd q).1) (by decide)
 subst hu
 refine⟨h2,?_⟩
 cases hk:K.lookup a with
 | none=>exact .inl (.inr ⟨_,by rw [xR ha hk e,BW]⟩)
 | some o =>
  have e2:=KX a o hk
  rw [e] at e2
  obtain rfl:=Option.some.inj e2
  exact .inr ⟨_,us.toArray,_,hk,rfl,rfl,rfl,by rw [List.size_toArray]; exact h1,by simpa using pK h2⟩
theorem L9 (KX:K.In h) (ar:∀ a∈A,qB h A a) {a:Addr} {vs:List Value} (ha:a∈A) (e:h.get? a=some { cls:=.type "tuple",data:=.seq vs.toArray }):(∀ u∈vs,OkU A u)∧SqT K (pO K h A) a (vs.map toV):=by
 obtain⟨us,h1,h2,h3⟩:=ar a ha
 have hu:us=vs:=by
  rcases h3 with q | q
  ·rw [e] at q
   exact absurd (Value.type.inj (yd q).1) (by decide)
  ·rw [e] at q
   exact (yd q).2.symm
 subst hu
 refine⟨h2,?_⟩
 cases hk:K.lookup a with
 | none=>exact .inl (.inr ⟨_,by rw [xR ha hk e,BX]⟩)
 | some o =>
  have e2:=KX a o hk
  rw [e] at e2
  obtain rfl:=Option.some.inj e2
  exact .inr ⟨_,us.toArray,_,hk,rfl,rfl,by rw [List.size_toArray]; exact h1,by simpa using pK h2⟩
mutual
theorem Km {Pm:Params} (KX:K.In h) (ar:∀ a∈A,qB h A a):∀ (d:WData) (v:Value),Well Pm h v d→plW d=true→OkU A v→Dw K (pO K h A) (toV v) d
 | .none,_,x,_,_=>by
  cases x
  exact .non
 | .bool b,_,x,_,_=>by
  cases x
  exact .bl b
 | .int i,_,x,_,_=>by
  cases x
  exact .int i
 | .str s,_,x,_,_=>by
  cases x
  exact .str s
 | .bytes b,_,x,_,_=>by
  cases x
  have z:=Dw.byt (K:=K) (H:=pO K h A) b.toArray
  exact z
 | .list ds,_,x,p,hu=>by
  obtain⟨a,vs,rfl,ho,hall⟩:=AH x
  obtain⟨h2,hs⟩:=L8 KX ar hu ho
  exact .lst hs (AZ KX ar ds _ hall p h2)
 | .tuple ds,_,x,p,hu=>by
  obtain⟨a,vs,rfl,ho,hall⟩:=zy x
  obtain⟨h2,hs⟩:=L9 KX ar hu ho
  exact .tup hs (AZ KX ar ds _ hall p h2)
 | .float _,_,_,p,_=>Bool.noConfusion (show false=true from p)
 | .dict _,_,_,p,_=>Bool.noConfusion (show false=true from p)
 | .bytearray _,_,_,p,_=>Bool.noConfusion (show false=true from p)
 | .set _,_,_,p,_=>Bool.noConfusion (show false=true from p)
 | .frozenset _,_,_,p,_=>Bool.noConfusion (show false=true from p)
 | .obj _ _,_,_,p,_=>Bool.noConfusion (show false=true from p)
theorem AZ {Pm:Params} (KX:K.In h) (ar:∀ a∈A,qB h A a):∀ (ds:List WData) (vs:List Value),WellAll Pm h vs ds→xK ds=true→(∀ u∈vs,OkU A u)→qY K (pO K h A) (vs.map toV) ds
 | [],_,x,_,_=>by
  cases x
  exact .nil
 | d :: ds,_,x,p,hu=>by
  obtain⟨v,vs,rfl,x1,x2⟩:=AG x
  have q:plW d=true∧xK ds=true:=Bool.and_eq_true_iff.mp p
  exact .cons (Km KX ar d v x1 q.1 (hu _ (List.mem_cons_self ..))) (AZ KX ar ds vs x2 q.2 fun u m=>hu u (List.mem_cons_of_mem _ m))
end
end
theorem Gk {P:Program} {w:World} {K:PySem.W.Frag} {mg mb:Str→Option Value} {CX:CXT} {k:Nat} {fa:Addr} {fd:FuncData} {ps:List Str} {sp:Sp} {s₁:Shared} {vals:List Value} {ds:List WData} {R:PySem.W.WRecords} {cl:Str→Option Addr} {d0:WData}
  (KX:K.In s₁.heap) (hns:s₁.heap.Ns mainGlobals mg) (hb:s₁.heap.Ns builtinsNs mb) (hbb:∀ x:Str,x≠"__name__"→mb x=bootBuiltins x) (hlim:s₁.heap.NoLimit) (hg:s₁.gens = #[])
  (hwl:WellAll w.params s₁.heap vals ds) (hpl:xK ds=true) (hwt:∀ d∈ds,d.weight≤1048576) (hr:cf k callerA)
  (F:∀ base:Heap,K.In base→base.Ns mainGlobals mg→oE P w K mg base CX k fa fd ps sp) (hbind:∀ (s:Shared) (us:List Value),us.length=ps.length→BindsTo s fd ⟨us,[]⟩ (ps.zip us)) (hlen:ds.length=ps.length)
  (hsp:∀ (H:Hp) (xs:List V),Ep H→qY K H xs ds→sp xs H (fun v H'=>Dw K H' v d0) fun _ _ _=>False)
  (hCX:∀ H e s',CX [] H s₁ (fun _ _ _=>False) e s'→False) :
  codeAny (model P w) callerA (.call (.ref fa) ⟨vals,[]⟩) (fun r s'=>∃ u as,r = .ok (.ret u)∧ReadsW R cl s'.heap u d0 as∧OldK s₁.heap s'.heap∧s'.os=s₁.os∧AllBare s'.gens) s₁:=by
 obtain⟨A,ho,ar⟩:=uX ds vals hwl hpl hwt
 have hO:Ep (pO K s₁.heap A):=E8 ar
 have hok:HOk P w (pO K s₁.heap A) s₁.heap:=IP ar
 have hS:=AZ KX ar ds vals hwl hpl ho
 have hV:=pK ho
 have hK:∀ b u,pO K s₁.heap A b=some u→K.lookup b=none:=fun b u q=>(xS ar q).1
 have noA:∀ {b:Addr} {o:Obj} {es:Array DictEntry} {ep:Nat},s₁.heap.get? b=some o→o.data = .dict es ep→pO K s₁.heap A b=none:=fun {b o es ep} e d=>by
  cases q:pO K s₁.heap A b with
  | none=>rfl
  | some u =>
   obtain⟨_,vs,_,_,⟨e2,_⟩ | ⟨e2,_⟩⟩:=xS ar q
   ·rw [e2] at e
    cases e
    have d':Data.seq vs.toArray _=Data.dict es ep:=d
    cases d'
   ·rw [e2] at e
    cases e
    have d':Data.seq vs.toArray _=Data.dict es ep:=d
    cases d'
 generalize pO K s₁.heap A=H at hO hok hS hK noA
 have base_of:∀ {b:Addr} {o:Obj},s₁.heap.get? b=some o→H b=none→(A1 s₁.heap H).get? b=some o:=fun e n=>Hq e n
 have nsK:∀ {b:Addr} {m:Str→Option Value},s₁.heap.Ns b m→(A1 s₁.heap H).Ns b m:=fun {b m} ⟨o,es,ep,e,d,r⟩=>⟨o,es,ep,base_of e (noA e d),d,r⟩
 have nK:∀ b o,K.lookup b=some o→H b=none:=fun b o e=>by
  cases q:H b with
  | none=>rfl
  | some u =>
   rw [hK b u q] at e
   cases e
 have hKb:K.In (A1 s₁.heap H):=fun b o e=>base_of (KX b o e) (nK b o e)
 have hM:Mod K mg (A1 s₁.heap H):=⟨hKb,nsK hns,⟨mb,nsK hb,hbb⟩,let ⟨mc,h1,h2⟩:=hlim; ⟨mc,nsK h1,h2⟩⟩
 have e0:C7 P w K mg (A1 s₁.heap H) callerA [] s₁ H:=⟨rfl,hM,fun b o e=>Jl e,Nat.le_of_eq (Fw _ _),trivial,fun b hb=>absurd (show b∈([]:List Addr) from hb) (by simp),hok,.of_eq hg⟩
 have hl:vals.length=ps.length:=by rw [oC hwl]; exact hlen
 refine codeAny_mono ((F _ hKb (nsK hns)).run callerA [] s₁ H ⟨vals,[]⟩ vals (vals.map toV) _ _ hr e0 (hbind s₁ vals hl) hV (hsp H _ hO hS)) fun r s' x=>?_
 cases r with
 | error e=>exact (hCX H e s' x).elim
 | ok fl =>
  cases fl with
  | next=>exact False.elim x
  | brk=>exact False.elim x
  | cont=>exact False.elim x
  | ret u =>
   obtain⟨v,H',os,bare,un,hok',r',q⟩:=x
   have kept:∀ b o,s₁.heap.get? b=some o→s'.heap.get? b=some o:=fun b o e=>by
    cases q2:H b with
    | none=>exact un.keep b o e q2 (by intro z; exact absurd (show b∈([]:List Addr) from z) (by simp)) (by simp)
    | some u2 =>
     rcases hO b with z | ⟨ob,u3,z⟩
     ·rw [q2] at z
      cases z
     ·have z2:=un.rA b ob _ z
      obtain⟨e1,_⟩:=hok b _ z
      obtain⟨e2,_⟩:=hok' b _ z2
      rw [e] at e1
      cases e1
      exact e2
   have KX':K.In s'.heap:=fun b o e=>kept b o (KX b o e)
   obtain⟨as,hrd⟩:=Dw.reads (R:=R) (cl:=cl) hok' KX' d0 v u q r'
   exact⟨u,as,rfl,hrd,OldK.of_keep kept,os,bare⟩
theorem yF {ds:List WData} (h:WData.layableAll ds=true):∀ d∈ds,d.weight≤1048576:=fun d hd =>
 (PySem.W.layableW_iff.mp (List.all_eq_true.mp h d hd)).2.2
theorem yz:∀ (cs:List Codec) (a:Codec.denoteAll cs),(Codec.encAll cs a).length=cs.length
 | [],_=>rfl
 | c :: cs,a=>by
  show (Codec.encAll cs a.2).length + 1=cs.length + 1
  rw [yz cs a.2]
theorem GP {r:OpenSpec} {k:Nat} {q:Program} {loose:List Str} {XP:(Str→Option Value)→Heap→Prop} {YP:World→Heap→Prop} {d:DefRec} {K:Params→PySem.W.Frag} {CX:World→CXT} {ps:List Str} {sp:World→Sp}
  (hwell:r.wellSaid=true) (hdf:d.params.defaults=[]) (hlen:r.args.length=ps.length) (hr:cf k callerA)
  (hY:∀ (w:World) (h:Heap),YP w h→(K w.params).In h)
  (F:∀ (w:World) (mg:Str→Option Value) (fa:Addr) (h:Heap),YP w h→(K w.params).In h→h.Ns mainGlobals mg→mg d.name=some (.ref fa) →
   ∃ fd:FuncData,(∀ (s:Shared) (us:List Value),us.length=ps.length→BindsTo s fd ⟨us,[]⟩ (ps.zip us)) ∧
    ∀ base:Heap,(K w.params).In base→base.Ns mainGlobals mg→oE r.prog w (K w.params) mg base (CX w) k fa fd ps (sp w))
  (hsp:∀ (w:World) (H:Hp) (xs:List V) (a:Codec.denoteAll r.args),Ep H→Codec.withinAll r.args a=true→Codec.app r.args r.asked a=true→qY (K w.params) H xs (Codec.encAll r.args a) →
   sp w xs H (fun v H'=>Dw (K w.params) H' v (r.ret.enc (Codec.app r.args r.f a))) fun _ _ _=>False)
  (hCX:∀ (w:World) (H:Hp) (s:Shared) (e:Value) (s':Shared),CX w [] H s (fun _ _ _=>False) e s'→False) :
  PySem.W.WalkOS q loose XP YP r d [] (fun f vs=>PySem.call f vs):=by
 intro w s_0 s₁ mg mb G Y fa o pm cd doc dV kV ho hd hcd hD hmg hg args vals as hpre hlay hrd hwl hlo
 obtain⟨a,e1,e2⟩:=PySem.W.os_pre_some hpre
 obtain⟨e3,hwi⟩:=Codec.encAll_of_decAll r.args args a e1
 subst e3
 have KX:=hY w _ Y
 obtain⟨fd,hb,hF⟩:=F w mg fa _ Y KX G.T.g hmg
 refine PySem.W.enter_call (codeAny_mono (Gk (R:=[]) (cl:=classAt s_0.heap) (d0:=r.ret.enc (Codec.app r.args r.f a)) KX G.T.g G.T.b G.T.builtins G.T.nolimit hg hwl (Aw _ _) (yF hlay) hr hF hb (by rw [yz]; exact hlen)
  (fun H xs hO hS=>hsp w H xs a hO hwi e2 hS) fun H e s'=>hCX w H s₁ e s') fun r' s' hq=>?_)
 obtain⟨u,as',rfl,h1,h2,h3,h4⟩:=hq
 exact⟨.inl ⟨u,_,as',rfl,fun _=>rfl,h1,(OpenSpec.post_iff hwell hwi _ _).mpr rfl,fun z=>Bool.noConfusion (show false=true from z)⟩,h2,h3,h4⟩
end L2
end
section
namespace L2
open PySem PySem.Spec PyProof.Rows
open PySem.W (Frag Looks Looks.ld Looks.now Looks.andThen findIn typeIn clsIn nsIn looks_findIn looks_clsIn bind_fn InitBack check_slot nd_load)
abbrev oY (C t:Addr):Obj:={ cls:=.ref C,data:=.fields #[.ref t,.none,.none,.none,.bool false,.none] }
abbrev o4 (l:List Value):Obj:={ cls:=.type "tuple",data:=.seq l.toArray }
def lE:List Value→Bool
 | [.type a,.type b,.type c]=>a == "Exception" && b == "BaseException" && c == "object"
 | .ref _ :: r=>lE r
 | _=>false
def xIn (K:Frag) (C:Addr):Bool:=match K.lookup C with
 | some ⟨.type "type",_,.cls cd,sl⟩=>(match cd.mro,sl.toList with
  | .ref C' :: bm,[_,_,_,_,some (.builtin n),_]=>C' == C && n == "Exception.__new__" && !cd.hasDel && cd.hasDict && lE bm
  | _,_=>false)
 | _=>false
theorem ip:∀ {l:List Value},lE l=true→l.contains (.type "Exception")=true∧l.contains (.type "BaseException")=true∧l.contains (.type "object")=true∧l.contains (.type "AttributeError")=false∧l.contains (.type "NameError")=false
 | [.type a,.type b,.type c],e=>by
  simp only [lE,Bool.and_eq_true,beq_iff_eq] at e
  obtain⟨⟨rfl,rfl⟩,rfl⟩:=e
  decide +kernel
 | .ref x :: r,e=>by
  have e':lE r=true:=by
   cases r with
   | nil=>cases e
   | cons y r=>exact e
  obtain⟨a,b,c,d,f⟩:=ip e'
  simp only [List.contains_cons,a,b,c,d,f]
  refine⟨rfl,rfl,rfl,rfl,rfl⟩
theorem xf {K:Frag} {h:Heap} {C:Addr} (X:K.In h) (q:xIn K C=true):∃ nm qn N bs bm sn sub ab col dd k0 k1 k2 k3 k5,
  h.get? C=some (excClassObj nm qn C N bs bm true sn sub ab col dd k0 k1 k2 k3 k5 "Exception.__new__")∧lE bm=true ∧
  clsIn K C=some { name:=nm,bases:=bs,mro:=.ref C :: bm,ns:=N,qualname:=qn,hasDict:=true,slotNames:=sn,subclasses:=sub,abstract:=ab,collection:=col,hasDel:=false }:=by
 unfold xIn at q
 split at q
 ·rename_i dd cd sl ho
  split at q
  ·rename_i C' bm k0 k1 k2 k3 n k5 hm hs
   simp only [Bool.and_eq_true,beq_iff_eq,Bool.not_eq_true'] at q
   obtain⟨⟨⟨⟨rfl,rfl⟩,hdel⟩,hdct⟩,ht⟩:=q
   obtain⟨nm,bs,mro,ns,qn,hd,sn,sub,ab,col,del⟩:=cd
   dsimp only at hm hdel hdct
   subst hm hdel hdct
   have hsl:sl = #[k0,k1,k2,k3,some (.builtin "Exception.__new__"),k5]:=by
    obtain⟨l⟩:=sl
    simp only at hs
    rw [hs]
   subst hsl
   exact⟨nm,qn,ns,bs,bm,sn,sub,ab,col,dd,k0,k1,k2,k3,k5,X _ _ ho,ht,by unfold clsIn; rw [ho]⟩
  ·cases q
 ·cases q
section
variable {M:Model} {A:Around} {E:Value→Shared→Prop} {h:Heap} {g:Array GenState} {d:Drawn} {t:Nat} {os:OsState}
variable {nm q:Str} {C N:Addr} {bs bm:List Value} {hdct:Bool} {sn:List Str} {sub:List Value} {ab:Bool} {col:Option Bool} {dd:Option Addr} {k0 k1 k2 k3 k5:Option Value}
theorem C1 (ht:lE bm=true) {rest:List Value} {Q:Unit→Shared→Prop} (hC:h.get? C=some (excClassObj nm q C N bs bm hdct sn sub ab col dd k0 k1 k2 k3 k5 "Exception.__new__"))
  (hq:Q () ⟨h,g,d,t,os⟩):wpAny M A (checkBuiltinCall "Exception.__new__" ⟨.ref C :: rest,[]⟩) Q E ⟨h,g,d,t,os⟩:=by
 have Fn:=PySem.F.excBase_Exception
 have hcont:(Value.ref C :: bm).contains (.type "Exception")=true:=by rw [List.contains_cons,(ip ht).1,Bool.or_true]
 have hstar:=Fn.noStar
 simp only [checkBuiltinCall,Fn.newKind,Fn.newSplit,Fn.newRow]
 repeat (first | refine wpAny_loadPart_at hC ?_ | (refine wpAny_isSubtype_exc hC ?_; rw [hcont]) | refine wpAny_staticBase_exc hC ?_ | refine wpAny_madeBy_exc hC ?_ | simp only [bne_self_eq_false,Bool.false_eq_true,if_false] | wp_step)
 exact hq
end
section
variable {prog:Program} {w:World} {A:Around} {R:Result→Shared→Prop} {h:Heap} {g:Array GenState} {d:Drawn} {t:Nat} {os:OsState}
variable {nm q:Str} {C N:Addr} {bs bm:List Value} {hdct:Bool} {sn:List Str} {sub:List Value} {ab:Bool} {col:Option Bool} {dd:Option Addr} {k0 k1 k2 k3 k5:Option Value}
theorem L4 (ht:lE bm=true) {rest:List Value} (hC:h.get? C=some (excClassObj nm q C N bs bm hdct sn sub ab col dd k0 k1 k2 k3 k5 "Exception.__new__"))
  (hq:R (.ok (.ret (.ref (h.objs.size + 1)))) ⟨(h.push (o4 rest)).push (oY C h.objs.size),g,d,t,os⟩) (hrest:rest.length≤sizeLine) :
  codeAny (model prog w) A (.builtin "Exception.__new__" ⟨.ref C :: rest,[]⟩) R ⟨h,g,d,t,os⟩:=by
 have Fn:=PySem.F.excBase_Exception
 have hends:=Fn.ends
 obtain⟨e1,e2,e3,e4,e5⟩:=ip ht
 have hcB:(Value.ref C :: bm).contains (.type "Exception")=true:=by rw [List.contains_cons,e1,Bool.or_true]
 have hcA:(Value.ref C :: bm).contains (.type "AttributeError")=false:=by rw [List.contains_cons,e4]; rfl
 have hcN:(Value.ref C :: bm).contains (.type "NameError")=false:=by rw [List.contains_cons,e5]; rfl
 refine codeAny_builtinAt Fn.entry ?_
 unfold Builtin.«BaseException.__new__»
 refine PySem.wpAt_bind ?_
 show PySem.wpAt _ _ _ (stack >>= _) _ _ _
 refine PySem.wpAt_bind (PySem.wpAt_stack fun p below=>PySem.wpAt_of_wpAny ?_)
 wp_walk
 refine PySem.wpAt_of_wpAny ?_
 rw [Fn.owner]
 repeat (first | with_reducible refine wpAny_madeHere_exc Fn.canon hC ?_ | with_reducible refine wpAny_loadPart_at hC ?_ | (with_reducible refine wpAny_isSubtype_exc hC ?_; first | rw [hcB] | rw [hcA] | rw [hcN]) | wp_step)
 show R _ _
 rw [Heap.size_push]
 exact hq
end
section
variable {prog:Program} {w:World} {A:Around} {R:Result→Shared→Prop} {K:Frag} {C f:Addr} {s:Shared}
theorem Hw {rest:List Value} (X:K.In s.heap) (hx:xIn K C=true) (hi:findIn K (.ref C) "__init__" = some (some (.ref f))) (hf:typeIn K (.ref f)=some (.type "function")) (hrest:rest.length≤sizeLine)
  (h:codeAny (model prog w) (A.under (.builtin "type.__call__" ⟨.ref C :: rest,[]⟩)) (.call (.ref f) ⟨.ref (s.heap.objs.size + 1) :: rest,[]⟩) (InitBack (s.heap.objs.size + 1) R)
   { s with heap:=(s.heap.push (o4 rest)).push (oY C s.heap.objs.size) }):codeAny (model prog w) A (.call (.ref C) ⟨rest,[]⟩) R s:=by
 obtain⟨nm,qn,N,bs,bm,sn,sub,ab,col,dd,k0,k1,k2,k3,k5,hC,ht,hcls⟩:=xf X hx
 obtain⟨hh,g,d,t,os⟩:=s
 have f1:=tc_lookup
 have f2:=tc_bind (.ref C)
 have hT:(⟨hh,g,d,t,os⟩:Shared).TypeIs (.ref C) "type":=⟨_,hC,rfl⟩
 refine codeAny_of_tree ?_
 show wpAny _ _ (callAny (.ref C) _) _ _ _
 repeat (any_goals (first | assumption | with_reducible refine wpAny_loadPart_at hC ?_ | wp_step))
 refine⟨rfl,?_⟩
 refine codeAny_call_builtin_at (Code.quiet_builtin _ (by decide +kernel)) entry_typeCall (wpAny_check_type_call_sub hC ?_)
 have Fn:=PySem.F.excBase_Exception
 repeat (first | with_reducible refine wpAny_loadPart_at hC ?_ | with_reducible refine wpAny_madeBy_exc hC ?_ | wp_step)
 refine codeAny_call_builtin_code (Code.quiet_builtin _ Fn.quiet) (C1 ht hC ?_)
 refine L4 ht hC ?_ hrest
 show wpAny _ _ _ _ _ _
 have k:∀ b o,hh.get? b=some o→((hh.push (o4 rest)).push (oY C hh.objs.size)).get? b=some o:=fun b o e=>Heap.get?_push_of_some _ (Heap.get?_push_of_some _ e)
 have hC1:=k _ _ hC
 have hget:((hh.push (o4 rest)).push (oY C hh.objs.size)).get? (hh.objs.size + 1)=some (oY C hh.objs.size):=by heap_get
 have hcC:(Value.ref C :: bm).contains (.ref C)=true:=by simp
 have i1:=(looks_findIn (M:=model prog w) X hi).keeps k
 have b1:=(bind_fn (M:=model prog w) X (.ref (hh.objs.size + 1)) hf).keeps k
 have t1:Looks (model prog w) ((hh.push (o4 rest)).push (oY C hh.objs.size)) (typeOf (.ref (hh.objs.size + 1))) (.ref C):=(Looks.ld hget).andThen .now
 have s1:Looks (model prog w) ((hh.push (o4 rest)).push (oY C hh.objs.size)) (isSubtype (.ref C) (.ref C)) true:=fun A' Q' E' s' k' z=>by
  obtain⟨h',g',d',t',os'⟩:=s'
  refine wpAny_isSubtype_exc (k' _ _ hC1) ?_
  rw [hcC]
  exact z
 show wpAny _ (A.under (Code.builtin "type.__call__" ⟨.ref C :: rest,[]⟩)) _ _ _ ⟨(hh.push (o4 rest)).push (oY C hh.objs.size),g,d,t,os⟩
 unfold isInstance callSpecial? specialOf
 repeat (first | with_reducible refine wpAny_call ?_ | simp only [hcC,Bool.not_true,Bool.false_eq_true,if_false] | lk)
 refine codeAny_mono h fun r s' z=>?_
 rcases r with e | (v | _ | _ | _)<;>first | exact z | exact z.elim | skip
 obtain⟨rfl,z⟩:=z
 exact wpAny_pure (wpAny_pure z)
end
end L2
end
section
namespace L2
open PySem PySem.Spec PyProof.Rows Builtin Builtin.ObjectAttr
open PySem.W (Frag Looks Looks.ld Looks.now Looks.andThen findIn typeIn clsIn nsIn looks_findIn looks_clsIn looks_mroIn mroIn bind_fn InitBack check_slot nd_load InstAt osa_eq set_plain takerIn)
theorem zl (self:Value):∀ {l:List Value},lE l=true→refuseLoop self "__setattr__" l=pure ()
 | [.type a,.type b,.type c],e=>by
  simp only [lE,Bool.and_eq_true,beq_iff_eq] at e
  obtain⟨⟨rfl,rfl⟩,rfl⟩:=e
  exact PySem.F.store_Exception.passes self
 | .ref x :: r,e=>by
  rw [refuseLoop_ref]
  exact zl self (by
   cases r with
   | nil=>cases e
   | cons y r=>exact e)
section
variable {prog:Program} {w:World} {A:Around} {E:Value→Shared→Prop} {K:Frag} {C e:Addr} {s:Shared} {oe:Obj} {vs:Array Value} {name:Str} {v:Value}
theorem Jn {tk:Tok} {R:Result→Shared→Prop} (X:K.In s.heap) (hx:xIn K C=true) (ha:findIn K (.ref C) name=some none)
  (ho:s.heap.get? e=some oe) (hc:oe.cls = .ref C) (hd:oe.dict=none) (hf:oe.data = .fields vs)
  (h:∀ h',h'.get? e=some { oe with dict:=some s.heap.objs.size }→h'.Ns1 s.heap.objs.size (fun y=>if y=name then some v else none)→(∀ b o,b≠e→s.heap.get? b=some o→h'.get? b=some o) →
   R (.ok (.ret .none)) { s with heap:=h',toks:=s.toks + 1 }):codeAny (model prog w) A (.call (.builtin "object.__setattr__") ⟨[.ref e,.str name tk,v],[]⟩) R s:=by
 obtain⟨nm,qn,N,bs,bm,sn,sub,ab,col,dd,k0,k1,k2,k3,k5,hC,ht,hcls⟩:=xf X hx
 obtain⟨oc,odi,oda,osl⟩:=oe
 dsimp only at hc hd hf
 subst hc hd hf
 have I:InstAt s.heap e ⟨.ref C,none,.fields vs,osl⟩ C none:=⟨ho,rfl,rfl,True.intro⟩
 have SF:=PySem.F.store_object
 have hm:Looks (model prog w) s.heap (mroOf (.ref C)) (.ref C :: bm):=(looks_clsIn X hcls).andThen .now
 have sub:Looks (model prog w) s.heap (isInstance (.ref e) (.type "object")) true:=I.type.andThen (looks_mroIn X (by
  unfold mroIn
  rw [hcls,Option.bind_some]
  show (if (Value.ref C :: bm).isEmpty=true then none else some ((Value.ref C :: bm).contains (.type "object")))=some true
  rw [if_neg (by simp),List.contains_cons,(ip ht).2.2.1,Bool.or_true]))
 refine codeAny_call_builtin SF.slot.plain SF.entry (@check_slot (model prog w) _ _ s "object.__setattr__" "object" "__setattr__" (.ref e) [.str name tk,v] [] _ SF.kind SF.split sub (SF.args (.ref e) (.str name tk) v) ?_)
 rw [osa_eq,refuse_eq]
 refine wpAny_bind (wpAny_bind (I.type.here (wpAny_bind (hm.here ?_))))
 rw [refuseLoop_ref,zl _ ht]
 refine wpAny_pure (wpAny_bind (I.type.here (wpAny_bind ((looks_findIn X ha).here (wpAny_bind (wpAny_pure ?_))))))
 show wpAny _ _ (storeInOwnDict (.ref e) (.ref C) (.str name tk) name v false) _ _ _
 refine wpAny_bind (wpAny_pure (wpAny_bind (wpAny_bind (wpAny_loadPart ho (wpAny_bind ((looks_clsIn X hcls).here ?_))))))
 rw [if_neg (by simp)]
 show wpAny _ _ (do
  let d ← alloc { cls:=.type "dict",data:=.dict #[] }
  update e fun o=>{ o with dict:=some d }
  dictMade (.ref C) e d) _ _ s
 refine wpAny_bind (wpAny_alloc (wpAny_bind (wpAny_update (o:=⟨.ref C,none,.fields vs,osl⟩) (Heap.get?_push_of_some _ ho) (wpAny_pure ?_))))
 have ne:e≠s.heap.objs.size:=Nat.ne_of_lt (Heap.lt_size ho)
 have hn:((s.heap.push { cls:=.type "dict",data:=.dict #[] }).update e fun o=>{ o with dict:=some s.heap.objs.size }).Ns1 s.heap.objs.size (fun _=>none):=by
  have e1:(s.heap.push PySem.W.emptyDict).get? s.heap.objs.size=some PySem.W.emptyDict:=Heap.get?_push_size s.heap rfl
  have e3:(s.heap.push PySem.W.emptyDict).Ns s.heap.objs.size (fun _=>none):=⟨PySem.W.emptyDict,#[],_,e1,rfl,(fun e he=>absurd he (by simp)),fun _=>rfl⟩
  exact (Heap.Ns1.of_empty e3).at fun o q=>by rw [Heap.get?_update_other _ _ ne]; exact q
 refine wpAny_bind (wpAny_pure (wpAny_bind ?_))
 refine wpAny_nsSet1 (s:={ s with heap:=(s.heap.push { cls:=.type "dict",data:=.dict #[] }).update e fun o=>{ o with dict:=some s.heap.objs.size } }) hn fun h' hn2 hs2=>?_
 obtain⟨oD,esD,epD,hoD,hdD,hcD⟩:=hn2.count (PySem.Within.cons (ns:=[]) name v (fun y hy=>absurd rfl hy))
 refine wpAny_bind (wpAny_lookBehind hoD (by rw [hdD]; exact pastItsLine_dict (Nat.le_trans hcD (by rw [List.length_cons,sizeLine_eq]; simp))) ?_)
 refine wpAny_pure (h h' ?_ hn2 fun b o hb q=>?_)
 ·rw [hs2.2 _ ne]
  exact Heap.get?_update_self _ (Heap.get?_push_of_some _ ho) rfl
 ·rw [hs2.2 _ (Nat.ne_of_lt (Heap.lt_size q)),Heap.get?_update_other _ _ (Ne.symm hb)]
  exact Heap.get?_push_of_some _ q
theorem Jy {Q:Unit→Shared→Prop} (X:K.In s.heap) (hx:xIn K C=true) (hs:findIn K (.ref C) "__setattr__" = some (some (.builtin "object.__setattr__"))) (ha:findIn K (.ref C) name=some none)
  (ho:s.heap.get? e=some oe) (hc:oe.cls = .ref C) (hd:oe.dict=none) (hf:oe.data = .fields vs)
  (h:∀ h',h'.get? e=some { oe with dict:=some s.heap.objs.size }→h'.Ns1 s.heap.objs.size (fun y=>if y=name then some v else none)→(∀ b o,b≠e→s.heap.get? b=some o→h'.get? b=some o) →
   Q () { s with heap:=h',toks:=s.toks + 2 }):wpAny (model prog w) A (setAttr (.ref e) name v) Q E s:=by
 have I:InstAt s.heap e oe C none:=⟨ho,hc,by unfold PySem.W.notCls; rw [hf],by rw [hd]; exact True.intro⟩
 exact set_plain X I hs (Jn (s:={ s with toks:=s.toks + 1 }) X hx ha ho hc hd hf h)
end
end L2
end
section
namespace L2
open PySem PySem.Spec PyProof.Rows Builtin Builtin.ObjectAttr
open PySem.W (Frag Looks Looks.ld Looks.now Looks.andThen findIn typeIn clsIn nsIn looks_findIn looks_clsIn looks_mroIn mroIn bind_fn InitBack check_slot nd_load InstAt looks_hook looks_find findObj handedIn handedOut_of findObj_own lookIn)
section
variable {prog:Program} {w:World} {A:Around} {E:Value→Shared→Prop} {K:Frag} {C e:Addr} {s:Shared} {oe od:Obj} {name:Str} {v:Value} {expr:Bool} {Q:Value→Shared→Prop}
theorem IU (X:K.In s.heap) (hx:xIn K C=true) (hga:findIn K (.ref C) "__getattribute__" = some (some (.builtin "BaseException.__getattribute__"))) (hgn:findIn K (.ref C) "__getattr__" = some none)
  (ha:findIn K (.ref C) name=some none) (I:InstAt s.heap e oe C (some od)) (hl:lookIn name od=some (some v)) (hv:handedIn v=true)
  (h:Q v { s with toks:=s.toks + 1 }):wpAny (model prog w) A (getAttr (.ref e) name expr) Q E s:=by
 obtain⟨nm,qn,N,bs,bm,sn,sub,ab,col,dd,k0,k1,k2,k3,k5,hC,ht,hcls⟩:=xf X hx
 have hh:PySem.W.hasDictIn K C=true:=by unfold PySem.W.hasDictIn; rw [hcls]; rfl
 obtain⟨hp,g,d,t,os⟩:=s
 have L0:=I.type (M:=model prog w)
 have L1:=looks_findIn (M:=model prog w) X hga
 have L2:=looks_hook (M:=model prog w) (mc:=.ref C) X (r:=none) (by rw [if_pos (by rfl)]; exact hgn)
 have L3:=looks_find (M:=model prog w) X I (findObj_own hh ha rfl hl)
 have hx2:(Value.builtin "BaseException.__getattribute__" == Value.builtin "object.__getattribute__")=false:=by decide +kernel
 unfold getAttr getAttrBy
 refine wpAny_bind (wpAny_mkText (wpAny_holding (wpAny_bind (L0.at (wpAny_bind (L1.at ?_))))))
 dsimp only
 rw [if_neg (by rw [hx2,Bool.and_false]; decide)]
 unfold getAttrByItsOwn
 refine wpAny_bind (L2.at ?_)
 refine wpAny_bind (wpAny_attempt (wpAny_holding ?_))
 unfold callGetattribute
 rw [if_neg (by cases expr<;>decide)]
 unfold boundAndCalled
 have FB:=PySem.F.attr_Exception
 have hk:builtinKind "BaseException.__getattribute__" = some .slot:=by decide +kernel
 have hsplit:splitId "BaseException.__getattribute__" = some ("BaseException","__getattribute__"):=by decide +kernel
 have isB:Looks (model prog w) hp (isInstance (.ref e) (.type "BaseException")) true:=L0.andThen (looks_mroIn X (by
  unfold mroIn
  rw [hcls,Option.bind_some]
  show (if (Value.ref C :: bm).isEmpty=true then none else some ((Value.ref C :: bm).contains (.type "BaseException")))=some true
  rw [if_neg (by simp),List.contains_cons,(ip ht).2.1,Bool.or_true]))
 rw [FB.ga.bind]
 refine wpAny_bind (wpAny_pure ?_)
 dsimp only
 show wpAny _ _ (call (.builtin "BaseException.__getattribute__") [.ref e,.str name t]) _ _ (⟨hp,g,d,t + 1,os⟩:Shared)
 refine wpAny_call (codeAny_call_builtin FB.ga.plain PySem.F.entry_bexc_ga ?_)
 refine @check_slot (model prog w) _ _ (⟨hp,g,d,t + 1,os⟩:Shared) "BaseException.__getattribute__" "BaseException" "__getattribute__" (.ref e) [.str name t] [] _ hk hsplit isB (PySem.F.args_bexc_ga (.ref e) (.str name t)) ?_
 show wpAny _ _ (do
  let tp ← typeOf (.ref e)
  match ← find (.ref e) tp name with
  | .value v=>ret v
  | .bind g a=>bindTo g a (.ref e) tp
  | .missing=>do
   if tp == .type "module" then
    if ← isOpaqueModuleObj (.ref e) then
     let byTheModulesOwnEntry:=match (← stack).drop 1 with
      | (.builtin "module.__getattribute__" ⟨m :: _,_⟩,_) :: _=>m == (.ref e)
      | _=>false
     if !byTheModulesOwnEntry then unsupported "thirdparty:object.__getattribute__:a-miss-on-an-opaque-module"
   if tp == .type "type" then
    if let some key ← opaqueClassAbove (.ref e) then unsupported s!"thirdparty:{key.toString}.{name.toString}:object.__getattribute__-misses-on-an-opaque-class"
   noSuchAttribute (.ref e) name) _ _ _
 refine wpAny_bind (L0.at (wpAny_bind (L3.at (wpAny_pure ?_))))
 show wpAny _ _ (handedOut v) _ _ _
 rw [handedOut_of hv]
 exact wpAny_pure h
end
end L2
end
section
namespace L2
open PySem PySem.Spec PyProof.Rows
open PySem.W (Frag findIn typeIn clsIn keepIn isFn)
def tK (e C:Addr) (od:Option Addr):Heap→Prop:=fun h=>∃ t,h.get? e=some { cls:=.ref C,dict:=od,data:=.fields #[.ref t,.none,.none,.none,.bool false,.none] }
theorem tK.stay {e C:Addr} {od:Option Addr} {h1 h2:Heap} (x:tK e C od h1) (k:∀ o,h1.get? e=some o→h2.get? e=some o):tK e C od h2 :=
 let ⟨t,q⟩:=x; ⟨t,k _ q⟩
theorem tK.ok {P:Program} {w:World} {H:Hp} {h:Heap} {e C:Addr} {od:Option Addr} (x:tK e C od h):c8 P w H h e (.ext (tK e C od)) :=
 ⟨x,(let ⟨_,q⟩:=x; ⟨_,q⟩),fun _ _ y k=>y.stay k⟩
structure uU (K:Frag) (C:Addr):Prop where
 xin:xIn K C=true
 sa:findIn K (.ref C) "__setattr__" = some (some (.builtin "object.__setattr__"))
 ga:findIn K (.ref C) "__getattribute__" = some (some (.builtin "BaseException.__getattribute__"))
 gn:findIn K (.ref C) "__getattr__" = some none
structure XMk (K:Frag) (C f:Addr):Prop where
 xin:xIn K C=true
 init:findIn K (.ref C) "__init__" = some (some (.ref f))
 fn:isFn K (.ref f)=true
 kp:keepIn K (.ref C)=true
theorem HOk.two {P:Program} {w:World} {H:Hp} {h h':Heap} {a d:Addr} {o1 o2:HO} (ok:HOk P w H h) (mu:Mut (H a)) (hd:h.objs.size≤d) (k:∀ b u,b≠a→h.get? b=some u→h'.get? b=some u)
  (n1:c8 P w (upd (upd H a o1) d o2) h' a o1) (n2:c8 P w (upd (upd H a o1) d o2) h' d o2):HOk P w (upd (upd H a o1) d o2) h':=fun b u q=>by
 have hn:=ok.fresh hd
 by_cases hb:b=d
 ·subst hb; rw [af] at q; cases q; exact n2
 ·rw [aj hb] at q
  by_cases hb2:b=a
  ·subst hb2; rw [af] at q; cases q; exact n1
  ·rw [aj hb2] at q
   refine (ok b u q).stay (fun c v hc r=>k c v ?_ r) (fun c r=>?_) fun c xs r=>?_
   ·rcases hc with rfl | hc
    ·exact hb2
    ·intro z; subst z
     rw [hc] at mu; exact mu
   ·have hca:c≠a:=fun z=>by subst z; rw [r] at mu; exact mu
    rw [aj (aq r hn),aj hca]; exact r
   ·have hca:c≠a:=fun z=>by subst z; rw [r] at mu; exact mu
    rw [aj (aq r hn),aj hca]; exact r
theorem Un.two {fs ex:List Addr} {H:Hp} {h h':Heap} {a d:Addr} {o1 o2:HO} (mu:Mut (H a)) (hn:H d=none) (hd:h.objs.size≤d) (k:∀ b u,b≠a→h.get? b=some u→h'.get? b=some u) (ha:∃ u,h'.get? a=some u) :
  Un fs ex H (upd (upd H a o1) d o2) h h':=by
 have nm:∀ b u,H b=some u→¬ Mut (some u)→b≠a:=fun b u q nm z=>by subst z; rw [q] at mu; exact nm mu
 have nn:∀ b,H b=none→b≠a:=fun b n z=>by subst z; rw [n] at mu; exact mu
 refine⟨fun b u q n _ _=>k b u (nn b n) q,fun b u q n _ _=>⟨u.slots,k b u (nn b n) q⟩,fun b u q n _=>?_,fun b u q _=>?_,fun b xs q=>?_,fun b u xs q=>?_,fun b ps q=>⟨#[],?_⟩⟩
 ·rw [aj (Nat.ne_of_lt (Nat.lt_of_lt_of_le (Heap.lt_size q) hd)),aj (nn b n)]; exact n
 ·by_cases hb:b=a
  ·subst hb; exact ha
  ·exact⟨u,k b u hb q⟩
 ·rw [aj (aq q hn),aj (nm b _ q fun z=>z)]; exact q
 ·rw [aj (aq q hn),aj (nm b _ q fun z=>z)]; exact q
 ·rw [aj (aq q hn),aj (nm b _ q fun z=>z),q]; simp
def LI (K:Frag) (ta tv:TE) (f:Str):TS:=fun D σ H=>tv σ H fun y H1=>ta σ H1 fun x H2=>∃ a C,x = .ref a∧H2 a=some (.ext (tK a C none))∧uU K C∧aV K C f ∧
 ∀ dx,H2 dx=none→D.nx σ (upd (upd H2 a (.ext (tK a C (some dx)))) dx (.xd [(f,y)]))
section
variable {X:Cx} {o value:Expr} {f:Str} {pos pos':Pos} {ta tv:TE}
theorem Jt (ha:PE X o ta) (hv:PE X value tv) (hs:swapsWith value (some (.Attribute o f pos')) pos.line X.env=pure false):PS X (.Assign [.Attribute o f pos'] value pos) (LI X.K ta tv f):=by
 intro pins s σ H D I h
 refine plainObj_wpAny_Assign_Attribute (thn (hv pins s σ H _ I h) fun u s1 ⟨y,H1,I1,ry,q⟩=>thn (ha pins s1 σ H1 _ I1 q) fun ov s2 ⟨x,H2,I2,rx,a,C,ex,ea,c,n,q2⟩=>?_) hs
 subst ex
 obtain rfl:ov=Value.ref a:=rx
 obtain⟨⟨t,hob⟩,_,_⟩:=I2.hok a _ ea
 refine Jy I2.kIn c.xin c.sa n hob rfl rfl rfl fun h' h1 h2 h3=>?_
 have hfr:H2 s2.heap.objs.size=none:=I2.hok.fresh (Nat.le_refl _)
 refine⟨σ,_,?_,q2 s2.heap.objs.size hfr⟩
 refine I2.un (h':=h') (t':=s2.toks + 2) (Un.two (by rw [ea]; exact True.intro) hfr (Nat.le_refl _) h3 ⟨_,h1⟩) (HOk.two I2.hok (by rw [ea]; exact True.intro) (Nat.le_refl _) h3 (tK.ok ⟨t,h1⟩) ⟨_,h2,fun g=>?_⟩)
 show qM (List.lookup g [(f,y)]) (if g=f then some u else none)
 by_cases hg:g=f
 ·have hb:(g == f)=true:=beq_iff_eq.mpr hg
  simp only [List.lookup,hb,if_pos hg]
  exact ry
 ·have hb:(g == f)=false:=beq_eq_false_iff_ne.mpr hg
  simp only [List.lookup,hb,if_neg hg]
  exact True.intro
end
structure JV (K:Frag) (C:Addr) (m:Str) (f:Addr):Prop where
 rd:PySem.W.readsIn K C (.type "type")=true
 at_:PySem.W.findCls K (.ref C) (.type "type") m=some (.val (.ref f))
 ga:PySem.W.specialIn K (.ref C) "__getattribute__" = some (some (.builtin "type.__getattribute__"))
 kp:keepIn K (.ref f)=true
section
variable {X:Cx} {CX:CXT} {k:Nat} {f C:Addr} {fd:FuncData} {ps:List Str} {sp:Sp} {dvs:List V} {ds:List Value} {E:XK} {x m:Str} {p pos apos:Pos} {e:Expr} {es:List Expr} {t:TA}
theorem nE {pl:Sem Bool} (hg:Gl X x) (hm:X.mg x=some (.ref C)) (M:JV X.K C m f) (F:oE X.prog X.w X.K X.mg X.base CX k f fd ps sp) (hr:cf k X.A) (hb:Binds X.K fd ps ds) (hd:Vals dvs ds) (hx:Passes CX X E) (ha:PA X (e :: es) t)
  (hdb:(x == ("__debug__":Str))=false:=by decide)
  (hst:starEach (e :: es) X.env=(false,eval e X.env) :: starEach es X.env:=by rfl) (hpl:(backTo pos (starEach es X.env)).any (·.1)=false:=by rfl)
  (ht:eval (.Call (.Attribute (.Name x p) m apos) (e :: es) [] pos) X.env=(do
   let ov ← eval (.Name x p) X.env
   standAt apos.atName
   let (f,first) ← holding [ov] (getMethod ov m pl)
   callWith pos f first (backTo pos (starEach (e :: es) X.env)) (backToKw pos (keywordEach [] X.env))):=by rfl) :
  PE X (.Call (.Attribute (.Name x p) m apos) (e :: es) [] pos) (J6 sp dvs E t):=by
 intro pins s σ H Q I h
 refine PySem.W.methodCall_KW (pl:=pl) (qf I hg hm ?_ hdb) ht
 refine PySem.W.method_cls I.kIn M.ga (PySem.W.cls_value I.kIn M.rd M.at_ rfl ?_)
 refine PySem.W.callWith_K (first:=[]) (h₀:=X.base) I.ok.mod.kin M.kp (thn (ha pos pins _ σ H _ (I.tok _) h) fun us s2 ⟨vs,H2,I2,r,q2⟩=>⟨I2.kIn,?_⟩) hst hpl
 exact zo F hr hb hd hx I2 r q2
def D5 (X:Cx) (C:Addr) (sp:Sp) (dvs:List V) (E:XK) (t:TA):TE:=fun σ H Q=>t σ H fun vs H1=>vs.length≤1000∧∀ x,H1 x=none→X.s_0.heap.objs.size≤x →
 sp (.ref x :: (vs ++ dvs)) (upd H1 x (.ext (tK x C none))) (fun v H2=>v = .non∧Q (.ref x) H2) E
theorem Inv.Lx {pins:List (Addr×Obj)} {σ:St} {H:Hp} {s:Shared} {us:List Value} (I:Inv X pins σ H s):Inv X pins σ (upd H (s.heap.objs.size + 1) (.ext (tK (s.heap.objs.size + 1) C none)))
  { s with heap:=(s.heap.push (o4 us)).push (oY C s.heap.objs.size) }:=by
 have I1:=I.kept (h':=s.heap.push (o4 us)) (t':=s.toks) fun b u q=>Heap.get?_push_of_some _ q
 refine I1.laid (a:=s.heap.objs.size + 1) (t':=s.toks) (fun b u q=>Heap.get?_push_of_some _ q) (Nat.le_of_eq (Heap.size_push _ _)) (tK.ok ⟨s.heap.objs.size,?_⟩)
 have:=Heap.get?_push_size (s.heap.push (o4 us)) (o:=oY C s.heap.objs.size) rfl
 rwa [Heap.size_push] at this
theorem F9 {pins:List (Addr×Obj)} {σ:St} {H:Hp} {s:Shared} {Q:VK} {us:List Value} {vs:List V} (M:XMk X.K C f) (F:oE X.prog X.w X.K X.mg X.base CX k f fd ps sp) (hr:cf (k + 1) X.A) (hb:Binds X.K fd ps ds) (hd:Vals dvs ds)
  (hx:Passes CX X E) (I:Inv X pins σ H s) (r:Vals vs us) (hz:vs.length≤1000)
  (h:∀ x,H x=none→X.s_0.heap.objs.size≤x→sp (.ref x :: (vs ++ dvs)) (upd H x (.ext (tK x C none))) (fun v H2=>v = .non∧Q (.ref x) H2) E) :
  wpAny (model X.prog X.w) X.A (call (.ref C) us) (EP X pins σ Q) X.xe s:=by
 have hq:=h (s.heap.objs.size + 1) (I.hok.fresh (Nat.le_succ _)) (Nat.le_trans I.sz (Nat.le_succ _))
 have I2:=Inv.Lx (C:=C) (us:=us) I
 have r2:Vals (V.ref (s.heap.objs.size + 1) :: (vs ++ dvs)) (Value.ref (s.heap.objs.size + 1) :: (us ++ ds)):=.cons rfl (r.append hd)
 have hl:(Value.ref (s.heap.objs.size + 1) :: us ++ ds).length=ps.length:=by
  have e:=r2.length
  rw [F.len _ _ _ _ hq] at e
  exact e.symm
 have hus:us.length≤sizeLine:=by rw [← r.length,sizeLine_eq]; omega
 refine wpAny_call (Hw (f:=f) I.kIn M.xin M.init (beq_iff_eq.mp M.fn) hus (codeAny_mono (F.run _ X.stack _ _ ⟨Value.ref (s.heap.objs.size + 1) :: us,[]⟩ (Value.ref (s.heap.objs.size + 1) :: (us ++ ds)) _ _ E (hr.make C us [])
  (I2.Kn.make C us []) (hb _ (Value.ref (s.heap.objs.size + 1) :: us) I2.kIn hl) r2 hq) fun r s' hq'=>?_))
 cases r with
 | error e=>exact hx pins σ _ _ e s' I2 hq'
 | ok fl =>
  cases fl with
  | ret u =>
   obtain⟨v,H',I3,rv,ev,q3⟩:=I2.after hq'
   subst ev
   exact⟨rv,⟨V.ref (s.heap.objs.size + 1),H',I3,rfl,q3⟩⟩
  | next=>exact False.elim hq'
  | brk=>exact False.elim hq'
  | cont=>exact False.elim hq'
theorem dC (M:XMk X.K C f) (F:oE X.prog X.w X.K X.mg X.base CX k f fd ps sp) (hr:cf (k + 1) X.A) (hg:Gl X x) (hm:X.mg x=some (.ref C)) (hb:Binds X.K fd ps ds) (hd:Vals dvs ds) (hx:Passes CX X E)
  (hdb:(x == ("__debug__":Str))=false:=by decide):PE X (.Call (.Name x p) [] [] pos) (D5 X C sp dvs E CN):=by
 intro pins s σ H Q I h
 refine wpAny_Call_Name_kw (qf I hg hm ?_ hdb)
 exact PySem.W.callWith_K0 I.kIn M.kp (F9 (us:=[]) M F hr hb hd hx I .nil h.1 h.2)
end
end L2
end
section
namespace L2
open PySem PySem.Spec PyProof.Rows
open PySem.W (Frag findIn typeIn clsIn keepIn isFn)
abbrev xob (C dx:Addr) (vs:Array Value):Obj:={ cls:=.ref C,dict:=some dx,data:=.fields vs }
structure Eo (env:Env) (outer:List Env) (e C dx:Addr) (vs:Array Value) (h h':Heap):Prop where
 at_:∃ vs' T oT ts,h'.get? e=some (xob C dx vs')∧vs'.size=6∧vs'[1]?=some (.ref T)∧T≠e∧h.objs.size≤T∧h'.get? T=some oT∧oT.data = .fields ts∧ts[3]?=some .none
 keep:∀ b o,h.get? b=some o→b≠e→b∉(env :: outer).filterMap (·.frame)→(∀ T,vs[1]?=some (.ref T)→b≠T)→h'.get? b=some o
 slot:∀ b o,h.get? b=some o→b∈(env :: outer).filterMap (·.frame)→∃ sl,h'.get? b=some { o with slots:=sl }
 there:∀ b o,h.get? b=some o→∃ o',h'.get? b=some o'
section
variable {M:Model} {A:Around} {E E':Value→Shared→Prop} {s:Shared} {base:Heap} {env:Env} {outer:List Env} {L e C dx:Addr} {vs:Array Value} {Q:Unit→Shared→Prop}
theorem yA {head:Value} {hadNext:Bool} (hfr:A.frames=some (env :: outer)) (hl:s.heap.FunFrames base (env :: outer)) (hf:env.frame=some L)
  (he:s.heap.get? e=some (xob C dx vs)) (hsz:vs.size=6) (h:∀ h',Eo env outer e C dx #[] s.heap h'→Q () { s with heap:=h' }) :
  wpAny M A (do let a ← frameOf env; let pl ← entryPlaceOf L hadNext; let b ← EntryCells.newEntry head a .none (rawInt L) .none pl; setField (.ref e) 1 b) (fun _ s'=>wpAny M A (setFlight (.ref e) none) Q E' s') E s:=by
 have hene:e∉(env :: outer).filterMap (·.frame):=fun hm=>by
  obtain⟨_,o,ho,hnf⟩:=hl.mem hm
  rw [he] at ho; injection ho with ho; subst ho; exact hnf vs rfl
 refine wpAny_bind (wpAny_frameOf_fun hfr hl hf fun h₁ hs₁=>?_)
 refine wpAny_bind (wpAny_entryPlaceOf fun pl hpl=>?_)
 unfold EntryCells.newEntry newFields
 refine wpAny_bind (wpAny_newObj_type ?_ (hpl.sizeOk5 _ _ _ _ _))
 have he₁:h₁.get? e=some (xob C dx vs):=(hs₁.2.1 e hene).trans he
 have he₂:=Heap.get?_push_of_some (h:=h₁) { cls:=.type "traceback",dict:=none,data:=.fields ([head,.ref L,.none,rawInt L,.none] ++ (if pl.isEmpty then List.replicate 6 Value.none else pl)).toArray } he₁
 have hsz1:1 < vs.size:=by omega
 refine wpAny_setField he₂ rfl hsz1 ?_
 have hTe:h₁.objs.size≠e:=Nat.ne_of_gt (Heap.lt_size he₁)
 have hd₃:(Obj.mapFields (·.setIfInBounds 1 (Value.ref h₁.objs.size)) (xob C dx vs))=xob C dx (vs.setIfInBounds 1 (Value.ref h₁.objs.size)):=rfl
 have he₃:=Heap.get?_update_self (Obj.mapFields (·.setIfInBounds 1 (Value.ref h₁.objs.size))) he₂ rfl
 rw [hd₃] at he₃
 have hT₃:=(Heap.get?_update_other (h₁.push { cls:=.type "traceback",dict:=none,data:=.fields ([head,.ref L,.none,rawInt L,.none] ++ (if pl.isEmpty then List.replicate 6 Value.none else pl)).toArray })
  (Obj.mapFields (·.setIfInBounds 1 (Value.ref h₁.objs.size))) (Ne.symm hTe)).trans (Heap.get?_push_size h₁ rfl)
 unfold setFlight
 refine wpAny_bind (wpAny_field he₃ rfl (x:=.ref h₁.objs.size) (by simp [hsz1]) ?_)
 rw [if_pos (show (Value.ref h₁.objs.size != Value.none)=true from by simp)]
 refine wpAny_setField hT₃ rfl (by simp only [List.size_toArray,List.length_append,List.length_cons,List.length_nil]<;>omega) (h _ ?_)
 have keep:∀ b o,b≠e→h₁.get? b=some o →
   ((
    (h₁.push { cls:=.type "traceback",dict:=none,data:=.fields ([head,.ref L,.none,rawInt L,.none] ++ (if pl.isEmpty then List.replicate 6 Value.none else pl)).toArray }).update e (Obj.mapFields (·.setIfInBounds 1 (Value.ref h₁.objs.size)))).update h₁.objs.size
    (Obj.mapFields (·.setIfInBounds 3 ((none:Option Addr).elim Value.none fun f=>rawInt f)))).get? b=some o:=fun b o hbe hb=>by
  have hbT:h₁.objs.size≠b:=Nat.ne_of_gt (Heap.lt_size hb)
  rw [Heap.get?_update_other _ _ hbT,Heap.get?_update_other _ _ (Ne.symm hbe)]
  exact Heap.get?_push_of_some _ hb
 have heF:=(Heap.get?_update_other ((h₁.push { cls:=.type "traceback",dict:=none,data:=.fields ([head,.ref L,.none,rawInt L,.none] ++ (if pl.isEmpty then List.replicate 6 Value.none else pl)).toArray }).update e (Obj.mapFields (·.setIfInBounds 1 (Value.ref h₁.objs.size)))) (Obj.mapFields (·.setIfInBounds 3 ((none:Option Addr).elim Value.none fun f=>rawInt f))) hTe).trans he₃
 refine⟨⟨_,h₁.objs.size,_,_,heF,by simpa using hsz,by simp [hsz1],hTe,?_,Heap.get?_update_self _ hT₃ (Obj.isFreed_of_fields (Obj.data_mapFields rfl _)),Obj.data_mapFields rfl _,by first | (simp; done) | (rcases hpl with rfl | ⟨_,_,_,_,_,_,_,rfl⟩<;>simp)⟩,fun b o hb hbe hbf _=>?_,fun b o hb hbf=>?_,fun b o hb=>?_⟩
 ·exact Nat.le_of_eq hs₁.1.symm
 ·exact keep b o hbe ((hs₁.2.1 b hbf).trans hb)
 ·obtain⟨sl,hs⟩:=hs₁.2.2 b o hb
  exact⟨sl,keep b _ (fun z=>hene (by rw [← z]; exact hbf)) hs⟩
 ·by_cases hbe:b=e
  ·subst hbe; exact⟨_,heF⟩
  ·obtain⟨sl,hs⟩:=hs₁.2.2 b o hb
   exact⟨_,keep b _ hbe hs⟩
def GX (e:Addr) (vs:Array Value) (h:Heap):Prop:=vs[1]?=some .none∨∃ T oT ts,vs[1]?=some (.ref T)∧T≠e∧h.get? T=some oT∧oT.data = .fields ts∧ts[3]?=some .none
theorem Ap (hfr:A.frames=some (env :: outer)) (hl:s.heap.FunFrames base (env :: outer)) (hf:env.frame=some L)
  (he:s.heap.get? e=some (xob C dx vs)) (hsz:vs.size=6) (hT:GX e vs s.heap) (h:∀ h',Eo env outer e C dx vs s.heap h'→Q () { s with heap:=h' }) :
  wpAny M A (noteFrame (.ref e) env) (fun _ s'=>wpAny M A (setFlight (.ref e) none) Q E' s') E s:=by
 unfold noteFrame
 simp only [hf]
 rcases hT with h1 | ⟨T,oT,ts,h1,hTe,hTo,hTd,h3⟩
 ·refine wpAny_bind (wpAny_field he rfl h1 ?_)
  rw [if_neg (by decide)]
  exact yA hfr hl hf he hsz fun h' N=>h h' ⟨N.at_,fun b o hb hbe hbf _=>N.keep b o hb hbe hbf fun T q=>by simp at q,N.slot,N.there⟩
 ·refine wpAny_bind (wpAny_field he rfl h1 ?_)
  rw [if_pos (show (Value.ref T != Value.none)=true from by simp)]
  refine wpAny_bind (wpAny_field hTo hTd h3 ?_)
  rw [if_neg (show ¬ ((Value.none == rawInt L)=true) from by simp [rawInt])]
  refine wpAny_bind (wpAny_setField hTo hTd (Array.getElem?_eq_some_iff.mp h3).1 ?_)
  have other:∀ b,b≠T→(s.heap.update T (Obj.mapFields (·.setIfInBounds 3 Value.none))).get? b=s.heap.get? b:=fun b hb=>Heap.get?_update_other _ _ (Ne.symm hb)
  have noRecord:∀ b o,s.heap.get? b=some o→(∀ vs,o.data≠.fields vs)→b≠T:=fun b o hb hnf q=>by
   rw [q,hTo] at hb; injection hb with hb; subst hb; exact hnf ts hTd
  have selfT:=Heap.get?_update_self (Obj.mapFields (·.setIfInBounds 3 Value.none)) hTo (Obj.isFreed_of_fields (Obj.data_mapFields hTd _))
  have hnT:T∉(env :: outer).filterMap (·.frame):=fun hm=>by
   obtain⟨_,o,ho,hnf⟩:=hl.mem hm
   rw [hTo] at ho; injection ho with ho; subst ho; exact hnf ts hTd
  refine yA (s:={ s with heap:=s.heap.update T (Obj.mapFields (·.setIfInBounds 3 Value.none)) }) hfr (hl.of_keeps fun b o hb hnf=>⟨o,(other b (noRecord b o hb hnf)).trans hb,rfl⟩) hf ((other e (Ne.symm hTe)).trans he) hsz fun h' N=>h h' ⟨?_,fun b o hb hbe hbf hbT=>N.keep b o ((other b (hbT T h1)).trans hb) hbe hbf fun T q=>by simp at q,fun b o hb hbf=>?_,fun b o hb=>?_⟩
  ·obtain⟨vs',T',oT',ts',a1,a2,a3,a4,a5,a6⟩:=N.at_
   refine⟨vs',T',oT',ts',a1,a2,a3,a4,?_,a6⟩
   exact Nat.le_trans (Nat.le_of_eq (Heap.size_after_update _ _ _).symm) a5
  ·exact N.slot b o ((other b fun z=>hnT (by rw [← z]; exact hbf)).trans hb) hbf
  ·by_cases q:b=T
   ·subst q; exact N.there b _ selfT
   ·exact N.there b o ((other b q).trans hb)
theorem DA (hfr:A.frames=some (env :: outer)) (hl:s.heap.FunFrames base (env :: outer)) (hf:env.frame=some L)
  (he:s.heap.get? e=some (xob C dx vs)) (hsz:vs.size=6) (hT:GX e vs s.heap) (h:∀ h',Eo env outer e C dx vs s.heap h'→Q () { s with heap:=h' }) :
  wpAny M A (leaving env (.ref e)) Q E s:=wpAny_bind (Ap hfr hl hf he hsz hT h)
end
end L2
end
section
namespace L2
open PySem PySem.Spec PyProof.Rows
open PySem.W (Frag findIn typeIn clsIn keepIn isFn)
structure AL (h0:Heap) (pl:List (Addr×Obj)) (H:Hp) (h:Heap) (e C dx:Addr) (vs:Array Value):Prop where
 at_:h.get? e=some (xob C dx vs)
 sz:vs.size=6
 fr:GX e vs h
 no:H e=none
 new:h0.objs.size≤e
 pin:∀ p∈pl,p.1≠e
 Co:∀ T,vs[1]?=some (.ref T)→H T=none∧h0.objs.size≤T∧∀ p∈pl,p.1≠T
def yi (h0:Heap) (pl:List (Addr×Obj)) (H:Hp) (h:Heap) (e C dx:Addr):Prop:=∃ vs,AL h0 pl H h e C dx vs
def CXr (P:Program) (w:World):CXT:=fun outer H s E ev s'=>∃ e C dx H',ev = .ref e∧s'.os=s.os∧AllBare s'.gens∧Un (frs outer) [] H H' s.heap s'.heap∧HOk P w H' s'.heap∧yi s.heap [] H' s'.heap e C dx∧E (.ref C) (some dx) H'
def Thr (X:Cx) (E:XK):Prop:=∀ (pins:List (Addr×Obj)) (σ:St) (H:Hp) (s:Shared) (e C dx:Addr),Inv X pins σ H s→yi X.s_0.heap (X.pn ++ pins) H s.heap e C dx→E (.ref C) (some dx) H→X.xe (.ref e) s
section
variable {X:Cx} {E:XK} {pins:List (Addr×Obj)} {σ:St} {H:Hp} {s:Shared} {e C dx:Addr}
theorem yi.Lz {h0 h1 h:Heap} {pl:List (Addr×Obj)} (f:yi h1 [] H h e C dx) (k:h0.objs.size≤h1.objs.size) (hp:∀ p∈pl,p.1 < h1.objs.size):yi h0 pl H h e C dx:=by
 obtain⟨vs,a⟩:=f
 exact⟨vs,a.at_,a.sz,a.fr,a.no,Nat.le_trans k a.new,fun p hq=>Nat.ne_of_lt (Nat.lt_of_lt_of_le (hp p hq) a.new),fun T q=>⟨(a.Co T q).1,Nat.le_trans k (a.Co T q).2.1,fun p hq=>Nat.ne_of_lt (Nat.lt_of_lt_of_le (hp p hq) (a.Co T q).2.1)⟩⟩
theorem Thr.passes (t:Thr X E):Passes (CXr X.prog X.w) X E:=by
 rintro pins σ H s ev s' I ⟨e,C,dx,H',rfl,os,bare,un,hok,fl,q⟩
 have I2:Inv X pins σ H' s':=I.JX (ch:=[]) os un hok bare (fun b z=>absurd z (by simp))
 exact t pins σ H' s' e C dx I2 (fl.Lz I.sz fun p hp=>Heap.lt_size (I.pin p hp).1) q
end
theorem ax {P:Program} {w:World} {K:PySem.W.Frag} {mg:Str→Option Value} {base:Heap} {N:List Str} {qual:Str} {scope:Scope} {f:Addr} {cd:Value} {A:Around} {outer:List Env} {s:Shared} {H:Hp} {E:XK} :
  Thr (AU (CXr P w) P w K mg base N qual scope f cd A outer s H E) E:=by
 intro pins σ H' s' e C dx I fl q
 obtain⟨vs,he,hsz,hfree,hHe,h0e,_,hT⟩:=fl
 show wpAny _ _ (leaving _ (.ref e)) _ _ s'
 refine DA (base:=base) (L:=s.heap.objs.size) I.ok.frames I.stack rfl he hsz hfree fun h' N=>?_
 have nfr:∀ b o,H' b=some o→b∉((envOfC qual scope s.heap.objs.size f cd) :: outer).filterMap (·.frame):=fun b o z hm=>by
  have:=I.yf b hm
  rw [z] at this; cases this
 have kept:∀ b o u,H' b=some o→s'.heap.get? b=some u→h'.get? b=some u:=fun b o u z q=>N.keep b u q (fun y=>by rw [y,hHe] at z; cases z) (nfr b o z) fun T hv y=>by
  rw [y,(hT T hv).1] at z; cases z
 have old:∀ b o,s.heap.get? b=some o→b≠e∧b≠s.heap.objs.size∧∀ T,vs[1]?=some (.ref T)→b≠T:=fun b o z=>by
  refine⟨fun y=>?_,Nat.ne_of_lt (Heap.lt_size z),fun T hv y=>?_⟩
  ·exact Nat.lt_irrefl _ (Nat.lt_of_lt_of_le (Heap.lt_size z) (by rw [y]; exact h0e))
  ·exact Nat.lt_irrefl _ (Nat.lt_of_lt_of_le (Heap.lt_size z) (by rw [y]; exact (hT T hv).2.1))
 have isf:∀ b,b∈((envOfC qual scope s.heap.objs.size f cd) :: outer).filterMap (·.frame)↔b=s.heap.objs.size∨b∈frs outer:=fun b=>by
  unfold frs
  rw [List.filterMap_cons]
  show b∈s.heap.objs.size :: _↔_
  exact List.mem_cons
 refine⟨e,C,dx,H',rfl,I.os,I.bare,⟨fun b o z n hb hx=>?_,fun b o z n hb hx=>?_,I.base.free,fun b o z hx=>?_,I.base.uO,I.base.rA,I.base.uN⟩,fun b u z=>?_,?_,q⟩
 ·exact N.keep b o (I.base.keep b o z n hb hx) (old b o z).1 (fun hm=>((isf b).mp hm).elim (old b o z).2.1 hb) (old b o z).2.2
 ·obtain⟨sl,e1⟩:=I.base.slot b o z n hb hx
  obtain⟨sl',e2⟩:=N.slot b _ e1 ((isf b).mpr (.inr hb))
  exact⟨sl',e2⟩
 ·obtain⟨o',e1⟩:=I.base.there b o z hx
  exact N.there b o' e1
 ·refine (I.hok b u z).stay (fun c v hc r=>?_) (fun _ r=>r) fun _ _ r=>r
  rcases hc with rfl | hc
  ·exact kept c u v z r
  ·exact kept c _ v hc r
 ·obtain⟨vs',T,oT,ts,a1,a2,a3,a4,a5,a6,a7,a8⟩:=N.at_
  have hT':H' T=none:=I.hok.fresh a5
  refine⟨vs',a1,a2,.inr ⟨T,oT,ts,a3,a4,a6,a7,a8⟩,hHe,h0e,fun p hp=>absurd hp (by simp),fun T' hv=>?_⟩
  rw [a3] at hv
  cases hv
  exact⟨hT',Nat.le_trans I.sz a5,fun p hp=>absurd hp (by simp)⟩
def drp (H:Hp) (a:Addr):Hp:=fun b=>if b=a then none else H b
theorem yy {H:Hp} {a:Addr}:drp H a a=none:=by unfold drp; rw [if_pos rfl]
theorem yx {H:Hp} {a b:Addr} (h:b≠a):drp H a b=H b:=by unfold drp; rw [if_neg h]
section
variable {X:Cx} {E:XK} {pins:List (Addr×Obj)} {σ:St} {H:Hp} {s:Shared} {e C dx:Addr} {ev:Expr} {te:TE} {pos:Pos}
theorem Inv.drop (I:Inv X pins σ H s) {φ:Heap→Prop} (he:H e=some (.ext φ)):Inv X pins σ (drp H e) s:=by
 have nn:∀ b,H b=none→drp H e b=none:=fun b q=>by
  by_cases z:b=e
  ·rw [z]; exact yy
  ·rw [yx z]; exact q
 have ns:∀ b o,H b=some o→(∀ ψ,o≠.ext ψ)→drp H e b=some o:=fun b o q hne=>by
  rw [yx fun z=>by subst z; rw [he] at q; cases q; exact hne φ rfl]; exact q
 refine⟨I.ok,I.os,I.bare,⟨I.base.keep,I.base.slot,fun b o z n hx=>nn b (I.base.free b o z n hx),I.base.there,fun b xs z=>ns b _ (I.base.uO b xs z) (by intro ψ q; cases q),fun b o xs z=>ns b _ (I.base.rA b o xs z) (by intro ψ q; cases q),fun b ps z=>?_⟩,I.loc,I.cell,nn _ I.free,fun x c z=>nn _ (I.jU x c z),fun p hp=>?_,fun b u z=>?_,I.len⟩
 ·obtain⟨m,q⟩:=I.base.uN b ps z
  exact⟨m,ns b _ q (by intro ψ q; cases q)⟩
 ·obtain⟨a1,a2,a3⟩:=I.pin p hp
  exact⟨a1,nn _ a2,a3⟩
 ·have hb:b≠e:=fun y=>by rw [y,yy] at z; cases z
  rw [yx hb] at z
  exact (I.hok b u z).stay (fun _ _ _ q=>q) (fun c q=>ns c _ q (by intro ψ q; cases q)) fun c xs q=>ns c _ q (by intro ψ q; cases q)
def D8 (X:Cx) (E:XK) (te:TE):TS:=fun _ σ H=>te σ H fun x H1=>∃ e C dx,x = .ref e∧H1 e=some (.ext (tK e C (some dx)))∧xIn X.K C=true∧X.s_0.heap.objs.size≤e∧E (.ref C) (some dx) (drp H1 e)
theorem F5 {M:Model} {A:Around} {E:Value→Shared→Prop} {s:Shared} {env:Env} {K:Frag} {x:Sem Value} {Q:Flow→Shared→Prop} (hh:A.handled=none)
  (h:wpAny M A x (fun v s₁=>∃ e C dx t,v = .ref e∧K.In s₁.heap∧xIn K C=true∧s₁.heap.get? e=some (xob C dx #[.ref t,.none,.none,.none,.bool false,.none])∧E (.ref e) s₁) E s):wpAny M A (raiseStmt env (some x) none) Q E s:=by
 unfold raiseStmt
 refine wpAny_bind (wpAny_mono h (fun v s₁ h₁=>?_) fun _ _ x=>x)
 obtain⟨e,C,dx,t,rfl,KX,hx,he,hE⟩:=h₁
 obtain⟨nm,qn,N,bs,bm,sn,sub,ab,col,dd,k0,k1,k2,k3,k5,hC,ht,hcls⟩:=xf KX hx
 have hcB:(Value.ref C :: bm).contains (.type "BaseException")=true:=by rw [List.contains_cons,(ip ht).2.1,Bool.or_true]
 obtain⟨hp,g,d,tk,os⟩:=s₁
 repeat (first | with_reducible refine wpAny_loadPart_at he ?_ | with_reducible refine wpAny_loadPart_at hC ?_ | (with_reducible refine wpAny_isSubtype_exc hC ?_; rw [hcB]) | wp_step)
 exact wpAny_raiseNew_none hh hE
theorem fG (hv:PE X ev te) (th:Thr X E) (hc:X.calm=true):PS X (.Raise (some ev) none pos) (D8 X E te):=by
 intro pins s σ H D I h
 rw [arm_exec_Raise]
 refine wpAny_bind (wpAny_standAt ?_)
 refine F5 (K:=X.K) (I.ok.hd hc) (wpAny_bind (thn (hv pins s σ H _ I h) fun u s1 ⟨x,H1,I1,rx,e,C,dx,ex,he,hxi,h0,q⟩=>wpAny_bind (wpAny_standAt (wpAny_pure ?_))))
 subst ex
 obtain rfl:u=Value.ref e:=rx
 obtain⟨⟨t,hob⟩,_,_⟩:=I1.hok e _ he
 refine⟨e,C,dx,t,rfl,I1.kIn,hxi,hob,th pins σ (drp H1 e) s1 e C dx (I1.drop he) ⟨_,hob,rfl,.inl rfl,yy,h0,fun p hp y=>?_,fun T hv=>by simp at hv⟩ q⟩
 have z:=(I1.pin p hp).2.1
 rw [y,he] at z
 cases z
end
end L2
end
section
namespace L2
open PySem PySem.Spec PyProof.Rows
open PySem.W (Frag findIn typeIn clsIn keepIn isFn)
def w9 (K:Frag) (C D:Addr):Bool:=(clsIn K C).any fun cd=>cd.mro.contains (.ref D)
def xh (e C dx:Addr):Heap→Prop:=fun h=>∃ vs,h.get? e=some (xob C dx vs)
theorem xh.ok {P:Program} {w:World} {H:Hp} {h:Heap} {e C dx:Addr} (x:xh e C dx h):c8 P w H h e (.ext (xh e C dx)) :=
 ⟨x,(let ⟨_,q⟩:=x; ⟨_,q⟩),fun _ _ ⟨vs,q⟩ k=>⟨vs,k _ q⟩⟩
section
variable {X:Cx} {pins:List (Addr×Obj)} {σ:St} {H:Hp} {s:Shared} {e C dx:Addr} {vs:Array Value} {h':Heap}
theorem Inv.Bb (I:Inv X pins σ H s) {b:Addr} {o:Obj} {ws:Array Value} (hb:s.heap.get? b=some o) (hd:o.data = .fields ws):b≠X.env.locals∧∀ x c,X.env.cells.lookup x=some c→c≠b:=by
 refine⟨fun y=>?_,fun x c q y=>?_⟩
 ·obtain⟨m,⟨o',es,ep,ho',hd',_⟩,_⟩:=I.loc
  rw [y,ho'] at hb; cases hb; rw [hd'] at hd; cases hd
 ·obtain⟨v,o',ho',hd'⟩:=I.cell x c q
  rw [y,hb] at ho'; cases ho'; rw [hd] at hd'; cases hd'
theorem Inv.Ly (I:Inv X pins σ H s) (hst:X.stack=X.env :: X.outer) (fl:AL X.s_0.heap (X.pn ++ pins) H s.heap e C dx vs) (N:Eo X.env X.outer e C dx vs s.heap h') :
  Inv X pins σ H { s with heap:=h' }:=by
 have nfr:∀ b o,H b=some o→b∉(X.env :: X.outer).filterMap (·.frame):=fun b o z hm=>by
  have:=I.yf b (by rw [hst]; exact hm)
  rw [z] at this; cases this
 have kept:∀ b o u,H b=some o→s.heap.get? b=some u→h'.get? b=some u:=fun b o u z q=>N.keep b u q (fun y=>by rw [y,fl.no] at z; cases z) (nfr b o z) fun T hv y=>by
  rw [y,(fl.Co T hv).1] at z; cases z
 have hok:HOk X.prog X.w H h':=fun b u z=>by
  refine (I.hok b u z).stay (fun c v hc r=>?_) (fun _ r=>r) fun _ _ r=>r
  rcases hc with rfl | hc
  ·exact kept c u v z r
  ·exact kept c _ v hc r
 have one:=I.Bb fl.at_ rfl
 rcases fl.fr with h1 | ⟨T,oT,ts,h1,hTe,hTo,hTd,h3⟩
 ·refine I.call (ch:=[e]) (h':=h') (g':=s.gens) (d':=s.drawn) (t':=s.toks) ⟨fun b o z n hb hx=>?_,fun b o z n hb hx=>?_,fun _ _ _ n _=>n,fun b o z _=>N.there b o z,fun _ _ z=>z,fun _ _ _ z=>z,fun b ps z=>⟨#[],by rw [z]; simp⟩⟩ hok I.bare fun b hb=>?_
  ·exact N.keep b o z (fun y=>hx (by simp [y])) (by rw [hst] at hb; exact hb) fun T hv=>by rw [h1] at hv; cases hv
  ·rw [hst] at hb
   exact N.slot b o z hb
  ·have e1:b=e:=by simpa using hb
   subst e1
   exact⟨.inr fl.new,one.1,one.2,fl.pin⟩
 ·obtain⟨hTH,hTn,hTp⟩:=fl.Co T h1
  have two:=I.Bb hTo hTd
  refine I.call (ch:=[e,T]) (h':=h') (g':=s.gens) (d':=s.drawn) (t':=s.toks) ⟨fun b o z n hb hx=>?_,fun b o z n hb hx=>?_,fun _ _ _ n _=>n,fun b o z _=>N.there b o z,fun _ _ z=>z,fun _ _ _ z=>z,fun b ps z=>⟨#[],by rw [z]; simp⟩⟩ hok I.bare fun b hb=>?_
  ·exact N.keep b o z (fun y=>hx (by simp [y])) (by rw [hst] at hb; exact hb) fun T' hv y=>by
    rw [h1] at hv; cases hv
    exact hx (by simp [y])
  ·rw [hst] at hb
   exact N.slot b o z hb
  ·have e1:b=e∨b=T:=by simpa using hb
   rcases e1 with rfl | rfl
   ·exact⟨.inr fl.new,one.1,one.2,fl.pin⟩
   ·exact⟨.inr hTn,two.1,two.2,hTp⟩
theorem Inv.LZ {o:HO} (I:Inv X pins σ H s) (hn:H e=none) (hnew:X.s_0.heap.objs.size≤e) (hL:e≠X.env.locals) (hc:∀ x c,X.env.cells.lookup x=some c→c≠e) (hp:∀ p∈X.pn ++ pins,p.1≠e)
  (ok:c8 X.prog X.w (upd H e o) s.heap e o):Inv X pins σ (upd H e o) s:=by
 have ns:∀ b u,H b=some u→upd H e o b=some u:=fun b u q=>by rw [aj (aq q hn)]; exact q
 refine⟨I.ok,I.os,I.bare,⟨I.base.keep,I.base.slot,fun b u z n hx=>?_,I.base.there,fun b xs z=>ns b _ (I.base.uO b xs z),fun b u xs z=>ns b _ (I.base.rA b u xs z),fun b ps z=>?_⟩,I.loc,I.cell,?_,fun x c z=>?_,fun p hq=>?_,fun b u z=>?_,I.len⟩
 ·rw [aj (Nat.ne_of_lt (Nat.lt_of_lt_of_le (Heap.lt_size z) hnew))]
  exact I.base.free b u z n hx
 ·obtain⟨m,q⟩:=I.base.uN b ps z
  exact⟨m,ns b _ q⟩
 ·rw [aj (Ne.symm hL)]; exact I.free
 ·rw [aj (hc x c z)]; exact I.jU x c z
 ·obtain⟨a1,a2,a3⟩:=I.pin p hq
  exact⟨a1,by rw [aj (hp p hq)]; exact a2,a3⟩
 ·by_cases hb:b=e
  ·subst hb; rw [af] at z; cases z; exact ok
  ·rw [aj hb] at z
   exact (I.hok b u z).stay (fun _ _ _ q=>q) (fun c q=>ns c _ q) fun c xs q=>ns c _ q
end
section
variable {M:Model} {A:Around} {E:Value→Shared→Prop} {K:Frag} {s:Shared} {e C D:Addr} {oe:Obj} {Q:Bool→Shared→Prop}
theorem FP (X:K.In s.heap) (hC:xIn K C=true) (hD:xIn K D=true) (hs:w9 K C D=true) (he:s.heap.get? e=some oe) (hcls:oe.cls = .ref C) (hq:Q true s):wpAny M A (excMatches (.ref e) (.ref D)) Q E s:=by
 obtain⟨nm,qn,N,bs,bm,sn,sub,ab,col,dd,k0,k1,k2,k3,k5,h1,ht,hc1⟩:=xf X hC
 obtain⟨nm',qn',N',bs',bm',sn',sub',ab',col',dd',k0',k1',k2',k3',k5',h2,ht',hc2⟩:=xf X hD
 have hcB:(Value.ref D :: bm').contains (.type "BaseException")=true:=by rw [List.contains_cons,(ip ht').2.1,Bool.or_true]
 have hcC:(Value.ref C :: bm).contains (.ref D)=true:=by
  unfold w9 at hs
  rw [hc1] at hs
  exact hs
 have f:=tc_notTuple
 obtain⟨hp,g,d,t,os⟩:=s
 unfold excMatches
 repeat (first | (with_reducible refine wpAny_loadPart_at he ?_; rw [hcls]) | with_reducible refine wpAny_loadPart_at h2 ?_ | with_reducible refine wpAny_loadPart_at h1 ?_ | (with_reducible refine wpAny_isSubtype_exc h2 ?_; rw [hcB]) | (with_reducible refine wpAny_isSubtype_exc h1 ?_; rw [hcC]) | wp_step)
 exact hq
end
end L2
end
section
namespace L2
open PySem PySem.Spec PyProof.Rows
open PySem.W (Frag findIn typeIn clsIn keepIn isFn)
section
variable {X:Cx} {pins:List (Addr×Obj)} {σ:St} {H:Hp} {s:Shared} {h':Heap}
theorem Inv.forget {t':Nat} {m':Str→Option Value} (I:Inv X pins σ H s) (hn:h'.Ns X.env.locals m') (sb:Heap.SameBut X.env.locals s.heap h'):Inv X pins (List.replicate X.N.length none) H { s with heap:=h',toks:=t' }:=by
 have old:∀ b o,X.s_0.heap.get? b=some o→b≠X.env.locals:=fun b o z=>Nat.ne_of_lt (Nat.lt_of_lt_of_le (Heap.lt_size z) I.ok.above)
 refine⟨I.ok,I.os,I.bare,⟨fun b o z n hb hx=>?_,fun b o z n hb hx=>?_,I.base.free,fun b o z hx=>?_,I.base.uO,I.base.rA,I.base.uN⟩,⟨m',hn,fun i x v _ e2 _=>?_⟩,fun x c z=>?_,I.free,I.jU,fun p hp=>?_,fun b u z=>?_,List.length_replicate⟩
 ·exact (sb.2 b (old b o z)).trans (I.base.keep b o z n hb hx)
 ·obtain⟨sl,q⟩:=I.base.slot b o z n hb hx
  exact⟨sl,(sb.2 b (old b o z)).trans q⟩
 ·obtain⟨o',q⟩:=I.base.there b o z hx
  exact⟨o',(sb.2 b (old b o z)).trans q⟩
 ·rw [List.getElem?_replicate] at e2
  split at e2<;>cases e2
 ·obtain⟨v,q⟩:=I.cell x c z
  exact⟨v,q.sameBut sb (I.cne x c z)⟩
 ·obtain⟨a1,a2,a3,a4⟩:=I.pin p hp
  exact⟨(sb.2 p.1 a3).trans a1,a2,a3,a4⟩
 ·refine (I.hok b u z).stay (fun c v hc r=>(sb.2 c fun y=>?_).trans r) (fun _ r=>r) fun _ _ r=>r
  rcases hc with rfl | hc
  ·rw [y,I.free] at z; cases z
  ·rw [y,I.free] at hc; cases hc
abbrev Cx.held (X:Cx) (A':Around):Cx:={ X with A:=A',calm:=false,xe:=fun _ _=>False }
theorem Inv.held (I:Inv X pins σ H s) {A':Around} (hA:A'.frames=X.A.frames):Inv (X.held A') pins σ H s :=
 ⟨⟨I.ok.mod,I.ok.kind,I.ok.glob,I.ok.blt,I.ok.above,I.ok.inj,I.ok.has,I.ok.cab,(fun z=>by cases z),hA.trans I.ok.frames,I.ok.stk,I.ok.exf,I.ok.bs,I.ok.bsz,I.ok.HE,I.ok.Fu,I.ok.wo,I.ok.frf⟩,I.os,I.bare,I.base,I.loc,I.cell,I.free,I.jU,I.pin,I.hok,I.len⟩
theorem Inv.Lc {A':Around} (I:Inv (X.held A') pins σ H s) (ok:X.Ok):Inv X pins σ H s:=⟨ok,I.os,I.bare,I.base,I.loc,I.cell,I.free,I.jU,I.pin,I.hok,I.len⟩
abbrev Cx.xa (X:Cx) (pn:List (Addr×Obj)) (xe:Value→Shared→Prop):Cx:={ X with pn:=pn,xe:=xe }
theorem Inv.xa (I:Inv X pins σ H s) (xe:Value→Shared→Prop):Inv (X.xa (X.pn ++ pins) xe) [] σ H s :=
 ⟨⟨I.ok.mod,I.ok.kind,I.ok.glob,I.ok.blt,I.ok.above,I.ok.inj,I.ok.has,I.ok.cab,I.ok.hd,I.ok.frames,I.ok.stk,I.ok.exf,I.ok.bs,I.ok.bsz,I.ok.HE,I.ok.Fu,I.ok.wo,I.ok.frf⟩,I.os,I.bare,I.base,I.loc,I.cell,I.free,I.jU,
  fun p hp=>I.pin p (by simpa using hp),I.hok,I.len⟩
theorem Inv.sQ {pins':List (Addr×Obj)} {xe:Value→Shared→Prop} (I:Inv (X.xa (X.pn ++ pins) xe) pins' σ H s) (ok:X.Ok):Inv X pins σ H s :=
 ⟨ok,I.os,I.bare,I.base,I.loc,I.cell,I.free,I.jU,fun p hp=>I.pin p (List.mem_append_left _ hp),I.hok,I.len⟩
end
def Lf (X:Cx) (CR:Addr) (i:Nat) (th:TS) (D:Ends):XK:=fun cv od H1=>∃ C dx,cv = .ref C∧od=some dx∧xIn X.K C=true∧w9 X.K C CR=true ∧
 ∀ (σ':St) (e:Addr),σ'.length=X.N.length→H1 e=none→th { nx:=fun _ _=>False,rt:=D.rt } (σ'.set i (some (.ref e))) (upd H1 e (.ext (xh e C dx)))
def La (X:Cx) (CR:Addr) (i:Nat) (tb:XK→TS) (th:TS):TS:=fun D σ H=>tb (Lf X CR i th D) D σ H
section
variable {X:Cx} {body suite:List Stmt} {b0:Stmt} {x n:Str} {np hpos pos:Pos} {i:Nat} {CR:Addr} {tb:XK→TS} {th:TS}
theorem HX (hst:X.stack=X.env :: X.outer) (hf:X.env.frame=some X.env.locals) (hN:X.N.Nodup) (hi:X.N[i]?=some n) (hk:X.env.scope.names.lookup n=some .local)
  (hg:Gl X x) (hm:X.mg x=some (.ref CR)) (hCR:xIn X.K CR=true)
  (hb:∀ (pn:List (Addr×Obj)) (xe:Value→Shared→Prop) (EH:XK),Thr (X.xa pn xe) EH→PSs (X.xa pn xe) body (tb EH))
  (hh:∀ A',PSs (X.held A') (b0 :: suite) th) (hdb:(x == ("__debug__":Str))=false:=by decide) :
  PS X (.Try body [.ExceptHandler (some (.Name x np)) (some n) (b0 :: suite) hpos] [] [] pos) (La X CR i tb th):=by
 intro pins s σ H D I h
 refine wpAny_Try_except ?_
 refine wpAny_mono (hb (X.pn ++ pins) (fun e s₁=>wpAny (model X.prog X.w) X.A (noteFrame e X.env) (fun _ s₂=>wpAny (model X.prog X.w) X.A (setFlight e none) (fun _ s₃=>wpAny (model X.prog X.w) X.A (handleBy e X.env [.ExceptHandler (some (.Name x np)) (some n) (b0 :: suite) hpos]) (SP X pins D) X.xe s₃) X.xe s₂) X.xe s₁) (Lf X CR i th D) ?_ [] s σ H D (I.xa _) h) (fun f s1 q=>?_) fun e s1 q=>q
 ·intro pins' σ' H' s' e C dx I' fl hE
  have I1:Inv X pins σ' H' s':=I'.sQ I.ok
  obtain⟨vs,fa⟩:=fl
  obtain⟨C',dx',z1,z2,hxC,hsub,hgo⟩:=hE
  cases z1; cases z2
  have fa':AL X.s_0.heap (X.pn ++ pins) H' s'.heap e C dx vs:=⟨fa.at_,fa.sz,fa.fr,fa.no,fa.new,fun p hp=>fa.pin p (List.mem_append_left _ hp),fun T hv=>⟨(fa.Co T hv).1,(fa.Co T hv).2.1,fun p hp=>(fa.Co T hv).2.2 p (List.mem_append_left _ hp)⟩⟩
  refine Ap (base:=X.base) (L:=X.env.locals) (by rw [I1.ok.frames,hst]) (by have z:=I1.stack; rw [hst] at z; exact z) hf fa.at_ fa.sz fa.fr fun h1 N=>?_
  have I2:Inv X pins σ' H' { s' with heap:=h1 }:=I1.Ly hst fa' N
  obtain⟨vs2,T,oT,ts,a1,a2,a3,a4,a5,a6,a7,a8⟩:=N.at_
  refine wpAny_handleBy_cons (codeAny_handlers_test ?_) (by intro q; cases q)
  refine qf (X:=X.held (X.A.mark (some (.ref e)))) (I2.held rfl) hg hm ?_ hdb
  refine FP I2.kIn hxC hCR hsub a1 rfl ?_
  show codeAny _ _ (.handlers (.ref e) [.ExceptHandler none (some n) (b0 :: suite) hpos] X.env) _ _
  refine codeAny_handlers_suite_as ?_
  refine wpAny_setFlight_none a1 rfl a3 a6 a7 (Array.getElem?_eq_some_iff.mp a8).1 ?_
  rw [Heap.update_setField_same _ T oT ts 3 .none a6 a7 a8]
  have one:=I2.Bb a1 rfl
  have I3:Inv X pins σ' (upd H' e (.ext (xh e C dx))) { s' with heap:=h1 }:=I2.LZ fa.no fa.new one.1 one.2 (fun p hp=>fa'.pin p hp) (xh.ok ⟨_,a1⟩)
  refine zv (X:=X) (v:=.ref e) I3 hN hi (Or.inl hk) rfl (fun s4 I4=>?_) (.inr hk)
  refine wpAny_mono (hh (X.A.mark (some (.ref e))) pins s4 _ _ { nx:=fun _ _=>False,rt:=D.rt } (I4.held rfl) (hgo σ' e I1.len fa.no)) (fun f s5 q=>?_) fun _ _ z=>z.elim
  cases f with
  | next=>obtain⟨_,_,_,z⟩:=q; exact z.elim
  | brk=>obtain⟨_,_,_,z⟩:=q; exact z.elim
  | cont=>obtain⟨_,_,_,z⟩:=q; exact z.elim
  | ret u =>
   obtain⟨v,σ5,H5,I5,rv,q⟩:=q
   have I6:Inv X pins σ5 H5 s5:=I5.Lc I.ok
   obtain⟨m,hn,_⟩:=id I6.loc
   refine wpAny_nameGoes hk hn (by rw [I.ok.kind]; rfl) fun h2 m2 hn2 sb=>?_
   exact⟨v,_,H5,I6.forget hn2 sb,rv,q⟩
 ·cases f with
  | next =>
   obtain⟨σ',H',I',q⟩:=q
   exact wpAny_execs_nil ⟨σ',H',I'.sQ I.ok,q⟩
  | brk=>obtain⟨σ',H',I',q⟩:=q; exact⟨σ',H',I'.sQ I.ok,q⟩
  | cont=>obtain⟨σ',H',I',q⟩:=q; exact⟨σ',H',I'.sQ I.ok,q⟩
  | ret u=>obtain⟨v,σ',H',I',r,q⟩:=q; exact⟨v,σ',H',I'.sQ I.ok,r,q⟩
end
def J7 (K:Frag) (ta:TE) (f:Str):TE:=fun σ H Q=>ta σ H fun x H1=>∃ a C dx fs v,x = .ref a∧H1 a=some (.ext (xh a C dx))∧H1 dx=some (.xd fs)∧uU K C∧aV K C f∧fs.lookup f=some v∧Q v H1
section
variable {X:Cx} {e:Expr} {f:Str} {pos:Pos} {ta:TE}
theorem Jq (he:PE X e ta) (hb:attributeBase e f X.env (eval e X.env)=eval e X.env):PE X (.Attribute e f pos) (J7 X.K ta f):=by
 intro pins s σ H Q I h
 refine Eu hb (thn (he pins s σ H _ I h) fun u s1 ⟨x,H1,I1,rx,a,C,dx,fs,v,ex,ea,ed,c,n,l,q⟩=>?_)
 subst ex
 obtain rfl:u=Value.ref a:=rx
 obtain⟨⟨vs,hob⟩,_,_⟩:=I1.hok a _ ea
 obtain⟨mA,hn,r⟩:=I1.hok dx _ ed
 obtain⟨od,hod,hl⟩:=Ao hn
 obtain⟨w,hw,rw'⟩:=qM.some_of (v:=v) (o:=mA f) (by rw [← l]; exact r f)
 exact IU I1.kIn c.xin c.ga c.gn n (⟨hob,rfl,rfl,hod⟩:PySem.W.InstAt s1.heap a _ C (some od)) (by rw [hl,hw]) (Ai rw') ⟨v,H1,I1.tok _,rw',q⟩
end
section
variable {P:Program} {w:World} {K:PySem.W.Frag} {mg:Str→Option Value} {base:Heap}
theorem Fun.okX {CX:CXT} {x qual:Str} {st:Stmt} {f:Addr} {fd:FuncData} {N ps:List Str} {k:Nat} {sp:Sp} (F:Fun K x qual st f fd) (S:ay N ps (au st)) (len:∀ vs H Q E,sp vs H Q E→vs.length=ps.length)
  (hbody:∀ (cdv:Value) (A:Around) (outer:List Env) (s:Shared) (H:Hp) (vs:List V) (Q:VK) (E:XK),cf k (A.deeper (envOfC qual (au st) s.heap.objs.size f cdv))→sp vs H Q E →
   ∃ t,PSs (AU CX P w K mg base N qual (au st) f cdv A outer s H E) (kl st) t∧t { nx:=fun _ H'=>Q .non H',rt:=Q } (start N vs) H):oE P w K mg base CX (k + 1) f fd ps sp:=by
 obtain⟨oc,od,kV,doc,pm,an,cdv,ct,osl,rfl,lk,hcd⟩:=F.ex
 refine Lr lk hcd S len fun A outer s H vs Q E hr hsp=>?_
 exact hbody cdv A outer s H vs Q E hr hsp
end
end L2
end
section
namespace L2
open PySem PySem.Spec PyProof.Rows
open PySem.W (Frag keepIn)
def yE (e:DictEntry):Option (Int×Value):=match e.key with
 | .int k _=>if e.hash=hashInt k then some (k,e.val) else none
 | _=>none
def entriesIn:List DictEntry→Option (List (Int×Value))
 | []=>some []
 | e :: r=>match yE e,entriesIn r with
  | some p,some l=>if (l.any fun q=>q.1 == p.1) then none else some (p :: l)
  | _,_=>none
def dn (K:Frag) (a:Addr):Option (List (Int×Value)):=match K.lookup a with
 | some ⟨.type "dict",none,.dict es _,sl⟩=>if (a == sysModules)=false∧sl.size=0 then entriesIn es.toList else none
 | _=>none
section
variable {P:Program} {w:World}
theorem u7:∀ {es:List DictEntry} {l:List (Int×Value)},entriesIn es=some l →
  (∀ e∈es,∃ k,(cz P w).is k e.key=true∧e.hash=(cz P w).hash k)∧Pairs (cz P w) es (l.map fun p=>((Sum.inl p.1:Key),p.2))∧((l.map fun p=>((Sum.inl p.1:Key),p.2)).map (·.1)).Nodup
 | [],l,h=>by
  cases h
  exact⟨fun e he=>(nomatch he),.nil,List.nodup_nil⟩
 | e :: r,l,h=>by
  unfold entriesIn at h
  cases h1:yE e with
  | none=>rw [h1] at h; cases h
  | some p =>
   cases h2:entriesIn r with
   | none=>rw [h1,h2] at h; cases h
   | some l2 =>
    rw [h1,h2] at h
    dsimp only at h
    by_cases hn:(l2.any fun q=>q.1 == p.1)=true
    ·rw [if_pos hn] at h; cases h
    ·rw [if_neg hn] at h
     cases h
     obtain⟨a1,a2,a3⟩:=u7 h2
     obtain⟨hs,ky,vl⟩:=e
     unfold yE at h1
     cases ky<;>first | cases h1 | skip
     rename_i k t
     dsimp only at h1
     by_cases hh:hs=hashInt k
     ·rw [if_pos hh] at h1
      cases h1
      refine⟨fun e he=>?_,.cons (sZ k t) rfl a2,?_⟩
      ·rcases List.mem_cons.mp he with rfl | he
       ·exact⟨Sum.inl k,sZ k t,hh⟩
       ·exact a1 e he
      ·refine List.nodup_cons.mpr ⟨fun hm=>hn ?_,a3⟩
       simp only [List.map_map,List.mem_map] at hm
       obtain⟨q,hq,eq⟩:=hm
       exact List.any_eq_true.mpr ⟨q,hq,by simpa using eq⟩
     ·rw [if_neg hh] at h1; cases h1
theorem Ft {K:Frag} {h:Heap} {a:Addr} {l:List (Int×Value)} (X:K.In h) (q:dn K a=some l):(a == sysModules)=false∧h.DictOf (cz P w) a (l.map fun p=>((Sum.inl p.1:Key),p.2)):=by
 unfold dn at q
 split at q
 ·rename_i es ep sl ho
  by_cases hc:(a == sysModules)=false∧sl.size=0
  ·rw [if_pos hc] at q
   obtain⟨a1,a2,a3⟩:=u7 (P:=P) (w:=w) q
   refine⟨hc.1,_,es,ep,X _ _ ho,⟨rfl,rfl,by simpa using hc.2⟩,rfl,fun e he=>a1 e (by simpa using he),a2,a3⟩
  ·rw [if_neg hc] at q; cases q
 ·cases q
end
def look (l:List (Int×Value)) (k:Int):Option Value:=(l.find? fun p=>p.1 == k).map (·.2)
theorem Hv (l:List (Int×Value)) (k:Int):valueAt (l.map fun p=>((Sum.inl p.1:Key),p.2)) (Sum.inl k)=look l k:=by
 unfold valueAt look
 induction l with
 | nil=>rfl
 | cons p r ih =>
  rw [List.map_cons,List.find?_cons,List.find?_cons]
  by_cases h:p.1=k
  ·simp [h]
  ·have h1:decide ((Sum.inl p.1:Key)=Sum.inl k)=false:=by simpa using h
   have h2:(p.1 == k)=false:=by simpa using h
   rw [h1,h2]
   exact ih
def MG (l:List (Int×Value)) (a:Addr) (td ty:TE):TE:=fun σ H Q=>td σ H fun x H1=>ty σ H1 fun y H2=>∃ k u v,x = .ref a∧y = .int k∧look l k=some u∧RelV v u∧Q v H2
section
variable {X:Cx} {o i:Expr} {pos:Pos} {td ty:TE} {l:List (Int×Value)} {a:Addr}
theorem Kt {k:Int} {u:Value} (r:RelV (.int k) u):(cz X.prog X.w).is (Sum.inl k) u=true:=by
 obtain⟨t,rfl⟩:=r
 exact sZ k t
theorem HS (hl:dn X.K a=some l) (ho:PE X o td) (hi:PE X i ty) (hs:Kd i):PE X (.Subscript o i pos) (MG l a td ty):=by
 intro pins s σ H Q I h
 refine E2 PySem.F.slot_dict_getitem.lookup hs (thn (ho pins s σ H _ I h) fun u s1 ⟨x,H1,I1,rx,q1⟩=>thn (hi pins s1 σ H1 _ I1 q1) fun iv s2 ⟨y,H2,I2,ry,k,u0,v,ex,ey,hk,rv,q2⟩=>?_)
 subst ex ey
 obtain rfl:u=Value.ref a:=rx
 obtain⟨_,dd⟩:=Ft (P:=X.prog) (w:=X.w) I2.kIn hl
 exact⟨dd.typeIs,wpAny_getItem_of (Kt ry) dd.mapOf ((Hv l k).trans hk) ⟨v,H2,I2.tok _,rv,q2⟩⟩
end
def K5 (X:Cx) (CX:CXT) (E:XK) (i:Nat) (t:TA):TE:=fun σ H Q=>∃ k f fd ps sp,σ[i]?=some (some (.ref f))∧keepIn X.K (.ref f)=true∧oE X.prog X.w X.K X.mg X.base CX k f fd ps sp∧cf k X.A∧L2.Binds X.K fd ps [] ∧
 t σ H fun vs H1=>sp vs H1 Q E
section
variable {X:Cx} {CX:CXT} {E:XK} {i:Nat} {x:Str} {p pos:Pos} {e:Expr} {es:List Expr} {t:TA}
theorem HP (hN:X.N[i]?=some x) (hv:Vis X.env.scope x) (hx:Passes CX X E) (ha:PA X (e :: es) t) (hdb:(x == ("__debug__":Str))=false:=by decide) (hcd:(x == ("__classdict__":Str))=false:=by decide)
  (he:starEach (e :: es) X.env=(false,eval e X.env) :: starEach es X.env:=by rfl) (hpl:(backTo pos (starEach es X.env)).any (·.1)=false:=by rfl) :
  PE X (.Call (.Name x p) (e :: es) [] pos) (K5 X CX E i t):=by
 intro pins s σ H Q I h
 obtain⟨k,f,fd,ps,sp,hs,hk,F,hr,hb,h⟩:=h
 refine wpAny_Call_Name_kw (thn (HU hN hv hdb hcd pins s σ H (fun v H'=>v = .ref f∧H'=H) I ⟨.ref f,hs,rfl,rfl⟩) fun u s1 ⟨v,H1,I1,rv,ev,eH⟩=>?_)
 subst ev eH
 obtain rfl:u=Value.ref f:=rv
 refine PySem.W.callWith_K (h₀:=X.base) I.ok.mod.kin hk (thn (ha pos pins s1 σ H1 _ I1 h) fun us s2 ⟨vs,H2,I2,r,q⟩=>⟨I2.kIn,?_⟩) he hpl
 exact zo (dvs:=[]) F hr hb .nil hx I2 r (by rw [List.append_nil]; exact q)
end
def yj:List Value→Option (List V)
 | []=>some []
 | u :: r=>match G8 u,yj r with
  | some v,some l=>some (v :: l)
  | _,_=>none
def iD (K:Frag) (a:Addr):Option (List V):=match K.lookup a with
 | some ⟨.type "tuple",_,.seq its _,_⟩=>if its.size≤1000 then yj its.toList else none
 | _=>none
theorem Jw {x:V} {u:Value} (h:G8 u=some x):RelV x u:=by
 cases u<;>simp only [G8] at h<;>first | cases h | skip
 all_goals first | rfl | exact⟨_,rfl⟩
theorem C0:∀ {us:List Value} {xs:List V},yj us=some xs→Vals xs us
 | [],xs,h=>by cases h; exact .nil
 | u :: r,xs,h=>by
  unfold yj at h
  cases h1:G8 u with
  | none=>rw [h1] at h; cases h
  | some v =>
   cases h2:yj r with
   | none=>rw [h1,h2] at h; cases h
   | some l =>
    rw [h1,h2] at h
    cases h
    exact .cons (Jw h1) (C0 h2)
theorem zx {K:Frag} {H:Hp} {a:Addr} {xs:List V} (q:iD K a=some xs):SqT K H a xs:=by
 unfold iD at q
 split at q
 ·rename_i dd its n sl ho
  by_cases hz:its.size≤1000
  ·rw [if_pos hz] at q
   exact .inr ⟨_,its,n,ho,rfl,rfl,by rw [sizeLine_eq]; omega,C0 q⟩
  ·rw [if_neg hz] at q; cases q
 ·cases q
end L2
end
section
namespace L2
open PySem PySem.Spec PyProof.Rows
open PySem.W (Frag keepIn)
section
variable {X:Cx}
def nv (l:List Nat):List V:=l.map fun (x:Nat)=>V.int (x:Int)
theorem Fl:mC X (.type "range") (fun xs H Q=>∃ j:Int,xs=[.int j]∧∀ r,H r=none→Q (.ref r) (upd H r (.rng 0 j))):=by
 intro pins s σ H xs us Q I r h
 obtain⟨j,rfl,q⟩:=h
 obtain⟨u,rfl,rx⟩:=vals1 r
 obtain⟨t,rfl⟩:=rx
 refine call_range_1 ?_
 refine⟨.ref s.heap.objs.size,_,I.laid (a:=s.heap.objs.size) (o:=.rng 0 j) (t':=s.toks + 1 + 1) (fun b o e=>Heap.get?_push_of_some _ e) (Nat.le_refl _) ?_,rfl,q _ (I.hok.fresh (Nat.le_refl _))⟩
 exact⟨_,_,_,Heap.get?_push_size _ rfl⟩
theorem zJ (hc:X.calm=true):mC X (.type "list") (fun xs H Q=>∃ (r:Addr) (j:Nat),xs=[.ref r]∧H r=some (.rng 0 j)∧j < 2 ^ 16∧∀ l,H l=none→Q (.ref l) (upd H l (.lst (nv (List.range j))))):=by
 intro pins s σ H xs us Q I r h
 obtain⟨p,j,rfl,hp,h1,q⟩:=h
 obtain⟨u,rfl,rx⟩:=vals1 r
 cases rx
 obtain⟨t,u,v,hr⟩:=I.hok p _ hp
 refine call_list_range (n:=j) (I.ok.hd hc) hr (small_one (by omega) (by omega) (by omega) (by omega)) (by rw [rangeSize_one]; split<;>omega) (by omega) fun h' tk acc c hk hD hI=>?_
 have hi:=PySem.W.kll_ints acc.toList 0 j (by rw [Array.length_toList]; exact hI.1) fun i v hj=>hI.2 i v (by rw [← hj,Array.getElem?_toList])
 have hv:=AF hi
 have e:(PySem.W.rangeKs 0 j).map V.int=nv (List.range j):=by
  unfold PySem.W.rangeKs nv
  rw [List.map_map]
  refine List.map_congr_left fun x _=>?_
  show V.int (0 + (x:Int))=V.int x
  rw [Int.zero_add]
 rw [e] at hv
 have hl:(nv (List.range j)).length=j:=by simp [nv]
 exact⟨.ref s.heap.objs.size,_,I.laid (t':=tk) hk (Nat.le_refl _) (show c8 X.prog X.w _ h' _ (.lst _) from ⟨by rw [hl,sizeLine_eq]; omega,acc.toList,c,hv,by rw [Array.toArray_toList]; exact hD⟩),rfl,q _ (I.hok.fresh (Nat.le_refl _))⟩
end
end L2
end
section
namespace L2
open PySem PySem.Spec PyProof.Rows
open PySem.W (Frag keepIn)
def hide (H:Hp) (l:Addr):Hp:=fun b=>if b=l then none else H b
theorem Aj {H:Hp} {l:Addr}:hide H l l=none:=if_pos rfl
theorem hide_ne {H:Hp} {l b:Addr} (h:b≠l):hide H l b=H b:=if_neg h
theorem ph {H:Hp} {l b:Addr} (h:H b=none):hide H l b=none:=by unfold hide; split<;>first | rfl | exact h
theorem Ak {H:Hp} {l b:Addr} {o:HO} (h:hide H l b=some o):b≠l∧H b=some o:=by
 unfold hide at h
 split at h
 ·cases h
 ·rename_i z; exact⟨z,h⟩
theorem vn {H:Hp} {l:Addr} {o:HO} (h:H l=none):hide (upd H l o) l=H:=by
 funext b
 by_cases z:b=l
 ·rw [z,Aj,h]
 ·rw [hide_ne z,aj z]
theorem yB {H:Hp} {l:Addr}:aE (hide H l) H:=fun b o e=>(Ak e).2
section
variable {X:Cx} {pins:List (Addr×Obj)} {σ:List (Option V)} {H:Hp} {s:Shared} {l:Addr} {xs:List V}
theorem Inv.Ll (I:Inv X pins σ H s) (hl:H l=some (.lst xs)):∃ o:Obj,Inv X ((l,o) :: pins) σ (hide H l) s ∧
  ∀ σ' H' s',Inv X ((l,o) :: pins) σ' H' s'→H' l=none∧Inv X pins σ' (upd H' l (.lst xs)) s':=by
 have ho:=I.hok l _ hl
 obtain⟨z,its,n,r,e⟩:=id ho
 have nl:l≠X.env.locals:=fun q=>by rw [q,I.free] at hl; cases hl
 have nf:l∉X.fs:=fun q=>by
  obtain⟨_,o,h1,_⟩:=I.ok.wo.mem q
  have:=I.base.free l o h1 (I.ok.frf l q) fun y=>I.ok.Fu l y q
  rw [this] at hl; cases hl
 have nb:∀ o,X.s_0.heap.get? l=some o→X.H_0 l=none→l∈X.ex:=fun o h1 h2=>Classical.byContradiction fun h3=>by
  have:=I.base.free l o h1 h2 h3
  rw [this] at hl; cases hl
 have np:∀ p∈X.pn ++ pins,p.1≠l:=fun p hp q=>by
  have:=(I.pin p hp).2.1
  rw [q,hl] at this; cases this
 have nd:∀ v,(({ cls:=.type "list",data:=.seq its.toArray n }:Obj)).data≠.cell v:=fun v q=>by cases q
 refine⟨{ cls:=.type "list",data:=.seq its.toArray n },⟨I.ok,I.os,I.bare,⟨I.base.keep,I.base.slot,fun b o h1 h2 h3=>ph (I.base.free b o h1 h2 h3),I.base.there,fun b ys q=>?_,fun b o u q=>?_,fun b ps q=>?_⟩,I.loc,I.cell,ph I.free,fun x c q=>ph (I.jU x c q),fun p hp=>?_,fun a o q=>?_,I.len⟩,fun σ' H' s' I'=>?_⟩
 ·have h1:=I.base.uO b ys q
  rw [hide_ne (fun y=>by rw [y,hl] at h1; cases h1)]; exact h1
 ·have h1:=I.base.rA b o u q
  rw [hide_ne (fun y=>by rw [y,hl] at h1; cases h1)]; exact h1
 ·obtain⟨m,h1⟩:=I.base.uN b ps q
  exact⟨m,by rw [hide_ne (fun y=>by rw [y,hl] at h1; cases h1)]; exact h1⟩
 ·rcases List.mem_append.mp hp with hp | hp
  ·obtain⟨a1,a2,a3⟩:=I.pin p (List.mem_append_left _ hp)
   exact⟨a1,ph a2,a3⟩
  ·rcases List.mem_cons.mp hp with rfl | hp
   ·exact⟨e,Aj,nl,nf,nd⟩
   ·obtain⟨a1,a2,a3⟩:=I.pin p (List.mem_append_right _ hp)
    exact⟨a1,ph a2,a3⟩
 ·obtain⟨q1,q2⟩:=Ak q
  refine (I.hok a o q2).stay (fun _ _ _ y=>y) (fun b y=>?_) fun b ys y=>?_
  ·rw [hide_ne (fun v=>by rw [v,hl] at y; cases y)]; exact y
  ·rw [hide_ne (fun v=>by rw [v,hl] at y; cases y)]; exact y
 ·obtain⟨e',n',_⟩:=I'.pin (l,_) (List.mem_append_right _ List.mem_cons_self)
  have n':H' l=none:=n'
  refine⟨n',⟨I'.ok,I'.os,I'.bare,⟨I'.base.keep,I'.base.slot,fun b o h1 h2 h3=>?_,I'.base.there,fun b ys q=>?_,fun b o u q=>?_,fun b ps q=>?_⟩,I'.loc,I'.cell,?_,fun x c q=>?_,fun p hp=>?_,fun a o q=>?_,I'.len⟩⟩
  ·rw [aj (fun y=>by subst y; exact h3 (nb o h1 h2))]; exact I'.base.free b o h1 h2 h3
  ·have h1:=I'.base.uO b ys q
   rw [aj (fun y=>by rw [y,n'] at h1; cases h1)]; exact h1
  ·have h1:=I'.base.rA b o u q
   rw [aj (fun y=>by rw [y,n'] at h1; cases h1)]; exact h1
  ·obtain⟨m,h1⟩:=I'.base.uN b ps q
   exact⟨m,by rw [aj (fun y=>by rw [y,n'] at h1; cases h1)]; exact h1⟩
  ·rw [aj (Ne.symm nl)]; exact I'.free
  ·rw [aj (fun y=>?_)]
   ·exact I'.jU x c q
   ·obtain⟨v,o,h1,h2⟩:=I'.cell x c q
    rw [y,e'] at h1
    cases h1
    cases h2
  ·have hp':p∈X.pn ++ (l,({ cls:=.type "list",data:=.seq its.toArray n }:Obj)) :: pins:=by
    rcases List.mem_append.mp hp with hp | hp
    ·exact List.mem_append_left _ hp
    ·exact List.mem_append_right _ (List.mem_cons_of_mem _ hp)
   obtain⟨a1,a2,a3⟩:=I'.pin p hp'
   exact⟨a1,by rw [aj (np p hp)]; exact a2,a3⟩
  ·by_cases y:a=l
   ·subst y
    rw [af] at q
    cases q
    exact⟨z,its,n,r,e'⟩
   ·rw [aj y] at q
    refine (I'.hok a o q).stay (fun _ _ _ y=>y) (fun b y=>?_) fun b ys y=>?_
    ·rw [aj (fun v=>by rw [v,n'] at y; cases y)]; exact y
    ·rw [aj (fun v=>by rw [v,n'] at y; cases y)]; exact y
def K4 (t:TE):TE:=fun σ H Q=>∃ l xs,H l=some (.lst xs)∧t σ (hide H l) fun v H1=>H1 l=none→Q v (upd H1 l (.lst xs))
theorem HM {e:Expr} {t:TE} (h:PE X e t):PE X e (K4 t):=by
 intro pins s σ H Q I ⟨l,xs,hl,q⟩
 obtain⟨o,I1,k⟩:=I.Ll hl
 refine thn (h _ s σ _ _ I1 q) fun v s1 ⟨x,H1,I2,r,q2⟩=>?_
 obtain⟨n,I3⟩:=k _ _ _ I2
 exact⟨x,_,I3,r,q2 n⟩
end
end L2
namespace L2
open PySem PySem.Spec PyProof.Rows
variable {K:PySem.W.Frag}
theorem Fun.b1 {x qual:Str} {st:Stmt} {f:Addr} {fd:FuncData} {p0:Str} (F:Fun K x qual st f fd)
  (h:∀ (kV doc pm:Value) (an:Option Addr) (cdv ct u0:Value),bindArgs (PySem.W.fnOf x qual (lC st) (kl st) (au st) .none kV doc pm an cdv ct) ⟨[u0],[]⟩=pure [(p0,u0)]):Binds K fd [p0] [] :=
 F.binds fun _ _ _ _ _ _ us hl=>match us,hl with | [u0],_=>h _ _ _ _ _ _ u0
theorem Fun.b2 {x qual:Str} {st:Stmt} {f:Addr} {fd:FuncData} {p0 p1:Str} (F:Fun K x qual st f fd)
  (h:∀ (kV doc pm:Value) (an:Option Addr) (cdv ct u0 u1:Value),bindArgs (PySem.W.fnOf x qual (lC st) (kl st) (au st) .none kV doc pm an cdv ct) ⟨[u0,u1],[]⟩=pure [(p0,u0),(p1,u1)]):Binds K fd [p0,p1] [] :=
 F.binds fun _ _ _ _ _ _ us hl=>match us,hl with | [u0,u1],_=>h _ _ _ _ _ _ u0 u1
theorem Fun.b3 {x qual:Str} {st:Stmt} {f:Addr} {fd:FuncData} {p0 p1 p2:Str} (F:Fun K x qual st f fd)
  (h:∀ (kV doc pm:Value) (an:Option Addr) (cdv ct u0 u1 u2:Value),bindArgs (PySem.W.fnOf x qual (lC st) (kl st) (au st) .none kV doc pm an cdv ct) ⟨[u0,u1,u2],[]⟩=pure [(p0,u0),(p1,u1),(p2,u2)]):Binds K fd [p0,p1,p2] [] :=
 F.binds fun _ _ _ _ _ _ us hl=>match us,hl with | [u0,u1,u2],_=>h _ _ _ _ _ _ u0 u1 u2
theorem Fun.b4 {x qual:Str} {st:Stmt} {f:Addr} {fd:FuncData} {p0 p1 p2 p3:Str} (F:Fun K x qual st f fd)
  (h:∀ (kV doc pm:Value) (an:Option Addr) (cdv ct u0 u1 u2 u3:Value),bindArgs (PySem.W.fnOf x qual (lC st) (kl st) (au st) .none kV doc pm an cdv ct) ⟨[u0,u1,u2,u3],[]⟩=pure [(p0,u0),(p1,u1),(p2,u2),(p3,u3)]):Binds K fd [p0,p1,p2,p3] [] :=
 F.binds fun _ _ _ _ _ _ us hl=>match us,hl with | [u0,u1,u2,u3],_=>h _ _ _ _ _ _ u0 u1 u2 u3
theorem Fun.b5 {x qual:Str} {st:Stmt} {f:Addr} {fd:FuncData} {p0 p1 p2 p3 p4:Str} (F:Fun K x qual st f fd)
  (h:∀ (kV doc pm:Value) (an:Option Addr) (cdv ct u0 u1 u2 u3 u4:Value),bindArgs (PySem.W.fnOf x qual (lC st) (kl st) (au st) .none kV doc pm an cdv ct) ⟨[u0,u1,u2,u3,u4],[]⟩=pure [(p0,u0),(p1,u1),(p2,u2),(p3,u3),(p4,u4)]):Binds K fd [p0,p1,p2,p3,p4] [] :=
 F.binds fun _ _ _ _ _ _ us hl=>match us,hl with | [u0,u1,u2,u3,u4],_=>h _ _ _ _ _ _ u0 u1 u2 u3 u4
theorem zX {α:Type} {p Q:α→Prop} {v:α} (h:p v) (q:Q v):∃ v',p v'∧Q v':=⟨v,h,q⟩
theorem zV {σ:St} {i:Nat} {v:V} {Q:V→Prop} (h:σ[i]?=some (some v)) (q:Q v):∃ v',σ[i]?=some (some v')∧Q v':=⟨v,h,q⟩
theorem zF {H:Hp} {a C dx:Addr} {fs:List (Str×V)} {f:Str} {v:V} {Q:V→Prop} (h1:H a=some (.ins C dx fs)) (h2:Cls K C) (h3:aV K C f) (h4:fs.lookup f=some v) (q:Q v) :
  ∃ a' C' dx' fs' v',V.ref a = .ref a'∧H a'=some (.ins C' dx' fs')∧Cls K C'∧aV K C' f∧fs'.lookup f=some v'∧Q v':=⟨a,C,dx,fs,v,rfl,h1,h2,h3,h4,q⟩
theorem zS {H:Hp} {a C dx:Addr} {fs:List (Str×V)} {f:Str} {Q:Addr→Addr→Addr→List (Str×V)→Prop} (h1:H a=some (.ins C dx fs)) (h2:Cls K C) (h3:aV K C f) (h4:fs.length < 1000) (q:Q a C dx fs) :
  ∃ a' C' dx' fs',V.ref a = .ref a'∧H a'=some (.ins C' dx' fs')∧Cls K C'∧aV K C' f∧fs'.length < 1000∧Q a' C' dx' fs':=⟨a,C,dx,fs,rfl,h1,h2,h3,h4,q⟩
theorem zM {H:Hp} {a C dx:Addr} {fs:List (Str×V)} {m:Str} {Q:Prop} (h1:H a=some (.ins C dx fs)) (h2:fs.lookup m=none) (q:Q):∃ a' dx' fs',V.ref a = .ref a'∧H a'=some (.ins C dx' fs')∧fs'.lookup m=none∧Q:=⟨a,dx,fs,rfl,h1,h2,q⟩
theorem zI {S:Addr→List V→Prop} {p:Addr} {xs:List V} {i:Int} {v:V} {Q:V→Prop} (h:S p xs) (e:atI xs i=some v) (q:Q v):∃ p' xs' i' v',V.ref p = .ref p'∧V.int i = .int i'∧S p' xs'∧atI xs' i'=some v'∧Q v':=⟨p,xs,i,v,rfl,rfl,h,e,q⟩
theorem zO {i j:Int} {Q:Int→Int→Prop} (q:Q i j):∃ i' j',V.int i = .int i'∧V.int j = .int j'∧Q i' j':=⟨i,j,rfl,rfl,q⟩
theorem zE2 {α0 α1:Type} {p:α0→α1→Prop} (x0:α0) (x1:α1) (q:p x0 x1):∃ x0' x1',p x0' x1':=⟨x0,x1,q⟩
theorem zE3 {α0 α1 α2:Type} {p:α0→α1→α2→Prop} (x0:α0) (x1:α1) (x2:α2) (q:p x0 x1 x2):∃ x0' x1' x2',p x0' x1' x2':=⟨x0,x1,x2,q⟩
theorem zE4 {α0 α1 α2 α3:Type} {p:α0→α1→α2→α3→Prop} (x0:α0) (x1:α1) (x2:α2) (x3:α3) (q:p x0 x1 x2 x3):∃ x0' x1' x2' x3',p x0' x1' x2' x3':=⟨x0,x1,x2,x3,q⟩
theorem zE5 {α0 α1 α2 α3 α4:Type} {p:α0→α1→α2→α3→α4→Prop} (x0:α0) (x1:α1) (x2:α2) (x3:α3) (x4:α4) (q:p x0 x1 x2 x3 x4):∃ x0' x1' x2' x3' x4',p x0' x1' x2' x3' x4':=⟨x0,x1,x2,x3,x4,q⟩
theorem zE6 {α0 α1 α2 α3 α4 α5:Type} {p:α0→α1→α2→α3→α4→α5→Prop} (x0:α0) (x1:α1) (x2:α2) (x3:α3) (x4:α4) (x5:α5) (q:p x0 x1 x2 x3 x4 x5):∃ x0' x1' x2' x3' x4' x5',p x0' x1' x2' x3' x4' x5':=⟨x0,x1,x2,x3,x4,x5,q⟩
theorem zE7 {α0 α1 α2 α3 α4 α5 α6:Type} {p:α0→α1→α2→α3→α4→α5→α6→Prop} (x0:α0) (x1:α1) (x2:α2) (x3:α3) (x4:α4) (x5:α5) (x6:α6) (q:p x0 x1 x2 x3 x4 x5 x6):∃ x0' x1' x2' x3' x4' x5' x6',p x0' x1' x2' x3' x4' x5' x6':=⟨x0,x1,x2,x3,x4,x5,x6,q⟩
theorem zE8 {α0 α1 α2 α3 α4 α5 α6 α7:Type} {p:α0→α1→α2→α3→α4→α5→α6→α7→Prop} (x0:α0) (x1:α1) (x2:α2) (x3:α3) (x4:α4) (x5:α5) (x6:α6) (x7:α7) (q:p x0 x1 x2 x3 x4 x5 x6 x7):∃ x0' x1' x2' x3' x4' x5' x6' x7',p x0' x1' x2' x3' x4' x5' x6' x7':=⟨x0,x1,x2,x3,x4,x5,x6,x7,q⟩
theorem zE9 {α0 α1 α2 α3 α4 α5 α6 α7 α8:Type} {p:α0→α1→α2→α3→α4→α5→α6→α7→α8→Prop} (x0:α0) (x1:α1) (x2:α2) (x3:α3) (x4:α4) (x5:α5) (x6:α6) (x7:α7) (x8:α8) (q:p x0 x1 x2 x3 x4 x5 x6 x7 x8):∃ x0' x1' x2' x3' x4' x5' x6' x7' x8',p x0' x1' x2' x3' x4' x5' x6' x7' x8':=⟨x0,x1,x2,x3,x4,x5,x6,x7,x8,q⟩
theorem L5 {α0 α1 α2 α3 α4 α5 α6 α7 α8 α9:Type} {p:α0→α1→α2→α3→α4→α5→α6→α7→α8→α9→Prop} (x0:α0) (x1:α1) (x2:α2) (x3:α3) (x4:α4) (x5:α5) (x6:α6) (x7:α7) (x8:α8) (x9:α9) (q:p x0 x1 x2 x3 x4 x5 x6 x7 x8 x9):∃ x0' x1' x2' x3' x4' x5' x6' x7' x8' x9',p x0' x1' x2' x3' x4' x5' x6' x7' x8' x9':=⟨x0,x1,x2,x3,x4,x5,x6,x7,x8,x9,q⟩
theorem zG2 {α0 α1:Type} {p:α0→α1→Prop} {g:Prop} (k:∀ x0 x1,p x0 x1→g) (h:∃ x0 x1,p x0 x1):g:=by
 obtain⟨x0,x1,h⟩:=h
 exact k _ _ h
theorem zG3 {α0 α1 α2:Type} {p:α0→α1→α2→Prop} {g:Prop} (k:∀ x0 x1 x2,p x0 x1 x2→g) (h:∃ x0 x1 x2,p x0 x1 x2):g:=by
 obtain⟨x0,x1,x2,h⟩:=h
 exact k _ _ _ h
theorem zG4 {α0 α1 α2 α3:Type} {p:α0→α1→α2→α3→Prop} {g:Prop} (k:∀ x0 x1 x2 x3,p x0 x1 x2 x3→g) (h:∃ x0 x1 x2 x3,p x0 x1 x2 x3):g:=by
 obtain⟨x0,x1,x2,x3,h⟩:=h
 exact k _ _ _ _ h
theorem zG5 {α0 α1 α2 α3 α4:Type} {p:α0→α1→α2→α3→α4→Prop} {g:Prop} (k:∀ x0 x1 x2 x3 x4,p x0 x1 x2 x3 x4→g) (h:∃ x0 x1 x2 x3 x4,p x0 x1 x2 x3 x4):g:=by
 obtain⟨x0,x1,x2,x3,x4,h⟩:=h
 exact k _ _ _ _ _ h
theorem zG6 {α0 α1 α2 α3 α4 α5:Type} {p:α0→α1→α2→α3→α4→α5→Prop} {g:Prop} (k:∀ x0 x1 x2 x3 x4 x5,p x0 x1 x2 x3 x4 x5→g) (h:∃ x0 x1 x2 x3 x4 x5,p x0 x1 x2 x3 x4 x5):g:=by
 obtain⟨x0,x1,x2,x3,x4,x5,h⟩:=h
 exact k _ _ _ _ _ _ h
theorem zG7 {α0 α1 α2 α3 α4 α5 α6:Type} {p:α0→α1→α2→α3→α4→α5→α6→Prop} {g:Prop} (k:∀ x0 x1 x2 x3 x4 x5 x6,p x0 x1 x2 x3 x4 x5 x6→g) (h:∃ x0 x1 x2 x3 x4 x5 x6,p x0 x1 x2 x3 x4 x5 x6):g:=by
 obtain⟨x0,x1,x2,x3,x4,x5,x6,h⟩:=h
 exact k _ _ _ _ _ _ _ h
theorem zG8 {α0 α1 α2 α3 α4 α5 α6 α7:Type} {p:α0→α1→α2→α3→α4→α5→α6→α7→Prop} {g:Prop} (k:∀ x0 x1 x2 x3 x4 x5 x6 x7,p x0 x1 x2 x3 x4 x5 x6 x7→g) (h:∃ x0 x1 x2 x3 x4 x5 x6 x7,p x0 x1 x2 x3 x4 x5 x6 x7):g:=by
 obtain⟨x0,x1,x2,x3,x4,x5,x6,x7,h⟩:=h
 exact k _ _ _ _ _ _ _ _ h
theorem zG9 {α0 α1 α2 α3 α4 α5 α6 α7 α8:Type} {p:α0→α1→α2→α3→α4→α5→α6→α7→α8→Prop} {g:Prop} (k:∀ x0 x1 x2 x3 x4 x5 x6 x7 x8,p x0 x1 x2 x3 x4 x5 x6 x7 x8→g) (h:∃ x0 x1 x2 x3 x4 x5 x6 x7 x8,p x0 x1 x2 x3 x4 x5 x6 x7 x8):g:=by
 obtain⟨x0,x1,x2,x3,x4,x5,x6,x7,x8,h⟩:=h
 exact k _ _ _ _ _ _ _ _ _ h
theorem L6 {α0 α1 α2 α3 α4 α5 α6 α7 α8 α9:Type} {p:α0→α1→α2→α3→α4→α5→α6→α7→α8→α9→Prop} {g:Prop} (k:∀ x0 x1 x2 x3 x4 x5 x6 x7 x8 x9,p x0 x1 x2 x3 x4 x5 x6 x7 x8 x9→g) (h:∃ x0 x1 x2 x3 x4 x5 x6 x7 x8 x9,p x0 x1 x2 x3 x4 x5 x6 x7 x8 x9):g:=by
 obtain⟨x0,x1,x2,x3,x4,x5,x6,x7,x8,x9,h⟩:=h
 exact k _ _ _ _ _ _ _ _ _ _ h
theorem zL1 {α0:Type} {q:α0→Prop} {f:α0→List V} {vs:List V} {m:Nat} (k:∀ x0,(f x0).length=m) (h:∃ x0,vs=f x0∧q x0):vs.length=m:=by
 obtain⟨x0,rfl,_⟩:=h
 exact k _
theorem zL2 {α0 α1:Type} {q:α0→α1→Prop} {f:α0→α1→List V} {vs:List V} {m:Nat} (k:∀ x0 x1,(f x0 x1).length=m) (h:∃ x0 x1,vs=f x0 x1∧q x0 x1):vs.length=m:=by
 obtain⟨x0,x1,rfl,_⟩:=h
 exact k _ _
theorem zL3 {α0 α1 α2:Type} {q:α0→α1→α2→Prop} {f:α0→α1→α2→List V} {vs:List V} {m:Nat} (k:∀ x0 x1 x2,(f x0 x1 x2).length=m) (h:∃ x0 x1 x2,vs=f x0 x1 x2∧q x0 x1 x2):vs.length=m:=by
 obtain⟨x0,x1,x2,rfl,_⟩:=h
 exact k _ _ _
theorem zL4 {α0 α1 α2 α3:Type} {q:α0→α1→α2→α3→Prop} {f:α0→α1→α2→α3→List V} {vs:List V} {m:Nat} (k:∀ x0 x1 x2 x3,(f x0 x1 x2 x3).length=m) (h:∃ x0 x1 x2 x3,vs=f x0 x1 x2 x3∧q x0 x1 x2 x3):vs.length=m:=by
 obtain⟨x0,x1,x2,x3,rfl,_⟩:=h
 exact k _ _ _ _
theorem zL5 {α0 α1 α2 α3 α4:Type} {q:α0→α1→α2→α3→α4→Prop} {f:α0→α1→α2→α3→α4→List V} {vs:List V} {m:Nat} (k:∀ x0 x1 x2 x3 x4,(f x0 x1 x2 x3 x4).length=m) (h:∃ x0 x1 x2 x3 x4,vs=f x0 x1 x2 x3 x4∧q x0 x1 x2 x3 x4):vs.length=m:=by
 obtain⟨x0,x1,x2,x3,x4,rfl,_⟩:=h
 exact k _ _ _ _ _
theorem zL6 {α0 α1 α2 α3 α4 α5:Type} {q:α0→α1→α2→α3→α4→α5→Prop} {f:α0→α1→α2→α3→α4→α5→List V} {vs:List V} {m:Nat} (k:∀ x0 x1 x2 x3 x4 x5,(f x0 x1 x2 x3 x4 x5).length=m) (h:∃ x0 x1 x2 x3 x4 x5,vs=f x0 x1 x2 x3 x4 x5∧q x0 x1 x2 x3 x4 x5):vs.length=m:=by
 obtain⟨x0,x1,x2,x3,x4,x5,rfl,_⟩:=h
 exact k _ _ _ _ _ _
theorem zL7 {α0 α1 α2 α3 α4 α5 α6:Type} {q:α0→α1→α2→α3→α4→α5→α6→Prop} {f:α0→α1→α2→α3→α4→α5→α6→List V} {vs:List V} {m:Nat} (k:∀ x0 x1 x2 x3 x4 x5 x6,(f x0 x1 x2 x3 x4 x5 x6).length=m) (h:∃ x0 x1 x2 x3 x4 x5 x6,vs=f x0 x1 x2 x3 x4 x5 x6∧q x0 x1 x2 x3 x4 x5 x6):vs.length=m:=by
 obtain⟨x0,x1,x2,x3,x4,x5,x6,rfl,_⟩:=h
 exact k _ _ _ _ _ _ _
theorem zL8 {α0 α1 α2 α3 α4 α5 α6 α7:Type} {q:α0→α1→α2→α3→α4→α5→α6→α7→Prop} {f:α0→α1→α2→α3→α4→α5→α6→α7→List V} {vs:List V} {m:Nat} (k:∀ x0 x1 x2 x3 x4 x5 x6 x7,(f x0 x1 x2 x3 x4 x5 x6 x7).length=m) (h:∃ x0 x1 x2 x3 x4 x5 x6 x7,vs=f x0 x1 x2 x3 x4 x5 x6 x7∧q x0 x1 x2 x3 x4 x5 x6 x7):vs.length=m:=by
 obtain⟨x0,x1,x2,x3,x4,x5,x6,x7,rfl,_⟩:=h
 exact k _ _ _ _ _ _ _ _
theorem zL9 {α0 α1 α2 α3 α4 α5 α6 α7 α8:Type} {q:α0→α1→α2→α3→α4→α5→α6→α7→α8→Prop} {f:α0→α1→α2→α3→α4→α5→α6→α7→α8→List V} {vs:List V} {m:Nat} (k:∀ x0 x1 x2 x3 x4 x5 x6 x7 x8,(f x0 x1 x2 x3 x4 x5 x6 x7 x8).length=m) (h:∃ x0 x1 x2 x3 x4 x5 x6 x7 x8,vs=f x0 x1 x2 x3 x4 x5 x6 x7 x8∧q x0 x1 x2 x3 x4 x5 x6 x7 x8):vs.length=m:=by
 obtain⟨x0,x1,x2,x3,x4,x5,x6,x7,x8,rfl,_⟩:=h
 exact k _ _ _ _ _ _ _ _ _
theorem L7 {α0 α1 α2 α3 α4 α5 α6 α7 α8 α9:Type} {q:α0→α1→α2→α3→α4→α5→α6→α7→α8→α9→Prop} {f:α0→α1→α2→α3→α4→α5→α6→α7→α8→α9→List V} {vs:List V} {m:Nat} (k:∀ x0 x1 x2 x3 x4 x5 x6 x7 x8 x9,(f x0 x1 x2 x3 x4 x5 x6 x7 x8 x9).length=m) (h:∃ x0 x1 x2 x3 x4 x5 x6 x7 x8 x9,vs=f x0 x1 x2 x3 x4 x5 x6 x7 x8 x9∧q x0 x1 x2 x3 x4 x5 x6 x7 x8 x9):vs.length=m:=by
 obtain⟨x0,x1,x2,x3,x4,x5,x6,x7,x8,x9,rfl,_⟩:=h
 exact k _ _ _ _ _ _ _ _ _ _
end L2
end
section
namespace L2
open PySem PySem.Spec PyProof.Rows
theorem E9 (x d:Value):argsOk "max" ⟨[x],[(Str.ofString "default",d)]⟩:=by unfold argsOk; kernel_rfl
theorem FQ {prog:Program} {w:World} {A:Around} {R:Result→Shared→Prop} {it S:Addr} {fp wr:List Addr} {n:Nat} {Pv:Nat→Value→Prop} {St:Nat→Heap→Prop} {kw:List (Str×Value)} (W:Walks prog w A.in1 it fp wr n Pv St) (val:Nat→Int)
  (hval:∀ i v,Pv i v→∃ t,v = .int (val i) t) (hS:S∉fp):∀ (d j:Nat) (sh:Shared) (M:Int) (tm:Tok) (cc:Nat),j + d=n→St j sh.heap→(∃ i,i < j∧val i=M)→(∀ i,i < j→val i≤M) →
  sh.heap.get? S=some { cls:=.type "list",dict:=none,data:=.seq #[.int M tm,.int M tm] cc,slots:=#[] } →
  (∀ (M':Int) (t':Tok) (h':Heap) (tk:Nat),(∃ i,i < n∧val i=M')→(∀ i,i < n→val i≤M')→(∀ b o,b∉wr→b≠S→sh.heap.get? b=some o→h'.get? b=some o)→R (.ok (.ret (.int M' t'))) { sh with heap:=h',toks:=tk }) →
  codeAny (model prog w) A (.builtin "max.loop" ⟨[.ref it,.none,.ref S],kw⟩) R sh:=by
 have nS:S∉wr:=fun z=>hS (W.sub _ z)
 have nm:(toString "max" ++ toString ".loop":String) = "max.loop":=by decide
 intro d
 induction d with
 | zero =>
  intro j sh M tm cc hj st hm hle hb hR
  have hj:j=n:=by omega
  subst hj
  refine codeAny_builtin PySem.F.entry_max_loop ?_
  rw [Around.under_plainId PySem.F.plain_max_loop _]
  show wpAny (model prog w) A.in1 (seqItems? (.ref S) >>= _) _ _ sh
  refine wpAny_bind (wpAny_seqItems hb rfl ?_)
  show wpAny (model prog w) A.in1 (tryCatch (pyNext (.ref it)) _ >>= _) _ _ sh
  refine wpAny_bind (wpAny_tryCatch (W.done sh _ _ st fun h2 t2 kp=>?_))
  have hb2:=kp S _ nS hb
  show wpAny (model prog w) A.in1 (updateSeq S (fun _=>#[]) >>= _) _ _ _
  refine wpAny_bind (wpAny_updateSeq hb2 rfl (wpAny_bind (wpAny_letGo (wpAny_pure ?_))))
  exact hR M tm _ t2 hm hle fun b o b1 b2 e=>(Heap.get?_update_other _ _ (Ne.symm b2)).trans (kp b o b1 e)
 | succ d ih =>
  intro j sh M tm cc hj st hm hle hb hR
  refine codeAny_builtin PySem.F.entry_max_loop ?_
  rw [Around.under_plainId PySem.F.plain_max_loop _]
  show wpAny (model prog w) A.in1 (seqItems? (.ref S) >>= _) _ _ sh
  refine wpAny_bind (wpAny_seqItems hb rfl ?_)
  show wpAny (model prog w) A.in1 (tryCatch (pyNext (.ref it)) _ >>= _) _ _ sh
  refine wpAny_bind (wpAny_tryCatch (W.item j sh _ _ (by omega) st fun v h2 t2 hv st2 kp=>?_))
  obtain⟨tv,rfl⟩:=hval j v hv
  have hb2:=kp S _ nS hb
  show wpAny (model prog w) A.in1 (tryCatch (holding [.int (val j) tv,.int (val j) tv] (richCompare .Gt (.int (val j) tv) (.int M tm) >>= _)) _ >>= _) _ _ _
  refine wpAny_bind (wpAny_tryCatch (wpAny_holding (wpAny_bind (CmpOf.ints_gt (P:=fun i u=>∃ t,u = .int (if i=0 then val j else M) t) (fun i=>if i=0 then val j else M) (fun _ _ z=>z) 0 1 _ _ _ _ _ ⟨tv,rfl⟩ ⟨tm,rfl⟩ ?_))))
  refine wpAny_bind (wpAny_holding (wpAny_truthy_bool ?_))
  refine wpAny_bind (wpAny_letGo (wpAny_pure ?_))
  show wpAny (model prog w) A.in1 (if decide (val j > M)=true then _ else _) _ _ _
  by_cases c:val j > M
  ·rw [if_pos (decide_eq_true c)]
   refine wpAny_bind (wpAny_updateSeq hb2 rfl (wpAny_bind (wpAny_letGo ?_)))
   rw [nm]
   refine wpAny_pure ⟨plainId_quiet PySem.F.plain_max_loop _,ih (j + 1) _ (val j) tv _ (by omega) (W.frame _ _ _ st2 fun b hbf o e=>(Heap.get?_update_other _ _ (fun z:S=b=>hS (z ▸ hbf))).trans e) ⟨j,by omega,rfl⟩ (fun i hi=>?_) (Heap.get?_update_self _ hb2 rfl)
    fun M' t' h' tk a1 a2 a3=>hR M' t' h' tk a1 a2 fun b o b1 b2 e=>a3 b o b1 b2 ((Heap.get?_update_other _ _ (Ne.symm b2)).trans (kp b o b1 e))⟩
   by_cases e:i=j
   ·subst e; omega
   ·have:=hle i (by omega); omega
  ·rw [if_neg (fun z=>c (of_decide_eq_true z))]
   refine wpAny_bind (wpAny_letGo ?_)
   rw [nm]
   refine wpAny_pure ⟨plainId_quiet PySem.F.plain_max_loop _,ih (j + 1) _ M tm cc (by omega) st2 ?_ (fun i hi=>?_) hb2 fun M' t' h' tk a1 a2 a3=>hR M' t' h' tk a1 a2 fun b o b1 b2 e=>a3 b o b1 b2 (kp b o b1 e)⟩
   ·obtain⟨i,h1,h2⟩:=hm
    exact⟨i,by omega,h2⟩
   ·by_cases e:i=j
    ·subst e; omega
    ·exact hle i (by omega)
theorem Hy {prog:Program} {w:World} {A:Around} {E:Value→Shared→Prop} {s:Shared} {l:Addr} {its:List Value} {ns:List Int} {d:Value} {Q:Value→Shared→Prop} (hh:A.handled=none) (hl:s.heap.IsList l its.toArray) (hi:IntsAre its ns)
  (h0:ns=[]→∀ h' tk,(∀ b o,s.heap.get? b=some o→h'.get? b=some o)→Q d { s with heap:=h',toks:=tk })
  (h:∀ h' tk M t',(∀ b o,s.heap.get? b=some o→h'.get? b=some o)→M∈ns→(∀ a,a∈ns→a≤M)→Q (.int M t') { s with heap:=h',toks:=tk }):wpAny (model prog w) A (call (.builtin "max") [.ref l] [(Str.ofString "default",d)]) Q E s:=by
 obtain⟨xs,e⟩:=hi.allInts.items
 have hn:numsOf (intItems xs).toList=ns:=by rw [← e]; exact hi.numsOf
 rw [nums_intItems] at hn
 subst hn
 rw [e] at hl
 have nm:(toString "max" ++ toString ".loop":String) = "max.loop":=by decide
 refine PyProof.Rows.kmk_tree PySem.F.kind_max PySem.F.plain_max PySem.F.entry_max (E9 _ _) ?_
 show wpAny (model prog w) A.in1 (Builtin.Builtins.bindParams "max" ["key","default"] 0 ⟨[],[(Str.ofString "default",d)]⟩ >>= _) _ _ s
 refine wpAny_bind (wpAny_of_eq (show Builtin.Builtins.bindParams "max" ["key","default"] 0 ⟨[],[(Str.ofString "default",d)]⟩=pure [none,some d] from rfl) ?_)
 refine wpAny_bind (wpAny_pure ?_)
 refine wpAny_bind (iter_intList hl fun s₂ es st hfp hlI=>?_)
 subst es
 refine wpAny_bind (wpAny_newObj_type ?_)
 rw [nm]
 have W:=Walks.list (prog:=prog) (w:=w) (A:=A.in1) hh s.heap.objs.size l hlI (intItems xs)
 refine wpAny_pure ⟨plainId_quiet PySem.F.plain_max_loop _,?_⟩
 have hSf:(s.heap.push { cls:=.type "list_iterator",data:=.fields #[.ref l,.int 0 0] }).objs.size∉[s.heap.objs.size,l]:=fun z=>Nat.lt_irrefl _ (hfp _ z)
 have hSw:(s.heap.push { cls:=.type "list_iterator",data:=.fields #[.ref l,.int 0 0] }).objs.size∉[s.heap.objs.size]:=fun z=>hSf (W.sub _ z)
 have st2:=W.frame 0 _ _ st (fun b _ o e=>Heap.get?_push_of_some { cls:=.type "list",data:=.seq #[] } e)
 have gS:((s.heap.push { cls:=.type "list_iterator",data:=.fields #[.ref l,.int 0 0] }).push { cls:=.type "list",data:=.seq #[] }).get? (s.heap.push { cls:=.type "list_iterator",data:=.fields #[.ref l,.int 0 0] }).objs.size=some { cls:=.type "list",data:=.seq #[] }:=Heap.get?_push_size _ rfl
 have old:∀ {h':Heap},(∀ b o,b∉[s.heap.objs.size]→b≠(s.heap.push { cls:=.type "list_iterator",data:=.fields #[.ref l,.int 0 0] }).objs.size→((s.heap.push { cls:=.type "list_iterator",data:=.fields #[.ref l,.int 0 0] }).push { cls:=.type "list",data:=.seq #[] }).get? b=some o→h'.get? b=some o)→∀ b o,s.heap.get? b=some o→h'.get? b=some o:=fun hk b o e0 =>
  hk b o (fun z=>absurd (Heap.lt_size e0) (by rw [List.mem_singleton.mp z]; exact Nat.lt_irrefl _)) (fun z=>absurd (Heap.lt_size (Heap.get?_push_of_some { cls:=.type "list_iterator",data:=.fields #[.ref l,.int 0 0] } e0)) (by rw [z]; exact Nat.lt_irrefl _)) (Heap.get?_push_of_some _ (Heap.get?_push_of_some _ e0))
 refine codeAny_builtin PySem.F.entry_max_loop ?_
 rw [Around.under_plainId PySem.F.plain_max_loop _]
 show wpAny (model prog w) A.in1 (seqItems? (.ref _) >>= _) _ _ _
 refine wpAny_bind (wpAny_seqItems gS rfl ?_)
 show wpAny (model prog w) A.in1 (tryCatch (pyNext (.ref s.heap.objs.size)) _ >>= _) _ _ _
 have hsz:(intItems xs).size=xs.size:=by simp [intItems]
 have mem:∀ i,i < (intItems xs).size→numAt xs i∈xs.toList.map (·.1):=fun i hi=>by
  rw [numAt_eq]; exact PySem.getD_mem (by rw [List.length_map,Array.length_toList]; omega)
 by_cases hz:xs.size=0
 ·refine wpAny_bind (wpAny_tryCatch (W.done _ _ _ (show _ from by rw [hsz,hz]; exact st2) fun h2 t2 kp=>?_))
  refine wpAny_bind (wpAny_rule (wpAny_pure ?_))
  refine h0 (by rw [List.eq_nil_iff_length_eq_zero,List.length_map,Array.length_toList]; exact hz) h2 t2 (old fun b o b1 b2 e=>kp b o b1 e)
 ·refine wpAny_bind (wpAny_tryCatch (W.item 0 _ _ _ (by rw [hsz]; omega) st2 fun v h2 t2 hv st3 kp=>?_))
  obtain⟨tv,rfl⟩:=intItems_at hv
  have gS2:=kp _ _ hSw gS
  show wpAny (model prog w) A.in1 (updateSeq _ (fun _=>#[.int (numAt xs 0) tv,.int (numAt xs 0) tv]) >>= _) _ _ _
  refine wpAny_bind (wpAny_updateSeq gS2 rfl ?_)
  rw [nm]
  refine wpAny_pure ⟨plainId_quiet PySem.F.plain_max_loop _,FQ W (numAt xs) (fun _ _=>intItems_at) hSf ((intItems xs).size - 1) 1 _ (numAt xs 0) tv _ (by omega) (W.frame _ _ _ st3 fun b hbf o e=>(Heap.get?_update_other _ _ (fun z=>hSf (by rw [z]; exact hbf))).trans e) ⟨0,by omega,rfl⟩ (fun i hi=>by
   obtain rfl:i=0:=by omega
   exact Int.le_refl _) (Heap.get?_update_self _ gS2 rfl) fun M' t' h' tk a1 a2 a3=>?_⟩
  obtain⟨i,i1,rfl⟩:=a1
  refine h h' tk _ t' (old fun b o b1 b2 e=>a3 b o b1 b2 ((Heap.get?_update_other _ _ (Ne.symm b2)).trans (kp b o b1 e))) (mem i i1) fun a ha=>?_
  obtain⟨j,hj,rfl⟩:=mem_getD ha
  rw [List.length_map,Array.length_toList] at hj
  rw [← numAt_eq]
  exact a2 j (by omega)
theorem Fb (x d:Value):argsOk "min" ⟨[x],[(Str.ofString "default",d)]⟩:=by unfold argsOk; kernel_rfl
theorem FV {prog:Program} {w:World} {A:Around} {R:Result→Shared→Prop} {it S:Addr} {fp wr:List Addr} {n:Nat} {Pv:Nat→Value→Prop} {St:Nat→Heap→Prop} {kw:List (Str×Value)} (W:Walks prog w A.in1 it fp wr n Pv St) (val:Nat→Int)
  (hval:∀ i v,Pv i v→∃ t,v = .int (val i) t) (hS:S∉fp):∀ (d j:Nat) (sh:Shared) (M:Int) (tm:Tok) (cc:Nat),j + d=n→St j sh.heap→(∃ i,i < j∧val i=M)→(∀ i,i < j→val i ≥ M) →
  sh.heap.get? S=some { cls:=.type "list",dict:=none,data:=.seq #[.int M tm,.int M tm] cc,slots:=#[] } →
  (∀ (M':Int) (t':Tok) (h':Heap) (tk:Nat),(∃ i,i < n∧val i=M')→(∀ i,i < n→val i ≥ M')→(∀ b o,b∉wr→b≠S→sh.heap.get? b=some o→h'.get? b=some o)→R (.ok (.ret (.int M' t'))) { sh with heap:=h',toks:=tk }) →
  codeAny (model prog w) A (.builtin "min.loop" ⟨[.ref it,.none,.ref S],kw⟩) R sh:=by
 have nS:S∉wr:=fun z=>hS (W.sub _ z)
 have nm:(toString "min" ++ toString ".loop":String) = "min.loop":=by decide
 intro d
 induction d with
 | zero =>
  intro j sh M tm cc hj st hm hle hb hR
  have hj:j=n:=by omega
  subst hj
  refine codeAny_builtin PySem.F.entry_min_loop ?_
  rw [Around.under_plainId PySem.F.plain_min_loop _]
  show wpAny (model prog w) A.in1 (seqItems? (.ref S) >>= _) _ _ sh
  refine wpAny_bind (wpAny_seqItems hb rfl ?_)
  show wpAny (model prog w) A.in1 (tryCatch (pyNext (.ref it)) _ >>= _) _ _ sh
  refine wpAny_bind (wpAny_tryCatch (W.done sh _ _ st fun h2 t2 kp=>?_))
  have hb2:=kp S _ nS hb
  show wpAny (model prog w) A.in1 (updateSeq S (fun _=>#[]) >>= _) _ _ _
  refine wpAny_bind (wpAny_updateSeq hb2 rfl (wpAny_bind (wpAny_letGo (wpAny_pure ?_))))
  exact hR M tm _ t2 hm hle fun b o b1 b2 e=>(Heap.get?_update_other _ _ (Ne.symm b2)).trans (kp b o b1 e)
 | succ d ih =>
  intro j sh M tm cc hj st hm hle hb hR
  refine codeAny_builtin PySem.F.entry_min_loop ?_
  rw [Around.under_plainId PySem.F.plain_min_loop _]
  show wpAny (model prog w) A.in1 (seqItems? (.ref S) >>= _) _ _ sh
  refine wpAny_bind (wpAny_seqItems hb rfl ?_)
  show wpAny (model prog w) A.in1 (tryCatch (pyNext (.ref it)) _ >>= _) _ _ sh
  refine wpAny_bind (wpAny_tryCatch (W.item j sh _ _ (by omega) st fun v h2 t2 hv st2 kp=>?_))
  obtain⟨tv,rfl⟩:=hval j v hv
  have hb2:=kp S _ nS hb
  show wpAny (model prog w) A.in1 (tryCatch (holding [.int (val j) tv,.int (val j) tv] (richCompare .Lt (.int (val j) tv) (.int M tm) >>= _)) _ >>= _) _ _ _
  refine wpAny_bind (wpAny_tryCatch (wpAny_holding (wpAny_bind (CmpOf.ints_lt (P:=fun i u=>∃ t,u = .int (if i=0 then val j else M) t) (fun i=>if i=0 then val j else M) (fun _ _ z=>z) 0 1 _ _ _ _ _ ⟨tv,rfl⟩ ⟨tm,rfl⟩ ?_))))
  refine wpAny_bind (wpAny_holding (wpAny_truthy_bool ?_))
  refine wpAny_bind (wpAny_letGo (wpAny_pure ?_))
  show wpAny (model prog w) A.in1 (if decide (val j < M)=true then _ else _) _ _ _
  by_cases c:val j < M
  ·rw [if_pos (decide_eq_true c)]
   refine wpAny_bind (wpAny_updateSeq hb2 rfl (wpAny_bind (wpAny_letGo ?_)))
   rw [nm]
   refine wpAny_pure ⟨plainId_quiet PySem.F.plain_min_loop _,ih (j + 1) _ (val j) tv _ (by omega) (W.frame _ _ _ st2 fun b hbf o e=>(Heap.get?_update_other _ _ (fun z:S=b=>hS (z ▸ hbf))).trans e) ⟨j,by omega,rfl⟩ (fun i hi=>?_) (Heap.get?_update_self _ hb2 rfl)
    fun M' t' h' tk a1 a2 a3=>hR M' t' h' tk a1 a2 fun b o b1 b2 e=>a3 b o b1 b2 ((Heap.get?_update_other _ _ (Ne.symm b2)).trans (kp b o b1 e))⟩
   by_cases e:i=j
   ·subst e; omega
   ·have:=hle i (by omega); omega
  ·rw [if_neg (fun z=>c (of_decide_eq_true z))]
   refine wpAny_bind (wpAny_letGo ?_)
   rw [nm]
   refine wpAny_pure ⟨plainId_quiet PySem.F.plain_min_loop _,ih (j + 1) _ M tm cc (by omega) st2 ?_ (fun i hi=>?_) hb2 fun M' t' h' tk a1 a2 a3=>hR M' t' h' tk a1 a2 fun b o b1 b2 e=>a3 b o b1 b2 (kp b o b1 e)⟩
   ·obtain⟨i,h1,h2⟩:=hm
    exact⟨i,by omega,h2⟩
   ·by_cases e:i=j
    ·subst e; omega
    ·exact hle i (by omega)
theorem Hz {prog:Program} {w:World} {A:Around} {E:Value→Shared→Prop} {s:Shared} {l:Addr} {its:List Value} {ns:List Int} {d:Value} {Q:Value→Shared→Prop} (hh:A.handled=none) (hl:s.heap.IsList l its.toArray) (hi:IntsAre its ns)
  (h0:ns=[]→∀ h' tk,(∀ b o,s.heap.get? b=some o→h'.get? b=some o)→Q d { s with heap:=h',toks:=tk })
  (h:∀ h' tk M t',(∀ b o,s.heap.get? b=some o→h'.get? b=some o)→M∈ns→(∀ a,a∈ns→a ≥ M)→Q (.int M t') { s with heap:=h',toks:=tk }):wpAny (model prog w) A (call (.builtin "min") [.ref l] [(Str.ofString "default",d)]) Q E s:=by
 obtain⟨xs,e⟩:=hi.allInts.items
 have hn:numsOf (intItems xs).toList=ns:=by rw [← e]; exact hi.numsOf
 rw [nums_intItems] at hn
 subst hn
 rw [e] at hl
 have nm:(toString "min" ++ toString ".loop":String) = "min.loop":=by decide
 refine PyProof.Rows.kmk_tree PySem.F.kind_min PySem.F.plain_min PySem.F.entry_min (Fb _ _) ?_
 show wpAny (model prog w) A.in1 (Builtin.Builtins.bindParams "min" ["key","default"] 0 ⟨[],[(Str.ofString "default",d)]⟩ >>= _) _ _ s
 refine wpAny_bind (wpAny_of_eq (show Builtin.Builtins.bindParams "min" ["key","default"] 0 ⟨[],[(Str.ofString "default",d)]⟩=pure [none,some d] from rfl) ?_)
 refine wpAny_bind (wpAny_pure ?_)
 refine wpAny_bind (iter_intList hl fun s₂ es st hfp hlI=>?_)
 subst es
 refine wpAny_bind (wpAny_newObj_type ?_)
 rw [nm]
 have W:=Walks.list (prog:=prog) (w:=w) (A:=A.in1) hh s.heap.objs.size l hlI (intItems xs)
 refine wpAny_pure ⟨plainId_quiet PySem.F.plain_min_loop _,?_⟩
 have hSf:(s.heap.push { cls:=.type "list_iterator",data:=.fields #[.ref l,.int 0 0] }).objs.size∉[s.heap.objs.size,l]:=fun z=>Nat.lt_irrefl _ (hfp _ z)
 have hSw:(s.heap.push { cls:=.type "list_iterator",data:=.fields #[.ref l,.int 0 0] }).objs.size∉[s.heap.objs.size]:=fun z=>hSf (W.sub _ z)
 have st2:=W.frame 0 _ _ st (fun b _ o e=>Heap.get?_push_of_some { cls:=.type "list",data:=.seq #[] } e)
 have gS:((s.heap.push { cls:=.type "list_iterator",data:=.fields #[.ref l,.int 0 0] }).push { cls:=.type "list",data:=.seq #[] }).get? (s.heap.push { cls:=.type "list_iterator",data:=.fields #[.ref l,.int 0 0] }).objs.size=some { cls:=.type "list",data:=.seq #[] }:=Heap.get?_push_size _ rfl
 have old:∀ {h':Heap},(∀ b o,b∉[s.heap.objs.size]→b≠(s.heap.push { cls:=.type "list_iterator",data:=.fields #[.ref l,.int 0 0] }).objs.size→((s.heap.push { cls:=.type "list_iterator",data:=.fields #[.ref l,.int 0 0] }).push { cls:=.type "list",data:=.seq #[] }).get? b=some o→h'.get? b=some o)→∀ b o,s.heap.get? b=some o→h'.get? b=some o:=fun hk b o e0 =>
  hk b o (fun z=>absurd (Heap.lt_size e0) (by rw [List.mem_singleton.mp z]; exact Nat.lt_irrefl _)) (fun z=>absurd (Heap.lt_size (Heap.get?_push_of_some { cls:=.type "list_iterator",data:=.fields #[.ref l,.int 0 0] } e0)) (by rw [z]; exact Nat.lt_irrefl _)) (Heap.get?_push_of_some _ (Heap.get?_push_of_some _ e0))
 refine codeAny_builtin PySem.F.entry_min_loop ?_
 rw [Around.under_plainId PySem.F.plain_min_loop _]
 show wpAny (model prog w) A.in1 (seqItems? (.ref _) >>= _) _ _ _
 refine wpAny_bind (wpAny_seqItems gS rfl ?_)
 show wpAny (model prog w) A.in1 (tryCatch (pyNext (.ref s.heap.objs.size)) _ >>= _) _ _ _
 have hsz:(intItems xs).size=xs.size:=by simp [intItems]
 have mem:∀ i,i < (intItems xs).size→numAt xs i∈xs.toList.map (·.1):=fun i hi=>by
  rw [numAt_eq]; exact PySem.getD_mem (by rw [List.length_map,Array.length_toList]; omega)
 by_cases hz:xs.size=0
 ·refine wpAny_bind (wpAny_tryCatch (W.done _ _ _ (show _ from by rw [hsz,hz]; exact st2) fun h2 t2 kp=>?_))
  refine wpAny_bind (wpAny_rule (wpAny_pure ?_))
  refine h0 (by rw [List.eq_nil_iff_length_eq_zero,List.length_map,Array.length_toList]; exact hz) h2 t2 (old fun b o b1 b2 e=>kp b o b1 e)
 ·refine wpAny_bind (wpAny_tryCatch (W.item 0 _ _ _ (by rw [hsz]; omega) st2 fun v h2 t2 hv st3 kp=>?_))
  obtain⟨tv,rfl⟩:=intItems_at hv
  have gS2:=kp _ _ hSw gS
  show wpAny (model prog w) A.in1 (updateSeq _ (fun _=>#[.int (numAt xs 0) tv,.int (numAt xs 0) tv]) >>= _) _ _ _
  refine wpAny_bind (wpAny_updateSeq gS2 rfl ?_)
  rw [nm]
  refine wpAny_pure ⟨plainId_quiet PySem.F.plain_min_loop _,FV W (numAt xs) (fun _ _=>intItems_at) hSf ((intItems xs).size - 1) 1 _ (numAt xs 0) tv _ (by omega) (W.frame _ _ _ st3 fun b hbf o e=>(Heap.get?_update_other _ _ (fun z=>hSf (by rw [z]; exact hbf))).trans e) ⟨0,by omega,rfl⟩ (fun i hi=>by
   obtain rfl:i=0:=by omega
   exact Int.le_refl _) (Heap.get?_update_self _ gS2 rfl) fun M' t' h' tk a1 a2 a3=>?_⟩
  obtain⟨i,i1,rfl⟩:=a1
  refine h h' tk _ t' (old fun b o b1 b2 e=>a3 b o b1 b2 ((Heap.get?_update_other _ _ (Ne.symm b2)).trans (kp b o b1 e))) (mem i i1) fun a ha=>?_
  obtain⟨j,hj,rfl⟩:=mem_getD ha
  rw [List.length_map,Array.length_toList] at hj
  rw [← numAt_eq]
  exact a2 j (by omega)
section
variable {X:Cx} {x:Str} {p pos:Pos} {e:Expr} {es:List Expr} {kws:List Keyword} {t tk:TA} {id:String} {ks:List Str}
def C5 (X:Cx) (f:Value) (ks:List Str) (r:List V→List V→Hp→VK→Prop):Prop :=
 ∀ (pins:List (Addr×Obj)) (s:Shared) (σ:St) (H:Hp) (xs zs:List V) (us ws:List Value) (Q:VK),Inv X pins σ H s→Vals xs us→Vals zs ws→r xs zs H Q→wpAny (model X.prog X.w) X.A (call f us (ks.zip ws)) (EP X pins σ Q) X.xe s
def Mx (r:List V→List V→Hp→VK→Prop) (t tk:TA):TE:=fun σ H Q=>t σ H fun vs H1=>tk σ H1 fun zs H2=>r vs zs H2 Q
theorem wV {r:List V→List V→Hp→VK→Prop} (hc:C5 X (.builtin id) ks r) (hg:Gl X x) (hm:X.mg x=none) (hv:bootBuiltins x=some (.builtin id)) (ha:PA X (e :: es) t) (hkw:PK X kws tk)
  (hks:(backToKw pos (keywordEach kws X.env)).filterMap (·.1)=ks:=by rfl) (hn:x≠"__name__":=by decide) (hdb:(x == ("__debug__":Str))=false:=by decide)
  (he:backTo pos (starEach (e :: es) X.env)=(false,eval e X.env) :: backTo pos (starEach es X.env):=by rfl) (hpl:(backTo pos (starEach (e :: es) X.env)).any (·.1)=false:=by rfl)
  (hall:(backToKw pos (keywordEach kws X.env)).all (·.1.isSome)=true:=by rfl) (hno:(backToKw pos (keywordEach kws X.env)).any (·.1.isNone)=false:=by rfl):PE X (.Call (.Name x p) (e :: es) kws pos) (Mx r t tk):=by
 intro pins s σ H Q I h
 refine wpAny_Call_Name_kw (wz I hg hm hv ?_ hn hdb)
 refine PyProof.Rows.callWith_kw (thn (ha pos pins s σ H _ I h) fun us s1 ⟨vs,H1,I1,r1,q1⟩=>thn (hkw pos pins s1 σ H1 _ I1 q1) fun ws s2 ⟨zs,H2,I2,r2,q2⟩=>?_) he hpl hall hno
 rw [hks]
 exact hc pins s2 σ H2 vs zs us ws Q I2 r1 r2 q2
def LC (K:PySem.W.Frag):List V→List V→Hp→VK→Prop:=fun vs zs H Q=>∃ (a:Addr) (ns:List Int) (d:V),vs=[.ref a]∧zs=[d]∧SqL K H a (ns.map V.int)∧(ns=[]→Q d H)∧∀ m,m∈ns→(∀ y,y∈ns→y≤m)→Q (.int m) H
def LD (K:PySem.W.Frag):List V→List V→Hp→VK→Prop:=fun vs zs H Q=>∃ (a:Addr) (ns:List Int) (d:V),vs=[.ref a]∧zs=[d]∧SqL K H a (ns.map V.int)∧(ns=[]→Q d H)∧∀ m,m∈ns→(∀ y,y∈ns→m≤y)→Q (.int m) H
theorem EA (hc:X.calm=true):C5 X (.builtin "max") [Str.ofString "default"] (LC X.K):=by
 intro pins s σ H vs zs us ws Q I r rz h
 obtain⟨a,ns,d,rfl,rfl,hs,q0,q⟩:=h
 obtain⟨its,rv,hl,_⟩:=I.list hs
 obtain⟨u,rfl,ru⟩:=vals1 rz
 rw [Vals.Bj r]
 exact Hy (I.ok.hd hc) hl.isList rv.ints (fun z h' tk hk=>⟨d,H,I.kept hk,ru,q0 z⟩) fun h' tk m t' hk h1 h2=>⟨.int _,H,I.kept hk,⟨_,rfl⟩,q m h1 h2⟩
theorem IQ (hc:X.calm=true):C5 X (.builtin "min") [Str.ofString "default"] (LD X.K):=by
 intro pins s σ H vs zs us ws Q I r rz h
 obtain⟨a,ns,d,rfl,rfl,hs,q0,q⟩:=h
 obtain⟨its,rv,hl,_⟩:=I.list hs
 obtain⟨u,rfl,ru⟩:=vals1 rz
 rw [Vals.Bj r]
 exact Hz (I.ok.hd hc) hl.isList rv.ints (fun z h' tk hk=>⟨d,H,I.kept hk,ru,q0 z⟩) fun h' tk m t' hk h1 h2=>⟨.int _,H,I.kept hk,⟨_,rfl⟩,q m h1 h2⟩
theorem Av {α β:Type} {F:α→β→Prop}:∀ {l₁:List α} {l₂:List β},l₁.length=l₂.length→(∀ (i:Nat) (a:α) (b:β),l₁[i]?=some a→l₂[i]?=some b→F a b)→Paired F l₁ l₂
 | [],[],_,_=>.nil
 | a :: l,b :: m,hl,h=>.cons (h 0 a b rfl rfl) (Av (by simpa using hl) fun i x y e1 e2=>h (i + 1) x y (by simpa using e1) (by simpa using e2))
theorem AO (hc:X.calm=true):mC X (.type "list") (fun xs H Q=>∃ d kvs,xs=[.ref d]∧H d=some (.dK kvs)∧∀ l,H l=none→Q (.ref l) (upd H l (.lst (kvs.map fun p=>kV p.1)))):=by
 intro pins s σ H xs us Q I r h
 obtain⟨d,kvs,rfl,hd,q⟩:=h
 rw [Vals.Bj r]
 obtain⟨hz,lo,vs,kv,o,es,ep,ho,hx,hdt,rr⟩:=I.hok d _ hd
 have l2:kvs.length=vs.length:=Paired.length kv
 refine PySem.W.kdl_call (PySem.W.kdl_dict (knd:=cz X.prog X.w) (kvs:=vs) (ep:=ep) lo) (I.ok.hd hc) ⟨o,es,ho,hx,hdt,rr⟩ (by omega) fun h' tk acc c kp hS hacc=>?_
 refine⟨.ref s.heap.objs.size,_,I.laid (t':=tk) kp (Nat.le_refl _) (show c8 X.prog X.w _ h' _ (.lst (kvs.map fun p=>kV p.1)) from ⟨by rw [List.length_map]; exact hz,acc.toList,c,?_,by rw [Array.toArray_toList]; exact hS⟩),rfl,q _ (I.hok.fresh (Nat.le_refl _))⟩
 refine Av (by have:=hacc.1; simp only [List.length_map,Array.length_toList]; omega) fun i a b e1 e2=>?_
 obtain⟨k,x,hk,his⟩:=hacc.2 i b (by rw [← Array.getElem?_toList]; exact e2)
 rw [List.getElem?_map] at e1
 cases e3:kvs[i]? with
 | none=>rw [e3] at e1; cases e1
 | some p =>
  rw [e3] at e1
  cases e1
  obtain⟨y,hy,g1,_⟩:=zh kv e3
  rw [hk] at hy
  cases hy
  show RelV (kV p.1) b
  rw [g1]
  exact Cp his
end
end L2
end
section
namespace VM
open Vbecag
theorem lT (g:Growth) (f:Nat→Bool) (x:Nat):isIn ((stocks g).map f) x=(decide (x≤g.n) && f x):=by
 unfold isIn stocks
 rw [List.getD_eq_getElem?_getD,List.getElem?_map]
 by_cases h:x≤g.n
 ·rw [List.getElem?_range (by omega)]; simp [h]
 ·rw [List.getElem?_eq_none (by simp; omega)]; simp [h]
theorem kq (g:Growth) (f:Nat→Bool):((stocks g).map f).length=g.n + 1:=by simp [stocks]
theorem du {r:Rule} {x q:Nat}:q∈catches r x↔r.least≤q∧q≤r.most∧q≤x:=by
 unfold catches
 rw [List.mem_filter,List.mem_range]
 simp only [decide_eq_true_eq]
 omega
theorem fA {g:Growth} {s:Stocks} {x q:Nat}:leads g s x q=true↔∀ c,c < g.seasons→isIn s (g.next c (x - q))=true:=by
 unfold leads
 rw [List.all_eq_true]
 simp [List.mem_range]
theorem lX {g:Growth} {r:Rule} {s:Stocks} {x q:Nat}:q∈good g r s x↔(r.least≤q∧q≤r.most∧q≤x)∧leads g s x q=true:=by
 unfold good
 rw [List.mem_filter,du]
theorem A0 {g:Growth} {r:Rule} {s:Stocks} {x:Nat}:(!(good g r s x).isEmpty)=true↔∃ q,(r.least≤q∧q≤r.most∧q≤x)∧leads g s x q=true:=by
 cases h:good g r s x with
 | nil =>
  simp only [List.isEmpty_nil,Bool.not_true,Bool.false_eq_true,false_iff]
  rintro ⟨q,hq⟩
  have:q∈good g r s x:=lX.mpr hq
  rw [h] at this; cases this
 | cons a l =>
  simp only [List.isEmpty_cons,Bool.not_false,true_iff]
  exact⟨a,lX.mp (by rw [h]; exact List.mem_cons_self)⟩
def ok (g:Growth) (r:Rule) (s:Stocks) (x:Nat):Prop:=∃ q,(r.least≤q∧q≤r.most∧q≤x)∧∀ c,c < g.seasons→isIn s (g.next c (x - q))=true
theorem b7 {g:Growth} {r:Rule} {s:Stocks} {x:Nat}:isIn (stay g r s) x=true↔x≤g.n∧isIn s x=true∧ok g r s x:=by
 unfold stay
 rw [lT,Bool.and_eq_true,Bool.and_eq_true,A0,decide_eq_true_eq]
 unfold ok
 constructor
 ·rintro ⟨a,b,q,hq,hl⟩; exact⟨a,b,q,hq,fA.mp hl⟩
 ·rintro ⟨a,b,q,hq,hl⟩; exact⟨a,b,q,hq,fA.mpr hl⟩
theorem gM {g:Growth} {r:Rule} {x:Nat}:isIn (high g r) x=true↔x≤g.n∧r.low≤x:=by
 unfold high
 rw [lT,Bool.and_eq_true,decide_eq_true_eq,decide_eq_true_eq]
theorem pj {g:Growth} {r:Rule}:(high g r).length=g.n + 1:=kq g _
theorem pk {g:Growth} {r:Rule} {s:Stocks}:(stay g r s).length=g.n + 1:=kq g _
theorem ext {g:Growth} {s t:Stocks} (hs:s.length=g.n + 1) (ht:t.length=g.n + 1) (h:∀ x,x≤g.n→isIn s x=isIn t x):s=t:=by
 apply List.ext_getElem?
 intro i
 by_cases hi:i≤g.n
 ·have:=h i hi
  unfold isIn at this
  rw [List.getD_eq_getElem?_getD,List.getD_eq_getElem?_getD,List.getElem?_eq_getElem (by omega),List.getElem?_eq_getElem (by omega)] at this
  rw [List.getElem?_eq_getElem (by omega),List.getElem?_eq_getElem (by omega)]
  simpa using this
 ·rw [List.getElem?_eq_none (by omega),List.getElem?_eq_none (by omega)]
def sk (g:Growth) (r:Rule):Nat→Stocks
 | 0=>high g r
 | k + 1=>stay g r (sk g r k)
theorem rK {g:Growth} {r:Rule}:∀ k,(sk g r k).length=g.n + 1
 | 0=>pj
 | k + 1=>pk
theorem Br {g:Growth} {r:Rule} {k x:Nat} (h:isIn (sk g r (k + 1)) x=true):isIn (sk g r k) x=true:=(b7.mp h).2.1
theorem ye {g:Growth} {r:Rule} {x j:Nat}:∀ {k:Nat},j≤k→isIn (sk g r k) x=true→isIn (sk g r j) x=true
 | 0,hj,h=>by
  have:j=0:=by omega
  subst this; exact h
 | k + 1,hj,h=>by
  by_cases e:j=k + 1
  ·subst e; exact h
  ·exact ye (by omega) (Br h)
theorem AD {g:Growth} {r:Rule} {k:Nat} (h:sk g r (k + 1)=sk g r k):∀ m,sk g r (k + m)=sk g r k
 | 0=>rfl
 | m + 1=>by
  show stay g r (sk g r (k + m))=_
  rw [AD h m]; exact h
theorem tI {g:Growth} {r:Rule} {k m:Nat} (h:sk g r (k + 1)=sk g r k) (hm:k≤m):sk g r m=sk g r k:=by
 have:=AD h (m - k)
 rwa [show k + (m - k)=m by omega] at this
def cnt (s:Stocks):Nat:=(s.filter id).length
theorem Hb {s:Stocks}:cnt s≤s.length:=List.length_filter_le _ _
theorem AR:∀ {s t:Stocks},s.length=t.length→(∀ i,t.getD i false=true→s.getD i false=true)→s≠t→cnt t < cnt s
 | [],[],_,_,h=>absurd rfl h
 | a :: s,b :: t,hl,hi,hne=>by
  have h0:b=true→a=true:=fun e=>by have:=hi 0; simpa using this (by simpa using e)
  have hs:∀ i,t.getD i false=true→s.getD i false=true:=fun i e=>by have:=hi (i + 1); simpa using this (by simpa using e)
  have hl':s.length=t.length:=by simpa using hl
  by_cases e:s=t
  ·subst e
   cases a<;>cases b<;>simp_all [cnt]
  ·have ih:=AR hl' hs e
   unfold cnt at ih ⊢
   cases a<;>cases b<;>simp_all<;>omega
theorem Hc {g:Growth} {r:Rule} {k:Nat} (h:sk g r (k + 1)≠sk g r k):cnt (sk g r (k + 1)) < cnt (sk g r k) :=
 AR (by rw [rK,rK]) (fun i e=>Br e) (Ne.symm h)
theorem rest {g:Growth} {r:Rule}:∀ (m k:Nat),cnt (sk g r k)≤m→∃ j,k≤j∧j≤k + m∧sk g r (j + 1)=sk g r j
 | 0,k,h=>by
  by_cases e:sk g r (k + 1)=sk g r k
  ·exact⟨k,Nat.le_refl _,by omega,e⟩
  ·have:=Hc e; omega
 | m + 1,k,h=>by
  by_cases e:sk g r (k + 1)=sk g r k
  ·exact⟨k,Nat.le_refl _,by omega,e⟩
  ·have:=Hc e
   obtain⟨j,h1,h2,h3⟩:=rest (g:=g) (r:=r) m (k + 1) (by omega)
   exact⟨j,by omega,by omega,h3⟩
theorem rests (g:Growth) (r:Rule):∃ j,j≤g.n + 1∧sk g r (j + 1)=sk g r j:=by
 obtain⟨j,_,h2,h3⟩:=rest (g:=g) (r:=r) (g.n + 1) 0 (by have:=Hb (s:=sk g r 0); rw [rK] at this; exact this)
 exact⟨j,by omega,h3⟩
theorem AB {g:Growth} {r:Rule}:∀ (f k j:Nat),k≤j→j < k + f→sk g r (j + 1)=sk g r j→settle g r f (sk g r k)=sk g r j
 | 0,k,j,h1,h2,_=>by omega
 | f + 1,k,j,h1,h2,h3=>by
  unfold settle
  by_cases e:stay g r (sk g r k)=sk g r k
  ·rw [if_pos e]
   exact (tI (k:=k) e h1).symm
  ·rw [if_neg e]
   have hk:k≠j:=fun z=>by subst z; exact e h3
   exact AB f (k + 1) j (by omega) (by omega) h3
theorem Bk {g:Growth} {r:Rule} {j:Nat} (h:sk g r (j + 1)=sk g r j):safe g r=sk g r j:=by
 obtain⟨i,hi,hs⟩:=rests g r
 have e:sk g r i=sk g r j:=by
  rcases Nat.le_total i j with z | z
  ·exact (tI hs z).symm
  ·exact tI h z
 rw [← e]
 exact AB (g.n + 2) 0 i (by omega) (by omega) hs
theorem oa {g:Growth} {r:Rule} {x:Nat}:isIn (safe g r) x=true↔∀ k,isIn (sk g r k) x=true:=by
 obtain⟨i,hi,hs⟩:=rests g r
 rw [Bk hs]
 constructor
 ·intro h k
  rcases Nat.le_total k i with z | z
  ·exact ye z h
  ·rw [tI hs z]; exact h
 ·intro h; exact h i
theorem wd {g:Growth} {r:Rule} {x:Nat}:∀ (f k:Nat),(∀ j,k≤j→j < k + f→isIn (sk g r j) x=true)→yearsFrom g r x f k (sk g r k)=none
 | 0,_,_=>rfl
 | f + 1,k,h=>by
  unfold yearsFrom
  rw [if_neg (by rw [h k (Nat.le_refl _) (by omega)]; decide)]
  exact wd f (k + 1) fun j h1 h2=>h j (by omega) (by omega)
theorem sS {g:Growth} {r:Rule} {x j:Nat}:∀ (f k:Nat),k≤j→j < k + f→isIn (sk g r j) x=false→(∀ i,k≤i→i < j→isIn (sk g r i) x=true)→yearsFrom g r x f k (sk g r k)=some j
 | 0,k,h1,h2,_,_=>by omega
 | f + 1,k,h1,h2,h3,h4=>by
  unfold yearsFrom
  by_cases e:k=j
  ·subst e; rw [if_pos h3]
  ·rw [if_neg (by rw [h4 k (Nat.le_refl _) (by omega)]; decide)]
   exact sS f (k + 1) (by omega) (by omega) h3 fun i h5 h6=>h4 i (by omega) h6
theorem uR {g:Growth} {r:Rule} {x:Nat} (h:isIn (safe g r) x=true):years g r x=none:=wd (g.n + 3) 0 fun j _ _=>oa.mp h j
theorem qz {g:Growth} {r:Rule} {x j:Nat} (h3:isIn (sk g r j) x=false) (h4:∀ i,i < j→isIn (sk g r i) x=true):years g r x=some j:=by
 refine sS (g.n + 3) 0 (Nat.zero_le _) ?_ h3 fun i _ h=>h4 i h
 obtain⟨i,hi,hs⟩:=rests g r
 by_cases z:j≤i
 ·omega
 ·exfalso
  have h5:=h4 i (by omega)
  rw [← tI hs (show i≤j by omega),h3] at h5
  cases h5
theorem sW {g:Growth} {r:Rule} {x:Nat}:∀ k,isIn (sk g r k) x=false→∃ j,j≤k∧isIn (sk g r j) x=false∧∀ i,i < j→isIn (sk g r i) x=true
 | 0,h=>⟨0,Nat.le_refl _,h,fun i hi=>by omega⟩
 | k + 1,h=>by
  cases e:isIn (sk g r k) x with
  | false =>
   obtain⟨j,h1,h2⟩:=sW k e
   exact⟨j,by omega,h2⟩
  | true =>
   refine⟨k + 1,Nat.le_refl _,h,fun i hi=>ye (show i≤k by omega) e⟩
theorem pL {g:Growth} {r:Rule} {x j:Nat}:years g r x=some j↔isIn (sk g r j) x=false∧∀ i,i < j→isIn (sk g r i) x=true:=by
 refine⟨fun h=>?_,fun h=>qz h.1 h.2⟩
 cases e:isIn (safe g r) x with
 | true=>rw [uR e] at h; cases h
 | false =>
  have:¬ ∀ k,isIn (sk g r k) x=true:=fun z=>by rw [oa.mpr z] at e; cases e
  obtain⟨k,hk⟩:=Classical.not_forall.mp this
  obtain⟨i,_,h2,h3⟩:=sW k (by cases q:isIn (sk g r k) x with | true=>exact absurd q hk | false=>rfl)
  rw [qz h2 h3] at h
  cases h
  exact⟨h2,h3⟩
theorem kH {g:Growth} {r:Rule} {x:Nat}:years g r x=none↔isIn (safe g r) x=true:=by
 refine⟨fun h=>?_,uR⟩
 cases e:isIn (safe g r) x with
 | true=>rfl
 | false =>
  exfalso
  have:¬ ∀ k,isIn (sk g r k) x=true:=fun z=>by rw [oa.mpr z] at e; cases e
  obtain⟨k,hk⟩:=Classical.not_forall.mp this
  obtain⟨i,_,h2,h3⟩:=sW k (by cases q:isIn (sk g r k) x with | true=>exact absurd q hk | false=>rfl)
  rw [qz h2 h3] at h
  cases h
end VM
end
section
namespace VM
open Vbecag
theorem xZ {g:Growth} {r:Rule} {s t:Stocks} {x:Nat} (h:∀ y,isIn s y=true→isIn t y=true) (o:ok g r s x):ok g r t x:=by
 obtain⟨q,hq,hl⟩:=o
 exact⟨q,hq,fun c hc=>h _ (hl c hc)⟩
theorem zu {g:Growth} {r:Rule} {t:Stocks} (h:∀ x,isIn t x=true→x≤g.n∧r.low≤x∧ok g r t x):∀ (k x:Nat),isIn t x=true→isIn (sk g r k) x=true
 | 0,x,hx=>gM.mpr ⟨(h x hx).1,(h x hx).2.1⟩
 | k + 1,x,hx=>b7.mpr ⟨(h x hx).1,zu h k x hx,xZ (zu h k) (h x hx).2.2⟩
theorem uM {g:Growth} {r:Rule} {t:Stocks} (h:∀ x,isIn t x=true→x≤g.n∧r.low≤x∧ok g r t x) {x:Nat} (hx:isIn t x=true):isIn (safe g r) x=true:=oa.mpr fun k=>zu h k x hx
theorem gd {g:Growth} {r:Rule} {x:Nat} (h:isIn (safe g r) x=true):x≤g.n∧r.low≤x∧ok g r (safe g r) x:=by
 obtain⟨i,hi,hs⟩:=rests g r
 have h0:=gM.mp (oa.mp h 0)
 have h1:=oa.mp h (i + 1)
 rw [Bk hs]
 exact⟨h0.1,h0.2,(b7.mp h1).2.2⟩
def sf (g:Growth) (r:Rule) (s:Stocks):Nat→Stocks
 | 0=>s
 | k + 1=>stay g r (sf g r s k)
theorem wB {g:Growth} {r:Rule} {s:Stocks} (h:s.length=g.n + 1):∀ k,(sf g r s k).length=g.n + 1
 | 0=>h
 | k + 1=>pk
theorem E0 {g:Growth} {r:Rule} {s:Stocks} {k x:Nat} (h:isIn (sf g r s (k + 1)) x=true):isIn (sf g r s k) x=true:=(b7.mp h).2.1
theorem DO {g:Growth} {r:Rule} {s:Stocks} {x:Nat}:∀ {k:Nat},isIn (sf g r s k) x=true→isIn s x=true
 | 0,h=>h
 | k + 1,h=>DO (E0 h)
theorem E1 {g:Growth} {r:Rule} {s:Stocks} (hs:s.length=g.n + 1):∀ (m k:Nat),cnt (sf g r s k)≤m→∃ j,k≤j∧j≤k + m∧sf g r s (j + 1)=sf g r s j
 | m,k,h=>by
  by_cases e:sf g r s (k + 1)=sf g r s k
  ·exact⟨k,Nat.le_refl _,by omega,e⟩
  ·have hc:cnt (sf g r s (k + 1)) < cnt (sf g r s k):=AR (by rw [wB hs,wB hs]) (fun i e=>E0 e) (Ne.symm e)
   match m,h with
   | 0,h=>omega
   | m + 1,h =>
    obtain⟨j,h1,h2,h3⟩:=E1 (r:=r) hs m (k + 1) (by omega)
    exact⟨j,by omega,by omega,h3⟩
theorem AA {g:Growth} {r:Rule} {s:Stocks}:∀ (f k j:Nat),k≤j→j < k + f→sf g r s (j + 1)=sf g r s j→∃ i,settle g r f (sf g r s k)=sf g r s i∧sf g r s (i + 1)=sf g r s i
 | 0,k,j,h1,h2,_=>by omega
 | f + 1,k,j,h1,h2,h3=>by
  unfold settle
  by_cases e:stay g r (sf g r s k)=sf g r s k
  ·rw [if_pos e]; exact⟨k,rfl,e⟩
  ·rw [if_neg e]
   have hk:k≠j:=fun z=>by subst z; exact e h3
   exact AA f (k + 1) j (by omega) (by omega) h3
theorem kr {g:Growth} {r:Rule}:(safe g r).length=g.n + 1:=by
 obtain⟨i,hi,hs⟩:=rests g r
 rw [Bk hs]; exact rK _
theorem Cv {g:Growth} {r:Rule} {s:Stocks} (hl:s.length=g.n + 1) (h1:∀ x,isIn (safe g r) x=true→isIn s x=true) (h2:∀ x,isIn s x=true→r.low≤x):settle g r (g.n + 2) s=safe g r:=by
 obtain⟨j,_,hj,hs⟩:=E1 (r:=r) hl (g.n + 1) 0 (by have:=Hb (s:=sf g r s 0); rw [wB hl] at this; exact this)
 obtain⟨i,hi,hi2⟩:=AA (g:=g) (r:=r) (s:=s) (g.n + 2) 0 j (Nat.zero_le _) (by omega) hs
 rw [show settle g r (g.n + 2) s=sf g r s i from hi]
 have sub:∀ k x,isIn (safe g r) x=true→isIn (sf g r s k) x=true:=fun k=>by
  induction k with
  | zero=>exact h1
  | succ k ih=>intro x hx; exact b7.mpr ⟨(gd hx).1,ih x hx,xZ ih (gd hx).2.2⟩
 refine ext (wB hl i) kr fun x hx=>?_
 cases e:isIn (safe g r) x with
 | true=>exact sub i x e
 | false =>
  cases e2:isIn (sf g r s i) x with
  | false=>rfl
  | true =>
   have:=uM (g:=g) (r:=r) (t:=sf g r s i) (fun y hy=>by
    have hy':isIn (sf g r s (i + 1)) y=true:=by rw [hi2]; exact hy
    obtain⟨a,_,c⟩:=b7.mp hy'
    exact⟨a,h2 y (DO hy),c⟩) e2
   rw [this] at e; cases e
def saf (g:Growth) (r:Rule) (x d:Nat):Bool:=isIn (safe g { r with least:=d }) x
theorem zp {g:Growth} {r:Rule} {x d e:Nat} (hd:d≤e) (h:saf g r x e=true):saf g r x d=true:=by
 unfold saf at h ⊢
 refine uM (r:={ r with least:=d }) (t:=safe g { r with least:=e }) (fun y hy=>?_) h
 obtain⟨a,b,q,⟨q1,q2,q3⟩,hq⟩:=gd hy
 exact⟨a,b,q,⟨Nat.le_trans hd q1,q2,q3⟩,hq⟩
theorem tZ {g:Growth} {r:Rule} {x:Nat}:∀ (f d:Nat) (s:Stocks) (best:Option Nat),s.length=g.n + 1→(∀ y,isIn (safe g { r with least:=d }) y=true→isIn s y=true)→(∀ y,isIn s y=true→r.low≤y)→r.most < d + f →
  (∃ e,d≤e∧e≤r.most∧saf g r x e=true∧(∀ k,e < k→k≤r.most→saf g r x k=false)∧demandFrom g r x f d s best=some e)∨((∀ k,d≤k→k≤r.most→saf g r x k=false)∧demandFrom g r x f d s best=best)
 | 0,d,s,best,_,_,_,hf=>.inr ⟨fun k h1 h2=>by omega,rfl⟩
 | f + 1,d,s,best,hl,h1,h2,hf=>by
  unfold demandFrom
  have e:settle g { r with least:=d } (g.n + 2) s=safe g { r with least:=d }:=Cv hl h1 h2
  rw [e]
  dsimp only
  by_cases c:d≤r.most∧isIn (safe g { r with least:=d }) x=true
  ·rw [if_pos c]
   have hd:saf g r x d=true:=c.2
   rcases tZ f (d + 1) (safe g { r with least:=d }) (some d) kr (fun y hy=>zp (Nat.le_succ d) hy) (fun y hy=>(gd hy).2.1) (by omega) with ⟨k,k1,k2,k3,k4,k5⟩ | ⟨k1,k2⟩
   ·exact .inl ⟨k,by omega,k2,k3,k4,k5⟩
   ·exact .inl ⟨d,Nat.le_refl _,c.1,hd,fun k h3 h4=>k1 k (by omega) h4,k2⟩
  ·rw [if_neg c]
   refine .inr ⟨fun k h3 h4=>?_,rfl⟩
   cases q:saf g r x k with
   | false=>rfl
   | true=>exact absurd ⟨by omega,zp h3 q⟩ c
theorem u6 {g:Growth} {r:Rule} {x:Nat} (hm:r.most≤g.n):(∃ e,e≤r.most∧saf g r x e=true∧(∀ k,e < k→k≤r.most→saf g r x k=false)∧demand g r x=some e)∨((∀ k,k≤r.most→saf g r x k=false)∧demand g r x=none):=by
 have:=tZ (g:=g) (r:=r) (x:=x) (g.n + 2) 0 (high g r) none pj (fun y hy=>oa.mp hy 0) (fun y hy=>(gM.mp hy).2) (by omega)
 rcases this with ⟨e,_,e2,e3,e4,e5⟩ | ⟨e1,e2⟩
 ·exact .inl ⟨e,e2,e3,e4,e5⟩
 ·exact .inr ⟨fun k hk=>e1 k (Nat.zero_le _) hk,e2⟩
theorem BM {g:Growth} {r:Rule} {x d:Nat} (hm:r.most≤g.n) (h1:d≤r.most) (h2:saf g r x d=true) (h3:∀ k,d < k→k≤r.most→saf g r x k=false):demand g r x=some d:=by
 rcases u6 (g:=g) (r:=r) (x:=x) hm with ⟨e,e2,e3,e4,e5⟩ | ⟨e1,e2⟩
 ·rw [e5]
  rcases Nat.lt_trichotomy d e with z | z | z
  ·have:=h3 e z e2; rw [e3] at this; cases this
  ·rw [z]
  ·have:=e4 d z h1; rw [h2] at this; cases this
 ·have:=e1 d h1; rw [h2] at this; cases this
theorem BL {g:Growth} {r:Rule} {x:Nat} (hm:r.most≤g.n) (h:∀ k,k≤r.most→saf g r x k=false):demand g r x=none:=by
 rcases u6 (g:=g) (r:=r) (x:=x) hm with ⟨e,e2,e3,e4,e5⟩ | ⟨e1,e2⟩
 ·have:=h e e2; rw [e3] at this; cases this
 ·exact e2
theorem yg {g:Growth} {r:Rule}:∀ k,(sure g r k).1=sk g r k
 | 0=>rfl
 | k + 1=>by show stay g r (sure g r k).1=stay g r (sk g r k); rw [yg k]
theorem xX {g:Growth} {r:Rule}:∀ k,(mean g r k).1=sk g r k
 | 0=>rfl
 | k + 1=>by show stay g r (mean g r k).1=stay g r (sk g r k); rw [xX k]
end VM
end
section
namespace VM
open Vbecag
def nu (g:Growth) (r:Rule) (s:Stocks):List Stocks:=(List.range (r.most + 1)).filterMap (dark g r s)
theorem FU {g:Growth} {r:Rule} {s t:Stocks}:t∈nu g r s↔∃ q,q≤r.most∧dark g r s q=some t:=by
 unfold nu
 rw [List.mem_filterMap]
 constructor
 ·rintro ⟨q,h1,h2⟩; exact⟨q,by have:=List.mem_range.mp h1; omega,h2⟩
 ·rintro ⟨q,h1,h2⟩; exact⟨q,List.mem_range.mpr (by omega),h2⟩
inductive Reach (g:Growth) (r:Rule) (s:Stocks):Stocks→Prop
 | refl:Reach g r s s
 | step {t u:Stocks}:Reach g r s t→u∈nu g r t→Reach g r s u
def newOf (met:List Stocks) (l:List Stocks):List Stocks:=l.foldl (fun l t=>if met.contains t || l.contains t then l else l ++ [t]) []
theorem vh (met:List Stocks):∀ (l acc:List Stocks),acc.Nodup→(∀ t∈acc,t∉met) →
  (l.foldl (fun l t=>if met.contains t || l.contains t then l else l ++ [t]) acc).Nodup∧∀ t,t∈l.foldl (fun l t=>if met.contains t || l.contains t then l else l ++ [t]) acc↔t∈acc∨(t∈l∧t∉met)
 | [],acc,h1,h2=>⟨h1,fun t=>by simp⟩
 | u :: l,acc,h1,h2=>by
  rw [List.foldl_cons]
  by_cases c:(met.contains u || acc.contains u)=true
  ·rw [if_pos c]
   obtain⟨a,b⟩:=vh met l acc h1 h2
   refine⟨a,fun t=>?_⟩
   rw [b t]
   rw [Bool.or_eq_true,List.contains_iff_mem,List.contains_iff_mem] at c
   constructor
   ·rintro (h | ⟨h,h'⟩)
    ·exact .inl h
    ·exact .inr ⟨List.mem_cons_of_mem _ h,h'⟩
   ·rintro (h | ⟨h,h'⟩)
    ·exact .inl h
    ·rcases List.mem_cons.mp h with rfl | h
     ·exact .inl (c.resolve_left h')
     ·exact .inr ⟨h,h'⟩
  ·rw [if_neg c]
   rw [Bool.or_eq_true,List.contains_iff_mem,List.contains_iff_mem] at c
   have n1:u∉met:=fun z=>c (.inl z)
   have n2:u∉acc:=fun z=>c (.inr z)
   have nd:(acc ++ [u]).Nodup:=by
    rw [List.nodup_append]
    exact⟨h1,by simp,fun a ha b hb=>by rw [List.mem_singleton] at hb; subst hb; exact fun z=>n2 (z ▸ ha)⟩
   obtain⟨a,b⟩:=vh met l (acc ++ [u]) nd (fun t ht=>by
    rcases List.mem_append.mp ht with h | h
    ·exact h2 t h
    ·rw [List.mem_singleton] at h; rw [h]; exact n1)
   refine⟨a,fun t=>?_⟩
   rw [b t]
   constructor
   ·rintro (h | ⟨h,h'⟩)
    ·rcases List.mem_append.mp h with h | h
     ·exact .inl h
     ·rw [List.mem_singleton] at h; exact .inr ⟨by rw [h]; exact List.mem_cons_self,by rw [h]; exact n1⟩
    ·exact .inr ⟨List.mem_cons_of_mem _ h,h'⟩
   ·rintro (h | ⟨h,h'⟩)
    ·exact .inl (List.mem_append_left _ h)
    ·rcases List.mem_cons.mp h with rfl | h
     ·exact .inl (List.mem_append_right _ List.mem_cons_self)
     ·exact .inr ⟨h,h'⟩
theorem Ca (met l:List Stocks):(newOf met l).Nodup:=(vh met l [] List.nodup_nil (fun _ h=>nomatch h)).1
theorem wD {met l:List Stocks} {t:Stocks}:t∈newOf met l↔t∈l∧t∉met:=by
 have:=(vh met l [] List.nodup_nil (fun _ h=>nomatch h)).2 t
 unfold newOf
 rw [this]
 simp
theorem EO {g:Growth} {r:Rule} {s:Stocks}:∀ (f:Nat) (todo met done:List Stocks),met.Nodup→(∀ t,t∈met↔t∈done∨t∈todo)→met.length=done.length + todo.length→(∀ t∈met,Reach g r s t)→(∀ t∈done,∀ u∈nu g r t,u∈met)→met.length≤SETS→SETS + 1≤f + done.length→s∈met →
  match meet g r f todo met with
  | some l=>l.Nodup∧(∀ t,t∈l↔Reach g r s t)∧l.length≤SETS
  | none=>∃ l:List Stocks,l.Nodup∧(∀ t∈l,Reach g r s t)∧SETS < l.length
 | 0,todo,met,done,_,_,hlen,_,_,hm,hf,_=>by omega
 | f + 1,[],met,done,nd,hmem,hlen,hre,hcl,hm,hf,hs=>by
  unfold meet
  refine⟨nd,fun t=>⟨hre t,fun h=>?_⟩,hm⟩
  induction h with
  | refl=>exact hs
  | step a b ih=>exact hcl _ (((hmem _).mp ih).resolve_right (fun z=>nomatch z)) _ b
 | f + 1,a :: todo,met,done,nd,hmem,hlen,hre,hcl,hm,hf,hs=>by
  unfold meet
  have ha:a∈met:=(hmem a).mpr (.inr List.mem_cons_self)
  have nd2:(met ++ newOf met (nu g r a)).Nodup:=by
   rw [List.nodup_append]
   exact⟨nd,Ca _ _,fun x hx y hy=>fun z=>(wD.mp hy).2 (z ▸ hx)⟩
  have re2:∀ t∈met ++ newOf met (nu g r a),Reach g r s t:=fun t ht=>by
   rcases List.mem_append.mp ht with h | h
   ·exact hre t h
   ·exact .step (hre a ha) (wD.mp h).1
  show match (if SETS < met.length + (newOf met (nu g r a)).length then none else meet g r f (todo ++ newOf met (nu g r a)) (met ++ newOf met (nu g r a))) with
   | some l=>_
   | none=>_
  by_cases c:SETS < met.length + (newOf met (nu g r a)).length
  ·rw [if_pos c]
   exact⟨met ++ newOf met (nu g r a),nd2,re2,by rw [List.length_append]; exact c⟩
  ·rw [if_neg c]
   refine EO f _ _ (a :: done) nd2 (fun t=>?_) ?_ re2 (fun t ht u hu=>?_) (by rw [List.length_append]; omega) (by rw [List.length_cons]; omega) (List.mem_append_left _ hs)
   ·rw [List.mem_append,List.mem_append,hmem t,List.mem_cons,List.mem_cons]
    constructor
    ·rintro ((h | h | h) | h)
     ·exact .inl (.inr h)
     ·exact .inl (.inl h)
     ·exact .inr (.inl h)
     ·exact .inr (.inr h)
    ·rintro ((h | h) | h | h)
     ·exact .inl (.inr (.inl h))
     ·exact .inl (.inl h)
     ·exact .inl (.inr (.inr h))
     ·exact .inr h
   ·rw [List.length_append,List.length_append,List.length_cons]
    rw [List.length_cons] at hlen
    omega
   ·rcases List.mem_cons.mp ht with rfl | ht
    ·by_cases z:u∈met
     ·exact List.mem_append_left _ z
     ·exact List.mem_append_right _ (wD.mpr ⟨hu,z⟩)
    ·exact List.mem_append_left _ (hcl t ht u hu)
theorem B6 (g:Growth) (r:Rule) (s:Stocks):match meet g r (SETS + 1) [s] [s] with
  | some l=>l.Nodup∧(∀ t,t∈l↔Reach g r s t)∧l.length≤SETS
  | none=>∃ l:List Stocks,l.Nodup∧(∀ t∈l,Reach g r s t)∧SETS < l.length :=
 EO (SETS + 1) [s] [s] [] (by simp) (fun t=>by simp) rfl (fun t ht=>by rw [List.mem_singleton] at ht; rw [ht]; exact .refl) (fun _ h=>nomatch h) (by show 1≤300; decide) (by simp) List.mem_cons_self
theorem qk {g:Growth} {r:Rule} {l:List Stocks} {s:Stocks}:s∈stayDark g r l↔s∈l∧∃ t∈nu g r s,t∈l:=by
 unfold stayDark
 rw [List.mem_filter,List.any_eq_true]
 constructor
 ·rintro ⟨a,t,b,c⟩; exact⟨a,t,b,List.contains_iff_mem.mp c⟩
 ·rintro ⟨a,t,b,c⟩; exact⟨a,t,b,List.contains_iff_mem.mpr c⟩
theorem sO {g:Growth} {r:Rule}:∀ (k:Nat) (l:List Stocks),l.length < k→∀ s,s∈settleDark g r k l↔∃ T:Stocks→Prop,T s∧∀ t,T t→t∈l∧∃ u∈nu g r t,T u
 | 0,l,h,s=>by omega
 | k + 1,l,h,s=>by
  unfold settleDark
  by_cases c:(stayDark g r l).length=l.length
  ·rw [if_pos c]
   have e:stayDark g r l=l:=by
    unfold stayDark at c ⊢
    exact List.filter_eq_self.mpr (List.length_filter_eq_length_iff.mp c)
   constructor
   ·intro hs
    refine⟨fun t=>t∈l,hs,fun t ht=>?_⟩
    have:t∈stayDark g r l:=by rw [e]; exact ht
    exact qk.mp this
   ·rintro ⟨T,h1,h2⟩; exact (h2 s h1).1
  ·rw [if_neg c]
   have hle:(stayDark g r l).length≤l.length:=List.length_filter_le _ _
   rw [sO k (stayDark g r l) (by omega) s]
   constructor
   ·rintro ⟨T,h1,h2⟩
    exact⟨T,h1,fun t ht=>⟨(qk.mp (h2 t ht).1).1,(h2 t ht).2⟩⟩
   ·rintro ⟨T,h1,h2⟩
    refine⟨T,h1,fun t ht=>⟨qk.mpr ⟨(h2 t ht).1,?_⟩,(h2 t ht).2⟩⟩
    obtain⟨u,hu,hT⟩:=(h2 t ht).2
    exact⟨u,hu,(h2 u hT).1⟩
theorem rS {α:Type} [BEq α] [LawfulBEq α]:∀ {l m:List α},l.Nodup→(∀ t∈l,t∈m)→l.length≤m.length
 | [],m,_,_=>Nat.zero_le _
 | a :: l,m,nd,h=>by
  rw [List.nodup_cons] at nd
  have ha:=h a List.mem_cons_self
  have:=rS (l:=l) (m:=m.erase a) nd.2 fun t ht=>(List.mem_erase_of_ne (fun (z:t=a)=>nd.1 (z ▸ ht))).mpr (h t (List.mem_cons_of_mem _ ht))
  rw [List.length_erase_of_mem ha] at this
  have hp:0 < m.length:=List.length_pos_of_mem ha
  rw [List.length_cons]
  omega
theorem Fg {g:Growth} {r:Rule} {s:Stocks} (h:∃ x,x≤g.n∧isIn s x=true∧x < r.low):blind g r s=some false:=by
 unfold blind
 rw [if_pos]
 obtain⟨x,h1,h2,h3⟩:=h
 cases e:(stocks g).all (fun x=>!isIn s x || decide (r.low≤x)) with
 | false=>rfl
 | true =>
  rw [List.all_eq_true] at e
  have:=e x (by unfold stocks; exact List.mem_range.mpr (by omega))
  rw [h2] at this
  simp at this
  omega
theorem yp {g:Growth} {r:Rule} {s:Stocks} (h:∀ x,x≤g.n→isIn s x=true→r.low≤x):blind g r s=(meet g r (SETS + 1) [s] [s]).map fun l=>(settleDark g r (SETS + 1) l).contains s:=by
 unfold blind
 rw [if_neg]
 intro e
 rw [show (stocks g).all (fun x=>!isIn s x || decide (r.low≤x))=true from List.all_eq_true.mpr fun x hx=>by
  have hx:x≤g.n:=by unfold stocks at hx; have:=List.mem_range.mp hx; omega
  cases q:isIn s x with
  | false=>rfl
  | true=>simpa using h x hx q] at e
 cases e
theorem Dg {g:Growth} {r:Rule} {s:Stocks} (h:∀ x,x≤g.n→isIn s x=true→r.low≤x) {l:List Stocks} (nd:l.Nodup) (hr:∀ t∈l,Reach g r s t) (hl:SETS < l.length):blind g r s=none:=by
 rw [yp h]
 have:=B6 g r s
 cases e:meet g r (SETS + 1) [s] [s] with
 | none=>rfl
 | some m =>
  rw [e] at this
  obtain⟨_,a,b⟩:=this
  have hsub:l.length≤m.length:=rS nd fun t ht=>(a t).mpr (hr t ht)
  omega
theorem Ff {g:Growth} {r:Rule} {s:Stocks} (h:∀ x,x≤g.n→isIn s x=true→r.low≤x) {l:List Stocks} (hr:∀ t,t∈l↔Reach g r s t) (hl:l.length≤SETS) :
  ∃ b,blind g r s=some b∧(b=true↔∃ T:Stocks→Prop,T s∧∀ t,T t→t∈l∧∃ u∈nu g r t,T u):=by
 rw [yp h]
 have:=B6 g r s
 cases e:meet g r (SETS + 1) [s] [s] with
 | none =>
  rw [e] at this
  obtain⟨m,a,b,c⟩:=this
  have hsub:m.length≤l.length:=rS a fun t ht=>(hr t).mpr (b t ht)
  omega
 | some m =>
  rw [e] at this
  obtain⟨_,a,b⟩:=this
  refine⟨_,rfl,?_⟩
  rw [List.contains_iff_mem,sO (SETS + 1) m (by omega) s]
  constructor
  ·rintro ⟨T,h1,h2⟩; exact⟨T,h1,fun t ht=>⟨(hr t).mpr ((a t).mp (h2 t ht).1),(h2 t ht).2⟩⟩
  ·rintro ⟨T,h1,h2⟩; exact⟨T,h1,fun t ht=>⟨(a t).mpr ((hr t).mp (h2 t ht).1),(h2 t ht).2⟩⟩
end VM
end
section
namespace HG
open PySem PySem.Spec PyProof.Rows L2
open PySem.W (Frag findIn keepIn isFn nsIn)
def top (i:Nat):Stmt:=PySem.Challenge.pw_harvestgame_s01_answers.main.body.getD i (.Pass ⟨0,0,0,0⟩)
abbrev m6:Stmt:=inClass (top 1) 0
abbrev mj:Stmt:=inClass (top 2) 0
abbrev oH:Stmt:=inClass (top 3) 0
abbrev kc:Stmt:=inClass (top 4) 0
abbrev kT:Stmt:=inClass (top 5) 0
abbrev kb:Stmt:=inClass (top 6) 0
abbrev m5:Stmt:=inClass (top 7) 0
abbrev jI:Stmt:=inClass (top 8) 0
abbrev pQ:Stmt:=inClass (top 15) 0
abbrev mh:Stmt:=inClass (top 15) 1
abbrev jF:Stmt:=inClass (top 15) 2
abbrev ka:Stmt:=inClass (top 15) 3
abbrev j9:Stmt:=inClass (top 15) 4
abbrev oG:Stmt:=inClass (top 21) 0
abbrev iW:Stmt:=inClass (top 21) 1
abbrev gW:Stmt:=inClass (top 21) 2
abbrev iY:Stmt:=inClass (top 21) 3
abbrev iX:Stmt:=inClass (top 21) 4
abbrev ig:Stmt:=inClass (top 21) 5
abbrev rb:Stmt:=inClass (top 22) 0
abbrev jH:Stmt:=inClass (top 22) 1
abbrev mm:Stmt:=inClass (top 22) 2
abbrev m4:Stmt:=inClass (top 43) 0
abbrev gX:Stmt:=inClass (top 43) 1
abbrev gY:Stmt:=inClass (top 43) 2
abbrev iZ:Stmt:=inClass (top 43) 3
abbrev kR:Stmt:=inClass (top 43) 4
abbrev ik:Stmt:=inClass (top 43) 5
abbrev mi:Stmt:=inClass (top 43) 6
abbrev ij:Stmt:=inClass (top 43) 7
abbrev ra:Stmt:=inClass (top 52) 0
abbrev oI:Stmt:=inClass (top 53) 0
abbrev kS:Stmt:=inClass (top 53) 1
abbrev il:Stmt:=inClass (top 53) 2
abbrev kd:Stmt:=inClass (top 53) 3
abbrev jG:Stmt:=inClass (top 53) 4
abbrev pT:Stmt:=top 9
abbrev lP:Stmt:=top 10
abbrev ke:Stmt:=top 13
abbrev yu:Stmt:=top 14
abbrev uh:Stmt:=top 16
abbrev oX:Stmt:=top 17
abbrev jK:Stmt:=top 18
abbrev nj:Stmt:=top 19
abbrev rh:Stmt:=top 23
abbrev rl:Stmt:=top 24
abbrev oW:Stmt:=top 25
abbrev kZ:Stmt:=top 26
abbrev kj:Stmt:=top 27
abbrev kh:Stmt:=top 28
abbrev i3:Stmt:=top 29
abbrev nq:Stmt:=top 30
abbrev kW:Stmt:=top 31
abbrev ug:Stmt:=top 32
abbrev ki:Stmt:=top 34
abbrev kU:Stmt:=top 35
abbrev uf:Stmt:=top 36
abbrev pX:Stmt:=top 37
abbrev my:Stmt:=top 38
abbrev pS:Stmt:=top 39
abbrev mx:Stmt:=top 40
abbrev pR:Stmt:=top 41
abbrev jJ:Stmt:=top 46
abbrev oV:Stmt:=top 47
abbrev pV:Stmt:=top 48
abbrev pW:Stmt:=top 49
abbrev kY:Stmt:=top 55
abbrev rg:Stmt:=top 56
abbrev kX:Stmt:=top 57
abbrev pU:Stmt:=top 60
abbrev kg:Stmt:=top 61
abbrev rm:Stmt:=top 62
abbrev AV:Stmt:=top 63
abbrev rp:Stmt:=top 64
abbrev rn:Stmt:=top 65
abbrev mq:Stmt:=top 66
abbrev oU:Stmt:=top 67
abbrev oQ:Stmt:=top 68
abbrev nh:Stmt:=top 69
abbrev oO:Stmt:=top 70
abbrev oR:Stmt:=top 71
abbrev mr:Stmt:=top 72
abbrev oN:Stmt:=top 73
abbrev ni:Stmt:=top 74
abbrev oK:Stmt:=top 75
abbrev m8:Stmt:=top 76
abbrev mv:Stmt:=top 77
abbrev oP:Stmt:=top 78
abbrev m9:Stmt:=top 79
abbrev mn:Stmt:=top 80
abbrev oS:Stmt:=top 81
abbrev oM:Stmt:=top 82
abbrev m7:Stmt:=top 83
abbrev mw:Stmt:=top 84
abbrev oJ:Stmt:=top 86
abbrev i0:Stmt:=top 87
abbrev sU:Stmt:=top 88
structure Ad where
 cE:Addr
 jD:Addr
 m3:Addr
 fV:Addr
 fK:Addr
 fU:Addr
 kQ:Addr
 eK:Addr
 cQ:Addr
 aU:Addr
 gU:Addr
 aC:Addr
 mf:Addr
 bp:Addr
 iu:Addr
 gw:Addr
 jj:Addr
 el:Addr
 fg:Addr
 ej:Addr
 ir:Addr
 dI:Addr
 kn:Addr
 gu:Addr
 dF:Addr
 ei:Addr
 eg:Addr
 ji:Addr
 c9:Addr
 cA:Addr
 df:Addr
 da:Addr
 cK:Addr
 lR:Addr
 dH:Addr
 gx:Addr
 iq:Addr
 cB:Addr
 cC:Addr
 di:Addr
 fc:Addr
 cN:Addr
 gv:Addr
 cM:Addr
 lQ:Addr
 jk:Addr
 ff:Addr
 cO:Addr
 eu:Addr
 dG:Addr
 iJ:Addr
 fL:Addr
 cR:Addr
 pd:Addr
 k9:Addr
 gL:Addr
 cG:Addr
 fu:Addr
 jP:Addr
 jQ:Addr
 gK:Addr
 dB:Addr
 cV:Addr
 cT:Addr
 cy:Addr
 fv:Addr
 dy:Addr
 k8:Addr
 cU:Addr
 dw:Addr
 k7:Addr
 iN:Addr
 dX:Addr
 iI:Addr
 dW:Addr
 iH:Addr
 cF:Addr
 gJ:Addr
 iL:Addr
 iM:Addr
 dA:Addr
 jO:Addr
 dz:Addr
 iK:Addr
 cS:Addr
 jR:Addr
 sV:Addr
 jT:Addr
 jS:Addr
 dQ:Addr
 gI:Addr
 gF:Addr
 fo:Addr
 gD:Addr
 gG:Addr
 dR:Addr
 gC:Addr
 ft:Addr
 gA:Addr
 fj:Addr
 dS:Addr
 gE:Addr
 fk:Addr
 dP:Addr
 gH:Addr
 gB:Addr
 fh:Addr
 dU:Addr
 gz:Addr
 cx:Addr
 k6:Addr
 rB:Addr
 pY:Addr
 pZ:Addr
 p5:Addr
 p6:Addr
 p7:Addr
 p8:Addr
 qa:Addr
 qb:Addr
 qc:Addr
 qd:Addr
 nV:Addr
 nW:Addr
 nX:Addr
 nY:Addr
 nZ:Addr
 n0:Addr
 n4:Addr
 n6:Addr
 n8:Addr
 fz:Addr
 lS:Addr
structure Tx0 (K:Frag) (A:Ad):Prop where
 IE:dn K A.rB=some [(0,.ref A.pY),(1,.ref A.pZ),(2,.ref A.p5),(3,.ref A.p6),(4,.ref A.p7),(5,.ref A.p8),(6,.ref A.qa),(7,.ref A.qb),(8,.ref A.qc),(9,.ref A.qd),(10,.ref A.nV),(11,.ref A.nW),(12,.ref A.nX),(13,.ref A.nY),(14,.ref A.nZ),(15,.ref A.n0),(16,.ref A.n4),(17,.ref A.n6),(18,.ref A.n8)]
 Ea:iD K A.pY=some [.int 1,.int 2]
 Eb:iD K A.pZ=some [.int 0,.int 0]
 Ec:iD K A.p5=some [.int 3,.int 0]
 Ed:iD K A.p6=some [.int 0,.int 0]
 Ee:iD K A.p7=some [.int 3,.int 0]
 Ef:iD K A.p8=some [.int 0,.int 0]
 Eg:iD K A.qa=some [.int 1,.int 0]
 Eh:iD K A.qb=some [.int 1,.int 0]
 Ei:iD K A.qc=some [.int 1,.int 0]
 Ej:iD K A.qd=some [.int 2,.int 0]
 CP:iD K A.nV=some [.int 0,.int 1]
 CQ:iD K A.nW=some [.int 0,.int 1]
 CS:iD K A.nX=some [.int 1,.int 1]
 CT:iD K A.nY=some [.int 1,.int 1]
 CU:iD K A.nZ=some [.int 1,.int 0]
 CV:iD K A.n0=some [.int 2,.int 0]
 CW:iD K A.n4=some [.int 2,.int 0]
 CY:iD K A.n6=some [.int 0,.int 1]
 CZ:iD K A.n8=some [.int 0,.int 0]
 zw:iD K A.fz=some [.int 0,.int 1,.int 2,.int 4,.int 18]
 CO:dn K A.lS=some [(0,.ref A.dQ),(1,.ref A.gI),(2,.ref A.gF),(3,.ref A.fo),(4,.ref A.gD),(5,.ref A.gG),(6,.ref A.dR),(7,.ref A.gC),(8,.ref A.ft),(9,.ref A.gA),(10,.ref A.fj),(11,.ref A.dS),(12,.ref A.gE),(13,.ref A.fk),(14,.ref A.dP),(15,.ref A.gH),(16,.ref A.gB),(17,.ref A.fh),(18,.ref A.dU)]
 Em:uU K A.cE
 jE:JV K A.cE "__init__" A.iu
 C2:uU K A.jD
 C3:XMk K A.jD A.gw
 uw:aV K A.jD "number"
 GQ:uU K A.m3
 GU:XMk K A.m3 A.jj
 wF:aV K A.m3 "number"
 ue:uU K A.fV
 z6:XMk K A.fV A.el
 lZ:aV K A.fV "number"
 BB:uU K A.fK
 wc:XMk K A.fK A.fg
 tN:aV K A.fK "number"
 gR:uU K A.fU
 jt:XMk K A.fU A.ej
 cb:aV K A.fU "number"
 zB:uU K A.kQ
 zD:XMk K A.kQ A.ir
 oq:aV K A.kQ "number"
 zC:uU K A.eK
 zE:XMk K A.eK A.dI
 qR:aV K A.eK "number"
 cJ:Cls K A.cQ
 HA:Mk K A.cQ A.kn
 lJ:aV K A.cQ "rule"
 fF:aV K A.cQ "marks"
 kJ:aV K A.cQ "outcome_sets"
 wC:Meth K A.cQ "members" A.gu
 mE:Meth K A.cQ "is_too_low" A.dF
 ur:Meth K A.cQ "set_after" A.ei
 uq:Meth K A.cQ "next_sets" A.eg
 aH:Cls K A.aU
 FX:Mk K A.aU A.ji
 aW:aV K A.aU "greatest"
 eF:aV K A.aU "weights"
 jC:aV K A.aU "table"
 bq:aV K A.aU "outcomes"
 a0:Meth K A.aU "all_stocks" A.c9
 cn:Meth K A.aU "season_count" A.cA
 rO:Meth K A.aU "season_row" A.df
 eC:Meth K A.aU "next_stock" A.da
 qO:Meth K A.aU "next_stocks" A.cK
 bh:Cls K A.gU
 ER:Mk K A.gU A.lR
 cP:aV K A.gU "low"
 gP:aV K A.gU "least"
 fY:aV K A.gU "most"
 i4:Meth K A.gU "may_be_made" A.dH
 lj:Meth K A.gU "of_lefts" A.gx
 ao:Cls K A.aC
 DF:Mk K A.aC A.iq
 aB:aV K A.aC "growth"
 aP:aV K A.aC "rule"
 cH:aV K A.aC "years"
 bu:aV K A.aC "safe"
 bX:aV K A.aC "demands"
 br:aV K A.aC "sure_rows"
 a9:aV K A.aC "mean_rows"
 kC:Meth K A.aC "forget_rule" A.cB
 qj:Meth K A.aC "hold_growth" A.cC
 rP:Meth K A.aC "hold_rule" A.di
 vx:Meth K A.aC "demand" A.fc
 qQ:Meth K A.aC "sure_total" A.cN
 pw:Meth K A.aC "cases" A.gv
 qP:Meth K A.aC "mean_total" A.cM
 aZ:Cls K A.mf
 Ji:Mk K A.mf A.lQ
 kD:aV K A.mf "number"
 aM:aV K A.mf "wholes"
 eE:aV K A.mf "rows"
 bw:Cls K A.bp
 FZ:Mk K A.bp A.jk
 hU:aV K A.bp "numbers"
 bV:aV K A.bp "place"
 vy:Meth K A.bp "is_done" A.ff
 kI:Meth K A.bp "take_number" A.cO
 nB:Meth K A.bp "take_row" A.eu
 tM:Meth K A.bp "take_call" A.dG
 tX:w9 K A.jD A.cE=true
 vX:w9 K A.m3 A.cE=true
 kN:w9 K A.fV A.cE=true
 sP:w9 K A.fK A.cE=true
 bJ:w9 K A.fU A.cE=true
 nN:w9 K A.kQ A.cE=true
 qw:w9 K A.eK A.cE=true
 vA:(A.aC == A.aU)=false
 xB:(A.aC == A.gU)=false
 wG:(A.bp == A.aU)=false
 yN:(A.bp == A.gU)=false
 ot:(A.bp == A.aC)=false
structure Txt (K:Frag) (mg:Str→Option Value) (A:Ad):Prop extends Tx0 K A where
 fB:mg "Refusal" = some (.ref A.cE)
 qg:mg "NoGrowth" = some (.ref A.jD)
 vt:mg "NoRule" = some (.ref A.m3)
 mM:mg "OutOfRange" = some (.ref A.fV)
 lU:mg "WrongList" = some (.ref A.fK)
 eA:mg "NotForThis" = some (.ref A.fU)
 pq:mg "NoCatch" = some (.ref A.kQ)
 lF:mg "TooManySets" = some (.ref A.eK)
 xW:mg "Blind" = some (.ref A.cQ)
 vq:mg "Growth" = some (.ref A.aU)
 yJ:mg "Rule" = some (.ref A.gU)
 tj:mg "Harvest" = some (.ref A.aC)
 A9:mg "Call" = some (.ref A.mf)
 vv:mg "Reader" = some (.ref A.bp)
 ck:mg "need_range" = some (.ref A.iJ)
 fN:mg "need_list" = some (.ref A.fL)
 g8:mg "marks_of_stocks" = some (.ref A.cR)
 rN:mg "set_of" = some (.ref A.pd)
 qi:mg "sets_met" = some (.ref A.k9)
 lI:mg "sets_before" = some (.ref A.gL)
 fX:mg "goes_on_for_ever" = some (.ref A.cG)
 kz:mg "can_be_blind" = some (.ref A.fu)
 oo:mg "is_rising" = some (.ref A.jP)
 lV:mg "is_within" = some (.ref A.jQ)
 jo:mg "not_too_low" = some (.ref A.gK)
 b9:mg "stocks_leaving" = some (.ref A.dB)
 hJ:mg "years_of_stocks" = some (.ref A.cV)
 g9:mg "part_to_stay_in" = some (.ref A.cT)
 eV:mg "demands_of_stocks" = some (.ref A.cy)
 iw:mg "safe_catches" = some (.ref A.fv)
 fC:mg "harmful_season" = some (.ref A.dy)
 qh:mg "is_worse" = some (.ref A.k8)
 eB:mg "row_of_no_years" = some (.ref A.cU)
 iP:mg "greatest_known" = some (.ref A.dw)
 nA:mg "best_row" = some (.ref A.k7)
 mR:mg "sure_later" = some (.ref A.iN)
 jB:mg "next_sure_row" = some (.ref A.dX)
 mO:mg "mean_later" = some (.ref A.iI)
 jA:mg "next_mean_row" = some (.ref A.dW)
 mN:mg "case_count" = some (.ref A.iH)
 fW:mg "can_be_stayed_in" = some (.ref A.cF)
 lH:mg "lowest_rank" = some (.ref A.gJ)
 mP:mg "rank_holds" = some (.ref A.iL)
 mQ:mg "ranks_hold" = some (.ref A.iM)
 iR:mg "run_of_seasons" = some (.ref A.dA)
 oj:mg "has_ended" = some (.ref A.jO)
 iQ:mg "run_of_catches" = some (.ref A.dz)
 bc:mg "need_stock" = some (.ref A.iK)
 cX:mg "need_stock_list" = some (.ref A.cS)
 jV:mg "need_safe" = some (.ref A.jR)
 tw:mg "known" = some (.ref A.sV)
 iy:mg "yes_or_no" = some (.ref A.jT)
 lW:mg "quotas_of" = some (.ref A.jS)
 lG:mg "answer_call" = some (.ref A.gz)
 eU:mg "answer_or_refusal" = some (.ref A.cx)
 tu:mg "answers" = some (.ref A.k6)
 oh:∃ t,mg "MOST_SETS" = some (.int 300 t)
 tq:∃ t,mg "NO_RANK" = some (.int 1001 t)
 vw:mg "SHAPES" = some (.ref A.rB)
 kx:mg "WITHOUT_RULE" = some (.ref A.fz)
 og:mg "ANSWERERS" = some (.ref A.lS)
 z9:mg "all" = none
 Ew:mg "any" = none
 eO:mg "len" = none
 we:mg "list" = none
 uY:mg "max" = none
 Aa:mg "min" = none
 fT:mg "range" = none
 uZ:mg "sorted" = none
 BF:mg "sum" = none
 Ex:mg "zip" = none
 j0:∃ fd,Fun K "__init__" "Refusal.__init__" m6 A.iu fd
 jw:∃ fd,Fun K "__init__" "NoGrowth.__init__" mj A.gw fd
 lA:∃ fd,Fun K "__init__" "NoRule.__init__" oH A.jj fd
 g5:∃ fd,Fun K "__init__" "OutOfRange.__init__" kc A.el fd
 iG:∃ fd,Fun K "__init__" "WrongList.__init__" kT A.fg fd
 g4:∃ fd,Fun K "__init__" "NotForThis.__init__" kb A.ej fd
 jZ:∃ fd,Fun K "__init__" "NoCatch.__init__" m5 A.ir fd
 fS:∃ fd,Fun K "__init__" "TooManySets.__init__" jI A.dI fd
 mJ:∃ fd,Fun K "__init__" "Blind.__init__" pQ A.kn fd
 ju:∃ fd,Fun K "members" "Blind.members" mh A.gu fd
 fP:∃ fd,Fun K "is_too_low" "Blind.is_too_low" jF A.dF fd
 g0:∃ fd,Fun K "set_after" "Blind.set_after" ka A.ei fd
 gZ:∃ fd,Fun K "next_sets" "Blind.next_sets" j9 A.eg fd
 lz:∃ fd,Fun K "__init__" "Growth.__init__" oG A.ji fd
 eP:∃ fd,Fun K "all_stocks" "Growth.all_stocks" iW A.c9 fd
 dM:∃ fd,Fun K "season_count" "Growth.season_count" gW A.cA fd
 eR:∃ fd,Fun K "season_row" "Growth.season_row" iY A.df fd
 eQ:∃ fd,Fun K "next_stock" "Growth.next_stock" iX A.da fd
 dY:∃ fd,Fun K "next_stocks" "Growth.next_stocks" ig A.cK fd
 nT:∃ fd,Fun K "__init__" "Rule.__init__" rb A.lR fd
 fR:∃ fd,Fun K "may_be_made" "Rule.may_be_made" jH A.dH fd
 jx:∃ fd,Fun K "of_lefts" "Rule.of_lefts" mm A.gx fd
 jY:∃ fd,Fun K "__init__" "Harvest.__init__" m4 A.iq fd
 dN:∃ fd,Fun K "forget_rule" "Harvest.forget_rule" gX A.cB fd
 dO:∃ fd,Fun K "hold_growth" "Harvest.hold_growth" gY A.cC fd
 eS:∃ fd,Fun K "hold_rule" "Harvest.hold_rule" iZ A.di fd
 iE:∃ fd,Fun K "demand" "Harvest.demand" kR A.fc fd
 d5:∃ fd,Fun K "sure_total" "Harvest.sure_total" ik A.cN fd
 jv:∃ fd,Fun K "cases" "Harvest.cases" mi A.gv fd
 dZ:∃ fd,Fun K "mean_total" "Harvest.mean_total" ij A.cM fd
 nR:∃ fd,Fun K "__init__" "Call.__init__" ra A.lQ fd
 lB:∃ fd,Fun K "__init__" "Reader.__init__" oI A.jk fd
 iF:∃ fd,Fun K "is_done" "Reader.is_done" kS A.ff fd
 d6:∃ fd,Fun K "take_number" "Reader.take_number" il A.cO fd
 g6:∃ fd,Fun K "take_row" "Reader.take_row" kd A.eu fd
 fQ:∃ fd,Fun K "take_call" "Reader.take_call" jG A.dG fd
 cg:∃ fd,Fun K "need_range" "need_range" pT A.iJ fd
 fI:∃ fd,Fun K "need_list" "need_list" lP A.fL fd
 d7:∃ fd,Fun K "marks_of_stocks" "marks_of_stocks" ke A.cR fd
 o8:∃ fd,Fun K "set_of" "set_of" yu A.pd fd
 mZ:∃ fd,Fun K "sets_met" "sets_met" uh A.k9 fd
 jh:∃ fd,Fun K "sets_before" "sets_before" oX A.gL fd
 dE:∃ fd,Fun K "goes_on_for_ever" "goes_on_for_ever" jK A.cG fd
 ic:∃ fd,Fun K "can_be_blind" "can_be_blind" nj A.fu fd
 lO:∃ fd,Fun K "is_rising" "is_rising" rh A.jP fd
 jM:∃ fd,Fun K "is_within" "is_within" rl A.jQ fd
 gy:∃ fd,Fun K "not_too_low" "not_too_low" oW A.gK fd
 cD:∃ fd,Fun K "stocks_leaving" "stocks_leaving" kZ A.dB fd
 ee:∃ fd,Fun K "years_of_stocks" "years_of_stocks" kj A.cV fd
 d8:∃ fd,Fun K "part_to_stay_in" "part_to_stay_in" kh A.cT fd
 c7:∃ fd,Fun K "demands_of_stocks" "demands_of_stocks" i3 A.cy fd
 eZ:∃ fd,Fun K "safe_catches" "safe_catches" nq A.fv fd
 dv:∃ fd,Fun K "harmful_season" "harmful_season" kW A.dy fd
 mY:∃ fd,Fun K "is_worse" "is_worse" ug A.k8 fd
 d9:∃ fd,Fun K "row_of_no_years" "row_of_no_years" ki A.cU fd
 eW:∃ fd,Fun K "greatest_known" "greatest_known" kU A.dw fd
 kO:∃ fd,Fun K "best_row" "best_row" uf A.k7 fd
 j8:∃ fd,Fun K "sure_later" "sure_later" pX A.iN fd
 gq:∃ fd,Fun K "next_sure_row" "next_sure_row" my A.dX fd
 j5:∃ fd,Fun K "mean_later" "mean_later" pS A.iI fd
 gp:∃ fd,Fun K "next_mean_row" "next_mean_row" mx A.dW fd
 j4:∃ fd,Fun K "case_count" "case_count" pR A.iH fd
 dD:∃ fd,Fun K "can_be_stayed_in" "can_be_stayed_in" jJ A.cF fd
 jg:∃ fd,Fun K "lowest_rank" "lowest_rank" oV A.gJ fd
 j6:∃ fd,Fun K "rank_holds" "rank_holds" pV A.iL fd
 j7:∃ fd,Fun K "ranks_hold" "ranks_hold" pW A.iM fd
 eY:∃ fd,Fun K "run_of_seasons" "run_of_seasons" kY A.dA fd
 lN:∃ fd,Fun K "has_ended" "has_ended" rg A.jO fd
 eX:∃ fd,Fun K "run_of_catches" "run_of_catches" kX A.dz fd
 ba:∃ fd,Fun K "need_stock" "need_stock" pU A.iK fd
 cj:∃ fd,Fun K "need_stock_list" "need_stock_list" kg A.cS fd
 ie:∃ fd,Fun K "need_safe" "need_safe" rm A.jR fd
 pM:∃ fd,Fun K "known" "known" AV A.sV fd
 fJ:∃ fd,Fun K "yes_or_no" "yes_or_no" rp A.jT fd
 jN:∃ fd,Fun K "quotas_of" "quotas_of" rn A.jS fd
 gh:∃ fd,Fun K "answer_growth" "answer_growth" mq A.dQ fd
 jf:∃ fd,Fun K "answer_told" "answer_told" oU A.gI fd
 jc:∃ fd,Fun K "answer_rule" "answer_rule" oQ A.gF fd
 ia:∃ fd,Fun K "answer_ruled" "answer_ruled" nh A.fo fd
 ja:∃ fd,Fun K "answer_next" "answer_next" oO A.gD fd
 jd:∃ fd,Fun K "answer_safe" "answer_safe" oR A.gG fd
 gi:∃ fd,Fun K "answer_quotas" "answer_quotas" mr A.dR fd
 i9:∃ fd,Fun K "answer_most" "answer_most" oN A.gC fd
 ib:∃ fd,Fun K "answer_years" "answer_years" ni A.ft fd
 i7:∃ fd,Fun K "answer_harm" "answer_harm" oK A.gA fd
 hZ:∃ fd,Fun K "answer_check" "answer_check" m8 A.fj fd
 gj:∃ fd,Fun K "answer_refute" "answer_refute" mv A.dS fd
 jb:∃ fd,Fun K "answer_play" "answer_play" oP A.gE fd
 h9:∃ fd,Fun K "answer_force" "answer_force" m9 A.fk fd
 gg:∃ fd,Fun K "answer_demand" "answer_demand" mn A.dP fd
 je:∃ fd,Fun K "answer_sure" "answer_sure" oS A.gH fd
 i8:∃ fd,Fun K "answer_mean" "answer_mean" oM A.gB fd
 hX:∃ fd,Fun K "answer_blind" "answer_blind" m7 A.fh fd
 gm:∃ fd,Fun K "answer_rising" "answer_rising" mw A.dU fd
 i6:∃ fd,Fun K "answer_call" "answer_call" oJ A.gz fd
 cZ:∃ fd,Fun K "answer_or_refusal" "answer_or_refusal" i0 A.cx fd
 mW:∃ fd,Fun K "answers" "answers" sU A.k6 fd
end HG
end
section
namespace HG
open PySem PySem.Spec PyProof.Rows L2
open PySem.W (Frag findIn keepIn isFn nsIn)
def rf:Option (Option Value)→Addr
 | some (some (.ref a))=>a
 | _=>0
def qr (o:Option (List (Int×Value))) (k:Int):Addr:=match o with
 | some l=>rf (some (look l k))
 | none=>0
def LY:Option (Option Value)→Tok
 | some (some (.int _ t))=>t
 | _=>0
def Dq (K:Frag) (f:Addr):FuncData:=match K.lookup f with
 | some ⟨_,_,.func fd,_⟩=>fd
 | _=>default
def clsAt (K:Frag) (f:Addr):Value:=match K.lookup f with
 | some o=>o.cls
 | none=>.none
def Lo (K:Frag) (f:Addr):Option Addr:=match K.lookup f with
 | some o=>o.dict
 | none=>none
def Mu (K:Frag) (f:Addr):Array (Option Value):=match K.lookup f with
 | some o=>o.slots
 | none=>#[]
structure aJ (K:Frag) (x qual:Str) (st:Stmt) (f:Addr):Prop where
 at_:K.lookup f=some ⟨clsAt K f,Lo K f,.func (PySem.W.fnOf x qual (lC st) (kl st) (au st) .none (Dq K f).kwdefaults (Dq K f).doc (Dq K f).pyModule (Dq K f).annotations (Dq K f).code (Dq K f).closureTuple),Mu K f⟩
 cd:PySem.W.codeIn K (Dq K f).code qual=true
 kp:keepIn K (.ref f)=true
theorem aJ.ok {K:Frag} {x qual:Str} {st:Stmt} {f:Addr} (F:aJ K x qual st f):∃ fd,Fun K x qual st f fd:=⟨_,Hm F.at_ F.cd F.kp⟩
def aI (K:Frag):Ad where
 cE:=rf (nsIn K mainGlobals "Refusal")
 jD:=rf (nsIn K mainGlobals "NoGrowth")
 m3:=rf (nsIn K mainGlobals "NoRule")
 fV:=rf (nsIn K mainGlobals "OutOfRange")
 fK:=rf (nsIn K mainGlobals "WrongList")
 fU:=rf (nsIn K mainGlobals "NotForThis")
 kQ:=rf (nsIn K mainGlobals "NoCatch")
 eK:=rf (nsIn K mainGlobals "TooManySets")
 cQ:=rf (nsIn K mainGlobals "Blind")
 aU:=rf (nsIn K mainGlobals "Growth")
 gU:=rf (nsIn K mainGlobals "Rule")
 aC:=rf (nsIn K mainGlobals "Harvest")
 mf:=rf (nsIn K mainGlobals "Call")
 bp:=rf (nsIn K mainGlobals "Reader")
 iu:=rf (findIn K (.ref (rf (nsIn K mainGlobals "Refusal"))) "__init__")
 gw:=rf (findIn K (.ref (rf (nsIn K mainGlobals "NoGrowth"))) "__init__")
 jj:=rf (findIn K (.ref (rf (nsIn K mainGlobals "NoRule"))) "__init__")
 el:=rf (findIn K (.ref (rf (nsIn K mainGlobals "OutOfRange"))) "__init__")
 fg:=rf (findIn K (.ref (rf (nsIn K mainGlobals "WrongList"))) "__init__")
 ej:=rf (findIn K (.ref (rf (nsIn K mainGlobals "NotForThis"))) "__init__")
 ir:=rf (findIn K (.ref (rf (nsIn K mainGlobals "NoCatch"))) "__init__")
 dI:=rf (findIn K (.ref (rf (nsIn K mainGlobals "TooManySets"))) "__init__")
 kn:=rf (findIn K (.ref (rf (nsIn K mainGlobals "Blind"))) "__init__")
 gu:=rf (findIn K (.ref (rf (nsIn K mainGlobals "Blind"))) "members")
 dF:=rf (findIn K (.ref (rf (nsIn K mainGlobals "Blind"))) "is_too_low")
 ei:=rf (findIn K (.ref (rf (nsIn K mainGlobals "Blind"))) "set_after")
 eg:=rf (findIn K (.ref (rf (nsIn K mainGlobals "Blind"))) "next_sets")
 ji:=rf (findIn K (.ref (rf (nsIn K mainGlobals "Growth"))) "__init__")
 c9:=rf (findIn K (.ref (rf (nsIn K mainGlobals "Growth"))) "all_stocks")
 cA:=rf (findIn K (.ref (rf (nsIn K mainGlobals "Growth"))) "season_count")
 df:=rf (findIn K (.ref (rf (nsIn K mainGlobals "Growth"))) "season_row")
 da:=rf (findIn K (.ref (rf (nsIn K mainGlobals "Growth"))) "next_stock")
 cK:=rf (findIn K (.ref (rf (nsIn K mainGlobals "Growth"))) "next_stocks")
 lR:=rf (findIn K (.ref (rf (nsIn K mainGlobals "Rule"))) "__init__")
 dH:=rf (findIn K (.ref (rf (nsIn K mainGlobals "Rule"))) "may_be_made")
 gx:=rf (findIn K (.ref (rf (nsIn K mainGlobals "Rule"))) "of_lefts")
 iq:=rf (findIn K (.ref (rf (nsIn K mainGlobals "Harvest"))) "__init__")
 cB:=rf (findIn K (.ref (rf (nsIn K mainGlobals "Harvest"))) "forget_rule")
 cC:=rf (findIn K (.ref (rf (nsIn K mainGlobals "Harvest"))) "hold_growth")
 di:=rf (findIn K (.ref (rf (nsIn K mainGlobals "Harvest"))) "hold_rule")
 fc:=rf (findIn K (.ref (rf (nsIn K mainGlobals "Harvest"))) "demand")
 cN:=rf (findIn K (.ref (rf (nsIn K mainGlobals "Harvest"))) "sure_total")
 gv:=rf (findIn K (.ref (rf (nsIn K mainGlobals "Harvest"))) "cases")
 cM:=rf (findIn K (.ref (rf (nsIn K mainGlobals "Harvest"))) "mean_total")
 lQ:=rf (findIn K (.ref (rf (nsIn K mainGlobals "Call"))) "__init__")
 jk:=rf (findIn K (.ref (rf (nsIn K mainGlobals "Reader"))) "__init__")
 ff:=rf (findIn K (.ref (rf (nsIn K mainGlobals "Reader"))) "is_done")
 cO:=rf (findIn K (.ref (rf (nsIn K mainGlobals "Reader"))) "take_number")
 eu:=rf (findIn K (.ref (rf (nsIn K mainGlobals "Reader"))) "take_row")
 dG:=rf (findIn K (.ref (rf (nsIn K mainGlobals "Reader"))) "take_call")
 iJ:=rf (nsIn K mainGlobals "need_range")
 fL:=rf (nsIn K mainGlobals "need_list")
 cR:=rf (nsIn K mainGlobals "marks_of_stocks")
 pd:=rf (nsIn K mainGlobals "set_of")
 k9:=rf (nsIn K mainGlobals "sets_met")
 gL:=rf (nsIn K mainGlobals "sets_before")
 cG:=rf (nsIn K mainGlobals "goes_on_for_ever")
 fu:=rf (nsIn K mainGlobals "can_be_blind")
 jP:=rf (nsIn K mainGlobals "is_rising")
 jQ:=rf (nsIn K mainGlobals "is_within")
 gK:=rf (nsIn K mainGlobals "not_too_low")
 dB:=rf (nsIn K mainGlobals "stocks_leaving")
 cV:=rf (nsIn K mainGlobals "years_of_stocks")
 cT:=rf (nsIn K mainGlobals "part_to_stay_in")
 cy:=rf (nsIn K mainGlobals "demands_of_stocks")
 fv:=rf (nsIn K mainGlobals "safe_catches")
 dy:=rf (nsIn K mainGlobals "harmful_season")
 k8:=rf (nsIn K mainGlobals "is_worse")
 cU:=rf (nsIn K mainGlobals "row_of_no_years")
 dw:=rf (nsIn K mainGlobals "greatest_known")
 k7:=rf (nsIn K mainGlobals "best_row")
 iN:=rf (nsIn K mainGlobals "sure_later")
 dX:=rf (nsIn K mainGlobals "next_sure_row")
 iI:=rf (nsIn K mainGlobals "mean_later")
 dW:=rf (nsIn K mainGlobals "next_mean_row")
 iH:=rf (nsIn K mainGlobals "case_count")
 cF:=rf (nsIn K mainGlobals "can_be_stayed_in")
 gJ:=rf (nsIn K mainGlobals "lowest_rank")
 iL:=rf (nsIn K mainGlobals "rank_holds")
 iM:=rf (nsIn K mainGlobals "ranks_hold")
 dA:=rf (nsIn K mainGlobals "run_of_seasons")
 jO:=rf (nsIn K mainGlobals "has_ended")
 dz:=rf (nsIn K mainGlobals "run_of_catches")
 iK:=rf (nsIn K mainGlobals "need_stock")
 cS:=rf (nsIn K mainGlobals "need_stock_list")
 jR:=rf (nsIn K mainGlobals "need_safe")
 sV:=rf (nsIn K mainGlobals "known")
 jT:=rf (nsIn K mainGlobals "yes_or_no")
 jS:=rf (nsIn K mainGlobals "quotas_of")
 dQ:=rf (nsIn K mainGlobals "answer_growth")
 gI:=rf (nsIn K mainGlobals "answer_told")
 gF:=rf (nsIn K mainGlobals "answer_rule")
 fo:=rf (nsIn K mainGlobals "answer_ruled")
 gD:=rf (nsIn K mainGlobals "answer_next")
 gG:=rf (nsIn K mainGlobals "answer_safe")
 dR:=rf (nsIn K mainGlobals "answer_quotas")
 gC:=rf (nsIn K mainGlobals "answer_most")
 ft:=rf (nsIn K mainGlobals "answer_years")
 gA:=rf (nsIn K mainGlobals "answer_harm")
 fj:=rf (nsIn K mainGlobals "answer_check")
 dS:=rf (nsIn K mainGlobals "answer_refute")
 gE:=rf (nsIn K mainGlobals "answer_play")
 fk:=rf (nsIn K mainGlobals "answer_force")
 dP:=rf (nsIn K mainGlobals "answer_demand")
 gH:=rf (nsIn K mainGlobals "answer_sure")
 gB:=rf (nsIn K mainGlobals "answer_mean")
 fh:=rf (nsIn K mainGlobals "answer_blind")
 dU:=rf (nsIn K mainGlobals "answer_rising")
 gz:=rf (nsIn K mainGlobals "answer_call")
 cx:=rf (nsIn K mainGlobals "answer_or_refusal")
 k6:=rf (nsIn K mainGlobals "answers")
 rB:=rf (nsIn K mainGlobals "SHAPES")
 pY:=qr (dn K (rf (nsIn K mainGlobals "SHAPES"))) 0
 pZ:=qr (dn K (rf (nsIn K mainGlobals "SHAPES"))) 1
 p5:=qr (dn K (rf (nsIn K mainGlobals "SHAPES"))) 2
 p6:=qr (dn K (rf (nsIn K mainGlobals "SHAPES"))) 3
 p7:=qr (dn K (rf (nsIn K mainGlobals "SHAPES"))) 4
 p8:=qr (dn K (rf (nsIn K mainGlobals "SHAPES"))) 5
 qa:=qr (dn K (rf (nsIn K mainGlobals "SHAPES"))) 6
 qb:=qr (dn K (rf (nsIn K mainGlobals "SHAPES"))) 7
 qc:=qr (dn K (rf (nsIn K mainGlobals "SHAPES"))) 8
 qd:=qr (dn K (rf (nsIn K mainGlobals "SHAPES"))) 9
 nV:=qr (dn K (rf (nsIn K mainGlobals "SHAPES"))) 10
 nW:=qr (dn K (rf (nsIn K mainGlobals "SHAPES"))) 11
 nX:=qr (dn K (rf (nsIn K mainGlobals "SHAPES"))) 12
 nY:=qr (dn K (rf (nsIn K mainGlobals "SHAPES"))) 13
 nZ:=qr (dn K (rf (nsIn K mainGlobals "SHAPES"))) 14
 n0:=qr (dn K (rf (nsIn K mainGlobals "SHAPES"))) 15
 n4:=qr (dn K (rf (nsIn K mainGlobals "SHAPES"))) 16
 n6:=qr (dn K (rf (nsIn K mainGlobals "SHAPES"))) 17
 n8:=qr (dn K (rf (nsIn K mainGlobals "SHAPES"))) 18
 fz:=rf (nsIn K mainGlobals "WITHOUT_RULE")
 lS:=rf (nsIn K mainGlobals "ANSWERERS")
structure Raw (K:Frag):Prop extends Tx0 K (aI K) where
 fB:nsIn K mainGlobals "Refusal" = some (some (.ref (aI K).cE))
 qg:nsIn K mainGlobals "NoGrowth" = some (some (.ref (aI K).jD))
 vt:nsIn K mainGlobals "NoRule" = some (some (.ref (aI K).m3))
 mM:nsIn K mainGlobals "OutOfRange" = some (some (.ref (aI K).fV))
 lU:nsIn K mainGlobals "WrongList" = some (some (.ref (aI K).fK))
 eA:nsIn K mainGlobals "NotForThis" = some (some (.ref (aI K).fU))
 pq:nsIn K mainGlobals "NoCatch" = some (some (.ref (aI K).kQ))
 lF:nsIn K mainGlobals "TooManySets" = some (some (.ref (aI K).eK))
 xW:nsIn K mainGlobals "Blind" = some (some (.ref (aI K).cQ))
 vq:nsIn K mainGlobals "Growth" = some (some (.ref (aI K).aU))
 yJ:nsIn K mainGlobals "Rule" = some (some (.ref (aI K).gU))
 tj:nsIn K mainGlobals "Harvest" = some (some (.ref (aI K).aC))
 A9:nsIn K mainGlobals "Call" = some (some (.ref (aI K).mf))
 vv:nsIn K mainGlobals "Reader" = some (some (.ref (aI K).bp))
 ck:nsIn K mainGlobals "need_range" = some (some (.ref (aI K).iJ))
 fN:nsIn K mainGlobals "need_list" = some (some (.ref (aI K).fL))
 g8:nsIn K mainGlobals "marks_of_stocks" = some (some (.ref (aI K).cR))
 rN:nsIn K mainGlobals "set_of" = some (some (.ref (aI K).pd))
 qi:nsIn K mainGlobals "sets_met" = some (some (.ref (aI K).k9))
 lI:nsIn K mainGlobals "sets_before" = some (some (.ref (aI K).gL))
 fX:nsIn K mainGlobals "goes_on_for_ever" = some (some (.ref (aI K).cG))
 kz:nsIn K mainGlobals "can_be_blind" = some (some (.ref (aI K).fu))
 oo:nsIn K mainGlobals "is_rising" = some (some (.ref (aI K).jP))
 lV:nsIn K mainGlobals "is_within" = some (some (.ref (aI K).jQ))
 jo:nsIn K mainGlobals "not_too_low" = some (some (.ref (aI K).gK))
 b9:nsIn K mainGlobals "stocks_leaving" = some (some (.ref (aI K).dB))
 hJ:nsIn K mainGlobals "years_of_stocks" = some (some (.ref (aI K).cV))
 g9:nsIn K mainGlobals "part_to_stay_in" = some (some (.ref (aI K).cT))
 eV:nsIn K mainGlobals "demands_of_stocks" = some (some (.ref (aI K).cy))
 iw:nsIn K mainGlobals "safe_catches" = some (some (.ref (aI K).fv))
 fC:nsIn K mainGlobals "harmful_season" = some (some (.ref (aI K).dy))
 qh:nsIn K mainGlobals "is_worse" = some (some (.ref (aI K).k8))
 eB:nsIn K mainGlobals "row_of_no_years" = some (some (.ref (aI K).cU))
 iP:nsIn K mainGlobals "greatest_known" = some (some (.ref (aI K).dw))
 nA:nsIn K mainGlobals "best_row" = some (some (.ref (aI K).k7))
 mR:nsIn K mainGlobals "sure_later" = some (some (.ref (aI K).iN))
 jB:nsIn K mainGlobals "next_sure_row" = some (some (.ref (aI K).dX))
 mO:nsIn K mainGlobals "mean_later" = some (some (.ref (aI K).iI))
 jA:nsIn K mainGlobals "next_mean_row" = some (some (.ref (aI K).dW))
 mN:nsIn K mainGlobals "case_count" = some (some (.ref (aI K).iH))
 fW:nsIn K mainGlobals "can_be_stayed_in" = some (some (.ref (aI K).cF))
 lH:nsIn K mainGlobals "lowest_rank" = some (some (.ref (aI K).gJ))
 mP:nsIn K mainGlobals "rank_holds" = some (some (.ref (aI K).iL))
 mQ:nsIn K mainGlobals "ranks_hold" = some (some (.ref (aI K).iM))
 iR:nsIn K mainGlobals "run_of_seasons" = some (some (.ref (aI K).dA))
 oj:nsIn K mainGlobals "has_ended" = some (some (.ref (aI K).jO))
 iQ:nsIn K mainGlobals "run_of_catches" = some (some (.ref (aI K).dz))
 bc:nsIn K mainGlobals "need_stock" = some (some (.ref (aI K).iK))
 cX:nsIn K mainGlobals "need_stock_list" = some (some (.ref (aI K).cS))
 jV:nsIn K mainGlobals "need_safe" = some (some (.ref (aI K).jR))
 tw:nsIn K mainGlobals "known" = some (some (.ref (aI K).sV))
 iy:nsIn K mainGlobals "yes_or_no" = some (some (.ref (aI K).jT))
 lW:nsIn K mainGlobals "quotas_of" = some (some (.ref (aI K).jS))
 lG:nsIn K mainGlobals "answer_call" = some (some (.ref (aI K).gz))
 eU:nsIn K mainGlobals "answer_or_refusal" = some (some (.ref (aI K).cx))
 tu:nsIn K mainGlobals "answers" = some (some (.ref (aI K).k6))
 oh:nsIn K mainGlobals "MOST_SETS" = some (some (.int 300 (LY (nsIn K mainGlobals "MOST_SETS"))))
 tq:nsIn K mainGlobals "NO_RANK" = some (some (.int 1001 (LY (nsIn K mainGlobals "NO_RANK"))))
 vw:nsIn K mainGlobals "SHAPES" = some (some (.ref (aI K).rB))
 kx:nsIn K mainGlobals "WITHOUT_RULE" = some (some (.ref (aI K).fz))
 og:nsIn K mainGlobals "ANSWERERS" = some (some (.ref (aI K).lS))
 z9:nsIn K mainGlobals "all" = some none
 Ew:nsIn K mainGlobals "any" = some none
 eO:nsIn K mainGlobals "len" = some none
 we:nsIn K mainGlobals "list" = some none
 uY:nsIn K mainGlobals "max" = some none
 Aa:nsIn K mainGlobals "min" = some none
 fT:nsIn K mainGlobals "range" = some none
 uZ:nsIn K mainGlobals "sorted" = some none
 BF:nsIn K mainGlobals "sum" = some none
 Ex:nsIn K mainGlobals "zip" = some none
 j0:aJ K "__init__" "Refusal.__init__" m6 (aI K).iu
 jw:aJ K "__init__" "NoGrowth.__init__" mj (aI K).gw
 lA:aJ K "__init__" "NoRule.__init__" oH (aI K).jj
 g5:aJ K "__init__" "OutOfRange.__init__" kc (aI K).el
 iG:aJ K "__init__" "WrongList.__init__" kT (aI K).fg
 g4:aJ K "__init__" "NotForThis.__init__" kb (aI K).ej
 jZ:aJ K "__init__" "NoCatch.__init__" m5 (aI K).ir
 fS:aJ K "__init__" "TooManySets.__init__" jI (aI K).dI
 mJ:aJ K "__init__" "Blind.__init__" pQ (aI K).kn
 ju:aJ K "members" "Blind.members" mh (aI K).gu
 fP:aJ K "is_too_low" "Blind.is_too_low" jF (aI K).dF
 g0:aJ K "set_after" "Blind.set_after" ka (aI K).ei
 gZ:aJ K "next_sets" "Blind.next_sets" j9 (aI K).eg
 lz:aJ K "__init__" "Growth.__init__" oG (aI K).ji
 eP:aJ K "all_stocks" "Growth.all_stocks" iW (aI K).c9
 dM:aJ K "season_count" "Growth.season_count" gW (aI K).cA
 eR:aJ K "season_row" "Growth.season_row" iY (aI K).df
 eQ:aJ K "next_stock" "Growth.next_stock" iX (aI K).da
 dY:aJ K "next_stocks" "Growth.next_stocks" ig (aI K).cK
 nT:aJ K "__init__" "Rule.__init__" rb (aI K).lR
 fR:aJ K "may_be_made" "Rule.may_be_made" jH (aI K).dH
 jx:aJ K "of_lefts" "Rule.of_lefts" mm (aI K).gx
 jY:aJ K "__init__" "Harvest.__init__" m4 (aI K).iq
 dN:aJ K "forget_rule" "Harvest.forget_rule" gX (aI K).cB
 dO:aJ K "hold_growth" "Harvest.hold_growth" gY (aI K).cC
 eS:aJ K "hold_rule" "Harvest.hold_rule" iZ (aI K).di
 iE:aJ K "demand" "Harvest.demand" kR (aI K).fc
 d5:aJ K "sure_total" "Harvest.sure_total" ik (aI K).cN
 jv:aJ K "cases" "Harvest.cases" mi (aI K).gv
 dZ:aJ K "mean_total" "Harvest.mean_total" ij (aI K).cM
 nR:aJ K "__init__" "Call.__init__" ra (aI K).lQ
 lB:aJ K "__init__" "Reader.__init__" oI (aI K).jk
 iF:aJ K "is_done" "Reader.is_done" kS (aI K).ff
 d6:aJ K "take_number" "Reader.take_number" il (aI K).cO
 g6:aJ K "take_row" "Reader.take_row" kd (aI K).eu
 fQ:aJ K "take_call" "Reader.take_call" jG (aI K).dG
 cg:aJ K "need_range" "need_range" pT (aI K).iJ
 fI:aJ K "need_list" "need_list" lP (aI K).fL
 d7:aJ K "marks_of_stocks" "marks_of_stocks" ke (aI K).cR
 o8:aJ K "set_of" "set_of" yu (aI K).pd
 mZ:aJ K "sets_met" "sets_met" uh (aI K).k9
 jh:aJ K "sets_before" "sets_before" oX (aI K).gL
 dE:aJ K "goes_on_for_ever" "goes_on_for_ever" jK (aI K).cG
 ic:aJ K "can_be_blind" "can_be_blind" nj (aI K).fu
 lO:aJ K "is_rising" "is_rising" rh (aI K).jP
 jM:aJ K "is_within" "is_within" rl (aI K).jQ
 gy:aJ K "not_too_low" "not_too_low" oW (aI K).gK
 cD:aJ K "stocks_leaving" "stocks_leaving" kZ (aI K).dB
 ee:aJ K "years_of_stocks" "years_of_stocks" kj (aI K).cV
 d8:aJ K "part_to_stay_in" "part_to_stay_in" kh (aI K).cT
 c7:aJ K "demands_of_stocks" "demands_of_stocks" i3 (aI K).cy
 eZ:aJ K "safe_catches" "safe_catches" nq (aI K).fv
 dv:aJ K "harmful_season" "harmful_season" kW (aI K).dy
 mY:aJ K "is_worse" "is_worse" ug (aI K).k8
 d9:aJ K "row_of_no_years" "row_of_no_years" ki (aI K).cU
 eW:aJ K "greatest_known" "greatest_known" kU (aI K).dw
 kO:aJ K "best_row" "best_row" uf (aI K).k7
 j8:aJ K "sure_later" "sure_later" pX (aI K).iN
 gq:aJ K "next_sure_row" "next_sure_row" my (aI K).dX
 j5:aJ K "mean_later" "mean_later" pS (aI K).iI
 gp:aJ K "next_mean_row" "next_mean_row" mx (aI K).dW
 j4:aJ K "case_count" "case_count" pR (aI K).iH
 dD:aJ K "can_be_stayed_in" "can_be_stayed_in" jJ (aI K).cF
 jg:aJ K "lowest_rank" "lowest_rank" oV (aI K).gJ
 j6:aJ K "rank_holds" "rank_holds" pV (aI K).iL
 j7:aJ K "ranks_hold" "ranks_hold" pW (aI K).iM
 eY:aJ K "run_of_seasons" "run_of_seasons" kY (aI K).dA
 lN:aJ K "has_ended" "has_ended" rg (aI K).jO
 eX:aJ K "run_of_catches" "run_of_catches" kX (aI K).dz
 ba:aJ K "need_stock" "need_stock" pU (aI K).iK
 cj:aJ K "need_stock_list" "need_stock_list" kg (aI K).cS
 ie:aJ K "need_safe" "need_safe" rm (aI K).jR
 pM:aJ K "known" "known" AV (aI K).sV
 fJ:aJ K "yes_or_no" "yes_or_no" rp (aI K).jT
 jN:aJ K "quotas_of" "quotas_of" rn (aI K).jS
 gh:aJ K "answer_growth" "answer_growth" mq (aI K).dQ
 jf:aJ K "answer_told" "answer_told" oU (aI K).gI
 jc:aJ K "answer_rule" "answer_rule" oQ (aI K).gF
 ia:aJ K "answer_ruled" "answer_ruled" nh (aI K).fo
 ja:aJ K "answer_next" "answer_next" oO (aI K).gD
 jd:aJ K "answer_safe" "answer_safe" oR (aI K).gG
 gi:aJ K "answer_quotas" "answer_quotas" mr (aI K).dR
 i9:aJ K "answer_most" "answer_most" oN (aI K).gC
 ib:aJ K "answer_years" "answer_years" ni (aI K).ft
 i7:aJ K "answer_harm" "answer_harm" oK (aI K).gA
 hZ:aJ K "answer_check" "answer_check" m8 (aI K).fj
 gj:aJ K "answer_refute" "answer_refute" mv (aI K).dS
 jb:aJ K "answer_play" "answer_play" oP (aI K).gE
 h9:aJ K "answer_force" "answer_force" m9 (aI K).fk
 gg:aJ K "answer_demand" "answer_demand" mn (aI K).dP
 je:aJ K "answer_sure" "answer_sure" oS (aI K).gH
 i8:aJ K "answer_mean" "answer_mean" oM (aI K).gB
 hX:aJ K "answer_blind" "answer_blind" m7 (aI K).fh
 gm:aJ K "answer_rising" "answer_rising" mw (aI K).dU
 i6:aJ K "answer_call" "answer_call" oJ (aI K).gz
 cZ:aJ K "answer_or_refusal" "answer_or_refusal" i0 (aI K).cx
 mW:aJ K "answers" "answers" sU (aI K).k6
theorem Raw.txt {K:Frag} {h:Heap} {mg:Str→Option Value} (R:Raw K) (X:K.In h) (G:h.Ns mainGlobals mg):Txt K mg (aI K) where
 toTx0:=R.toTx0
 fB:=PySem.W.mg_of X G R.fB
 qg:=PySem.W.mg_of X G R.qg
 vt:=PySem.W.mg_of X G R.vt
 mM:=PySem.W.mg_of X G R.mM
 lU:=PySem.W.mg_of X G R.lU
 eA:=PySem.W.mg_of X G R.eA
 pq:=PySem.W.mg_of X G R.pq
 lF:=PySem.W.mg_of X G R.lF
 xW:=PySem.W.mg_of X G R.xW
 vq:=PySem.W.mg_of X G R.vq
 yJ:=PySem.W.mg_of X G R.yJ
 tj:=PySem.W.mg_of X G R.tj
 A9:=PySem.W.mg_of X G R.A9
 vv:=PySem.W.mg_of X G R.vv
 ck:=PySem.W.mg_of X G R.ck
 fN:=PySem.W.mg_of X G R.fN
 g8:=PySem.W.mg_of X G R.g8
 rN:=PySem.W.mg_of X G R.rN
 qi:=PySem.W.mg_of X G R.qi
 lI:=PySem.W.mg_of X G R.lI
 fX:=PySem.W.mg_of X G R.fX
 kz:=PySem.W.mg_of X G R.kz
 oo:=PySem.W.mg_of X G R.oo
 lV:=PySem.W.mg_of X G R.lV
 jo:=PySem.W.mg_of X G R.jo
 b9:=PySem.W.mg_of X G R.b9
 hJ:=PySem.W.mg_of X G R.hJ
 g9:=PySem.W.mg_of X G R.g9
 eV:=PySem.W.mg_of X G R.eV
 iw:=PySem.W.mg_of X G R.iw
 fC:=PySem.W.mg_of X G R.fC
 qh:=PySem.W.mg_of X G R.qh
 eB:=PySem.W.mg_of X G R.eB
 iP:=PySem.W.mg_of X G R.iP
 nA:=PySem.W.mg_of X G R.nA
 mR:=PySem.W.mg_of X G R.mR
 jB:=PySem.W.mg_of X G R.jB
 mO:=PySem.W.mg_of X G R.mO
 jA:=PySem.W.mg_of X G R.jA
 mN:=PySem.W.mg_of X G R.mN
 fW:=PySem.W.mg_of X G R.fW
 lH:=PySem.W.mg_of X G R.lH
 mP:=PySem.W.mg_of X G R.mP
 mQ:=PySem.W.mg_of X G R.mQ
 iR:=PySem.W.mg_of X G R.iR
 oj:=PySem.W.mg_of X G R.oj
 iQ:=PySem.W.mg_of X G R.iQ
 bc:=PySem.W.mg_of X G R.bc
 cX:=PySem.W.mg_of X G R.cX
 jV:=PySem.W.mg_of X G R.jV
 tw:=PySem.W.mg_of X G R.tw
 iy:=PySem.W.mg_of X G R.iy
 lW:=PySem.W.mg_of X G R.lW
 lG:=PySem.W.mg_of X G R.lG
 eU:=PySem.W.mg_of X G R.eU
 tu:=PySem.W.mg_of X G R.tu
 oh:=⟨_,PySem.W.mg_of X G R.oh⟩
 tq:=⟨_,PySem.W.mg_of X G R.tq⟩
 vw:=PySem.W.mg_of X G R.vw
 kx:=PySem.W.mg_of X G R.kx
 og:=PySem.W.mg_of X G R.og
 z9:=PySem.W.ns_none_of X G R.z9
 Ew:=PySem.W.ns_none_of X G R.Ew
 eO:=PySem.W.ns_none_of X G R.eO
 we:=PySem.W.ns_none_of X G R.we
 uY:=PySem.W.ns_none_of X G R.uY
 Aa:=PySem.W.ns_none_of X G R.Aa
 fT:=PySem.W.ns_none_of X G R.fT
 uZ:=PySem.W.ns_none_of X G R.uZ
 BF:=PySem.W.ns_none_of X G R.BF
 Ex:=PySem.W.ns_none_of X G R.Ex
 j0:=R.j0.ok
 jw:=R.jw.ok
 lA:=R.lA.ok
 g5:=R.g5.ok
 iG:=R.iG.ok
 g4:=R.g4.ok
 jZ:=R.jZ.ok
 fS:=R.fS.ok
 mJ:=R.mJ.ok
 ju:=R.ju.ok
 fP:=R.fP.ok
 g0:=R.g0.ok
 gZ:=R.gZ.ok
 lz:=R.lz.ok
 eP:=R.eP.ok
 dM:=R.dM.ok
 eR:=R.eR.ok
 eQ:=R.eQ.ok
 dY:=R.dY.ok
 nT:=R.nT.ok
 fR:=R.fR.ok
 jx:=R.jx.ok
 jY:=R.jY.ok
 dN:=R.dN.ok
 dO:=R.dO.ok
 eS:=R.eS.ok
 iE:=R.iE.ok
 d5:=R.d5.ok
 jv:=R.jv.ok
 dZ:=R.dZ.ok
 nR:=R.nR.ok
 lB:=R.lB.ok
 iF:=R.iF.ok
 d6:=R.d6.ok
 g6:=R.g6.ok
 fQ:=R.fQ.ok
 cg:=R.cg.ok
 fI:=R.fI.ok
 d7:=R.d7.ok
 o8:=R.o8.ok
 mZ:=R.mZ.ok
 jh:=R.jh.ok
 dE:=R.dE.ok
 ic:=R.ic.ok
 lO:=R.lO.ok
 jM:=R.jM.ok
 gy:=R.gy.ok
 cD:=R.cD.ok
 ee:=R.ee.ok
 d8:=R.d8.ok
 c7:=R.c7.ok
 eZ:=R.eZ.ok
 dv:=R.dv.ok
 mY:=R.mY.ok
 d9:=R.d9.ok
 eW:=R.eW.ok
 kO:=R.kO.ok
 j8:=R.j8.ok
 gq:=R.gq.ok
 j5:=R.j5.ok
 gp:=R.gp.ok
 j4:=R.j4.ok
 dD:=R.dD.ok
 jg:=R.jg.ok
 j6:=R.j6.ok
 j7:=R.j7.ok
 eY:=R.eY.ok
 lN:=R.lN.ok
 eX:=R.eX.ok
 ba:=R.ba.ok
 cj:=R.cj.ok
 ie:=R.ie.ok
 pM:=R.pM.ok
 fJ:=R.fJ.ok
 jN:=R.jN.ok
 gh:=R.gh.ok
 jf:=R.jf.ok
 jc:=R.jc.ok
 ia:=R.ia.ok
 ja:=R.ja.ok
 jd:=R.jd.ok
 gi:=R.gi.ok
 i9:=R.i9.ok
 ib:=R.ib.ok
 i7:=R.i7.ok
 hZ:=R.hZ.ok
 gj:=R.gj.ok
 jb:=R.jb.ok
 h9:=R.h9.ok
 gg:=R.gg.ok
 je:=R.je.ok
 i8:=R.i8.ok
 hX:=R.hX.ok
 gm:=R.gm.ok
 i6:=R.i6.ok
 cZ:=R.cZ.ok
 mW:=R.mW.ok
end HG
end
section
namespace HG
open PySem PySem.Spec PyProof.Rows L2
open PySem.W (Frag)
section
variable (P:Program) (w:World) (K:Frag) (mg:Str→Option Value) (base:Heap)
def Fok (k:Nat) (f:Addr) (ps:List Str) (sp:Sp):Prop:=∃ fd,oE P w K mg base (CXr P w) k f fd ps sp∧Binds K fd ps []
end
variable {P:Program} {w:World} {K:Frag} {mg:Str→Option Value} {base:Heap} {A:Ad}
def Jj (n:Int):List (Str×V):=[("number",.int n)]
def But (e:Addr) (H H':Hp):Prop:=∀ b o,b≠e→H b=some o→H' b=some o
def lL (K:Frag) (n:Int) (more:List V):Sp:=fun vs H Q _=>∃ e C,vs = .ref e :: more∧H e=some (.ext (tK e C none))∧uU K C∧aV K C "number" ∧
 ∀ H' dx,H' e=some (.ext (tK e C (some dx)))→H' dx=some (.xd (Jj n))→But e H H'→Q .non H'
theorem xO:ay ["self","number"] ["self","number"] (au m6):=⟨rfl,rfl,rfl,by decide +kernel,rfl,by decide +kernel,by decide +kernel⟩
def Gi (K:Frag):Sp:=fun vs H Q E=>∃ n,lL K n [.int n] vs H Q E
theorem cY (T:Txt K mg A):Fok P w K mg base 1 A.iu ["self","number"] (Gi K):=by
 obtain⟨fd,F⟩:=T.j0
 refine⟨fd,?_,F.b2 fun _ _ _ _ _ _ _ _=>rfl⟩
 refine F.okX xO (fun vs H Q E h=>?_) (fun cdv A' outer s H vs Q E hr h=>?_)
 ·exact zL3 (fun _ _ _=>rfl) h
 ·revert h; refine zG3 fun n e C zz=>?_; obtain⟨rfl,he,xc,na,k⟩:=zz
  refine⟨_,ak (Jt (pv 0) (pv 1) rfl),?_⟩
  refine zV rfl (zV rfl (zE2 e C ⟨rfl,he,xc,na,fun dx hd=>?_⟩))
  have hne:e≠dx:=aq he hd
  refine k _ dx ?_ af fun b o hb q=>?_
  ·rw [aj hne,af]
  ·rw [aj (aq q hd),aj hb]; exact q
theorem w8:ay ["self"] ["self"] (au mj):=⟨rfl,rfl,rfl,by decide +kernel,rfl,by decide +kernel,by decide +kernel⟩
theorem wI (T:Txt K mg A):Fok P w K mg base 2 A.gw ["self"] (lL K (-1) []):=by
 obtain⟨fd,F⟩:=T.jw
 obtain⟨fdR,GR,bR⟩:=cY (P:=P) (w:=w) (base:=base) T
 refine⟨fd,?_,F.b1 fun _ _ _ _ _ _ _=>rfl⟩
 refine F.okX w8 (fun vs H Q E h=>?_) (fun cdv A' outer s H vs Q E hr h=>?_)
 ·exact zL2 (fun _ _=>rfl) h
 ·revert h; refine zG2 fun e C zz=>?_; obtain⟨rfl,he,xc,na,k⟩:=zz
  refine⟨_,ak (aK (nE rfl T.fB T.jE GR hr bR .nil ax.passes (aa (pv 0) (aa (t6 o6 az) ai)))),?_⟩
  exact zX rfl (zX rfl ⟨-1,e,C,rfl,he,xc,na,fun H' dx h1 h2 h3=>k H' dx h1 h2 h3⟩)
theorem zq:ay ["self"] ["self"] (au oH):=⟨rfl,rfl,rfl,by decide +kernel,rfl,by decide +kernel,by decide +kernel⟩
theorem yR (T:Txt K mg A):Fok P w K mg base 2 A.jj ["self"] (lL K (-2) []):=by
 obtain⟨fd,F⟩:=T.lA
 obtain⟨fdR,GR,bR⟩:=cY (P:=P) (w:=w) (base:=base) T
 refine⟨fd,?_,F.b1 fun _ _ _ _ _ _ _=>rfl⟩
 refine F.okX zq (fun vs H Q E h=>?_) (fun cdv A' outer s H vs Q E hr h=>?_)
 ·exact zL2 (fun _ _=>rfl) h
 ·revert h; refine zG2 fun e C zz=>?_; obtain⟨rfl,he,xc,na,k⟩:=zz
  refine⟨_,ak (aK (nE rfl T.fB T.jE GR hr bR .nil ax.passes (aa (pv 0) (aa (t6 o6 az) ai)))),?_⟩
  exact zX rfl (zX rfl ⟨-2,e,C,rfl,he,xc,na,fun H' dx h1 h2 h3=>k H' dx h1 h2 h3⟩)
theorem uK:ay ["self"] ["self"] (au kc):=⟨rfl,rfl,rfl,by decide +kernel,rfl,by decide +kernel,by decide +kernel⟩
theorem uz (T:Txt K mg A):Fok P w K mg base 2 A.el ["self"] (lL K (-3) []):=by
 obtain⟨fd,F⟩:=T.g5
 obtain⟨fdR,GR,bR⟩:=cY (P:=P) (w:=w) (base:=base) T
 refine⟨fd,?_,F.b1 fun _ _ _ _ _ _ _=>rfl⟩
 refine F.okX uK (fun vs H Q E h=>?_) (fun cdv A' outer s H vs Q E hr h=>?_)
 ·exact zL2 (fun _ _=>rfl) h
 ·revert h; refine zG2 fun e C zz=>?_; obtain⟨rfl,he,xc,na,k⟩:=zz
  refine⟨_,ak (aK (nE rfl T.fB T.jE GR hr bR .nil ax.passes (aa (pv 0) (aa (t6 o6 az) ai)))),?_⟩
  exact zX rfl (zX rfl ⟨-3,e,C,rfl,he,xc,na,fun H' dx h1 h2 h3=>k H' dx h1 h2 h3⟩)
theorem vS:ay ["self"] ["self"] (au kT):=⟨rfl,rfl,rfl,by decide +kernel,rfl,by decide +kernel,by decide +kernel⟩
theorem vG (T:Txt K mg A):Fok P w K mg base 2 A.fg ["self"] (lL K (-4) []):=by
 obtain⟨fd,F⟩:=T.iG
 obtain⟨fdR,GR,bR⟩:=cY (P:=P) (w:=w) (base:=base) T
 refine⟨fd,?_,F.b1 fun _ _ _ _ _ _ _=>rfl⟩
 refine F.okX vS (fun vs H Q E h=>?_) (fun cdv A' outer s H vs Q E hr h=>?_)
 ·exact zL2 (fun _ _=>rfl) h
 ·revert h; refine zG2 fun e C zz=>?_; obtain⟨rfl,he,xc,na,k⟩:=zz
  refine⟨_,ak (aK (nE rfl T.fB T.jE GR hr bR .nil ax.passes (aa (pv 0) (aa (t6 o6 az) ai)))),?_⟩
  exact zX rfl (zX rfl ⟨-4,e,C,rfl,he,xc,na,fun H' dx h1 h2 h3=>k H' dx h1 h2 h3⟩)
theorem uJ:ay ["self"] ["self"] (au kb):=⟨rfl,rfl,rfl,by decide +kernel,rfl,by decide +kernel,by decide +kernel⟩
theorem fZ (T:Txt K mg A):Fok P w K mg base 2 A.ej ["self"] (lL K (-6) []):=by
 obtain⟨fd,F⟩:=T.g4
 obtain⟨fdR,GR,bR⟩:=cY (P:=P) (w:=w) (base:=base) T
 refine⟨fd,?_,F.b1 fun _ _ _ _ _ _ _=>rfl⟩
 refine F.okX uJ (fun vs H Q E h=>?_) (fun cdv A' outer s H vs Q E hr h=>?_)
 ·exact zL2 (fun _ _=>rfl) h
 ·revert h; refine zG2 fun e C zz=>?_; obtain⟨rfl,he,xc,na,k⟩:=zz
  refine⟨_,ak (aK (nE rfl T.fB T.jE GR hr bR .nil ax.passes (aa (pv 0) (aa (t6 o6 az) ai)))),?_⟩
  exact zX rfl (zX rfl ⟨-6,e,C,rfl,he,xc,na,fun H' dx h1 h2 h3=>k H' dx h1 h2 h3⟩)
theorem xN:ay ["self"] ["self"] (au m5):=⟨rfl,rfl,rfl,by decide +kernel,rfl,by decide +kernel,by decide +kernel⟩
theorem xD (T:Txt K mg A):Fok P w K mg base 2 A.ir ["self"] (lL K (-7) []):=by
 obtain⟨fd,F⟩:=T.jZ
 obtain⟨fdR,GR,bR⟩:=cY (P:=P) (w:=w) (base:=base) T
 refine⟨fd,?_,F.b1 fun _ _ _ _ _ _ _=>rfl⟩
 refine F.okX xN (fun vs H Q E h=>?_) (fun cdv A' outer s H vs Q E hr h=>?_)
 ·exact zL2 (fun _ _=>rfl) h
 ·revert h; refine zG2 fun e C zz=>?_; obtain⟨rfl,he,xc,na,k⟩:=zz
  refine⟨_,ak (aK (nE rfl T.fB T.jE GR hr bR .nil ax.passes (aa (pv 0) (aa (t6 o6 az) ai)))),?_⟩
  exact zX rfl (zX rfl ⟨-7,e,C,rfl,he,xc,na,fun H' dx h1 h2 h3=>k H' dx h1 h2 h3⟩)
theorem tW:ay ["self"] ["self"] (au jI):=⟨rfl,rfl,rfl,by decide +kernel,rfl,by decide +kernel,by decide +kernel⟩
theorem tP (T:Txt K mg A):Fok P w K mg base 2 A.dI ["self"] (lL K (-8) []):=by
 obtain⟨fd,F⟩:=T.fS
 obtain⟨fdR,GR,bR⟩:=cY (P:=P) (w:=w) (base:=base) T
 refine⟨fd,?_,F.b1 fun _ _ _ _ _ _ _=>rfl⟩
 refine F.okX tW (fun vs H Q E h=>?_) (fun cdv A' outer s H vs Q E hr h=>?_)
 ·exact zL2 (fun _ _=>rfl) h
 ·revert h; refine zG2 fun e C zz=>?_; obtain⟨rfl,he,xc,na,k⟩:=zz
  refine⟨_,ak (aK (nE rfl T.fB T.jE GR hr bR .nil ax.passes (aa (pv 0) (aa (t6 o6 az) ai)))),?_⟩
  exact zX rfl (zX rfl ⟨-8,e,C,rfl,he,xc,na,fun H' dx h1 h2 h3=>k H' dx h1 h2 h3⟩)
end HG
end
section
namespace HG
open PySem PySem.Spec PyProof.Rows L2
open PySem.W (Frag)
variable {P:Program} {w:World} {K:Frag} {mg:Str→Option Value} {base:Heap} {A:Ad}
def Ref (K:Frag) (A:Ad) (n:Int) (H:Hp) (E:XK):Prop:=∀ C dx H',uU K C→w9 K C A.cE=true→aV K C "number"→H' dx=some (.xd (Jj n))→aE H H'→E (.ref C) (some dx) H'
theorem eI {X:Cx} {C:Addr} {n:Int} {E:XK} {D:Ends} {σ:L2.St} {H:Hp} (xc:uU X.K C) (sx:w9 X.K C A.cE=true) (na:aV X.K C "number") (h:Ref X.K A n H E) :
  D8 X E (D5 X C (lL X.K n []) [] E CN) D σ H:=by
 refine⟨by show 0≤1000; decide,fun x hx h0=>⟨x,C,rfl,af,xc,na,fun H' dx h1 h2 h3=>⟨rfl,x,C,dx,rfl,h1,xc.xin,h0,h C dx _ xc sx na ?_ fun b o q=>?_⟩⟩⟩
 ·rw [yx (fun z=>by rw [z,h1] at h2; cases h2)]; exact h2
 ·have hb:b≠x:=aq q hx
  rw [yx hb]
  exact h3 b o hb (by rw [aj hb]; exact q)
theorem zW:ay ["number","first","last"] ["number","first","last"] (au pT):=⟨rfl,rfl,rfl,by decide +kernel,rfl,by decide +kernel,by decide +kernel⟩
def JK (K:Frag) (A:Ad):Sp:=fun vs H Q E=>∃ n f l:Int,vs=[.int n,.int f,.int l]∧(f≤n∧n≤l→Q .non H)∧(¬ (f≤n∧n≤l)→Ref K A (-3) H E)
theorem eM (T:Txt K mg A):Fok P w K mg base 4 A.iJ ["number","first","last"] (JK K A):=by
 obtain⟨fd,F⟩:=T.cg
 obtain⟨fdO,GO,bO⟩:=uz (P:=P) (w:=w) (base:=base) T
 refine⟨fd,?_,F.b3 fun _ _ _ _ _ _ _ _ _=>rfl⟩
 refine F.okX zW (fun vs H Q E h=>?_) (fun cdv A' outer s H vs Q E hr h=>?_)
 ·exact zL3 (fun _ _ _=>rfl) h
 ·revert h; refine zG3 fun n f l zz=>?_; obtain⟨rfl,h1,h2⟩:=zz
  refine⟨_,ak (iC (PW.pt (EX (bx (pz (pv 0) (pv 1))) (Bi (bx (qD (pv 0) (pv 2))))))
   (ak (fG (dC T.z6 GO hr rfl T.mM bO .nil ax.passes) ax rfl)) cu),?_⟩
  refine zX rfl (zX rfl ⟨n,f,rfl,rfl,zX rfl ?_⟩)
  refine ko (fun c1=>?_) fun c1=>?_
  ·have c1:n < f:=of_decide_eq_true c1
   exact nP (eI T.ue T.kN T.lZ (h2 (by omega)))
  ·have c1:¬ n < f:=fun z=>c1 (decide_eq_true z)
   refine zX rfl (zX rfl ⟨n,l,rfl,rfl,zX rfl ?_⟩)
   refine ko (fun c2=>?_) fun c2=>?_
   ·have c2:l < n:=of_decide_eq_true c2
    exact eI T.ue T.kN T.lZ (h2 (by omega))
   ·have c2:¬ l < n:=fun z=>c2 (decide_eq_true z)
    exact h1 (by omega)
theorem vV:ay ["members","shortest","longest","first","last","member"] ["members","shortest","longest","first","last"] (au lP):=⟨rfl,rfl,rfl,by decide +kernel,rfl,by decide +kernel,by decide +kernel⟩
def KW (K:Frag) (A:Ad):Sp:=fun vs H Q E=>∃ (a:Addr) (ns:List Int) (sh lo f l:Int),vs=[.ref a,.int sh,.int lo,.int f,.int l]∧SqL K H a (ns.map V.int) ∧
 ((sh≤ns.length∧(ns.length:Int)≤lo)∧(∀ x∈ns,f≤x∧x≤l)→Q .non H)∧(¬ ((sh≤ns.length∧(ns.length:Int)≤lo)∧∀ x∈ns,f≤x∧x≤l)→Ref K A (-4) H E)
theorem Hn {ns:List Int} {i:Nat} {y:V} (h:(ns.map V.int)[i]?=some y):∃ z,ns[i]?=some z∧y=V.int z:=by
 rw [List.getElem?_map] at h
 cases e:ns[i]? with
 | none=>rw [e] at h; cases h
 | some z=>rw [e] at h; exact⟨z,rfl,(Option.some.inj h).symm⟩
theorem eL {α:Type} {l:List α} {i:Nat} {z x:α} (h:l[i]?=some z) (m:x∈l.take (i + 1)):x∈l.take i∨x=z:=by
 rw [List.take_add_one,h] at m
 simpa using m
theorem mS (T:Txt K mg A):Fok P w K mg base 4 A.fL ["members","shortest","longest","first","last"] (KW K A):=by
 obtain⟨fd,F⟩:=T.fI
 obtain⟨fdO,GO,bO⟩:=vG (P:=P) (w:=w) (base:=base) T
 refine⟨fd,?_,F.b5 fun _ _ _ _ _ _ _ _ _ _ _=>rfl⟩
 refine F.okX vV (fun vs H Q E h=>?_) (fun cdv A' outer s H vs Q E hr h=>?_)
 ·exact zL6 (fun _ _ _ _ _ _=>rfl) h
 ·revert h; refine zG6 fun a ns sh lo f l zz=>?_; obtain⟨rfl,hS,h1,h2⟩:=zz
  have R:∀ {D:Ends} {σ:L2.St},¬ ((sh≤ns.length∧(ns.length:Int)≤lo)∧∀ x∈ns,f≤x∧x≤l)→D8 (AU (CXr P w) P w K mg base ["members","shortest","longest","first","last","member"] "need_list" (au lP) A.fL cdv A' outer s H E) E (D5 (AU (CXr P w) P w K mg base ["members","shortest","longest","first","last","member"] "need_list" (au lP) A.fL cdv A' outer s H E) A.fK (lL K (-4) []) [] E CN) D σ H:=fun q =>
   eI T.BB T.sP T.tN (h2 q)
  refine⟨_,ae (iC (PW.pt (EX (bx (pz (aO aN (by rfl) T.eO PySem.boot_len (aa (pv 0) ai)) (pv 1))) (Bi (bx (qD (aO aN (by rfl) T.eO PySem.boot_len (aa (pv 0) ai)) (pv 2))))))
   (ak (fG (dC T.wc GO hr rfl T.lU bO .nil ax.passes) ax rfl)) cu)
   (ak (iB PassesOwn.leaving rfl (aY (pv 0)) (aL (i:=5) vV.nd rfl (Or.inl rfl))
    (ak (iC (PW.pt (EX (bx (pz (pv 5) (pv 3))) (Bi (bx (qD (pv 5) (pv 4))))))
     (ak (fG (dC T.wc GO hr rfl T.lU bO .nil ax.passes) ax rfl)) cu)))),?_⟩
  refine zX rfl ⟨a,zX rfl ⟨.inl hS,zX rfl (zO (zX rfl ?_))⟩⟩
  rw [List.length_map]
  refine ko (fun c1=>?_) fun c1=>?_
  ·have c1:(ns.length:Int) < sh:=of_decide_eq_true c1
   exact nP (R fun q=>by omega)
  ·have c1:¬ (ns.length:Int) < sh:=fun z=>c1 (decide_eq_true z)
   refine zX rfl ⟨a,zX rfl ⟨.inl hS,zX rfl (zO (zX rfl ?_))⟩⟩
   rw [List.length_map]
   refine ko (fun c2=>?_) fun c2=>?_
   ·have c2:lo < (ns.length:Int):=of_decide_eq_true c2
    exact R fun q=>by omega
   ·have c2:¬ lo < (ns.length:Int):=fun z=>c2 (decide_eq_true z)
    refine⟨_,rfl,a,rfl,⟨_,hS⟩,jl (K:=K) (a:=a) (xs:=ns.map V.int) (fun i σ H'=>H'=H∧(∃ v,σ=[some (.ref a),some (.int sh),some (.int lo),some (.int f),some (.int l),v])∧∀ x∈ns.take i,f≤x∧x≤l)
     ⟨rfl,⟨none,rfl⟩,fun x hx=>by simp at hx⟩ (fun i σ H' _ hp=>by rw [hp.1]; exact hS) ?_ ?_⟩
    ·rintro i y σ H' hi ⟨rfl,⟨v,rfl⟩,hp⟩
     obtain⟨z,hz,rfl⟩:=Hn hi
     have hm:z∈ns:=List.mem_of_getElem? hz
     refine zX rfl (zX rfl (zO (zX rfl ?_)))
     refine ko (fun c3=>?_) fun c3=>?_
     ·have c3:z < f:=of_decide_eq_true c3
      exact nP (R fun q=>by have:=(q.2 z hm).1; omega)
     ·have c3:¬ z < f:=fun y=>c3 (decide_eq_true y)
      refine zX rfl (zX rfl (zO (zX rfl ?_)))
      refine ko (fun c4=>?_) fun c4=>?_
      ·have c4:l < z:=of_decide_eq_true c4
       exact R fun q=>by have:=(q.2 z hm).2; omega
      ·have c4:¬ l < z:=fun y=>c4 (decide_eq_true y)
       refine⟨rfl,⟨_,rfl⟩,fun x hx=>?_⟩
       rcases eL hz hx with hx | rfl
       ·exact hp x hx
       ·omega
    ·rintro σ H' ⟨rfl,_,hp⟩
     rw [List.length_map,List.take_length] at hp
     exact h1 ⟨by omega,hp⟩
end HG
end
section
namespace HG
open PySem PySem.Spec PyProof.Rows L2
open PySem.W (Frag)
variable {P:Program} {w:World} {K:Frag} {mg:Str→Option Value} {base:Heap} {A:Ad}
def rdF (a:Addr) (i:Int):List (Str×V):=[("numbers",.ref a),("place",.int i)]
structure jX (K:Frag) (A:Ad) (H:Hp) (p a:Addr) (ns:List Int) (i:Nat):Prop where
 ex:∃ dx,H p=some (.ins A.bp dx (rdF a i))∧SqL K H a (ns.map V.int)∧(a≠p∨∀ H1,SqL K H1 a (ns.map V.int))
theorem zr:ay ["self","numbers"] ["self","numbers"] (au oI):=⟨rfl,rfl,rfl,by decide +kernel,rfl,by decide +kernel,by decide +kernel⟩
def By (A:Ad):Sp:=fun vs H Q _=>∃ p dx a,vs=[.ref p,.ref a]∧H p=some (.ins A.bp dx [])∧Q .non (upd H p (.ins A.bp dx (rdF a 0)))
theorem yS (T:Txt K mg A):Fok P w K mg base 1 A.jk ["self","numbers"] (By A):=by
 obtain⟨fd,F⟩:=T.lB
 refine⟨fd,?_,F.b2 fun _ _ _ _ _ _ _ _=>rfl⟩
 refine F.okX zr (fun vs H Q E h=>?_) (fun cdv A' outer s H vs Q E hr h=>?_)
 ·exact zL3 (fun _ _ _=>rfl) h
 ·revert h; refine zG3 fun p dx a zz=>?_; obtain⟨rfl,hp,k⟩:=zz
  refine⟨_,ae (bU (pv 0) (pv 1) rfl) (ak (bU (pv 0) az rfl)),?_⟩
  refine zV rfl (zV rfl (zS hp T.bw T.hU (by show 0 < 1000; decide) ?_))
  refine zV rfl (zS af T.bw T.bV (by show 1 < 1000; decide) ?_)
  show Q .non _
  rw [bo]
  exact k
theorem vR:ay ["self"] ["self"] (au kS):=⟨rfl,rfl,rfl,by decide +kernel,rfl,by decide +kernel,by decide +kernel⟩
def Il (K:Frag) (A:Ad):Sp:=fun vs H Q _=>∃ p a ns i,vs=[.ref p]∧jX K A H p a ns i∧Q (.bl (decide (ns.length≤i))) H
theorem vE (T:Txt K mg A):Fok P w K mg base 1 A.ff ["self"] (Il K A):=by
 obtain⟨fd,F⟩:=T.iF
 refine⟨fd,?_,F.b1 fun _ _ _ _ _ _ _=>rfl⟩
 refine F.okX vR (fun vs H Q E h=>?_) (fun cdv A' outer s H vs Q E hr h=>?_)
 ·exact zL4 (fun _ _ _ _=>rfl) h
 ·revert h; refine zG4 fun p a ns i zz=>?_; obtain⟨rfl,⟨dx,hp,hS,_⟩,k⟩:=zz
  refine⟨_,ak (aF (lx (J3 (aw (pv 0) rfl) (aO aN (by rfl) T.eO PySem.boot_len (aa (aw (pv 0) rfl) ai))))),?_⟩
  refine zV rfl (zF hp T.bw T.bV rfl (zV rfl (zF hp T.bw T.hU rfl (zE2 a _ ⟨rfl,.inl hS,zO ?_⟩))))
  rw [List.length_map]
  show Q (.bl (decide ((ns.length:Int)≤(i:Int)))) H
  rw [show decide ((ns.length:Int)≤(i:Int))=decide (ns.length≤i) from by simp]
  exact k
theorem kM:ay ["self","number"] ["self"] (au il):=⟨rfl,rfl,rfl,by decide +kernel,rfl,by decide +kernel,by decide +kernel⟩
def moved (A:Ad) (H:Hp) (p dx a:Addr) (i:Nat):Hp:=upd H p (.ins A.bp dx (rdF a i))
theorem jX.moved {H:Hp} {p dx a:Addr} {ns:List Int} {j:Nat} (hS:SqL K H a (ns.map V.int)) (ha:a≠p∨∀ H1,SqL K H1 a (ns.map V.int)):jX K A (moved A H p dx a j) p a ns j:=by
 refine⟨dx,af,?_,ha⟩
 rcases ha with ha | ha
 case inr=>exact ha _
 rcases hS with (h | ⟨o,h⟩) | h
 ·exact .inl (.inl (by unfold HG.moved; rw [aj ha]; exact h))
 ·exact .inl (.inr ⟨o,by unfold HG.moved; rw [aj ha]; exact h⟩)
 ·exact .inr h
def Bz (K:Frag) (A:Ad):Sp:=fun vs H Q _=>∃ p a ns i z,vs=[.ref p]∧jX K A H p a ns i∧ns[i]?=some z∧∀ H',jX K A H' p a ns (i + 1)→But p H H'→(∀ b,b≠p→H b=none→H' b=none)→Q (.int z) H'
theorem qV (T:Txt K mg A):Fok P w K mg base 1 A.cO ["self"] (Bz K A):=by
 obtain⟨fd,F⟩:=T.d6
 refine⟨fd,?_,F.b1 fun _ _ _ _ _ _ _=>rfl⟩
 refine F.okX kM (fun vs H Q E h=>?_) (fun cdv A' outer s H vs Q E hr h=>?_)
 ·exact zL5 (fun _ _ _ _ _=>rfl) h
 ·revert h; refine zG5 fun p a ns i z zz=>?_; obtain⟨rfl,⟨dx,hp,hS,ha⟩,hz,k⟩:=zz
  refine⟨_,ae (aD (i:=1) kM.nd rfl (Or.inl rfl) (aS aG (aw (pv 0) rfl) (aw (pv 0) rfl) (fun _ _=>rfl)))
   (ae (bU (pv 0) (bj iz (aw (pv 0) rfl) az) rfl) (ak (aF (pv 1)))),?_⟩
  refine zV rfl (zF hp T.bw T.hU rfl (zV rfl (zF hp T.bw T.bV rfl (zE4 a _ _ _ ⟨rfl,rfl,hS,bg (v:=.int z) (by rw [List.getElem?_map,hz]<;>rfl),?_⟩))))
  refine zV rfl (zF hp T.bw T.bV rfl (zO (zV rfl (zS hp T.bw T.bV (by show 2 < 1000; decide) ?_))))
  refine zV rfl ?_
  refine k (moved A H p dx a (i + 1)) (jX.moved hS ha) (fun b o hb q=>?_) fun b hb q=>?_
  ·unfold moved; rw [aj hb]; exact q
  ·unfold moved; rw [aj hb]; exact q
end HG
end
section
namespace HG
open PySem PySem.Spec PyProof.Rows L2
open PySem.W (Frag)
variable {P:Program} {w:World} {K:Frag} {mg:Str→Option Value} {base:Heap} {A:Ad}
theorem Hf (ns:List Int) (i m:Nat):wm (ns.map V.int) (some (i:Int)) (some ((i:Int) + (m:Int)))=((ns.drop i).take m).map V.int:=by
 unfold wm
 rw [HT.tH,show ((i:Int) + (m:Int))=((i + m:Nat):Int) from by omega,HT.tH,List.length_map,List.map_take,List.map_drop]
 by_cases h:i≤ns.length
 ·rw [Nat.min_eq_left h]
  by_cases h2:i + m≤ns.length
  ·rw [Nat.min_eq_left h2,show i + m - i=m from by omega]
  ·rw [Nat.min_eq_right (by omega)]
   rw [List.take_of_length_le (by rw [List.length_drop,List.length_map]; omega),List.take_of_length_le (by rw [List.length_drop,List.length_map]; omega)]
 ·rw [Nat.min_eq_right (by omega),Nat.min_eq_right (by omega),List.drop_of_length_le (by simp),List.drop_of_length_le (by rw [List.length_map]; omega)]
  simp
theorem nH:ay ["self","size","row"] ["self","size"] (au kd):=⟨rfl,rfl,rfl,by decide +kernel,rfl,by decide +kernel,by decide +kernel⟩
def Gj (K:Frag) (A:Ad):Sp:=fun vs H Q _=>∃ (p a:Addr) (ns:List Int) (i m:Nat),vs=[.ref p,.int m]∧jX K A H p a ns i ∧
 ∀ H' q,jX K A H' p a ns (i + m)→H' q=some (.lst (((ns.drop i).take m).map V.int))→H q=none→But p H H'→Q (.ref q) H'
theorem uA (T:Txt K mg A):Fok P w K mg base 1 A.eu ["self","size"] (Gj K A):=by
 obtain⟨fd,F⟩:=T.g6
 refine⟨fd,?_,F.b2 fun _ _ _ _ _ _ _ _=>rfl⟩
 refine F.okX nH (fun vs H Q E h=>?_) (fun cdv A' outer s H vs Q E hr h=>?_)
 ·exact zL5 (fun _ _ _ _ _=>rfl) h
 ·revert h; refine zG5 fun p a ns i m zz=>?_; obtain⟨rfl,⟨dx,hp,hS,ha⟩,k⟩:=zz
  refine⟨_,ae (aD (i:=2) nH.nd rfl (Or.inl rfl) (zi Bs (aw (pv 0) rfl) (tE (aw (pv 0) rfl)) (tE (bj iz (aw (pv 0) rfl) (pv 1)))))
   (ae (bU (pv 0) (bj iz (aw (pv 0) rfl) (pv 1)) rfl) (ak (aF (pv 2)))),?_⟩
  refine⟨_,rfl,p,_,dx,_,_,rfl,hp,T.bw,T.hU,rfl,_,rfl,p,_,dx,_,_,rfl,hp,T.bw,T.bV,rfl,_,rfl,_,rfl,p,_,dx,_,_,rfl,hp,T.bw,T.bV,rfl,_,rfl,_,_,rfl,rfl,_,rfl,
   a,_,rfl,hS,fun q hq=>?_⟩
  have hpq:p≠q:=aq hp hq
  have hp2:(upd H q (.lst (wm (ns.map V.int) (some (i:Int)) (some ((i:Int) + (m:Int)))))) p=some (.ins A.bp dx (rdF a i)):=by rw [aj hpq]; exact hp
  have hS2:SqL K (upd H q (.lst (wm (ns.map V.int) (some (i:Int)) (some ((i:Int) + (m:Int)))))) a (ns.map V.int):=aE.seq (fun b o e=>by rw [aj (aq e hq)]; exact e) hS
  refine zV rfl (zF hp2 T.bw T.bV rfl (zV rfl (zO (zV rfl (zS hp2 T.bw T.bV (by show 2 < 1000; decide) ?_)))))
  refine zV rfl ?_
  refine k (moved A (upd H q (.lst (wm (ns.map V.int) (some (i:Int)) (some ((i:Int) + (m:Int)))))) p dx a (i + m)) q (jX.moved hS2 ha) ?_ hq fun b o hb e=>?_
  ·unfold moved; rw [aj (Ne.symm hpq),af,Hf]
  ·unfold moved; rw [aj hb,aj (aq e hq)]; exact e
def Ha (p:Int) (lw lr:Addr):List (Str×V):=[("number",.int p),("wholes",.ref lw),("rows",.ref lr)]
theorem Bl:ay ["self","number","wholes","rows"] ["self","number","wholes","rows"] (au ra):=⟨rfl,rfl,rfl,by decide +kernel,rfl,by decide +kernel,by decide +kernel⟩
def DP (A:Ad):Sp:=fun vs H Q _=>∃ x dx p lw lr,vs=[.ref x,.int p,.ref lw,.ref lr]∧H x=some (.ins A.mf dx [])∧Q .non (upd H x (.ins A.mf dx (Ha p lw lr)))
theorem Bc (T:Txt K mg A):Fok P w K mg base 1 A.lQ ["self","number","wholes","rows"] (DP A):=by
 obtain⟨fd,F⟩:=T.nR
 refine⟨fd,?_,F.b4 fun _ _ _ _ _ _ _ _ _ _=>rfl⟩
 refine F.okX Bl (fun vs H Q E h=>?_) (fun cdv A' outer s H vs Q E hr h=>?_)
 ·exact zL5 (fun _ _ _ _ _=>rfl) h
 ·revert h; refine zG5 fun x dx p lw lr zz=>?_; obtain⟨rfl,hx,k⟩:=zz
  refine⟨_,ae (bU (pv 0) (pv 1) rfl) (ae (bU (pv 0) (pv 2) rfl) (ak (bU (pv 0) (pv 3) rfl))),?_⟩
  refine zV rfl (zV rfl (zS hx T.aZ T.kD (by show 0 < 1000; decide) ?_))
  refine zV rfl (zV rfl (zS af T.aZ T.aM (by show 1 < 1000; decide) ?_))
  refine zV rfl (zV rfl (zS af T.aZ T.eE (by show 2 < 1000; decide) ?_))
  show Q .non _
  rw [bo,bo]
  exact k
inductive Rows (H:Hp):List Addr→List (List Int)→Prop
 | nil:Rows H [] []
 | cons {a:Addr} {as:List Addr} {x:List Int} {xs:List (List Int)}:H a=some (.lst (x.map V.int))→Rows H as xs→Rows H (a :: as) (x :: xs)
theorem Rows.keep {H H':Hp}:∀ {as:List Addr} {xs:List (List Int)},Rows H as xs→(∀ b x,H b=some (.lst x)→b∈as→H' b=some (.lst x))→Rows H' as xs
 | _,_,.nil,_=>.nil
 | _,_,.cons h t,k=>.cons (k _ _ h List.mem_cons_self) (t.keep fun b x e m=>k b x e (List.mem_cons_of_mem _ m))
theorem Rows.snoc {H:Hp} {a:Addr} {x:List Int} (h:H a=some (.lst (x.map V.int))):∀ {as:List Addr} {xs:List (List Int)},Rows H as xs→Rows H (as ++ [a]) (xs ++ [x])
 | _,_,.nil=>.cons h .nil
 | _,_,.cons e t=>.cons e (t.snoc h)
theorem Rows.length {H:Hp}:∀ {as:List Addr} {xs:List (List Int)},Rows H as xs→as.length=xs.length
 | _,_,.nil=>rfl
 | _,_,.cons _ t=>by rw [List.length_cons,List.length_cons,t.length]
structure AK (A:Ad) (H:Hp) (a:Addr) (p:Int) (ws:List Int) (xs:List (List Int)):Prop where
 ex:∃ dx lw lr rs,H a=some (.ins A.mf dx (Ha p lw lr))∧H lw=some (.lst (ws.map V.int))∧H lr=some (.lst (rs.map V.ref))∧Rows H rs xs
end HG
end
section
namespace HG
open PySem PySem.Spec PyProof.Rows L2
open PySem.W (Frag)
variable {P:Program} {w:World} {K:Frag} {mg:Str→Option Value} {base:Heap} {A:Ad}
theorem mG:ay ["self","number","shape","wholes","rows","size"] ["self"] (au jG):=⟨rfl,rfl,rfl,by decide +kernel,rfl,by decide +kernel,by decide +kernel⟩
def shapes (A:Ad):List (Int×Value):=[(0,.ref A.pY),(1,.ref A.pZ),(2,.ref A.p5),(3,.ref A.p6),(4,.ref A.p7),(5,.ref A.p8),(6,.ref A.qa),(7,.ref A.qb),(8,.ref A.qc),(9,.ref A.qd),
 (10,.ref A.nV),(11,.ref A.nW),(12,.ref A.nX),(13,.ref A.nY),(14,.ref A.nZ),(15,.ref A.n0),(16,.ref A.n4),(17,.ref A.n6),(18,.ref A.n8)]
theorem Ga (T:Txt K mg A) {p:Int} {n k:Nat} (h:PyVbecag.shape p=some (n,k)):∃ t,look (shapes A) p=some (.ref t)∧iD K t=some [.int n,.int k]:=by
 unfold PyVbecag.shape at h
 by_cases e0:p=0
 ·rw [if_pos e0] at h; cases h; subst e0; exact zX rfl T.Ea
 rw [if_neg e0] at h
 by_cases e1:p=1
 ·rw [if_pos e1] at h; cases h; subst e1; exact zX rfl T.Eb
 rw [if_neg e1] at h
 by_cases e2:p=2
 ·rw [if_pos e2] at h; cases h; subst e2; exact zX rfl T.Ec
 rw [if_neg e2] at h
 by_cases e3:p=3
 ·rw [if_pos e3] at h; cases h; subst e3; exact zX rfl T.Ed
 rw [if_neg e3] at h
 by_cases e4:p=4
 ·rw [if_pos e4] at h; cases h; subst e4; exact zX rfl T.Ee
 rw [if_neg e4] at h
 by_cases e5:p=5
 ·rw [if_pos e5] at h; cases h; subst e5; exact zX rfl T.Ef
 rw [if_neg e5] at h
 by_cases e6:p=6
 ·rw [if_pos e6] at h; cases h; subst e6; exact zX rfl T.Eg
 rw [if_neg e6] at h
 by_cases e7:p=7
 ·rw [if_pos e7] at h; cases h; subst e7; exact zX rfl T.Eh
 rw [if_neg e7] at h
 by_cases e8:p=8
 ·rw [if_pos e8] at h; cases h; subst e8; exact zX rfl T.Ei
 rw [if_neg e8] at h
 by_cases e9:p=9
 ·rw [if_pos e9] at h; cases h; subst e9; exact zX rfl T.Ej
 rw [if_neg e9] at h
 by_cases e10:p=10
 ·rw [if_pos e10] at h; cases h; subst e10; exact zX rfl T.CP
 rw [if_neg e10] at h
 by_cases e11:p=11
 ·rw [if_pos e11] at h; cases h; subst e11; exact zX rfl T.CQ
 rw [if_neg e11] at h
 by_cases e12:p=12
 ·rw [if_pos e12] at h; cases h; subst e12; exact zX rfl T.CS
 rw [if_neg e12] at h
 by_cases e13:p=13
 ·rw [if_pos e13] at h; cases h; subst e13; exact zX rfl T.CT
 rw [if_neg e13] at h
 by_cases e14:p=14
 ·rw [if_pos e14] at h; cases h; subst e14; exact zX rfl T.CU
 rw [if_neg e14] at h
 by_cases e15:p=15
 ·rw [if_pos e15] at h; cases h; subst e15; exact zX rfl T.CV
 rw [if_neg e15] at h
 by_cases e16:p=16
 ·rw [if_pos e16] at h; cases h; subst e16; exact zX rfl T.CW
 rw [if_neg e16] at h
 by_cases e17:p=17
 ·rw [if_pos e17] at h; cases h; subst e17; exact zX rfl T.CY
 rw [if_neg e17] at h
 by_cases e18:p=18
 ·rw [if_pos e18] at h; cases h; subst e18; exact zX rfl T.CZ
 rw [if_neg e18] at h
 cases h
theorem Cw {p:Int} {n k:Nat} (h:PyVbecag.shape p=some (n,k)):k≤2:=by
 unfold PyVbecag.shape at h
 by_cases e0:p=0
 ·rw [if_pos e0] at h; cases h; decide
 rw [if_neg e0] at h
 by_cases e1:p=1
 ·rw [if_pos e1] at h; cases h; decide
 rw [if_neg e1] at h
 by_cases e2:p=2
 ·rw [if_pos e2] at h; cases h; decide
 rw [if_neg e2] at h
 by_cases e3:p=3
 ·rw [if_pos e3] at h; cases h; decide
 rw [if_neg e3] at h
 by_cases e4:p=4
 ·rw [if_pos e4] at h; cases h; decide
 rw [if_neg e4] at h
 by_cases e5:p=5
 ·rw [if_pos e5] at h; cases h; decide
 rw [if_neg e5] at h
 by_cases e6:p=6
 ·rw [if_pos e6] at h; cases h; decide
 rw [if_neg e6] at h
 by_cases e7:p=7
 ·rw [if_pos e7] at h; cases h; decide
 rw [if_neg e7] at h
 by_cases e8:p=8
 ·rw [if_pos e8] at h; cases h; decide
 rw [if_neg e8] at h
 by_cases e9:p=9
 ·rw [if_pos e9] at h; cases h; decide
 rw [if_neg e9] at h
 by_cases e10:p=10
 ·rw [if_pos e10] at h; cases h; decide
 rw [if_neg e10] at h
 by_cases e11:p=11
 ·rw [if_pos e11] at h; cases h; decide
 rw [if_neg e11] at h
 by_cases e12:p=12
 ·rw [if_pos e12] at h; cases h; decide
 rw [if_neg e12] at h
 by_cases e13:p=13
 ·rw [if_pos e13] at h; cases h; decide
 rw [if_neg e13] at h
 by_cases e14:p=14
 ·rw [if_pos e14] at h; cases h; decide
 rw [if_neg e14] at h
 by_cases e15:p=15
 ·rw [if_pos e15] at h; cases h; decide
 rw [if_neg e15] at h
 by_cases e16:p=16
 ·rw [if_pos e16] at h; cases h; decide
 rw [if_neg e16] at h
 by_cases e17:p=17
 ·rw [if_pos e17] at h; cases h; decide
 rw [if_neg e17] at h
 by_cases e18:p=18
 ·rw [if_pos e18] at h; cases h; decide
 rw [if_neg e18] at h
 cases h
theorem Ic {l x s:List Int} (h:PyFlat.row l=some (x,s)):∃ z r,l=z :: r∧0≤z∧x=r.take z.toNat∧s=r.drop z.toNat:=by
 cases l with
 | nil=>cases h
 | cons z r =>
  unfold PyFlat.row at h
  dsimp only at h
  by_cases c:0≤z∧z.toNat≤r.length
  ·rw [if_pos c] at h
   cases h
   exact zE2 z r ⟨rfl,c.1,rfl,rfl⟩
  ·rw [if_neg c] at h; cases h
theorem drop_cons {l:List Int} {i:Nat} {z:Int} {r:List Int} (h:l.drop i=z :: r):l[i]?=some z∧r=l.drop (i + 1):=by
 have h1:(l.drop i)[0]?=some z:=by rw [h]; rfl
 rw [List.getElem?_drop] at h1
 refine⟨by simpa using h1,?_⟩
 have h2:=congrArg (List.drop 1) h
 rw [List.drop_drop] at h2
 simpa using h2.symm
def DW (K:Frag) (A:Ad):Sp:=fun vs H Q _=>∃ (pt a:Addr) (ns:List Int) (i:Nat) (p:Int) (n k:Nat) (xs:List (List Int)) (rest:List Int),vs=[.ref pt]∧jX K A H pt a ns i∧ns[i]?=some p∧PyVbecag.shape p=some (n,k) ∧
 PyFlat.rows k (ns.drop (i + 1 + n))=some (xs,rest)∧∀ H' c j,jX K A H' pt a ns j→ns.drop j=rest→i < j→AK A H' c p ((ns.drop (i + 1)).take n) xs→But pt H H'→Q (.ref c) H'
theorem But.trans {e:Addr} {H H1 H2:Hp} (a:But e H H1) (b:But e H1 H2):But e H H2:=fun c o hc q=>b c o hc (a c o hc q)
theorem But.of {e:Addr} {H H1:Hp} (s:aE H H1):But e H H1:=fun c o _ q=>s c o q
theorem But.free {e:Addr} {H H1:Hp} (a:But e H H1) {q:Addr} (hq:q≠e) (h:H1 q=none):H q=none:=by
 cases z:H q with
 | none=>rfl
 | some o=>rw [a q o hq z] at h; cases h
theorem jX.JW {H:Hp} {p a q:Addr} {ns:List Int} {i:Nat} (r:jX K A H p a ns i) (h:H q=none):q≠p:=by
 obtain⟨dx,hp,_⟩:=r
 exact fun z=>by rw [z,hp] at h; cases h
theorem jX.not {H:Hp} {p a q:Addr} {ns:List Int} {i:Nat} {x:List V} (r:jX K A H p a ns i) (h:H q=some (.lst x)):q≠p:=by
 obtain⟨dx,hp,_⟩:=r
 exact hW h hp (by intro z; cases z)
theorem K2 {H H1:Hp} {a q:Addr} {xs:List V} {o:HO} (h0:SqL K H a xs) (hq:H q=none) (h:SqL K H1 a xs):SqL K (upd H1 q o) a xs:=by
 rcases h0 with h0 | h0
 ·have hne:a≠q:=by
   rcases h0 with h0 | ⟨ob,h0⟩
   ·exact aq h0 hq
   ·exact aq h0 hq
  rcases h with (h | ⟨ob,h⟩) | h
  ·exact .inl (.inl (by rw [aj hne]; exact h))
  ·exact .inl (.inr ⟨ob,by rw [aj hne]; exact h⟩)
  ·exact .inr h
 ·exact .inr h0
theorem jX.sq {H:Hp} {p a:Addr} {ns:List Int} {i:Nat} (r:jX K A H p a ns i):SqL K H a (ns.map V.int):=let ⟨_,_,h,_⟩:=r; h
theorem jX.upd {H H1:Hp} {p a q:Addr} {ns:List Int} {i j:Nat} {o:HO} (r0:jX K A H p a ns i) (r:jX K A H1 p a ns j) (hq:H q=none):jX K A (upd H1 q o) p a ns j:=by
 obtain⟨dx,hp,hS,ha⟩:=r
 exact⟨dx,by rw [aj (Ne.symm (r0.JW hq))]; exact hp,K2 r0.sq hq hS,ha⟩
theorem KC {k:Nat} (h:k≤2):k < sizeLine:=by rw [sizeLine_eq]; omega
theorem tO (T:Txt K mg A):Fok P w K mg base 3 A.dG ["self"] (DW K A):=by
 obtain⟨fd,F⟩:=T.fQ
 obtain⟨fdN,GN,bN⟩:=qV (P:=P) (w:=w) (base:=base) T
 obtain⟨fdR,GR,bR⟩:=uA (P:=P) (w:=w) (base:=base) T
 obtain⟨fdC,GC,bC⟩:=Bc (P:=P) (w:=w) (base:=base) T
 refine⟨fd,?_,F.b1 fun _ _ _ _ _ _ _=>rfl⟩
 refine F.okX mG (fun vs H Q E h=>?_) (fun cdv A' outer s H vs Q E hr h=>?_)
 ·exact zL9 (fun _ _ _ _ _ _ _ _ _=>rfl) h
 ·revert h; refine zG9 fun pt a ns i p n k xs rest zz=>?_; obtain⟨rfl,r0,hp,hsh,hrows,kk⟩:=zz
  have hr1:cf 1 _:=hr.mono (by decide)
  have nd:=mG.nd
  obtain⟨t,ht,hT⟩:=Ga T hsh
  refine⟨_,ae (aD (i:=1) nd rfl (Or.inl rfl) (cq (pv 0) T.bw T.kI GN hr1 bN .nil ax.passes))
   (ae (aD (i:=2) nd rfl (Or.inl rfl) (HS (l:=shapes A) T.IE (vO (v:=.ref A.rB) rfl T.vw rfl) (pv 1) (fun _ _=>rfl)))
   (ae (aD (i:=3) nd rfl (Or.inl rfl) (bz (pv 0) T.bw T.nB GR hr1 bR .nil ax.passes (aa (aS Hs (pv 2) az (fun _ _=>rfl)) ai)))
   (ae (aD (i:=4) nd rfl (Or.inl rfl) (bQ ai))
   (ae (js PassesOwn.leaving (bx (pz (aO aN (by rfl) T.eO PySem.boot_len (aa (pv 4) ai)) (aS Hs (pv 2) az (fun _ _=>rfl))))
    (ae (aD (i:=5) nd rfl (Or.inl rfl) (cq (pv 0) T.bw T.kI GN hr1 bN .nil ax.passes))
    (ak (aK (qE PySem.F.plainAttrs_list PySem.F.slot_list_append PySem.F.type_list_append fE (pv 4) (aa (bz (pv 0) T.bw T.nB GR hr1 bR .nil ax.passes (aa (pv 5) ai)) ai))))))
   (ak (aF (tD T.Ji GC hr rfl T.A9 bC .nil ax.passes (aa (pv 1) (aa (pv 3) (aa (pv 4) ai)))))))))),?_⟩
  obtain⟨dx0,hp0,_,_⟩:=id r0
  refine zV rfl (zM hp0 rfl (zE5 pt a ns i p ⟨rfl,r0,hp,fun H1 r1 b1 _=>?_⟩))
  refine zV rfl ⟨p,_,.ref t,rfl,rfl,ht,rfl,?_⟩
  obtain⟨dx1,hp1,_,_⟩:=id r1
  refine zV rfl (zM hp1 rfl (zV rfl ⟨t,_,_,.int n,rfl,rfl,zx hT,rfl,pt,a,ns,i + 1,n,rfl,r1,fun H2 lw r2 hlw flw b2=>?_⟩))
  have b02:But pt H H2:=b1.trans b2
  refine⟨Nat.zero_le _,fun lr hlr=>?_⟩
  have hlr0:H lr=none:=b02.free (r2.JW hlr) hlr
  have s3:aE H2 (upd H2 lr (.lst [])):=fun b o e=>by rw [aj (aq e hlr)]; exact e
  refine⟨fun m σ H'=>∃ (j:Nat) (done todo:List (List Int)) (rs:List Addr) (v5:Option V),m=k - done.length∧done.length≤k∧σ=[some (.ref pt),some (.int p),some (.ref t),some (.ref lw),some (.ref lr),v5] ∧
   jX K A H' pt a ns j∧i < j∧PyFlat.rows (k - done.length) (ns.drop j)=some (todo,rest)∧xs=done ++ todo∧H' lr=some (.lst (rs.map V.ref))∧HG.Rows H' rs done∧(∀ r∈rs,r≠lr)∧H' lw=some (.lst (((ns.drop (i + 1)).take n).map V.int))∧lw≠lr∧But pt H H',
   ⟨k,i + 1 + n,[],xs,[],none,rfl,Nat.zero_le _,rfl,r2.upd r2 hlr,by omega,hrows,rfl,af,.nil,fun r hr=>(nomatch hr),by rw [aj (aq hlw hlr)]; exact hlw,aq hlw hlr,b02.trans (.of s3)⟩,?_⟩
  rintro m σ H' ⟨j,done,todo,rs,v5,rfl,hdk,rfl,rj,hij,hro,hxs,hl,hR,hrl,hw,hwl,bH⟩
  refine zX rfl ⟨lr,zX rfl ⟨.inl (SqL.of hl),zX rfl ⟨t,_,_,.int k,rfl,rfl,zx hT,rfl,zO (zX rfl ?_)⟩⟩⟩
  rw [List.length_map,hR.length]
  refine ko (fun c=>?_) fun c=>?_
  ·have c:(done.length:Int) < (k:Int):=of_decide_eq_true c
   obtain⟨k',ek⟩:∃ k',k - done.length=k' + 1:=⟨k - done.length - 1,by omega⟩
   rw [ek] at hro
   unfold PyFlat.rows at hro
   cases hrow:PyFlat.row (ns.drop j) with
   | none=>rw [hrow] at hro; cases hro
   | some xt =>
    obtain⟨x,st⟩:=xt
    rw [hrow] at hro
    dsimp only at hro
    cases hrr:PyFlat.rows k' st with
    | none=>rw [hrr] at hro; cases hro
    | some yt =>
     obtain⟨ys,tl⟩:=yt
     rw [hrr] at hro
     cases hro
     obtain⟨z,r,ez,hz0,rfl,rfl⟩:=Ic hrow
     obtain⟨hz,rfl⟩:=drop_cons ez
     have em:z=((z.toNat:Nat):Int):=(Int.toNat_of_nonneg hz0).symm
     obtain⟨dj,hpj,_,_⟩:=id rj
     refine⟨fun σ' H''=>∃ m',m' < k - done.length∧∃ (j:Nat) (done todo:List (List Int)) (rs:List Addr) (v5:Option V),m'=k - done.length∧done.length≤k∧σ'=[some (.ref pt),some (.int p),some (.ref t),some (.ref lw),some (.ref lr),v5] ∧
      jX K A H'' pt a ns j∧i < j∧PyFlat.rows (k - done.length) (ns.drop j)=some (todo,rest)∧xs=done ++ todo∧H'' lr=some (.lst (rs.map V.ref))∧HG.Rows H'' rs done∧(∀ r∈rs,r≠lr)∧H'' lw=some (.lst (((ns.drop (i + 1)).take n).map V.int))∧lw≠lr∧But pt H H'',
      fun _ _ q=>q,?_⟩
     refine zV rfl (zM hpj rfl (zE5 pt a ns j z ⟨rfl,rj,hz,fun H4 r4 b4 _=>?_⟩))
     have hl4:H4 lr=some (.lst (rs.map V.ref)):=b4 _ _ (rj.not hl) hl
     obtain⟨d4,hp4,_,_⟩:=id r4
     refine zV rfl ⟨.inl ⟨rfl,_,SqL.of hl4⟩,zV rfl (zM hp4 rfl (zV rfl ⟨pt,a,ns,j + 1,z.toNat,(by rw [← em]; rfl),r4,fun H5 q r5 hq fq b5=>?_⟩))⟩
     have hl5:H5 lr=some (.lst (rs.map V.ref)):=b5 _ _ (r4.not hl4) hl4
     have hqlr:q≠lr:=fun e=>by rw [e,hl4] at fq; cases fq
     refine zE3 lr _ _ ⟨rfl,rfl,hl5,(by rw [List.length_map,hR.length]; exact Nat.lt_of_le_of_lt hdk (KC (Cw hsh))),?_⟩
     have keep:∀ b o,b≠pt→b≠lr→H' b=some o→(upd H5 lr (.lst (rs.map V.ref ++ [V.ref q]))) b=some o:=fun b o h1 h2 e=>by
      rw [aj h2]; exact b5 b o h1 (b4 b o h1 e)
     refine⟨k - (done ++ [(ns.drop (j + 1)).take z.toNat]).length,?_,j + 1 + z.toNat,done ++ [(ns.drop (j + 1)).take z.toNat],ys,rs ++ [q],some (.int z),rfl,?_,rfl,r0.upd r5 hlr0,by omega,?_,?_,?_,?_,?_,?_,hwl,?_⟩
     ·rw [List.length_append,List.length_singleton]; omega
     ·rw [List.length_append,List.length_singleton]; omega
     ·rw [List.length_append,List.length_singleton,show k - (done.length + 1)=k' from by omega,← List.drop_drop]
      exact hrr
     ·rw [List.append_assoc]; exact hxs
     ·rw [af,List.map_append]; rfl
     ·refine HG.Rows.snoc ?_ (hR.keep fun b x e m=>keep b _ (fun y=>?_) (hrl b m) e)
      ·rw [aj hqlr]; exact hq
      ·rw [y,hpj] at e; cases e
     ·intro r hr
      rcases List.mem_append.mp hr with hr | hr
      ·exact hrl r hr
      ·rw [List.mem_singleton.mp hr]; exact hqlr
     ·exact keep lw _ (rj.not hw) hwl hw
     ·intro b o hb e
      exact keep b o hb (fun y=>by rw [y,hlr0] at e; cases e) (bH b o hb e)
  ·have c:¬ (done.length:Int) < (k:Int):=fun z=>c (decide_eq_true z)
   have ek:k - done.length=0:=by omega
   rw [ek] at hro
   unfold PyFlat.rows at hro
   cases hro
   rw [List.append_nil] at hxs
   subst hxs
   refine zV rfl (zV rfl (zV rfl (fun x dx hx hdx hne=>?_)))
   refine zE5 x dx p lw lr ⟨rfl,af,⟨rfl,?_⟩⟩
   rw [bo]
   have s9:aE H' (upd (upd H' dx (.own x)) x (.ins A.mf dx (Ha p lw lr))):=fun b o e=>by
    rw [aj (aq e hx),aj (aq e hdx)]; exact e
   obtain⟨dj,hpj,hSj,haj⟩:=id rj
   refine kk _ x j ⟨dj,s9 _ _ hpj,s9.seq hSj,haj⟩ rfl hij ⟨dx,lw,lr,rs,af,s9 _ _ hw,s9 _ _ hl,hR.keep fun b x' e _=>s9 _ _ e⟩ (bH.trans (.of s9))
end HG
end
section
namespace HG
open PySem PySem.Spec PyProof.Rows L2
open PySem.W (Frag)
variable {P:Program} {w:World} {K:Frag} {mg:Str→Option Value} {base:Heap} {A:Ad}
def grF (n:Nat) (lw lt:Addr) (tl:List (Str×V)):List (Str×V):=("greatest",.int n) :: ("weights",.ref lw) :: ("table",.ref lt) :: tl
def grO (lo:Addr):List (Str×V):=[("outcomes",.ref lo)]
structure WfG (g:Vbecag.Growth):Prop where
 n1:1≤g.n
 n50:g.n≤50
 s1:1≤g.weights.length
 s6:g.weights.length≤6
 w4:∀ x∈g.weights,x≤4
 len:g.table.length=g.weights.length
 row:∀ r∈g.table,r.length=g.n + 1∧∀ x∈r,x≤g.n
structure uS (A:Ad) (H:Hp) (a:Addr) (g:Vbecag.Growth):Prop where
 ex:∃ dx lw lt tl,H a=some (.ins A.aU dx (grF g.n lw lt tl))∧H lw=some (.lst (nv g.weights))∧H lt=some (.lst (nv g.table.flatten))∧(tl=[]∨∃ lo,tl=grO lo)
theorem uS.keep {H H':Hp} {a:Addr} {g:Vbecag.Growth} (r:uS A H a g) (s:aE H H'):uS A H' a g:=by
 obtain⟨dx,lw,lt,tl,h1,h2,h3,h4⟩:=r
 exact⟨dx,lw,lt,tl,s _ _ h1,s _ _ h2,s _ _ h3,h4⟩
theorem vi {tl:List (Str×V)} (h:tl=[]∨∃ lo,tl=grO lo) {n:Nat} {lw lt:Addr}:(grF n lw lt tl).lookup ("next_stocks":Str)=none∧(grF n lw lt tl).lookup ("next_stock":Str)=none∧(grF n lw lt tl).lookup ("season_count":Str)=none∧(grF n lw lt tl).lookup ("season_row":Str)=none∧(grF n lw lt tl).lookup ("all_stocks":Str)=none:=by
 rcases h with rfl | ⟨lo,rfl⟩<;>exact⟨rfl,rfl,rfl,rfl,rfl⟩
theorem ED {m:Nat}:∀ {t:List (List Nat)} {c e:Nat},(∀ r∈t,r.length=m)→c < t.length→e < m→t.flatten[c * m + e]?=some ((t.getD c []).getD e 0)
 | [],c,e,_,hc,_=>by simp at hc
 | r :: t,0,e,h,hc,he=>by
  have hr:=h r List.mem_cons_self
  rw [List.flatten_cons,Nat.zero_mul,Nat.zero_add,List.getElem?_append_left (by omega)]
  simp [List.getElem?_eq_getElem (show e < r.length by omega)]
 | r :: t,c + 1,e,h,hc,he=>by
  have hr:=h r List.mem_cons_self
  have ih:=ED (t:=t) (c:=c) (e:=e) (fun r m=>h r (List.mem_cons_of_mem _ m)) (by simpa using hc) he
  rw [List.flatten_cons,List.getElem?_append_right (by rw [hr,Nat.add_mul,Nat.one_mul]; omega),hr,show (c + 1) * m + e - m=c * m + e from by rw [Nat.add_mul,Nat.one_mul]; omega,ih]
  simp
theorem WfG.next {g:Vbecag.Growth} (W:WfG g) {c e:Nat} (hc:c < g.seasons) (he:e≤g.n):g.table.flatten[c * (g.n + 1) + e]?=some (g.next c e) :=
 ED (fun r m=>(W.row r m).1) (by rw [W.len]; exact hc) (by omega)
theorem WfG.le {g:Vbecag.Growth} (W:WfG g) {c e:Nat} (hc:c < g.seasons) (he:e≤g.n):g.next c e≤g.n:=by
 have hc':c < g.table.length:=by rw [W.len]; exact hc
 have hm:g.table[c]∈g.table:=List.getElem_mem hc'
 obtain⟨h1,h2⟩:=W.row _ hm
 unfold Vbecag.Growth.next
 have e1:g.table.getD c []=g.table[c]:=by rw [List.getD_eq_getElem?_getD,List.getElem?_eq_getElem hc']; rfl
 rw [e1,List.getD_eq_getElem?_getD,List.getElem?_eq_getElem (by omega),Option.getD_some]
 exact h2 _ (List.getElem_mem _)
theorem rT {l:List Nat} {i x:Nat} (h:l[i]?=some x):(nv l)[i]?=some (.int (x:Int)):=by
 unfold nv
 rw [List.getElem?_map,h]; rfl
theorem aQ (l:List Nat):(nv l).length=l.length:=by simp [nv]
theorem sj:ay ["self"] ["self"] (au iW):=⟨rfl,rfl,rfl,by decide +kernel,rfl,by decide +kernel,by decide +kernel⟩
def pN (H:Hp) (Q:VK) (xs:List V):Prop:=∀ H' l,H l=none→H' l=some (.lst xs)→aE H H'→Q (.ref l) H'
def Cy (A:Ad):Sp:=fun vs H Q _=>∃ (a:Addr) (g:Vbecag.Growth),vs=[.ref a]∧uS A H a g∧WfG g∧pN H Q (nv (Vbecag.stocks g))
theorem bt (T:Txt K mg A):Fok P w K mg base 1 A.c9 ["self"] (Cy A):=by
 obtain⟨fd,F⟩:=T.eP
 refine⟨fd,?_,F.b1 fun _ _ _ _ _ _ _=>rfl⟩
 refine F.okX sj (fun vs H Q E h=>?_) (fun cdv A' outer s H vs Q E hr h=>?_)
 ·exact zL2 (fun _ _=>rfl) h
 ·revert h; refine zG2 fun a g zz=>?_; obtain⟨rfl,⟨dx,lw,lt,tl,h1,h2,h3,htl⟩,W,k⟩:=zz
  refine⟨_,ak (aF (tx (zJ rfl) rfl T.we rfl (aa (tx Fl rfl T.fT rfl (aa (bj iz (aw (pv 0) rfl) az) ai)) ai))),?_⟩
  refine zX rfl (zF h1 T.aH T.aW rfl (zO (zX rfl (fun r hr'=>⟨r,g.n + 1,rfl,af,(by have:=W.n50; omega),fun l hl=>?_⟩))))
  refine k _ l ?_ af fun b o e=>?_
  ·cases z:H l with
   | none=>rfl
   | some o=>rw [aj (aq z hr'),z] at hl; cases hl
  ·have e2:(upd H r (.rng 0 (g.n + 1:Nat))) b=some o:=by rw [aj (aq e hr')]; exact e
   rw [aj (aq e2 hl)]; exact e2
theorem qt:ay ["self"] ["self"] (au gW):=⟨rfl,rfl,rfl,by decide +kernel,rfl,by decide +kernel,by decide +kernel⟩
def z5 (A:Ad):Sp:=fun vs H Q _=>∃ (a:Addr) (g:Vbecag.Growth),vs=[.ref a]∧uS A H a g∧Q (.int (g.seasons:Nat)) H
theorem cp (T:Txt K mg A):Fok P w K mg base 1 A.cA ["self"] (z5 A):=by
 obtain⟨fd,F⟩:=T.dM
 refine⟨fd,?_,F.b1 fun _ _ _ _ _ _ _=>rfl⟩
 refine F.okX qt (fun vs H Q E h=>?_) (fun cdv A' outer s H vs Q E hr h=>?_)
 ·exact zL2 (fun _ _=>rfl) h
 ·revert h; refine zG2 fun a g zz=>?_; obtain⟨rfl,⟨dx,lw,lt,tl,h1,h2,h3,htl⟩,k⟩:=zz
  refine⟨_,ak (aF (aO aN (by rfl) T.eO PySem.boot_len (aa (aw (pv 0) rfl) ai))),?_⟩
  refine zV rfl (zF h1 T.aH T.eF rfl (zE2 lw _ ⟨rfl,.inl (SqL.of h2),?_⟩))
  rw [aQ]
  exact k
theorem so:ay ["self","left","season"] ["self","left","season"] (au iX):=⟨rfl,rfl,rfl,by decide +kernel,rfl,by decide +kernel,by decide +kernel⟩
def CC (A:Ad):Sp:=fun vs H Q _=>∃ (a:Addr) (g:Vbecag.Growth) (e c:Nat),vs=[.ref a,.int e,.int c]∧uS A H a g∧WfG g∧e≤g.n∧c < g.seasons∧Q (.int (g.next c e:Nat)) H
theorem eG (T:Txt K mg A):Fok P w K mg base 1 A.da ["self","left","season"] (CC A):=by
 obtain⟨fd,F⟩:=T.eQ
 refine⟨fd,?_,F.b3 fun _ _ _ _ _ _ _ _ _=>rfl⟩
 refine F.okX so (fun vs H Q E h=>?_) (fun cdv A' outer s H vs Q E hr h=>?_)
 ·exact zL4 (fun _ _ _ _=>rfl) h
 ·revert h; refine zG4 fun a g e c zz=>?_; obtain⟨rfl,⟨dx,lw,lt,tl,h1,h2,h3,htl⟩,W,he,hc,k⟩:=zz
  have hs:g.seasons≤6:=W.s6
  refine⟨_,ak (aF (aS aG (aw (pv 0) rfl) (bj iz (bj qo (pv 2) (bj iz (aw (pv 0) rfl) az)) (pv 1)) (fun _ _=>rfl))),?_⟩
  refine zV rfl (zF h1 T.aH T.jC rfl (zV rfl (zV rfl (zF h1 T.aH T.aW rfl (zO (zO ⟨.inl ⟨by omega,by omega⟩,zV rfl (zO (zI (SqL.of h3) (at_of (j:=c * (g.n + 1) + e) (v:=.int (g.next c e:Nat)) (by push_cast; rfl) (rT (W.next hc he))) k))⟩))))))
theorem aE.upd {H:Hp} {p:Addr} {o:HO} (h:H p=none):aE H (upd H p o):=fun b u e=>by rw [aj (aq e h)]; exact e
theorem l7:ay ["self","season","size"] ["self","season"] (au iY):=⟨rfl,rfl,rfl,by decide +kernel,rfl,by decide +kernel,by decide +kernel⟩
def CG (A:Ad):Sp:=fun vs H Q _=>∃ (a:Addr) (g:Vbecag.Growth) (c:Nat),vs=[.ref a,.int c]∧uS A H a g∧WfG g∧c < g.seasons∧pN H Q (nv (g.table.getD c []))
theorem BS {m:Nat}:∀ {t:List (List Nat)} {c:Nat},(∀ r∈t,r.length=m)→c < t.length→(t.flatten.drop (c * m)).take m=t.getD c []
 | [],c,_,hc=>by simp at hc
 | r :: t,0,h,hc=>by
  have hr:=h r List.mem_cons_self
  rw [List.flatten_cons,Nat.zero_mul,List.drop_zero,List.take_append_of_le_length (by omega),List.take_of_length_le (by omega)]
  rfl
 | r :: t,c + 1,h,hc=>by
  have hr:=h r List.mem_cons_self
  have ih:=BS (t:=t) (c:=c) (fun r m=>h r (List.mem_cons_of_mem _ m)) (by simpa using hc)
  rw [List.flatten_cons,List.drop_append,List.drop_eq_nil_of_le (by rw [hr,Nat.add_mul,Nat.one_mul]; omega),List.nil_append,hr,show (c + 1) * m - m=c * m from by rw [Nat.add_mul,Nat.one_mul]; omega,ih]
  rfl
theorem BR {m:Nat}:∀ {t:List (List Nat)},(∀ r∈t,r.length=m)→t.flatten.length=t.length * m
 | [],_=>by simp
 | r :: t,h=>by
  rw [List.flatten_cons,List.length_append,h r List.mem_cons_self,BR (fun r m=>h r (List.mem_cons_of_mem _ m)),List.length_cons,Nat.add_mul,Nat.one_mul]
  omega
theorem rV (T:Txt K mg A):Fok P w K mg base 1 A.df ["self","season"] (CG A):=by
 obtain⟨fd,F⟩:=T.eR
 refine⟨fd,?_,F.b2 fun _ _ _ _ _ _ _ _=>rfl⟩
 refine F.okX l7 (fun vs H Q E h=>?_) (fun cdv A' outer s H vs Q E hr h=>?_)
 ·exact zL3 (fun _ _ _=>rfl) h
 ·revert h; refine zG3 fun a g c zz=>?_; obtain⟨rfl,⟨dx,lw,lt,tl,h1,h2,h3,htl⟩,W,hc,k⟩:=zz
  have hs:g.seasons≤6:=W.s6
  have nd:=l7.nd
  refine⟨_,ae (aD (i:=2) nd rfl (Or.inl rfl) (bj iz (aw (pv 0) rfl) az)) (ak (aF (zi Bs (aw (pv 0) rfl) (tE (bj qo (pv 1) (pv 2))) (tE (bj qo (bj iz (pv 1) az) (pv 2)))))),?_⟩
  refine zV rfl (zF h1 T.aH T.aW rfl (zO ?_))
  refine zX rfl (zF h1 T.aH T.jC rfl (zX rfl (zX rfl (zO ⟨.inl ⟨by omega,by omega⟩,zX rfl (zX rfl (zO (zX rfl (zO ⟨.inl ⟨by omega,by omega⟩,zX rfl ⟨lt,zX rfl ⟨SqL.of h3,fun p hp=>?_⟩⟩⟩))))⟩))))
  have e:wm (nv g.table.flatten) (some ((c:Int) * ((g.n:Int) + 1))) (some (((c:Int) + 1) * ((g.n:Int) + 1)))=nv (g.table.getD c []):=by
   have hfl:=BR (t:=g.table) (fun r m=>(W.row r m).1)
   have hcl:c < g.table.length:=by rw [W.len]; exact hc
   have h7:(c + 1) * (g.n + 1)≤g.table.length * (g.n + 1):=Nat.mul_le_mul_right _ hcl
   have h8:(c + 1) * (g.n + 1)=c * (g.n + 1) + (g.n + 1):=by rw [Nat.add_mul,Nat.one_mul]
   unfold wm
   rw [show ((c:Int) * ((g.n:Int) + 1))=((c * (g.n + 1):Nat):Int) from by push_cast; rfl,show (((c:Int) + 1) * ((g.n:Int) + 1))=(((c + 1) * (g.n + 1):Nat):Int) from by push_cast; rfl,HT.tH,HT.tH,aQ,Nat.min_eq_left (by omega),Nat.min_eq_left (by omega),show (c + 1) * (g.n + 1) - c * (g.n + 1)=g.n + 1 from by omega]
   unfold nv
   rw [← List.map_drop,← List.map_take,BS (fun r m=>(W.row r m).1) hcl]
  rw [e]
  exact k _ p hp af (aE.upd hp)
end HG
end
section
namespace HG
open PySem PySem.Spec PyProof.Rows L2
open PySem.W (Frag)
variable {P:Program} {w:World} {K:Frag} {mg:Str→Option Value} {base:Heap} {A:Ad}
abbrev EN:XK:=fun _ _ _=>False
theorem aT {X:Cx}:Passes (CXr X.prog X.w) X EN:=fun _ _ _ _ _ _ _ ⟨_,_,_,_,_,_,_,_,_,_,q⟩=>q.elim
structure Grows (H:Hp) (D:Addr) (xs:List V) (H':Hp):Prop where
 at_:H' D=some (.lst xs)
 same:aE H H'
theorem Grows.nil {H:Hp} {D:Addr} (h:H D=none):Grows H D [] (upd H D (.lst [])):=⟨af,fun b o e=>by rw [aj (aq e h)]; exact e⟩
theorem Grows.more {H H1 H2:Hp} {D:Addr} {xs ys:List V} (h:H D=none) (g:Grows H D xs H1) (s:aE H1 H2):Grows H D ys (upd H2 D (.lst ys)):=⟨af,fun b o e=>by rw [aj (aq e h)]; exact s _ _ (g.same _ _ e)⟩
theorem kK:ay ["self","left","season"] ["self","left"] (au ig):=⟨rfl,rfl,rfl,by decide +kernel,rfl,by decide +kernel,by decide +kernel⟩
def outs (g:Vbecag.Growth) (e:Nat):List Nat:=(List.range g.seasons).map fun c=>g.next c e
def Bx (A:Ad):Sp:=fun vs H Q _=>∃ (a:Addr) (g:Vbecag.Growth) (e:Nat),vs=[.ref a,.int e]∧uS A H a g∧WfG g∧e≤g.n∧pN H Q (nv (outs g e))
theorem iS (l:List Nat) (x:Nat):nv (l ++ [x])=nv l ++ [.int (x:Int)]:=by simp [nv]
theorem qS (T:Txt K mg A):Fok P w K mg base 2 A.cK ["self","left"] (Bx A):=by
 obtain⟨fd,F⟩:=T.dY
 obtain⟨fdS,GS,bS⟩:=cp (P:=P) (w:=w) (base:=base) T
 obtain⟨fdN,GN,bN⟩:=eG (P:=P) (w:=w) (base:=base) T
 refine⟨fd,?_,F.b2 fun _ _ _ _ _ _ _ _=>rfl⟩
 refine F.okX kK (fun vs H Q E h=>?_) (fun cdv A' outer s H vs Q E hr h=>?_)
 ·exact zL3 (fun _ _ _=>rfl) h
 ·revert h; refine zG3 fun a g e zz=>?_; obtain⟨rfl,G,W,he,k⟩:=zz
  have nd:=kK.nd
  refine⟨_,ak (aF (iA rfl nd (gQ rfl T.fT (aa (cq (E:=EN) (pv 0) T.aH T.cn GS hr bS .nil aT) ai)) (aR (own:=[("season",2)]) (by kernel_rfl))
   (fun _ _ _ _ _=>aL (i:=2) nd rfl (Or.inl rfl)) (fun _ _ _ _ _=>cw)
   (fun _ _ _ _ _=>bz (E:=EN) (pv 0) T.aH T.eC GN hr bN .nil aT (aa (pv 1) (aa (pv 2) ai))))),?_⟩
  obtain⟨dx,lw,lt,tl,h1,h2,h3,htl⟩:=id G
  refine zV rfl (zE3 a dx _ ⟨rfl,h1,(vi htl).2.2.1,a,g,rfl,G,(g.seasons:Int),rfl,(by have:=W.s6; unfold Vbecag.Growth.seasons; omega),(by have:=W.s6; unfold Vbecag.Growth.seasons; omega),fun D hD=>?_⟩)
  refine rH (fun i H'=>Grows H D (nv ((List.range i).map fun c=>g.next c e)) H') (.nil hD) ?_ fun H' p=>k H' D hD p.at_ p.same
  intro i H' hi p
  have hi:i < g.seasons:=by simpa using hi
  have G':=G.keep p.same
  obtain⟨dx',lw',lt',tl',h1',_,_,htl'⟩:=id G'
  refine⟨rfl,?_⟩
  dsimp only [xP]
  rw [if_pos rfl]
  refine zV rfl (zE3 a dx' _ ⟨rfl,h1',(vi htl').2.1,zV rfl (zV rfl ⟨a,g,e,i,by rw [Int.zero_add]; rfl,G',W,he,hi,_,p.at_,?_,?_⟩)⟩)
  ·rw [aQ,List.length_map,List.length_range,sizeLine_eq]; have:=W.s6; unfold Vbecag.Growth.seasons at hi; omega
  ·rw [List.range_succ,List.map_append,List.map_singleton,iS]
   exact p.more hD (fun _ _ e=>e)
end HG
end
section
namespace HG
open PySem PySem.Spec PyProof.Rows L2
open PySem.W (Frag)
theorem Grows.on {H H1 H2:Hp} {D:Addr} {xs:List V} (g:Grows H D xs H1) (s:aE H1 H2):Grows H D xs H2:=⟨s _ _ g.at_,g.same.trans s⟩
section
variable {K:Frag} {a:Addr} {xs ys:List V} {te:TE} {tt:TT} {vs:List Nat} {σ:L2.St} {H1:Hp} {D:Addr} {Qd:Hp→Prop} {j:Nat}
def oF (J:It) (g:TG) (tt:TT) (te:TE) (vs:List Nat) (σ:L2.St) (H1:Hp) (D:Addr) (Qd:Hp→Prop):Prop :=
 ∃ W:Nat→Nat→Hp→Prop,(∃ m,W 0 m (upd H1 D (.lst [])))∧∀ i m H,W i m H →
  (J.stop i H∧Qd H)∨(J.go i H∧∃ Nx:Hp→Prop,(∀ H',Nx H'→∃ m',m' < m∧W (i + 1) m' H')∧∀ x H',J.yld i H x H'→g x (wipe σ vs) H' fun σ2 H2=>wipe σ2 vs=wipe σ vs∧tt σ2 H2 fun b H3 =>
   if b=true then te σ2 H3 fun y H4=>∃ acc,H4 D=some (.lst acc)∧acc.length < sizeLine∧Nx (upd H4 D (.lst (acc ++ [y]))) else Nx H3)
theorem mL {g:TG} (ys:List V) (hx:H1 a=some (.lst xs)) (hD:H1 D=none) (hl:ys.length=xs.length) (hz:xs.length≤100000)
  (turn:∀ (i:Nat) x y H,xs[i]?=some x→ys[i]?=some y→aE H1 H→∀ Z:VK,(∀ H',aE H H'→Z y H')→g x (wipe σ vs) H fun σ2 H2=>wipe σ2 vs=wipe σ vs∧te σ2 H2 Z)
  (hm:∀ x σ0 H0 (R R':L2.St→Hp→Prop),(∀ σ2 H2,R σ2 H2→R' σ2 H2)→g x σ0 H0 R→g x σ0 H0 R')
  (fin:∀ H,H D=some (.lst ys)→aE H1 H→Qd H):oF (Itl K a) g xP te vs σ H1 D Qd:=by
 refine A6 (K:=K) (a:=a) (xs:=xs) (fun i H'=>Grows H1 D (ys.take i) H') (.nil hD) (fun i H' _ p=>SqL.of (p.same _ _ hx)) ?_ fun H' p=>?_
 ·intro i x H hi p
  have hlt:i < xs.length:=(List.getElem?_eq_some_iff.mp hi).1
  have hy:ys[i]?=some (ys[i]'(by omega)):=List.getElem?_eq_getElem (by omega)
  have t:=turn i x _ H hi hy p.same (fun y H4=>∃ acc,H4 D=some (.lst acc)∧acc.length < sizeLine∧Grows H1 D (ys.take (i + 1)) (upd H4 D (.lst (acc ++ [y])))) ?_
  ·refine hm _ _ _ _ _ (fun σ2 H2 h=>⟨h.1,?_⟩) t
   dsimp only [xP]
   rw [if_pos rfl]
   exact h.2
  ·intro H' s
   refine⟨_,(p.on s).at_,?_,?_⟩
   ·rw [List.length_take,sizeLine_eq]; omega
   ·rw [List.take_add_one,hy]
    exact (p.on s).more hD (fun _ _ e=>e)
 ·rw [← hl,List.take_length] at p
  exact fin H' p.at_ p.same
theorem dJ {j:Nat}:∀ (x:V) (σ0:L2.St) (H0:Hp) (R R':L2.St→Hp→Prop),(∀ σ2 H2,R σ2 H2→R' σ2 H2)→fM j x σ0 H0 R→fM j x σ0 H0 R':=fun _ _ _ _ _ h q=>h _ _ q
theorem EL (p:V→Bool) (hx:H1 a=some (.lst xs)) (hD:H1 D=none) (hz:xs.length≤100000) (hj:j < σ.length)
  (turn:∀ (i:Nat) x H,xs[i]?=some x→aE H1 H→∀ Z:Bool→Hp→Prop,(∀ H',aE H H'→Z (p x) H')→fM j x (wipe σ vs) H fun σ2 H2=>wipe σ2 vs=wipe σ vs∧tt σ2 H2 Z)
  (fin:∀ H,H D=some (.lst (xs.filter p))→aE H1 H→Qd H):oF (Itl K a) (fM j) tt (tY j) vs σ H1 D Qd:=by
 refine A6 (K:=K) (a:=a) (xs:=xs) (fun i H'=>Grows H1 D ((xs.take i).filter p) H') (.nil hD) (fun i H' _ p=>SqL.of (p.same _ _ hx)) ?_ fun H' q=>?_
 ·intro i x H hi q
  have hlt:i < xs.length:=(List.getElem?_eq_some_iff.mp hi).1
  refine turn i x H hi q.same _ fun H' s=>?_
  have q2:=q.on s
  rw [List.take_add_one,hi,Option.toList_some,List.filter_append,List.filter_cons,List.filter_nil]
  cases c:p x with
  | true =>
   rw [if_pos rfl]
   refine⟨x,?_,_,q2.at_,?_,?_⟩
   ·rw [List.getElem?_set_self (by rw [jW]; exact hj)]
   ·have h1:=List.length_filter_le p (xs.take i)
    rw [List.length_take] at h1
    rw [sizeLine_eq]; omega
   ·rw [if_pos rfl]
    exact q2.more hD (fun _ _ e=>e)
  | false =>
   rw [if_neg (by decide),if_neg (by decide),List.append_nil]
   exact q2
 ·rw [List.take_length] at q
  exact fin H' q.at_ q.same
theorem Jd {n:Nat} (ys:List V) (hD:H1 D=none) (hl:ys.length=n) (hz:n≤100000)
  (turn:∀ (i:Nat) y H,i < n→ys[i]?=some y→aE H1 H→∀ Z:VK,(∀ H',aE H H'→Z y H')→fM j (.int (i:Int)) (wipe σ vs) H fun σ2 H2=>wipe σ2 vs=wipe σ vs∧te σ2 H2 Z)
  (fin:∀ H,H D=some (.lst ys)→aE H1 H→Qd H):oF (Itr 0 n) (fM j) xP te vs σ H1 D Qd:=by
 refine rH (lo:=0) (n:=n) (fun i H'=>Grows H1 D (ys.take i) H') (.nil hD) ?_ fun H' p=>?_
 ·intro i H hi p
  have hy:ys[i]?=some (ys[i]'(by omega)):=List.getElem?_eq_getElem (by omega)
  rw [Int.zero_add]
  have t:=turn i _ H hi hy p.same (fun y H4=>∃ acc,H4 D=some (.lst acc)∧acc.length < sizeLine∧Grows H1 D (ys.take (i + 1)) (upd H4 D (.lst (acc ++ [y])))) ?_
  ·refine dJ _ _ _ _ _ (fun σ2 H2 h=>⟨h.1,?_⟩) t
   dsimp only [xP]
   rw [if_pos rfl]
   exact h.2
  ·intro H' s
   refine⟨_,(p.on s).at_,?_,?_⟩
   ·rw [List.length_take,sizeLine_eq]; omega
   ·rw [List.take_add_one,hy]
    exact (p.on s).more hD (fun _ _ e=>e)
 ·rw [← hl,List.take_length] at p
  exact fin H' p.at_ p.same
theorem A7 {n:Nat} (p:Nat→Bool) (hD:H1 D=none) (hz:n≤100000) (hj:j < σ.length)
  (turn:∀ (i:Nat) H,i < n→aE H1 H→∀ Z:Bool→Hp→Prop,(∀ H',aE H H'→Z (p i) H')→fM j (.int (i:Int)) (wipe σ vs) H fun σ2 H2=>wipe σ2 vs=wipe σ vs∧tt σ2 H2 Z)
  (fin:∀ H,H D=some (.lst (nv ((List.range n).filter p)))→aE H1 H→Qd H):oF (Itr 0 n) (fM j) tt (tY j) vs σ H1 D Qd:=by
 refine rH (lo:=0) (n:=n) (fun i H'=>Grows H1 D (nv ((List.range i).filter p)) H') (.nil hD) ?_ fun H' q=>?_
 ·intro i H hi q
  rw [Int.zero_add]
  refine turn i H hi q.same _ fun H' s=>?_
  have q2:=q.on s
  rw [List.range_succ,List.filter_append,List.filter_cons,List.filter_nil]
  cases c:p i with
  | true =>
   rw [if_pos rfl]
   refine⟨.int i,?_,_,q2.at_,?_,?_⟩
   ·rw [List.getElem?_set_self (by rw [jW]; exact hj)]
   ·have h1:=List.length_filter_le p (List.range i)
    rw [List.length_range] at h1
    rw [aQ,sizeLine_eq]; omega
   ·rw [if_pos rfl,iS]
    exact q2.more hD (fun _ _ e=>e)
  | false =>
   rw [if_neg (by decide),if_neg (by decide),List.append_nil]
   exact q2
 ·exact fin H' q.at_ q.same
end
end HG
end
section
namespace HG
open PySem PySem.Spec PyProof.Rows L2
open PySem.W (Frag)
variable {P:Program} {w:World} {K:Frag} {mg:Str→Option Value} {base:Heap} {A:Ad}
def ruF (r:Vbecag.Rule):List (Str×V):=[("low",.int (r.low:Nat)),("least",.int (r.least:Nat)),("most",.int (r.most:Nat))]
structure iU (A:Ad) (H:Hp) (a:Addr) (r:Vbecag.Rule):Prop where
 ex:∃ dx,H a=some (.ins A.gU dx (ruF r))
theorem iU.keep {H H':Hp} {a:Addr} {r:Vbecag.Rule} (h:iU A H a r) (s:aE H H'):iU A H' a r:=let ⟨dx,e⟩:=h; ⟨dx,s _ _ e⟩
theorem Bm:ay ["self","low","least","most"] ["self","low","least","most"] (au rb):=⟨rfl,rfl,rfl,by decide +kernel,rfl,by decide +kernel,by decide +kernel⟩
def DV (A:Ad):Sp:=fun vs H Q _=>∃ (x dx:Addr) (r:Vbecag.Rule),vs=[.ref x,.int (r.low:Nat),.int (r.least:Nat),.int (r.most:Nat)]∧H x=some (.ins A.gU dx [])∧Q .non (upd H x (.ins A.gU dx (ruF r)))
theorem vF (T:Txt K mg A):Fok P w K mg base 1 A.lR ["self","low","least","most"] (DV A):=by
 obtain⟨fd,F⟩:=T.nT
 refine⟨fd,?_,F.b4 fun _ _ _ _ _ _ _ _ _ _=>rfl⟩
 refine F.okX Bm (fun vs H Q E h=>?_) (fun cdv A' outer s H vs Q E hr h=>?_)
 ·exact zL3 (fun _ _ _=>rfl) h
 ·revert h; refine zG3 fun x dx r zz=>?_; obtain⟨rfl,hx,k⟩:=zz
  refine⟨_,ae (bU (pv 0) (pv 1) rfl) (ae (bU (pv 0) (pv 2) rfl) (ak (bU (pv 0) (pv 3) rfl))),?_⟩
  refine zV rfl (zV rfl (zS hx T.bh T.cP (by show 0 < 1000; decide) ?_))
  refine zV rfl (zV rfl (zS af T.bh T.gP (by show 1 < 1000; decide) ?_))
  refine zV rfl (zV rfl (zS af T.bh T.fY (by show 2 < 1000; decide) ?_))
  show Q .non _
  rw [bo,bo]
  exact k
theorem tV:ay ["self","stock","catch"] ["self","stock","catch"] (au jH):=⟨rfl,rfl,rfl,by decide +kernel,rfl,by decide +kernel,by decide +kernel⟩
def may (r:Vbecag.Rule) (x q:Nat):Bool:=decide (r.least≤q∧q≤r.most∧q≤x)
def LJ (A:Ad):Sp:=fun vs H Q _=>∃ (a:Addr) (r:Vbecag.Rule) (x q:Nat),vs=[.ref a,.int x,.int q]∧iU A H a r∧Q (.bl (may r x q)) H
theorem i5 (T:Txt K mg A):Fok P w K mg base 1 A.dH ["self","stock","catch"] (LJ A):=by
 obtain⟨fd,F⟩:=T.fR
 refine⟨fd,?_,F.b3 fun _ _ _ _ _ _ _ _ _=>rfl⟩
 refine F.okX tV (fun vs H Q E h=>?_) (fun cdv A' outer s H vs Q E hr h=>?_)
 ·exact zL4 (fun _ _ _ _=>rfl) h
 ·revert h; refine zG4 fun a r x q zz=>?_; obtain⟨rfl,⟨dx,h1⟩,k⟩:=zz
  refine⟨_,ak (aF (HL (HQ HI HI (aw (pv 0) rfl) (pv 2) (aw (pv 0) rfl)) (DJ (EU HI (pv 2) (pv 1) (HF _))))),?_⟩
  refine zV rfl (zF h1 T.bh T.gP rfl (zV rfl ?_))
  refine zO (zX rfl ?_)
  refine ko (fun c1=>?_) fun c1=>?_
  ·have c1:r.least≤q:=by have:=of_decide_eq_true c1; omega
   refine zX rfl (zF h1 T.bh T.fY rfl (zO (zX rfl ?_)))
   refine ko (fun c2=>?_) fun c2=>?_
   ·have c2:q≤r.most:=by have:=of_decide_eq_true c2; omega
    refine zV rfl (zV rfl (zO ?_))
    have e:decide ((q:Int)≤(x:Int))=may r x q:=by
     unfold may
     by_cases c3:q≤x
     ·rw [decide_eq_true (show (q:Int)≤(x:Int) by omega),decide_eq_true ⟨c1,c2,c3⟩]
     ·rw [decide_eq_false (show ¬ (q:Int)≤(x:Int) by omega),decide_eq_false fun z=>c3 z.2.2]
    show Q (.bl (decide ((q:Int)≤(x:Int)))) H
    rw [e]; exact k
   ·have c2:¬ q≤r.most:=fun z=>c2 (decide_eq_true (show (q:Int)≤(r.most:Int) by omega))
    have e:may r x q=false:=decide_eq_false fun z=>c2 z.2.1
    rw [e] at k
    exact k
  ·have c1:¬ r.least≤q:=fun z=>c1 (decide_eq_true (show (r.least:Int)≤(q:Int) by omega))
   have e:may r x q=false:=decide_eq_false fun z=>c1 z.1
   rw [e] at k
   refine⟨false,rfl,?_⟩
   exact qN k
def iT {α:Type} (r:Vbecag.Rule) (x:Nat) (xs:List α):List α:=(xs.drop (x - r.most)).take (x + 1 - r.least - (x - r.most))
theorem tf {α β:Type} (f:α→β) (r:Vbecag.Rule) (x:Nat) (xs:List α):iT r x (xs.map f)=(iT r x xs).map f:=by
 unfold iT
 rw [← List.map_drop,← List.map_take]
theorem lp {α:Type} {r:Vbecag.Rule} {x:Nat} {xs:List α} {y:α} (hx:x < xs.length):y∈iT r x xs↔∃ q,(r.least≤q∧q≤r.most∧q≤x)∧xs[x - q]?=some y:=by
 unfold iT
 constructor
 ·intro h
  obtain⟨i,hi⟩:=List.mem_iff_getElem?.mp h
  have h1:i < x + 1 - r.least - (x - r.most):=by
   cases Nat.lt_or_ge i (x + 1 - r.least - (x - r.most)) with
   | inl h=>exact h
   | inr h=>rw [List.getElem?_eq_none (by rw [List.length_take]; omega)] at hi; cases hi
  rw [List.getElem?_take_of_lt h1,List.getElem?_drop] at hi
  exact⟨x - (x - r.most + i),⟨by omega,by omega,by omega⟩,by rw [show x - (x - (x - r.most + i))=x - r.most + i from by omega]; exact hi⟩
 ·rintro ⟨q,⟨h1,h2,h3⟩,e⟩
  refine List.mem_iff_getElem?.mpr ⟨x - q - (x - r.most),?_⟩
  rw [List.getElem?_take_of_lt (by omega),List.getElem?_drop,show x - r.most + (x - q - (x - r.most))=x - q from by omega]
  exact e
theorem FF {α:Type} {r:Vbecag.Rule} {x:Nat} {xs:List α}:(iT r x xs).length≤xs.length:=by
 unfold iT
 rw [List.length_take,List.length_drop]; omega
theorem pC:ay ["self","row","stock","first","behind"] ["self","row","stock"] (au mm):=⟨rfl,rfl,rfl,by decide +kernel,rfl,by decide +kernel,by decide +kernel⟩
def Gh (A:Ad):Sp:=fun vs H Q _=>∃ (ar lk:Addr) (r:Vbecag.Rule) (x:Nat) (xs:List V),vs=[.ref ar,.ref lk,.int x]∧iU A H ar r∧H lk=some (.lst xs)∧x < xs.length∧pN H Q (iT r x xs)
theorem lu (T:Txt K mg A):Fok P w K mg base 1 A.gx ["self","row","stock"] (Gh A):=by
 obtain⟨fd,F⟩:=T.jx
 refine⟨fd,?_,F.b3 fun _ _ _ _ _ _ _ _ _=>rfl⟩
 refine F.okX pC (fun vs H Q E h=>?_) (fun cdv A' outer s H vs Q E hr h=>?_)
 ·exact zL5 (fun _ _ _ _ _=>rfl) h
 ·revert h; refine zG5 fun ar lk r x xs zz=>?_; obtain⟨rfl,⟨dx,h1⟩,h2,hx,k⟩:=zz
  have nd:=pC.nd
  refine⟨_,ae (aD (i:=3) nd rfl (Or.inl rfl) (aO (Ah rfl) (by rfl) T.uY (by kernel_rfl) (aa az (aa (bj mz (pv 2) (aw (pv 0) rfl)) ai))))
   (ae (aD (i:=4) nd rfl (Or.inl rfl) (aO (Ah rfl) (by rfl) T.uY (by kernel_rfl) (aa az (aa (bj iz (bj mz (pv 2) (aw (pv 0) rfl)) az) ai))))
   (ak (aF (zi Bs (pv 1) (tE (pv 3)) (tE (pv 4)))))),?_⟩
  refine zV rfl (zV rfl (zF h1 T.bh T.fY rfl (zO (zE2 _ _ ⟨rfl,?_⟩))))
  refine zV rfl (zV rfl (zF h1 T.bh T.gP rfl (zO (zO (zE2 _ _ ⟨rfl,?_⟩)))))
  refine zX rfl (zX rfl (zX rfl (zX rfl (zX rfl ⟨lk,zX rfl ⟨SqL.of h2,fun p hp=>?_⟩⟩))))
  have e1:(if ((x:Int) - (r.most:Int)) > 0 then ((x:Int) - (r.most:Int)) else 0)=((x - r.most:Nat):Int):=by split<;>omega
  have e2:(if ((x:Int) - (r.least:Int) + 1) > 0 then ((x:Int) - (r.least:Int) + 1) else 0)=((x + 1 - r.least:Nat):Int):=by split<;>omega
  have e3:wm xs (some (if ((x:Int) - (r.most:Int)) > 0 then ((x:Int) - (r.most:Int)) else 0)) (some (if ((x:Int) - (r.least:Int) + 1) > 0 then ((x:Int) - (r.least:Int) + 1) else 0))=iT r x xs:=by
   rw [e1,e2]
   unfold wm iT
   rw [HT.tH,HT.tH,Nat.min_eq_left (by omega),Nat.min_eq_left (by omega)]
  have:=k (upd H p (.lst (iT r x xs))) p hp af (aE.upd hp)
  rw [← e3] at this
  exact this
structure Er (H:Hp) (lo:Addr) (g:Vbecag.Growth):Prop where
 ex:∃ os:List Addr,H lo=some (.lst (os.map V.ref))∧os.length=g.n + 1∧∀ (e:Nat) (o:Addr),os[e]?=some o→H o=some (.lst (nv (outs g e)))
theorem Er.keep {H H':Hp} {lo:Addr} {g:Vbecag.Growth} (h:Er H lo g) (s:aE H H'):Er H' lo g:=by
 obtain⟨os,h1,h2,h3⟩:=h
 exact⟨os,s _ _ h1,h2,fun e o q=>s _ _ (h3 e o q)⟩
structure GrA (A:Ad) (H:Hp) (a:Addr) (g:Vbecag.Growth) (lo:Addr):Prop where
 ex:∃ dx lw lt,H a=some (.ins A.aU dx (grF g.n lw lt (grO lo)))∧H lw=some (.lst (nv g.weights))∧H lt=some (.lst (nv g.table.flatten))
 out:Er H lo g
theorem GrA.keep {H H':Hp} {a lo:Addr} {g:Vbecag.Growth} (r:GrA A H a g lo) (s:aE H H'):GrA A H' a g lo:=by
 obtain⟨⟨dx,lw,lt,h1,h2,h3⟩,h4⟩:=r
 exact⟨⟨dx,lw,lt,s _ _ h1,s _ _ h2,s _ _ h3⟩,h4.keep s⟩
theorem GrA.gr {H:Hp} {a lo:Addr} {g:Vbecag.Growth} (r:GrA A H a g lo):uS A H a g:=by
 obtain⟨⟨dx,lw,lt,h1,h2,h3⟩,h4⟩:=r
 exact⟨dx,lw,lt,_,h1,h2,h3,.inr ⟨lo,rfl⟩⟩
theorem sm:ay ["self","greatest","weights","table","left"] ["self","greatest","weights","table"] (au oG):=⟨rfl,rfl,rfl,by decide +kernel,rfl,by decide +kernel,by decide +kernel⟩
def Bu (A:Ad):Sp:=fun vs H Q _=>∃ (x dx:Addr) (g:Vbecag.Growth) (lw lt:Addr),vs=[.ref x,.int (g.n:Nat),.ref lw,.ref lt]∧H x=some (.ins A.aU dx [])∧WfG g∧H lw=some (.lst (nv g.weights))∧H lt=some (.lst (nv g.table.flatten)) ∧
 ∀ H' lo,GrA A H' x g lo→But x H H'→Q .non H'
theorem yQ (T:Txt K mg A):Fok P w K mg base 3 A.ji ["self","greatest","weights","table"] (Bu A):=by
 obtain⟨fd,F⟩:=T.lz
 obtain⟨fdN,GN,bN⟩:=qS (P:=P) (w:=w) (base:=base) T
 refine⟨fd,?_,F.b4 fun _ _ _ _ _ _ _ _ _ _=>rfl⟩
 refine F.okX sm (fun vs H Q E h=>?_) (fun cdv A' outer s H vs Q E hr h=>?_)
 ·exact zL5 (fun _ _ _ _ _=>rfl) h
 ·revert h; refine zG5 fun x dx g lw lt zz=>?_; obtain⟨rfl,hx,W,hw,ht,k⟩:=zz
  have nd:=sm.nd
  have n50:=W.n50
  refine⟨_,ae (bU (pv 0) (pv 1) rfl) (ae (bU (pv 0) (pv 2) rfl) (ae (bU (pv 0) (pv 3) rfl)
   (ak (bU (pv 0) (iA rfl nd (gQ rfl T.fT (aa (bj iz (pv 1) az) ai)) (aR (own:=[("left",4)]) (by kernel_rfl)) (fun _ _ _ _ _=>aL (i:=4) nd rfl (Or.inl rfl)) (fun _ _ _ _ _=>cw)
    (fun _ _ _ _ _=>bz (E:=EN) (pv 0) T.aH T.qO GN hr bN .nil aT (aa (pv 4) ai))) rfl)))),?_⟩
  refine zV rfl (zV rfl (zS hx T.aH T.aW (by show 0 < 1000; decide) ?_))
  refine zV rfl (zV rfl (zS af T.aH T.eF (by show 1 < 1000; decide) ?_))
  refine zV rfl (zV rfl (zS af T.aH T.jC (by show 2 < 1000; decide) ?_))
  rw [bo,bo]
  have b1:But x H (upd H x (.ins A.aU dx (grF g.n lw lt []))):=fun b o hb e=>by rw [aj hb]; exact e
  have nl:∀ b l,H b=some (.lst l)→b≠x:=fun b l e=>hW e hx (by intro z; cases z)
  have G1:uS A (upd H x (.ins A.aU dx (grF g.n lw lt []))) x g:=⟨dx,lw,lt,[],af,b1 _ _ (nl _ _ hw) hw,b1 _ _ (nl _ _ ht) ht,.inl rfl⟩
  refine zX rfl (zO (zX rfl ⟨by omega,by omega,fun D hD=>?_⟩))
  have hD:(upd H x (.ins A.aU dx (grF g.n lw lt []))) D=none:=hD
  refine rH (fun i H'=>∃ os:List Addr,Grows (upd H x (.ins A.aU dx (grF g.n lw lt []))) D (os.map V.ref) H'∧os.length=i∧∀ (e:Nat) (o:Addr),os[e]?=some o→H' o=some (.lst (nv (outs g e)))∧o≠D) ⟨[],.nil hD,rfl,fun e o q=>by simp at q⟩ ?_ fun H2 ⟨os,p2,hol,ho⟩=>?_
  ·rintro i H' hi ⟨os,p,hol,ho⟩
   have hi:i≤g.n:=by omega
   have G':=G1.keep p.same
   obtain⟨dg',lw',lt',tl',hg',_,_,htl'⟩:=id G'
   refine⟨rfl,?_⟩
   dsimp only [xP]
   rw [if_pos rfl]
   refine zV rfl (zE3 x dg' _ ⟨rfl,hg',(vi htl').1,zV rfl ⟨x,g,i,by rw [Int.zero_add]; rfl,G',W,hi,fun H3 l fl hl3 s3=>⟨_,(p.on s3).at_,?_,os ++ [l],?_,by rw [List.length_append,hol]; rfl,fun e o q=>?_⟩⟩⟩)
   ·rw [List.length_map,hol,sizeLine_eq]; omega
   ·rw [List.map_append]; exact (p.on s3).more hD (fun _ _ e=>e)
   ·have hlD:l≠D:=fun e=>by rw [e,p.at_] at fl; cases fl
    by_cases c:e < os.length
    ·rw [List.getElem?_append_left c] at q
     obtain⟨q1,q2⟩:=ho e o q
     exact⟨by rw [aj q2]; exact s3 _ _ q1,q2⟩
    ·rw [List.getElem?_append_right (by omega)] at q
     have e0:e - os.length=0:=by
      cases z':e - os.length with
      | zero=>rfl
      | succ m=>rw [z'] at q; simp at q
     rw [e0] at q
     cases q
     have:e=os.length:=by omega
     rw [this,hol]
     exact⟨by rw [aj hlD]; exact hl3,hlD⟩
  have hol:os.length=g.n + 1:=by rw [hol]; omega
  have hx2:=p2.same _ _ (af (H:=H) (a:=x) (o:=.ins A.aU dx (grF g.n lw lt [])))
  refine zV rfl (zS hx2 T.aH T.bq (by show 3 < 1000; decide) ?_)
  have b2:But x H2 (upd H2 x (.ins A.aU dx (grF g.n lw lt (grO D)))):=fun b o hb e=>by rw [aj hb]; exact e
  have nl2:∀ b l,H2 b=some (.lst l)→b≠x:=fun b l e=>hW e hx2 (by intro z; cases z)
  have bb:But x H (upd H2 x (.ins A.aU dx (grF g.n lw lt (grO D)))):=fun b o hb e=>b2 _ _ hb (p2.same _ _ (b1 _ _ hb e))
  refine k _ D ⟨⟨dx,lw,lt,af,bb _ _ (nl _ _ hw) hw,bb _ _ (nl _ _ ht) ht⟩,⟨os,b2 _ _ (nl2 _ _ p2.at_) p2.at_,hol,fun e o q=>?_⟩⟩ bb
  have q1:=(ho e o q).1
  exact b2 _ _ (nl2 _ _ q1) q1
end HG
end
section
namespace HG
section
open Vbecag VM
def kpS (g:Growth) (s:Stocks):List Bool:=(List.range (g.n + 1)).map fun e=>(outs g e).all (isIn s)
def leaving (g:Growth) (r:Rule) (s:Stocks):List Nat:=((stocks g).filter (isIn s)).filter fun x=>!(iT r x (kpS g s)).any id
theorem A5 (g:Growth) (s:Stocks):(kpS g s).length=g.n + 1:=by simp [kpS]
theorem uV {g:Growth} {s:Stocks} {e:Nat}:(outs g e).all (isIn s)=true↔∀ c,c < g.seasons→isIn s (g.next c e)=true:=by
 rw [List.all_eq_true]
 unfold outs
 constructor
 ·intro q c hc
  exact q _ (List.mem_map.mpr ⟨c,List.mem_range.mpr hc,rfl⟩)
 ·intro q x hx
  obtain⟨c,hc,rfl⟩:=List.mem_map.mp hx
  exact q c (List.mem_range.mp hc)
theorem z8 {g:Growth} {r:Rule} {s:Stocks} {x:Nat} (hx:x≤g.n):(iT r x (kpS g s)).any id=true↔ok g r s x:=by
 rw [List.any_eq_true]
 unfold ok
 have hl:x < (kpS g s).length:=by rw [A5]; omega
 constructor
 ·rintro ⟨b,hb,e⟩
  obtain⟨q,hq,h⟩:=(lp hl).mp hb
  refine⟨q,hq,uV.mp ?_⟩
  unfold kpS at h
  rw [List.getElem?_map,List.getElem?_range (by omega)] at h
  have h:(outs g (x - q)).all (isIn s)=b:=Option.some.inj h
  rw [h]; exact e
 ·rintro ⟨q,hq,h⟩
  refine⟨true,(lp hl).mpr ⟨q,hq,?_⟩,rfl⟩
  unfold kpS
  rw [List.getElem?_map,List.getElem?_range (by omega)]
  show some ((outs g (x - q)).all (isIn s))=some true
  rw [uV.mpr h]
theorem fO {g:Growth} {r:Rule} {s:Stocks} {x:Nat}:x∈leaving g r s↔x≤g.n∧isIn s x=true∧¬ ok g r s x:=by
 unfold leaving stocks
 rw [List.mem_filter,List.mem_filter,List.mem_range]
 constructor
 ·rintro ⟨⟨h1,h2⟩,h3⟩
  refine⟨by omega,h2,fun z=>?_⟩
  rw [(z8 (by omega)).mpr z] at h3
  cases h3
 ·rintro ⟨h1,h2,h3⟩
  refine⟨⟨by omega,h2⟩,?_⟩
  cases e:(iT r x (kpS g s)).any id with
  | false=>rfl
  | true=>exact absurd ((z8 h1).mp e) h3
def mB (s:Stocks):List Nat→Stocks
 | []=>s
 | x :: l=>mB (s.set x false) l
theorem qp:∀ (l:List Nat) (s:Stocks),(mB s l).length=s.length
 | [],_=>rfl
 | x :: l,s=>by unfold mB; rw [qp l,List.length_set]
theorem r8:∀ (l:List Nat) (s:Stocks) (z:Nat),mB s (l ++ [z])=(mB s l).set z false
 | [],_,_=>rfl
 | x :: l,s,z=>by
  show mB (s.set x false) (l ++ [z])=_
  rw [r8 l]; rfl
theorem zg:∀ (l:List Nat) (s:Stocks) (x:Nat),isIn (mB s l) x=(isIn s x && !l.contains x)
 | [],s,x=>by simp [mB]
 | z :: l,s,x=>by
  unfold mB
  rw [zg l]
  unfold isIn
  by_cases h:x=z
  ·subst h
   rw [List.contains_cons,beq_self_eq_true,Bool.true_or,Bool.not_true,Bool.and_false,List.getD_eq_getElem?_getD]
   by_cases hl:x < s.length
   ·rw [List.getElem?_set_self hl]; rfl
   ·rw [List.getElem?_eq_none (by rw [List.length_set]; omega)]; rfl
  ·rw [List.getD_eq_getElem?_getD,List.getElem?_set_ne (Ne.symm h),← List.getD_eq_getElem?_getD,List.contains_cons,show (x == z)=false from by simpa using h,Bool.false_or]
theorem r9 {g:Growth} {r:Rule} {s:Stocks} (hs:s.length=g.n + 1):mB s (leaving g r s)=stay g r s:=by
 refine ext ((qp _ _).trans hs) pk fun x hx=>?_
 apply Bool.eq_iff_iff.mpr
 rw [zg,b7,Bool.and_eq_true]
 constructor
 ·rintro ⟨h1,h2⟩
  refine⟨hx,h1,Classical.byContradiction fun z=>?_⟩
  rw [List.contains_iff_mem.mpr (fO.mpr ⟨hx,h1,z⟩)] at h2
  cases h2
 ·rintro ⟨_,h1,h2⟩
  refine⟨h1,?_⟩
  cases e:(leaving g r s).contains x with
  | false=>rfl
  | true=>exact absurd h2 (fO.mp (List.contains_iff_mem.mp e)).2.2
theorem xl {g:Growth} {r:Rule} {s:Stocks} (hs:s.length=g.n + 1) (h:leaving g r s=[]):stay g r s=s:=by
 rw [← r9 hs,h]; rfl
theorem t4 {g:Growth} {r:Rule} {s:Stocks} (hs:s.length=g.n + 1) (h:leaving g r s≠[]):cnt (stay g r s) < cnt s:=by
 refine AR (by rw [pk,hs]) (fun i e=>(b7.mp e).2.1) fun e=>?_
 cases q:leaving g r s with
 | nil=>exact h q
 | cons a l =>
  have m:=fO.mp (show a∈leaving g r s by rw [q]; exact List.mem_cons_self)
  have h2:isIn (stay g r s) a=true:=(congrArg (fun t=>isIn t a) e).symm.trans m.2.1
  exact m.2.2 (b7.mp h2).2.2
end
open PySem PySem.Spec PyProof.Rows L2
open PySem.W (Frag)
variable {P:Program} {w:World} {K:Frag} {mg:Str→Option Value} {base:Heap} {A:Ad}
theorem lg {ns:List Nat} {i:Nat} {y:V} (h:(nv ns)[i]?=some y):∃ z,ns[i]?=some z∧y=V.int (z:Int):=by
 unfold nv at h
 rw [List.getElem?_map] at h
 cases e:ns[i]? with
 | none=>rw [e] at h; cases h
 | some z=>rw [e] at h; exact⟨z,rfl,(Option.some.inj h).symm⟩
theorem pf {os:List Addr} {i:Nat} {y:V} (h:(os.map V.ref)[i]?=some y):∃ z,os[i]?=some z∧y=V.ref z:=by
 rw [List.getElem?_map] at h
 cases e:os[i]? with
 | none=>rw [e] at h; cases h
 | some z=>rw [e] at h; exact⟨z,rfl,(Option.some.inj h).symm⟩
theorem mU {g:Vbecag.Growth} (W:WfG g) {e x:Nat} (he:e≤g.n) (h:x∈outs g e):x≤g.n:=by
 obtain⟨c,hc,rfl⟩:=List.mem_map.mp h
 exact W.le (List.mem_range.mp hc) he
theorem l0 (g:Vbecag.Growth) (e:Nat):(outs g e).length=g.seasons:=by
 unfold outs
 rw [List.length_map,List.length_range]
theorem eN (g:Vbecag.Growth):(Vbecag.stocks g).length=g.n + 1:=by simp [Vbecag.stocks]
theorem tJ {g:Vbecag.Growth} {i z:Nat} (h:(Vbecag.stocks g)[i]?=some z):z=i∧i≤g.n:=by
 unfold Vbecag.stocks at h
 have hlt:=(List.getElem?_eq_some_iff.mp h).1
 rw [List.length_range] at hlt
 rw [List.getElem?_range hlt] at h
 cases h
 exact⟨rfl,by omega⟩
theorem Ey {bs:List Bool} {i:Nat} (h:i < bs.length):(bs.map V.bl)[i]?=some (.bl (Vbecag.isIn bs i)):=by
 rw [List.getElem?_map,List.getElem?_eq_getElem h]
 show some (V.bl bs[i])=_
 unfold Vbecag.isIn
 rw [List.getD_eq_getElem?_getD,List.getElem?_eq_getElem h]; rfl
theorem yK {α:Type} {f:α→V} {l:List α} {i:Nat} {y:V} (h:(l.map f)[i]?=some y):∃ z,l[i]?=some z∧y=f z:=by
 rw [List.getElem?_map] at h
 cases e:l[i]? with
 | none=>rw [e] at h; cases h
 | some z=>rw [e] at h; exact⟨z,rfl,(Option.some.inj h).symm⟩
theorem vo {a D:Addr} {ns:List Nat} {tt:TT} {vs:List Nat} {σ:L2.St} {H1:Hp} {Qd:Hp→Prop} {j:Nat} (p:Nat→Bool) (hx:H1 a=some (.lst (nv ns))) (hD:H1 D=none) (hz:ns.length≤100000) (hj:j < σ.length)
  (turn:∀ (i:Nat) (x:Nat) H,ns[i]?=some x→aE H1 H→∀ Z:Bool→Hp→Prop,(∀ H',aE H H'→Z (p x) H')→fM j (.int (x:Int)) (wipe σ vs) H fun σ2 H2=>wipe σ2 vs=wipe σ vs∧tt σ2 H2 Z)
  (fin:∀ H,H D=some (.lst (nv (ns.filter p)))→aE H1 H→Qd H):oF (Itl K a) (fM j) tt (tY j) vs σ H1 D Qd:=by
 refine EL (fun v=>match v with | .int i=>p i.toNat | _=>false) hx hD (by rw [aQ]; exact hz) hj (fun i x H hi s Z z=>?_) fun H h s=>fin H ?_ s
 ·obtain⟨n,hn,rfl⟩:=lg hi
  exact turn i n H hn s Z z
 ·rw [h]
  unfold nv
  rw [List.filter_map]
  rfl
theorem jm {a D:Addr} {ns:List Nat} {te:TE} {vs:List Nat} {σ:L2.St} {H1:Hp} {Qd:Hp→Prop} {j:Nat} (f:Nat→V) (hx:H1 a=some (.lst (nv ns))) (hD:H1 D=none) (hz:ns.length≤100000)
  (turn:∀ (i:Nat) (x:Nat) H,ns[i]?=some x→aE H1 H→∀ Z:VK,(∀ H',aE H H'→Z (f x) H')→fM j (.int (x:Int)) (wipe σ vs) H fun σ2 H2=>wipe σ2 vs=wipe σ vs∧te σ2 H2 Z)
  (fin:∀ H,H D=some (.lst (ns.map f))→aE H1 H→Qd H):oF (Itl K a) (fM j) xP te vs σ H1 D Qd:=by
 refine mL (ns.map f) hx hD (by rw [aQ,List.length_map]) (by rw [aQ]; exact hz) (fun i x y H hi hy s Z z=>?_) dJ fin
 obtain⟨n,hn,rfl⟩:=lg hi
 rw [List.getElem?_map,hn] at hy
 cases hy
 exact turn i n H hn s Z z
theorem vU:ay ["after","inside","stock"] ["after","inside"] (au rl):=⟨rfl,rfl,rfl,by decide +kernel,rfl,by decide +kernel,by decide +kernel⟩
def Iw:Sp:=fun vs H Q _=>∃ (la li:Addr) (xs:List Nat) (s:Vbecag.Stocks),vs=[.ref la,.ref li]∧H la=some (.lst (nv xs))∧H li=some (.lst (s.map V.bl))∧(∀ x∈xs,x < s.length)∧xs.length≤1000 ∧
 ∀ H',aE H H'→Q (.bl (xs.all (Vbecag.isIn s))) H'
theorem vI (T:Txt K mg A):Fok P w K mg base 1 A.jQ ["after","inside"] Iw:=by
 obtain⟨fd,F⟩:=T.jM
 refine⟨fd,?_,F.b2 fun _ _ _ _ _ _ _ _=>rfl⟩
 refine F.okX vU (fun vs H Q E h=>?_) (fun cdv A' outer s H vs Q E hr h=>?_)
 ·exact zL4 (fun _ _ _ _=>rfl) h
 ·revert h; refine zG4 fun la li xs bs zz=>?_; obtain⟨rfl,h1,h2,hx,hz,k⟩:=zz
  have nd:=vU.nd
  refine⟨_,ak (aF (aO (Dk rfl) (by rfl) T.z9 (by kernel_rfl) (aa (iA rfl nd (aY (pv 0)) (aR (own:=[("stock",2)]) (by kernel_rfl))
   (fun _ _ _ _ _=>aL (i:=2) nd rfl (Or.inl rfl)) (fun _ _ _ _ _=>cw)
   (fun _ _ _ _ _=>aS (r:=qW K) aG (pv 1) (pv 2) (fun _ _=>rfl))) ai))),?_⟩
  refine zV rfl ⟨la,rfl,⟨_,SqL.of h1⟩,fun D hD=>jm (fun x=>V.bl (Vbecag.isIn bs x)) h1 hD (by omega) (fun i x H' hi s Z z=>?_) fun H' h s=>?_⟩
  ·exact⟨rfl,zV rfl (zV rfl (zI (SqL.of (s _ _ h2)) (bg (Ey (hx x (List.mem_of_getElem? hi)))) (z _ (fun _ _ e=>e))))⟩
  ·refine zE2 D (xs.map (Vbecag.isIn bs)) ⟨rfl,by rw [List.map_map]; exact SqL.of h,?_⟩
   rw [List.all_map]
   exact k H' s
theorem sM:ay ["growth","rule","stock"] ["growth","rule"] (au oW):=⟨rfl,rfl,rfl,by decide +kernel,rfl,by decide +kernel,by decide +kernel⟩
def CD (A:Ad):Sp:=fun vs H Q _=>∃ (ag ar:Addr) (g:Vbecag.Growth) (r:Vbecag.Rule),vs=[.ref ag,.ref ar]∧uS A H ag g∧WfG g∧iU A H ar r∧pN H Q ((Vbecag.high g r).map V.bl)
theorem rZ (T:Txt K mg A):Fok P w K mg base 2 A.gK ["growth","rule"] (CD A):=by
 obtain⟨fd,F⟩:=T.gy
 obtain⟨fdA,GA,bA⟩:=bt (P:=P) (w:=w) (base:=base) T
 refine⟨fd,?_,F.b2 fun _ _ _ _ _ _ _ _=>rfl⟩
 refine F.okX sM (fun vs H Q E h=>?_) (fun cdv A' outer s H vs Q E hr h=>?_)
 ·exact zL4 (fun _ _ _ _=>rfl) h
 ·revert h; refine zG4 fun ag ar g r zz=>?_; obtain⟨rfl,G,W,R,k⟩:=zz
  have nd:=sM.nd
  have n50:=W.n50
  refine⟨_,ak (aF (iA rfl nd (aY (cq (E:=EN) (pv 0) T.aH T.a0 GA hr bA .nil aT)) (aR (own:=[("stock",2)]) (by kernel_rfl))
   (fun _ _ _ _ _=>aL (i:=2) nd rfl (Or.inl rfl)) (fun _ _ _ _ _=>cw)
   (fun _ _ _ _ _=>lx (J3 (pv 2) (show PE _ _ (BA K (tY 1) "low") from aw (pv 1) rfl))))),?_⟩
  obtain⟨dg,lw,lt,tl,hg1,_,_,htl⟩:=id G
  refine zV rfl (zE3 ag dg _ ⟨rfl,hg1,(vi htl).2.2.2.2,ag,g,rfl,G,W,fun H1 ls fls hls s1=>?_⟩)
  refine⟨ls,rfl,⟨_,SqL.of hls⟩,fun D hD=>jm (fun x=>V.bl (decide (r.low≤x))) hls hD (by rw [eN]; omega) (fun i x H' hi s Z z=>?_) fun H' h s=>?_⟩
  ·obtain⟨dr,hr'⟩:=R.keep (s1.trans s)
   refine⟨rfl,zV rfl (zV rfl (zF hr' T.bh T.cP rfl (zO ?_)))⟩
   have e:decide ((r.low:Int)≤(x:Int))=decide (r.low≤x):=by simp
   show Z (.bl (decide ((r.low:Int)≤(x:Int)))) H'
   rw [e]
   exact z _ (fun _ _ e=>e)
  ·refine k H' D (s1.free hD) ?_ (s1.trans s)
   rw [h]
   unfold Vbecag.high
   rw [List.map_map]
   rfl
theorem B0:∀ bs:List Bool,inV (.bl true) (bs.map V.bl)=bs.any id
 | []=>rfl
 | b :: r=>by
  have ih:=B0 r
  unfold inV at ih ⊢
  rw [List.map_cons,List.any_cons,List.any_cons,ih]
  cases b<;>rfl
theorem oA:ay ["growth","rule","inside","keeping","held","after","stock"] ["growth","rule","inside"] (au kZ):=⟨rfl,rfl,rfl,by decide +kernel,rfl,by decide +kernel,by decide +kernel⟩
def Ge (A:Ad):Sp:=fun vs H Q _=>∃ (ag ar li lo:Addr) (g:Vbecag.Growth) (r:Vbecag.Rule) (s:Vbecag.Stocks),vs=[.ref ag,.ref ar,.ref li]∧GrA A H ag g lo∧WfG g∧iU A H ar r∧H li=some (.lst (s.map V.bl))∧s.length=g.n + 1∧pN H Q (nv (leaving g r s))
theorem kF (T:Txt K mg A):Fok P w K mg base 2 A.dB ["growth","rule","inside"] (Ge A):=by
 obtain⟨fd,F⟩:=T.cD
 obtain⟨fdK,GK,bK⟩:=vI (P:=P) (w:=w) (base:=base) T
 obtain⟨fdA,GA,bA⟩:=bt (P:=P) (w:=w) (base:=base) T
 obtain⟨fdL,GL,bL⟩:=lu (P:=P) (w:=w) (base:=base) T
 obtain⟨_,FK⟩:=T.jM
 refine⟨fd,?_,F.b3 fun _ _ _ _ _ _ _ _ _=>rfl⟩
 refine F.okX oA (fun vs H Q E h=>?_) (fun cdv A' outer s H vs Q E hr h=>?_)
 ·exact zL7 (fun _ _ _ _ _ _ _=>rfl) h
 ·revert h; refine zG7 fun ag ar li lo g r bs zz=>?_; obtain⟨rfl,G,W,R,hi,hl,k⟩:=zz
  have nd:=oA.nd
  have n50:=W.n50
  refine⟨_,ae (aD (i:=3) nd rfl (Or.inr rfl) (iA rfl nd (aY (aw (pv 0) rfl)) (aR (own:=[("after",5)]) (by kernel_rfl)) (fun _ _ _ _ _=>aL (i:=5) nd rfl (Or.inl rfl)) (fun _ _ _ _ _=>cw)
    (fun _ _ _ _ _=>aA (E:=EN) GK hr rfl T.lV FK.kp bK .nil aT (aa (pv 5) (aa (pv 2) ai)))))
   (ae (jr (i:=4) rfl nd rfl rfl (lM rfl rfl (by rfl) (by kernel_rfl)) (aY (cq (E:=EN) (pv 0) T.aH T.a0 GA hr bA .nil aT)) (aR (own:=[("stock",6)]) (by kernel_rfl)) (fun _ _ _ _ _=>aL (i:=6) nd rfl (Or.inl rfl))
    (fun _ _ _ _ _=>lK (gc (aS (r:=qW K) aG (pv 2) (pv 6) (fun _ _=>rfl)))) (fun _ _ _ _ _=>pv 6))
   (ak (aF (iA rfl nd (aY (pv 4)) (aR (own:=[("stock",6)]) (by kernel_rfl)) (fun _ _ _ _ _=>aL (i:=6) nd rfl (Or.inl rfl))
    (fun _ _ _ _ _=>lK (yc (r:=rIn K true) vM sg (bz (E:=EN) (pv 1) T.bh T.lj GL hr bL .nil aT (aa (pv 3) (aa (pv 6) ai))) (by rfl))) (fun _ _ _ _ _=>pv 6))))),?_⟩
  obtain⟨⟨dg,lw,lt,hg1,_⟩,⟨os,ho1,ho2,ho3⟩⟩:=id G
  refine zV rfl (zF hg1 T.aH T.bq rfl ⟨lo,rfl,⟨_,SqL.of ho1⟩,fun D hD=>mL ((kpS g bs).map V.bl) ho1 hD (by rw [List.length_map,List.length_map,A5,ho2]) (by rw [List.length_map]; omega) (fun i x y H' hi' hy s Z z=>?_) dJ fun H1 p1 s1=>?_⟩)
  ·obtain⟨o,ho,rfl⟩:=pf hi'
   obtain⟨b,hb,rfl⟩:=yK hy
   have hin:i < g.n + 1:=by have:=(List.getElem?_eq_some_iff.mp ho).1; omega
   have hb:b=(outs g i).all (Vbecag.isIn bs):=by
    unfold kpS at hb
    rw [List.getElem?_map,List.getElem?_range hin] at hb
    exact (Option.some.inj hb).symm
   subst hb
   exact⟨rfl,zV rfl (zV rfl (zE4 o li (outs g i) bs ⟨rfl,s _ _ (ho3 i o ho),s _ _ hi,fun x hx=>by have:=mU W (by omega) hx; omega,by rw [l0]; have:=W.s6; unfold Vbecag.Growth.seasons; omega,fun H2 s2=>z _ s2⟩))⟩
  refine zV rfl (zM (s1 _ _ hg1) rfl (zE2 ag g ⟨rfl,(G.keep s1).gr,W,fun H2 ls fls hls s2=>?_⟩))
  have s12:=s1.trans s2
  refine⟨ls,rfl,⟨_,SqL.of hls⟩,fun D2 hD2=>vo (Vbecag.isIn bs) hls hD2 (by rw [eN]; omega) (show 6 < 7 by decide) (fun i x H' hx s Z z=>?_) fun H3 p3 s3=>?_⟩
  ·obtain⟨rfl,hin⟩:=tJ hx
   exact⟨rfl,zX rfl (zX rfl (zI (SqL.of (s _ _ (s12 _ _ hi))) (bg (Ey (by omega))) (zX rfl (z _ (fun _ _ e=>e)))))⟩
  have s13:=s12.trans s3
  refine zV rfl ⟨D2,rfl,⟨_,SqL.of p3⟩,fun D3 hD3=>vo (fun x=>!(iT r x (kpS g bs)).any id) p3 hD3 ?_ (show 6 < 7 by decide) (fun i x H' hx s Z z=>?_) fun H4 p4 s4=>?_⟩
  ·have:=List.length_filter_le (Vbecag.isIn bs) (Vbecag.stocks g)
   rw [eN] at this; omega
  ·have hxn:x≤g.n:=by
    have:=(List.mem_filter.mp (List.mem_of_getElem? hx)).1
    unfold Vbecag.stocks at this
    have:=List.mem_range.mp this; omega
   have s04:aE H H':=s13.trans s
   obtain⟨dr,hr'⟩:=R.keep s04
   refine⟨rfl,zV rfl (zM hr' rfl (zV rfl (zV rfl (zE5 ar D r x _ ⟨rfl,⟨dr,hr'⟩,s _ _ (s3 _ _ (s2 _ _ p1)),by rw [List.length_map,A5]; omega,fun H5 l fl hl5 s5=>?_⟩))))⟩
   refine⟨l,zX rfl ⟨.inl (SqL.of hl5),rfl,?_,zX rfl ?_⟩⟩
   ·rw [tf]
    exact List.all_eq_true.mpr fun y hy=>by obtain⟨b,_,rfl⟩:=List.mem_map.mp hy; rfl
   ·rw [if_pos rfl,tf,B0]
    exact z _ s5
  ·exact k H4 D3 (s13.free hD3) p4 (s13.trans s4)
end HG
end
section
namespace HG
section
open Vbecag VM
def ykx (g:Growth) (r:Rule) (j x:Nat):Option Nat:=match years g r x with
 | some i=>if i < j then some i else none
 | none=>none
def yk (g:Growth) (r:Rule) (j:Nat):List (Option Nat):=(stocks g).map (ykx g r j)
def yrs (g:Growth) (r:Rule):List (Option Nat):=(stocks g).map (years g r)
theorem zG (g:Growth) (r:Rule) (j:Nat):(yk g r j).length=g.n + 1:=by simp [yk,stocks]
theorem rR {g:Growth} {r:Rule} {m x:Nat}:x∈leaving g r (sk g r m)↔x≤g.n∧years g r x=some (m + 1):=by
 rw [fO,pL]
 constructor
 ·rintro ⟨h1,h2,h3⟩
  refine⟨h1,?_,fun i hi=>ye (show i≤m by omega) h2⟩
  cases e:isIn (sk g r (m + 1)) x with
  | false=>rfl
  | true=>exact absurd (b7.mp e).2.2 h3
 ·rintro ⟨h1,h2,h3⟩
  refine⟨h1,h3 m (by omega),fun z=>?_⟩
  have:=b7.mpr ⟨h1,h3 m (by omega),z⟩
  rw [show stay g r (sk g r m)=sk g r (m + 1) from rfl,h2] at this
  cases this
def putAll (ys:List (Option Nat)) (k:Nat):List Nat→List (Option Nat)
 | []=>ys
 | x :: l=>putAll (ys.set x (some k)) k l
theorem uI (k:Nat):∀ (l:List Nat) (ys:List (Option Nat)),(putAll ys k l).length=ys.length
 | [],_=>rfl
 | x :: l,ys=>by unfold putAll; rw [uI k l,List.length_set]
theorem zk (k:Nat):∀ (l:List Nat) (ys:List (Option Nat)) (x:Nat),x < ys.length→(putAll ys k l)[x]?=if x∈l then some (some k) else ys[x]?
 | [],ys,x,_=>by simp [putAll]
 | z :: l,ys,x,hx=>by
  unfold putAll
  rw [zk k l _ x (by rw [List.length_set]; exact hx)]
  by_cases h1:x∈l
  ·rw [if_pos h1,if_pos (List.mem_cons_of_mem _ h1)]
  ·rw [if_neg h1]
   by_cases h2:x=z
   ·subst h2
    rw [if_pos List.mem_cons_self,List.getElem?_set_self hx]
   ·rw [if_neg (by simp [h1,h2]),List.getElem?_set_ne (Ne.symm h2)]
theorem putAll_snoc (k:Nat):∀ (l:List Nat) (ys:List (Option Nat)) (z:Nat),putAll ys k (l ++ [z])=(putAll ys k l).set z (some k)
 | [],_,_=>rfl
 | x :: l,ys,z=>by
  show putAll (ys.set x (some k)) k (l ++ [z])=_
  rw [putAll_snoc k l]; rfl
theorem gO {α:Type} {g:Growth} {f:Nat→α} {x:Nat} (h:x≤g.n):((stocks g).map f)[x]?=some (f x):=by
 unfold stocks
 rw [List.getElem?_map,List.getElem?_range (by omega)]; rfl
theorem JU {g:Growth} {r:Rule} {m:Nat}:putAll (yk g r (m + 1)) (m + 1) (leaving g r (sk g r m))=yk g r (m + 2):=by
 apply List.ext_getElem?
 intro x
 by_cases hx:x≤g.n
 ·rw [zk _ _ _ _ (by rw [zG]; omega)]
  unfold yk
  rw [gO hx,gO hx]
  by_cases c:x∈leaving g r (sk g r m)
  ·rw [if_pos c]
   have:=(rR.mp c).2
   unfold ykx
   rw [this]
   simp
  ·rw [if_neg c]
   congr 1
   unfold ykx
   cases e:years g r x with
   | none=>rfl
   | some i =>
    have:i≠m + 1:=fun z=>c (rR.mpr ⟨hx,by rw [e,z]⟩)
    by_cases c2:i < m + 1
    ·simp only [if_pos c2,if_pos (show i < m + 2 by omega)]
    ·simp only [if_neg c2,if_neg (show ¬ i < m + 2 by omega)]
 ·rw [List.getElem?_eq_none (by rw [uI,zG]; omega),List.getElem?_eq_none (by rw [zG]; omega)]
theorem II {g:Growth} {r:Rule}:(sk g r 0).map (fun b=>if b=true then none else some 0)=yk g r 1:=by
 show (high g r).map _=_
 unfold high yk
 rw [List.map_map]
 refine List.map_congr_left fun x hx=>?_
 unfold stocks at hx
 have hx:=List.mem_range.mp hx
 show (if decide (r.low≤x)=true then none else some 0)=_
 unfold ykx
 by_cases c:r.low≤x
 ·rw [if_pos (decide_eq_true c)]
  cases e:years g r x with
  | none=>rfl
  | some i =>
   by_cases c2:i < 1
   ·have hi:i=0:=by omega
    subst hi
    have:=(pL.mp e).1
    rw [show sk g r 0=high g r from rfl,gM.mpr ⟨by omega,c⟩] at this
    cases this
   ·simp only [if_neg c2]
 ·rw [if_neg (fun z=>c (of_decide_eq_true z))]
  have:years g r x=some 0:=pL.mpr ⟨by
   show isIn (high g r) x=false
   cases e:isIn (high g r) x with
   | false=>rfl
   | true=>exact absurd (gM.mp e).2 c,fun i hi=>by omega⟩
  rw [this]; rfl
theorem JT {g:Growth} {r:Rule} {m:Nat} (h:leaving g r (sk g r m)=[]):yk g r (m + 1)=yrs g r:=by
 have hs:=xl (rK m) h
 unfold yk yrs
 refine List.map_congr_left fun x hx=>?_
 unfold ykx
 cases e:years g r x with
 | none=>rfl
 | some i =>
  by_cases c:i < m + 1
  ·simp only [if_pos c]
  ·exfalso
   obtain⟨h1,h2⟩:=pL.mp e
   have h3:=h2 m (by omega)
   rw [tI (k:=m) hs (show m≤i by omega),h3] at h1
   cases h1
theorem JA {g:Growth} {r:Rule} {s:Stocks} {i:Nat} (hl:s.length=g.n + 1) (h1:∀ x,isIn (safe g r) x=true→isIn s x=true) (h2:∀ x,isIn s x=true→r.low≤x) (hi2:sf g r s (i + 1)=sf g r s i):sf g r s i=safe g r:=by
 have sub:∀ k x,isIn (safe g r) x=true→isIn (sf g r s k) x=true:=fun k=>by
  induction k with
  | zero=>exact h1
  | succ k ih=>intro x hx; exact b7.mpr ⟨(gd hx).1,ih x hx,xZ ih (gd hx).2.2⟩
 refine ext (wB hl i) kr fun x hx=>?_
 cases e:isIn (safe g r) x with
 | true=>exact sub i x e
 | false =>
  cases e2:isIn (sf g r s i) x with
  | false=>rfl
  | true =>
   have:=uM (g:=g) (r:=r) (t:=sf g r s i) (fun y hy=>by
    have hy':isIn (sf g r s (i + 1)) y=true:=by rw [hi2]; exact hy
    obtain⟨a,_,c⟩:=b7.mp hy'
    exact⟨a,h2 y (DO hy),c⟩) e2
   rw [this] at e; cases e
end
open PySem PySem.Spec PyProof.Rows L2
open PySem.W (Frag)
variable {P:Program} {w:World} {K:Frag} {mg:Str→Option Value} {base:Heap} {A:Ad}
def yV:Option Nat→V
 | none=>.non
 | some k=>.int (k:Int)
def yv (l:List (Option Nat)):List V:=l.map yV
theorem xx {l:List (Option Nat)} {i:Nat} {y:Option Nat} (h:l[i]?=some y):(yv l)[i]?=some (yV y):=by
 unfold yv
 rw [List.getElem?_map,h]; rfl
theorem nO (l:List (Option Nat)):(yv l).length=l.length:=by simp [yv]
theorem Ld (y:Option Nat):decide (yV y=V.non)=y.isNone:=by cases y<;>simp [yV]
theorem Le (l:List (Option Nat)) (i k:Nat):(yv l).set i (.int (k:Int))=yv (l.set i (some k)):=by
 unfold yv
 rw [List.map_set]; rfl
theorem xV {n j:Nat} (h:j < n):ixN n (j:Int)=some j:=by
 unfold ixN
 rw [if_pos (by omega),if_pos (by omega),Int.toNat_natCast]
theorem nM:ay ["growth","rule","inside","years","k","lost","held","stock"] ["growth","rule"] (au kj):=⟨rfl,rfl,rfl,by decide +kernel,rfl,by decide +kernel,by decide +kernel⟩
def JP (A:Ad):Sp:=fun vs H Q _=>∃ (ag ar lo:Addr) (g:Vbecag.Growth) (r:Vbecag.Rule),vs=[.ref ag,.ref ar]∧GrA A H ag g lo∧WfG g∧iU A H ar r∧pN H Q (yv (yrs g r))
theorem uE (T:Txt K mg A):Fok P w K mg base 3 A.cV ["growth","rule"] (JP A):=by
 obtain⟨fd,F⟩:=T.ee
 obtain⟨fdA,GA,bA⟩:=rZ (P:=P) (w:=w) (base:=base) T
 obtain⟨fdL,GL,bL⟩:=kF (P:=P) (w:=w) (base:=base) T
 obtain⟨_,FA⟩:=T.gy
 obtain⟨_,FL⟩:=T.cD
 refine⟨fd,?_,F.b2 fun _ _ _ _ _ _ _ _=>rfl⟩
 refine F.okX nM (fun vs H Q E h=>?_) (fun cdv A' outer s H vs Q E hr h=>?_)
 ·exact zL5 (fun _ _ _ _ _=>rfl) h
 ·revert h; refine zG5 fun ag ar lo g r zz=>?_; obtain⟨rfl,G,W,R,k⟩:=zz
  have nd:=nM.nd
  have n50:=W.n50
  refine⟨_,ae (aD (i:=2) nd rfl (Or.inl rfl) (aA (E:=EN) GA hr rfl T.jo FA.kp bA .nil aT (aa (pv 0) (aa (pv 1) ai))))
   (ae (jr (i:=3) rfl nd rfl rfl (lM rfl rfl (by rfl) (by kernel_rfl)) (aY (pv 2)) (aR (own:=[("held",6)]) (by kernel_rfl)) (fun _ _ _ _ _=>aL (i:=6) nd rfl (Or.inl rfl)) (fun _ _ _ _ _=>cw)
    (fun _ _ _ _ _=>l5 (gc (pv 6)) gb az))
   (ae (aD (i:=4) nd rfl (Or.inl rfl) az)
   (ae (aD (i:=5) nd rfl (Or.inl rfl) (aA (E:=EN) GL hr rfl T.b9 FL.kp bL .nil aT (aa (pv 0) (aa (pv 1) (aa (pv 2) ai)))))
   (ae (js PassesOwn.leaving (bx (qD (aO aN (by rfl) T.eO PySem.boot_len (aa (pv 5) ai)) az))
    (ae (iB PassesOwn.leaving rfl (aY (pv 5)) (aL (i:=7) nd rfl (Or.inl rfl)) (ae (Bh sg (Bf (pv 2) (pv 7) set_list)) (ak (Bh (pv 4) (Bf (pv 3) (pv 7) set_list)))))
    (ae (aD (i:=4) nd rfl (Or.inl rfl) (bj iz (pv 4) az))
    (ak (aD (i:=5) nd rfl (Or.inl rfl) (aA (E:=EN) GL hr rfl T.b9 FL.kp bL .nil aT (aa (pv 0) (aa (pv 1) (aa (pv 2) ai)))))))))
   (ak (aF (pv 3))))))),?_⟩
  refine zV rfl (zV rfl (zE4 ag ar g r ⟨rfl,G.gr,W,R,fun H1 Di fDi hDi s1=>?_⟩))
  refine zV rfl ⟨Di,rfl,⟨_,SqL.of hDi⟩,fun Dy hDy=>mL (yv (yk g r 1)) hDi hDy (by rw [nO,zG,List.length_map,VM.pj]) (by rw [List.length_map,VM.pj]; omega) (fun i x y H' hi hy s Z z=>?_) dJ fun H2 p2 s2=>?_⟩
  ·obtain⟨b,hb,rfl⟩:=yK hi
   rw [← II] at hy
   unfold yv at hy
   rw [List.map_map,List.getElem?_map,show VM.sk g r 0=Vbecag.high g r from rfl,hb] at hy
   cases hy
   refine⟨rfl,zX rfl (zX rfl ?_)⟩
   cases b with
   | true=>exact nP (z _ (fun _ _ e=>e))
   | false=>exact qN (z _ (fun _ _ e=>e))
  have s12:=s1.trans s2
  have fDy:H Dy=none:=s1.free hDy
  have hne:Di≠Dy:=fun e=>by rw [← e,hDi] at hDy; cases hDy
  refine zV rfl (zV rfl (zV rfl (zE7 ag ar Di lo g r (Vbecag.high g r) ⟨rfl,G.keep s12,W,R.keep s12,s2 _ _ hDi,VM.pj,fun H3 ll fll hll s3=>?_⟩)))
  have s13:=s12.trans s3
  let IV:Nat→L2.St→Hp→Prop:=fun m σ H'=>∃ (j:Nat) (ll:Addr) (v:Option V),m=VM.cnt (VM.sk g r j)∧σ=[some (.ref ag),some (.ref ar),some (.ref Di),some (.ref Dy),some (.int ((j + 1:Nat):Int)),some (.ref ll),none,v]∧aE H H' ∧
   H' Di=some (.lst ((VM.sk g r j).map V.bl))∧H' Dy=some (.lst (yv (yk g r (j + 1))))∧H' ll=some (.lst (nv (leaving g r (VM.sk g r j))))∧ll≠Di∧ll≠Dy
  refine⟨IV,⟨_,0,ll,none,rfl,rfl,s13,s3 _ _ (s2 _ _ hDi),s3 _ _ p2,hll,(fun e=>by rw [e,s2 _ _ hDi] at fll; cases fll),fun e=>by rw [e,p2] at fll; cases fll⟩,?_⟩
  rintro m σ H' ⟨j,ll,v,rfl,rfl,sH,hi',hy',hl',n1,n2⟩
  refine zX rfl ⟨ll,zX rfl ⟨.inl (SqL.of hl'),zO (zX rfl ?_)⟩⟩
  rw [aQ]
  refine ko (fun c=>?_) fun c=>?_
  ·have c:leaving g r (VM.sk g r j)≠[]:=fun e=>by
    have:=of_decide_eq_true c
    rw [e] at this
    simp at this
   refine⟨fun σ' H''=>∃ m',m' < VM.cnt (VM.sk g r j)∧IV m' σ' H'',fun _ _ q=>q,?_⟩
   refine⟨_,rfl,ll,rfl,⟨_,SqL.of hl'⟩,jl (K:=K) (a:=ll) (xs:=nv (leaving g r (VM.sk g r j))) (fun i σ H''=>(∃ v,σ=[some (.ref ag),some (.ref ar),some (.ref Di),some (.ref Dy),some (.int ((j + 1:Nat):Int)),some (.ref ll),none,v])∧aE H H'' ∧
     H'' Di=some (.lst ((mB (VM.sk g r j) ((leaving g r (VM.sk g r j)).take i)).map V.bl))∧H'' Dy=some (.lst (yv (putAll (yk g r (j + 1)) (j + 1) ((leaving g r (VM.sk g r j)).take i))))∧H'' ll=some (.lst (nv (leaving g r (VM.sk g r j)))))
    ⟨⟨v,rfl⟩,sH,hi',hy',hl'⟩ (fun i σ H'' _ q=>SqL.of q.2.2.2.2) ?_ ?_⟩
   ·rintro i y σ H'' hi ⟨⟨v,rfl⟩,sH2,q1,q2,q3⟩
    obtain⟨z,hz,rfl⟩:=lg hi
    have hzn:z≤g.n:=(fO.mp (List.mem_of_getElem? hz)).1
    refine zV rfl (zV rfl (zE4 Di _ _ z ⟨rfl,rfl,q1,?_,?_⟩))
    ·rw [List.length_map,qp,VM.rK]; exact xV (by omega)
    refine zV rfl (zV rfl (zV rfl (zE4 Dy _ _ z ⟨rfl,rfl,(aj (Ne.symm hne)).trans q2,?_,?_⟩)))
    ·rw [nO,uI,zG]; exact xV (by omega)
    refine⟨⟨_,rfl⟩,?_,?_,?_,?_⟩
    ·intro b o e
     rw [aj (aq e fDy),aj (aq e fDi)]
     exact sH2 _ _ e
    ·rw [aj hne,af,List.take_add_one,hz,Option.toList_some,r8,List.map_set]
    ·rw [af,Le,List.take_add_one,hz,Option.toList_some,putAll_snoc]
    ·rw [aj n2,aj n1]; exact q3
   ·rintro σ H'' ⟨⟨v,rfl⟩,sH2,q1,q2,q3⟩
    rw [aQ,List.take_length,r9 (VM.rK j)] at q1
    rw [aQ,List.take_length,JU] at q2
    refine zV rfl (zO ?_)
    refine zV rfl (zV rfl (zV rfl (zE7 ag ar Di lo g r _ ⟨rfl,G.keep sH2,W,R.keep sH2,q1,VM.pk,fun H6 l6 f6 h6 s6=>?_⟩)))
    exact⟨_,t4 (VM.rK j) c,j + 1,l6,v,rfl,rfl,sH2.trans s6,s6 _ _ q1,s6 _ _ q2,h6,(fun e=>by rw [e,q1] at f6; cases f6),fun e=>by rw [e,q2] at f6; cases f6⟩
  ·have c:leaving g r (VM.sk g r j)=[]:=by
    cases q:leaving g r (VM.sk g r j) with
    | nil=>rfl
    | cons a l=>exact absurd (decide_eq_true (show (0:Int) < ((leaving g r (VM.sk g r j)).length:Int) by rw [q]; simp)) c
   refine zV rfl ?_
   rw [JT c] at hy'
   exact k H' Dy fDy hy' sH
theorem nJ:ay ["growth","rule","inside","part","lost","stock"] ["growth","rule","inside"] (au kh):=⟨rfl,rfl,rfl,by decide +kernel,rfl,by decide +kernel,by decide +kernel⟩
def KY (A:Ad):Sp:=fun vs H Q _=>∃ (ag ar li lo:Addr) (g:Vbecag.Growth) (r:Vbecag.Rule) (s:Vbecag.Stocks),vs=[.ref ag,.ref ar,.ref li]∧GrA A H ag g lo∧WfG g∧iU A H ar r∧H li=some (.lst (s.map V.bl))∧s.length=g.n + 1 ∧
 (∀ x,Vbecag.isIn (Vbecag.safe g r) x=true→Vbecag.isIn s x=true)∧(∀ x,Vbecag.isIn s x=true→r.low≤x)∧pN H Q ((Vbecag.safe g r).map V.bl)
theorem uC (T:Txt K mg A):Fok P w K mg base 3 A.cT ["growth","rule","inside"] (KY A):=by
 obtain⟨fd,F⟩:=T.d8
 obtain⟨fdL,GL,bL⟩:=kF (P:=P) (w:=w) (base:=base) T
 obtain⟨_,FL⟩:=T.cD
 refine⟨fd,?_,F.b3 fun _ _ _ _ _ _ _ _ _=>rfl⟩
 refine F.okX nJ (fun vs H Q E h=>?_) (fun cdv A' outer s H vs Q E hr h=>?_)
 ·exact zL7 (fun _ _ _ _ _ _ _=>rfl) h
 ·revert h; refine zG7 fun ag ar li lo g r bs zz=>?_; obtain⟨rfl,G,W,R,hb,hl,hsub,hlow,k⟩:=zz
  have nd:=nJ.nd
  have n50:=W.n50
  refine⟨_,ae (aD (i:=3) nd rfl (Or.inl rfl) (tx AQ rfl T.we rfl (aa (pv 2) ai)))
   (ae (aD (i:=4) nd rfl (Or.inl rfl) (aA (E:=EN) GL hr rfl T.b9 FL.kp bL .nil aT (aa (pv 0) (aa (pv 1) (aa (pv 3) ai)))))
   (ae (js PassesOwn.leaving (bx (qD (aO aN (by rfl) T.eO PySem.boot_len (aa (pv 4) ai)) az))
    (ae (iB PassesOwn.leaving rfl (aY (pv 4)) (aL (i:=5) nd rfl (Or.inl rfl)) (ak (Bh sg (Bf (pv 3) (pv 5) set_list))))
    (ak (aD (i:=4) nd rfl (Or.inl rfl) (aA (E:=EN) GL hr rfl T.b9 FL.kp bL .nil aT (aa (pv 0) (aa (pv 1) (aa (pv 3) ai))))))))
   (ak (aF (pv 3))))),?_⟩
  refine zV rfl (zE2 li _ ⟨rfl,.inl (SqL.of hb),fun Di fDi=>?_⟩)
  have s1:=aE.upd (o:=HO.lst (bs.map V.bl)) fDi
  refine zV rfl (zV rfl (zV rfl (zE7 ag ar Di lo g r bs ⟨rfl,G.keep s1,W,R.keep s1,af,hl,fun H3 ll fll hll s3=>?_⟩)))
  have s13:=s1.trans s3
  let IV:Nat→L2.St→Hp→Prop:=fun m σ H'=>∃ (j:Nat) (ll:Addr) (v:Option V),m=VM.cnt (VM.sf g r bs j)∧σ=[some (.ref ag),some (.ref ar),some (.ref li),some (.ref Di),some (.ref ll),v]∧aE H H' ∧
   H' Di=some (.lst ((VM.sf g r bs j).map V.bl))∧H' ll=some (.lst (nv (leaving g r (VM.sf g r bs j))))∧ll≠Di
  refine⟨IV,⟨_,0,ll,none,rfl,rfl,s13,s3 _ _ af,hll,fun e=>by rw [e,af] at fll; cases fll⟩,?_⟩
  rintro m σ H' ⟨j,ll,v,rfl,rfl,sH,hi',hl',n1⟩
  have hls:=VM.wB (r:=r) hl j
  refine zX rfl ⟨ll,zX rfl ⟨.inl (SqL.of hl'),zO (zX rfl ?_)⟩⟩
  rw [aQ]
  refine ko (fun c=>?_) fun c=>?_
  ·have c:leaving g r (VM.sf g r bs j)≠[]:=fun e=>by
    have:=of_decide_eq_true c
    rw [e] at this
    simp at this
   refine⟨fun σ' H''=>∃ m',m' < VM.cnt (VM.sf g r bs j)∧IV m' σ' H'',fun _ _ q=>q,?_⟩
   refine⟨_,rfl,ll,rfl,⟨_,SqL.of hl'⟩,jl (K:=K) (a:=ll) (xs:=nv (leaving g r (VM.sf g r bs j))) (fun i σ H''=>(∃ v,σ=[some (.ref ag),some (.ref ar),some (.ref li),some (.ref Di),some (.ref ll),v])∧aE H H'' ∧
     H'' Di=some (.lst ((mB (VM.sf g r bs j) ((leaving g r (VM.sf g r bs j)).take i)).map V.bl))∧H'' ll=some (.lst (nv (leaving g r (VM.sf g r bs j)))))
    ⟨⟨v,rfl⟩,sH,hi',hl'⟩ (fun i σ H'' _ q=>SqL.of q.2.2.2) ?_ ?_⟩
   ·rintro i y σ H'' hi ⟨⟨v,rfl⟩,sH2,q1,q3⟩
    obtain⟨z,hz,rfl⟩:=lg hi
    have hzn:z≤g.n:=(fO.mp (List.mem_of_getElem? hz)).1
    refine zV rfl (zV rfl (zE4 Di _ _ z ⟨rfl,rfl,q1,?_,?_⟩))
    ·rw [List.length_map,qp,hls]; exact xV (by omega)
    refine⟨⟨_,rfl⟩,?_,?_,?_⟩
    ·intro b o e
     rw [aj (aq e fDi)]
     exact sH2 _ _ e
    ·rw [af,List.take_add_one,hz,Option.toList_some,r8,List.map_set]
    ·rw [aj n1]; exact q3
   ·rintro σ H'' ⟨⟨v,rfl⟩,sH2,q1,q3⟩
    rw [aQ,List.take_length,r9 hls] at q1
    refine zV rfl (zV rfl (zV rfl (zE7 ag ar Di lo g r _ ⟨rfl,G.keep sH2,W,R.keep sH2,q1,VM.pk,fun H6 l6 f6 h6 s6=>?_⟩)))
    exact⟨_,t4 hls c,j + 1,l6,v,rfl,rfl,sH2.trans s6,s6 _ _ q1,h6,fun e=>by rw [e,q1] at f6; cases f6⟩
  ·have c:leaving g r (VM.sf g r bs j)=[]:=by
    cases q:leaving g r (VM.sf g r bs j) with
    | nil=>rfl
    | cons a l=>exact absurd (decide_eq_true (show (0:Int) < ((leaving g r (VM.sf g r bs j)).length:Int) by rw [q]; simp)) c
   refine zV rfl ?_
   rw [JA hl hsub hlow (xl hls c)] at hi'
   exact k H' Di fDi hi' sH
end HG
end
section
namespace HG
section
open Vbecag VM
def o9 (g:Growth) (r:Rule):Nat→Nat→Option Nat
 | 0,_=>none
 | i + 1,x=>if saf g r x i=true then some i else o9 g r i x
theorem yn {g:Growth} {r:Rule} {x:Nat}:∀ {i d:Nat},o9 g r i x=some d→d < i∧saf g r x d=true∧∀ k,d < k→k < i→saf g r x k=false
 | 0,d,h=>by cases h
 | i + 1,d,h=>by
  unfold o9 at h
  by_cases c:saf g r x i=true
  ·rw [if_pos c] at h
   cases h
   exact⟨by omega,c,fun k h1 h2=>by omega⟩
  ·rw [if_neg c] at h
   obtain⟨a,b,e⟩:=yn h
   refine⟨by omega,b,fun k h1 h2=>?_⟩
   by_cases z:k=i
   ·subst z
    cases q:saf g r x k with
    | false=>rfl
    | true=>exact absurd q c
   ·exact e k h1 (by omega)
theorem ym {g:Growth} {r:Rule} {x:Nat}:∀ {i:Nat},o9 g r i x=none→∀ k,k < i→saf g r x k=false
 | 0,h,k,hk=>by omega
 | i + 1,h,k,hk=>by
  unfold o9 at h
  by_cases c:saf g r x i=true
  ·rw [if_pos c] at h; cases h
  ·rw [if_neg c] at h
   by_cases z:k=i
   ·subst z
    cases q:saf g r x k with
    | false=>rfl
    | true=>exact absurd q c
   ·exact ym h k (by omega)
theorem Fc {g:Growth} {r:Rule} {x:Nat} (hm:r.most≤g.n):o9 g r (r.most + 1) x=demand g r x:=by
 cases e:o9 g r (r.most + 1) x with
 | some d =>
  obtain⟨a,b,c⟩:=yn e
  exact (BM hm (by omega) b fun k h1 h2=>c k h1 (by omega)).symm
 | none=>exact (BL hm fun k hk=>ym e k (by omega)).symm
def inS (g:Growth) (r:Rule):Nat→Stocks
 | 0=>high g r
 | i + 1=>safe g { r with least:=i }
theorem IZ {g:Growth} {r:Rule}:∀ i,(inS g r i).length=g.n + 1
 | 0=>pj
 | i + 1=>kr
theorem Ja {g:Growth} {r:Rule}:∀ i x,isIn (safe g { r with least:=i }) x=true→isIn (inS g r i) x=true
 | 0,x,h=>oa.mp h 0
 | i + 1,x,h=>zp (Nat.le_succ i) h
theorem I0 {g:Growth} {r:Rule}:∀ i x,isIn (inS g r i) x=true→r.low≤x
 | 0,x,h=>(gM.mp h).2
 | i + 1,x,h=>(gd h).2.1
end
open PySem PySem.Spec PyProof.Rows L2
open PySem.W (Frag)
variable {P:Program} {w:World} {K:Frag} {mg:Str→Option Value} {base:Heap} {A:Ad}
theorem ma:ay ["growth","rule","inside","demands","least","stock"] ["growth","rule"] (au i3):=⟨rfl,rfl,rfl,by decide +kernel,rfl,by decide +kernel,by decide +kernel⟩
structure WfR (g:Vbecag.Growth) (r:Vbecag.Rule):Prop where
 low:r.low≤g.n
 lm:r.least≤r.most
 most:r.most≤g.n
def dem (g:Vbecag.Growth) (r:Vbecag.Rule):List (Option Nat):=(Vbecag.stocks g).map (Vbecag.demand g r)
def Gd (A:Ad):Sp:=fun vs H Q _=>∃ (ag ar lo:Addr) (g:Vbecag.Growth) (r:Vbecag.Rule),vs=[.ref ag,.ref ar]∧GrA A H ag g lo∧WfG g∧iU A H ar r∧WfR g r∧pN H Q (yv (dem g r))
theorem rY (T:Txt K mg A):Fok P w K mg base 4 A.cy ["growth","rule"] (Gd A):=by
 obtain⟨fd,F⟩:=T.c7
 obtain⟨fdN,GN,bN⟩:=rZ (P:=P) (w:=w) (base:=base) T
 obtain⟨fdA,GA,bA⟩:=bt (P:=P) (w:=w) (base:=base) T
 obtain⟨fdL,GL,bL⟩:=uC (P:=P) (w:=w) (base:=base) T
 obtain⟨fdI,GI,bI⟩:=vF (P:=P) (w:=w) (base:=base) T
 obtain⟨_,FN⟩:=T.gy
 obtain⟨_,FL⟩:=T.d8
 refine⟨fd,?_,F.b2 fun _ _ _ _ _ _ _ _=>rfl⟩
 refine F.okX ma (fun vs H Q E h=>?_) (fun cdv A' outer s H vs Q E hr h=>?_)
 ·exact zL5 (fun _ _ _ _ _=>rfl) h
 ·revert h; refine zG5 fun ag ar lo g r zz=>?_; obtain⟨rfl,G,W,R,WR,k⟩:=zz
  have nd:=ma.nd
  have n50:=W.n50
  have hmost:=WR.most
  have hr1:cf 1 _:=hr.mono (by decide)
  have hr2:cf 2 _:=hr.mono (by decide)
  have hr3:cf 3 _:=hr.mono (by decide)
  refine⟨_,ae (aD (i:=2) nd rfl (Or.inr rfl) (aA (E:=EN) GN hr2 rfl T.jo FN.kp bN .nil aT (aa (pv 0) (aa (pv 1) ai))))
   (ae (aD (i:=3) nd rfl (Or.inr rfl) (iA rfl nd (aY (cq (E:=EN) (pv 0) T.aH T.a0 GA hr1 bA .nil aT)) (aR (own:=[("stock",5)]) (by kernel_rfl)) (fun _ _ _ _ _=>aL (i:=5) nd rfl (Or.inl rfl)) (fun _ _ _ _ _=>cw) (fun _ _ _ _ _=>gb)))
   (ae (iB PassesOwn.leaving rfl (gQ rfl T.fT (aa (bj iz (aw (pv 1) rfl) az) ai)) (aL (i:=4) nd rfl (Or.inr rfl))
    (ae (aD (i:=2) nd rfl (Or.inr rfl) (aA (E:=EN) GL hr3 rfl T.g9 FL.kp bL .nil aT (aa (pv 0) (aa (tD (E:=EN) T.ER GI hr2 rfl T.yJ bI .nil aT (aa (aw (pv 1) rfl) (aa (pv 4) (aa (aw (pv 1) rfl) ai)))) (aa (pv 2) ai)))))
    (ak (aD (i:=3) nd rfl (Or.inr rfl) (iA rfl nd (aY (cq (E:=EN) (pv 0) T.aH T.a0 GA hr1 bA .nil aT)) (aR (own:=[("stock",5)]) (by kernel_rfl)) (fun _ _ _ _ _=>aL (i:=5) nd rfl (Or.inl rfl)) (fun _ _ _ _ _=>cw)
     (fun _ _ _ _ _=>l5 (gc (aS (r:=qW K) aG (pv 2) (pv 5) (fun _ _=>rfl))) (pv 4) (aS (r:=qW K) aG (pv 3) (pv 5) (fun _ _=>rfl))))))))
   (ak (aF (pv 3))))),?_⟩
  obtain⟨⟨dg,lw,lt,hg1,_⟩,_⟩:=id G
  refine zV rfl (zV rfl (zE4 ag ar g r ⟨rfl,G.gr,W,R,fun H1 Di fDi hDi s1=>?_⟩))
  refine zV rfl (zM (s1 _ _ hg1) rfl (zE2 ag g ⟨rfl,(G.keep s1).gr,W,fun H2 ls fls hls s2=>?_⟩))
  refine⟨ls,rfl,⟨_,SqL.of hls⟩,fun Dd fDd=>jm (fun x=>yV (o9 g r 0 x)) hls fDd (by rw [eN]; omega) (fun i x H' hi s Z z=>⟨rfl,z _ (fun _ _ e=>e)⟩) fun H3 p3 s3=>?_⟩
  have s13:=(s1.trans s2).trans s3
  obtain⟨dr0,hr0⟩:=id R
  refine⟨_,rfl,ar,_,dr0,_,_,rfl,s13 _ _ hr0,T.bh,T.fY,rfl,_,_,rfl,rfl,_,rfl,by omega,by omega,sX (lo:=0) (n:=r.most + 1) (fun i σ H'=>∃ (Di Dd:Addr) (v:Option V),σ=[some (.ref ag),some (.ref ar),some (.ref Di),some (.ref Dd),v,none]∧aE H H'∧H Dd=none ∧
   H' Di=some (.lst ((inS g r i).map V.bl))∧H' Dd=some (.lst (yv ((Vbecag.stocks g).map (o9 g r i)))))
   ⟨Di,Dd,none,rfl,s13,(s1.trans s2).free fDd,s3 _ _ (s2 _ _ hDi),by rw [p3]; unfold yv; rw [List.map_map]; rfl⟩ ?_ ?_⟩
  ·rintro i σ H' hi ⟨Di,Dd,v,rfl,sH,fDd,hDi,hDd⟩
   rw [Int.zero_add]
   refine zV rfl (zV rfl (zF (sH _ _ hr0) T.bh T.cP rfl (zV rfl (zV rfl (zF (sH _ _ hr0) T.bh T.fY rfl (fun x dr hx hdr hxd=>?_))))))
   refine zE3 x dr { r with least:=i } ⟨rfl,af,rfl,?_⟩
   rw [bo]
   have s4:aE H' (upd (upd H' dr (.own x)) x (.ins A.gU dr (ruF { r with least:=i }))):=fun b o e=>by rw [aj (aq e hx),aj (aq e hdr)]; exact e
   have s5:=sH.trans s4
   refine zV rfl (zE7 ag x Di lo g { r with least:=i } (inS g r i) ⟨rfl,G.keep s5,W,⟨dr,af⟩,s4 _ _ hDi,IZ i,Ja i,I0 i,fun H6 D6 f6 h6 s6=>?_⟩)
   have s7:=s5.trans s6
   refine zV rfl (zM (s7 _ _ hg1) rfl (zE2 ag g ⟨rfl,(G.keep s7).gr,W,fun H8 ls fls hls s8=>?_⟩))
   refine⟨ls,rfl,⟨_,SqL.of hls⟩,fun D9 f9=>jm (fun x=>yV (o9 g r (i + 1) x)) hls f9 (by rw [eN]; omega) (fun i' x' H' hi' s Z z=>?_) fun H9 p9 s9=>?_⟩
   ·obtain⟨rfl,hin⟩:=tJ hi'
    refine⟨rfl,zX rfl (zX rfl (zI (SqL.of (s _ _ (s8 _ _ h6))) (bg (Ey (by rw [VM.kr]; exact Nat.lt_succ_of_le hin))) (zX rfl ?_)))⟩
    have e:o9 g r (i + 1) x'=if Vbecag.isIn (Vbecag.safe g { r with least:=i }) x'=true then some i else o9 g r i x':=rfl
    rw [e] at z
    refine ko (fun c=>?_) fun c=>?_
    ·rw [if_pos c] at z
     exact zV rfl (z _ (fun _ _ e=>e))
    ·rw [if_neg c] at z
     exact zV rfl (zV rfl (zI (SqL.of (s _ _ (s8 _ _ (s6 _ _ (s4 _ _ hDd))))) (bg (xx (gO hin))) (z _ (fun _ _ e=>e))))
   ·refine zE3 D6 D9 (some (.int (i:Int))) ⟨rfl,(s7.trans s8).trans s9,(s7.trans s8).free f9,s9 _ _ (s8 _ _ h6),?_⟩
    rw [p9]; unfold yv; rw [List.map_map]; rfl
  ·rintro σ H' ⟨Di,Dd,v,rfl,sH,fDd,hDi,hDd⟩
   refine zV rfl (k H' Dd fDd ?_ sH)
   rw [hDd]
   unfold dem
   rw [show o9 g r (r.most + 1)=Vbecag.demand g r from funext fun x=>Fc WR.most]
end HG
end
section
namespace HG
section
open Vbecag VM
theorem u9 {p:Nat→Bool}:∀ {d a:Nat},(∀ q,p q=true→a≤q→q < a + d→False)→(List.range (a + d)).filter p=(List.range a).filter p
 | 0,a,_=>rfl
 | d + 1,a,h=>by
  rw [show a + (d + 1)=(a + d) + 1 from by omega,List.range_succ,List.filter_append,u9 (d:=d) (a:=a) fun q h1 h2 h3=>h q h1 h2 (by omega)]
  cases e:p (a + d) with
  | true=>exact (h _ e (by omega) (by omega)).elim
  | false=>simp [e]
theorem BI (r:Rule) (x:Nat):(List.range (x + 1)).filter (may r x)=catches r x:=by
 unfold catches
 have e1:(List.range (min r.most x + 1)).filter (fun q=>decide (r.least≤q))=(List.range (min r.most x + 1)).filter (may r x):=by
  refine List.filter_congr fun q hq=>?_
  have hq:=List.mem_range.mp hq
  unfold may
  apply Bool.eq_iff_iff.mpr
  rw [decide_eq_true_eq,decide_eq_true_eq]
  omega
 rw [e1]
 have e2:=u9 (p:=may r x) (d:=x - min r.most x) (a:=min r.most x + 1) fun q h1 h2 h3=>by
  unfold may at h1
  have:=of_decide_eq_true h1
  omega
 rw [← e2]
 congr 2
 omega
theorem BV {g:Growth} (r:Rule) (s:Stocks) {x:Nat}:((List.range (x + 1)).filter (may r x)).filter (fun q=>(outs g (x - q)).all (isIn s))=good g r s x:=by
 rw [BI]
 unfold good
 refine List.filter_congr fun q hq=>?_
 apply Bool.eq_iff_iff.mpr
 rw [uV,fA]
def ud (g:Growth) (r:Rule) (k:Nat) (x q c:Nat):Bool:=match years g r (g.next c (x - q)) with
 | none=>false
 | some j=>decide (j < k)
theorem IW {g:Growth} {r:Rule} {x q k:Nat} (h:years g r x=some k):harm g r x q=((List.range g.seasons).find? (ud g r k x q)).getD 0:=by
 unfold harm
 rw [h]
 rfl
theorem IX {g:Growth} {r:Rule} {x q k:Nat} (hn:x≤g.n) (h:years g r x=some k) (hl:r.low≤x) (hm:r.least≤q∧q≤r.most∧q≤x):∃ c,c < g.seasons∧ud g r k x q c=true:=by
 obtain⟨h1,h2⟩:=pL.mp h
 cases k with
 | zero =>
  have:isIn (sk g r 0) x=true:=gM.mpr ⟨hn,hl⟩
  rw [h1] at this; cases this
 | succ m =>
  have h3:=h2 m (by omega)
  have h4:¬ ok g r (sk g r m) x:=fun z=>by
   have:=b7.mpr ⟨hn,h3,z⟩
   rw [show stay g r (sk g r m)=sk g r (m + 1) from rfl,h1] at this; cases this
  have h5:¬ ∀ c,c < g.seasons→isIn (sk g r m) (g.next c (x - q))=true:=fun z=>h4 ⟨q,hm,z⟩
  obtain⟨c,hc⟩:=Classical.not_forall.mp h5
  obtain⟨hc1,hc2⟩:=Classical.not_imp.mp hc
  refine⟨c,hc1,?_⟩
  obtain⟨j,j1,j2,j3⟩:=sW m (by cases z:isIn (sk g r m) (g.next c (x - q)) with | true=>exact absurd z hc2 | false=>rfl)
  unfold ud
  rw [qz j2 j3]
  exact decide_eq_true (by omega)
end
open PySem PySem.Spec PyProof.Rows L2
open PySem.W (Frag)
variable {P:Program} {w:World} {K:Frag} {mg:Str→Option Value} {base:Heap} {A:Ad}
theorem qL:ay ["growth","rule","safe","stock","catches","catch"] ["growth","rule","safe","stock"] (au nq):=⟨rfl,rfl,rfl,by decide +kernel,rfl,by decide +kernel,by decide +kernel⟩
def z4 (A:Ad):Sp:=fun vs H Q _=>∃ (ag ar ls lo:Addr) (g:Vbecag.Growth) (r:Vbecag.Rule) (s:Vbecag.Stocks) (x:Nat),vs=[.ref ag,.ref ar,.ref ls,.int x]∧GrA A H ag g lo∧WfG g∧iU A H ar r∧H ls=some (.lst (s.map V.bl))∧s.length=g.n + 1∧x≤g.n∧pN H Q (nv (Vbecag.good g r s x))
theorem qC (T:Txt K mg A):Fok P w K mg base 2 A.fv ["growth","rule","safe","stock"] (z4 A):=by
 obtain⟨fd,F⟩:=T.eZ
 obtain⟨fdM,GM,bM⟩:=i5 (P:=P) (w:=w) (base:=base) T
 obtain⟨fdK,GK,bK⟩:=vI (P:=P) (w:=w) (base:=base) T
 obtain⟨_,FK⟩:=T.jM
 refine⟨fd,?_,F.b4 fun _ _ _ _ _ _ _ _ _ _=>rfl⟩
 refine F.okX qL (fun vs H Q E h=>?_) (fun cdv A' outer s H vs Q E hr h=>?_)
 ·exact zL8 (fun _ _ _ _ _ _ _ _=>rfl) h
 ·revert h; refine zG8 fun ag ar ls lo g r bs x zz=>?_; obtain⟨rfl,G,W,R,hs,hl,hx,k⟩:=zz
  have nd:=qL.nd
  have n50:=W.n50
  have hr1:cf 1 _:=hr.mono (by decide)
  refine⟨_,ae (jr (i:=4) rfl nd rfl rfl (lM rfl rfl (by rfl) (by kernel_rfl)) (gQ rfl T.fT (aa (bj iz (pv 3) az) ai)) (aR (own:=[("catch",5)]) (by kernel_rfl)) (fun _ _ _ _ _=>aL (i:=5) nd rfl (Or.inl rfl))
    (fun _ _ _ _ _=>lK (gc (bz (E:=EN) (pv 1) T.bh T.i4 GM hr1 bM .nil aT (aa (pv 3) (aa (pv 5) ai))))) (fun _ _ _ _ _=>pv 5))
   (ak (aF (iA rfl nd (aY (pv 4)) (aR (own:=[("catch",5)]) (by kernel_rfl)) (fun _ _ _ _ _=>aL (i:=5) nd rfl (Or.inl rfl))
    (fun _ _ _ _ _=>lK (gc (aA (E:=EN) GK hr1 rfl T.lV FK.kp bK .nil aT (aa (aS (r:=qW K) aG (show PE _ _ (BA K (tY 0) "outcomes") from aw (pv 0) rfl) (bj mz (pv 3) (pv 5)) (fun _ _=>rfl)) (aa (pv 2) ai))))) (fun _ _ _ _ _=>pv 5)))),?_⟩
  refine zV rfl (zO ⟨((x + 1:Nat):Int),rfl,by omega,by omega,fun D hD=>?_⟩)
  rw [Int.toNat_natCast]
  refine A7 (may r x) hD (by omega) (show 5 < 6 by decide) (fun i H' hi s Z z=>?_) fun H1 p1 s1=>?_
  ·obtain⟨dr,hr'⟩:=R.keep s
   exact⟨rfl,zX rfl (zM hr' rfl (zX rfl (zX rfl ⟨ar,r,x,i,rfl,⟨dr,hr'⟩,zX rfl (z _ (fun _ _ e=>e))⟩)))⟩
  refine zV rfl ⟨D,rfl,⟨_,SqL.of p1⟩,fun D2 hD2=>vo (fun q=>(outs g (x - q)).all (Vbecag.isIn bs)) p1 hD2 ?_ (show 5 < 6 by decide) (fun i q H' hq s Z z=>?_) fun H3 p3 s3=>?_⟩
  ·have:=List.length_filter_le (may r x) (List.range (x + 1))
   rw [List.length_range] at this; omega
  ·have hqx:q≤x:=by have:=(List.mem_filter.mp (List.mem_of_getElem? hq)).1; have:=List.mem_range.mp this; omega
   have s0:aE H H':=s1.trans s
   obtain⟨⟨dg,lw,lt,hg1,_⟩,⟨os,ho1,ho2,ho3⟩⟩:=id (G.keep s0)
   have hlt:x - q < os.length:=by omega
   have ho:=List.getElem?_eq_getElem hlt
   refine⟨rfl,zV rfl (zF hg1 T.aH T.bq rfl (zV rfl (zV rfl (zO (zI (SqL.of ho1) (at_of (j:=x - q) (by omega) (by rw [List.getElem?_map,ho]; rfl)) (zV rfl (zE4 _ ls (outs g (x - q)) bs ⟨rfl,ho3 _ _ ho,s0 _ _ hs,fun z hz=>by rw [hl]; have:=mU W (by omega) hz; omega,by rw [l0]; have:=W.s6; unfold Vbecag.Growth.seasons; omega,fun H5 s5=>⟨_,rfl,z _ s5⟩⟩)))))))⟩
  ·rw [BV] at p3
   exact k H3 D2 (s1.free hD2) p3 (s1.trans s3)
theorem Cu:ay ["later","now"] ["later","now"] (au ug):=⟨rfl,rfl,rfl,by decide +kernel,rfl,by decide +kernel,by decide +kernel⟩
def ltO:Option Nat→Nat→Bool
 | none,_=>false
 | some j,k=>decide (j < k)
def JO:Sp:=fun vs H Q _=>∃ (y:Option Nat) (k:Nat),vs=[yV y,.int k]∧Q (.bl (ltO y k)) H
theorem Ce (T:Txt K mg A):Fok P w K mg base 1 A.k8 ["later","now"] JO:=by
 obtain⟨fd,F⟩:=T.mY
 refine⟨fd,?_,F.b2 fun _ _ _ _ _ _ _ _=>rfl⟩
 refine F.okX Cu (fun vs H Q E h=>?_) (fun cdv A' outer s H vs Q E hr h=>?_)
 ·exact zL2 (fun _ _=>rfl) h
 ·revert h; refine zG2 fun y k zz=>?_; obtain⟨rfl,kk⟩:=zz
  refine⟨_,ak (aF (HL (lx (ET (pv 0))) (DJ (lx (pz (pv 0) (pv 1)))))),?_⟩
  cases y with
  | none=>exact zX rfl (zX rfl kk)
  | some j =>
   refine zX rfl (zX rfl (zX rfl (zX rfl (zO ?_))))
   show Q (.bl (decide ((j:Int) < (k:Int)))) H
   rw [show decide ((j:Int) < (k:Int))=decide (j < k) from by simp]
   exact kk
theorem En {g:Vbecag.Growth} {r:Vbecag.Rule} {x:Nat} (hx:x≤g.n):(yv (yrs g r))[x]?=some (yV (Vbecag.years g r x)):=by
 refine xx ?_
 unfold yrs Vbecag.stocks
 rw [List.getElem?_map,List.getElem?_range (by omega)]; rfl
theorem ox:ay ["growth","years","stock","catch","after","worse","season"] ["growth","years","stock","catch"] (au kW):=⟨rfl,rfl,rfl,by decide +kernel,rfl,by decide +kernel,by decide +kernel⟩
def KU (A:Ad):Sp:=fun vs H Q _=>∃ (ag ly lo:Addr) (g:Vbecag.Growth) (r:Vbecag.Rule) (x q k:Nat),vs=[.ref ag,.ref ly,.int x,.int q]∧GrA A H ag g lo∧WfG g∧H ly=some (.lst (yv (yrs g r)))∧x≤g.n∧Vbecag.years g r x=some k∧r.low≤x∧(r.least≤q∧q≤r.most∧q≤x) ∧
 ∀ H',aE H H'→Q (.int (Vbecag.harm g r x q:Nat)) H'
theorem EG {g:Vbecag.Growth} {r:Vbecag.Rule} {x q k:Nat} (hn:x≤g.n) (h:Vbecag.years g r x=some k) (hl:r.low≤x) (hm:r.least≤q∧q≤r.most∧q≤x):Vbecag.harm g r x q < g.seasons∧ud g r k x q (Vbecag.harm g r x q)=true∧((List.range g.seasons).filter (ud g r k x q))[0]?=some (Vbecag.harm g r x q):=by
 obtain⟨c,hc1,hc2⟩:=IX hn h hl hm
 rw [IW h,← List.head?_eq_getElem?,List.head?_filter]
 cases z:(List.range g.seasons).find? (ud g r k x q) with
 | some v=>exact⟨List.mem_range.mp (List.mem_of_find?_eq_some z),List.find?_some z,rfl⟩
 | none=>exact absurd hc2 (List.find?_eq_none.mp z c (List.mem_range.mpr hc1))
theorem ou (T:Txt K mg A):Fok P w K mg base 2 A.dy ["growth","years","stock","catch"] (KU A):=by
 obtain⟨fd,F⟩:=T.dv
 obtain⟨fdW,GW,bW⟩:=Ce (P:=P) (w:=w) (base:=base) T
 obtain⟨_,FW⟩:=T.mY
 refine⟨fd,?_,F.b4 fun _ _ _ _ _ _ _ _ _ _=>rfl⟩
 refine F.okX ox (fun vs H Q E h=>?_) (fun cdv A' outer s H vs Q E hr h=>?_)
 ·exact zL8 (fun _ _ _ _ _ _ _ _=>rfl) h
 ·revert h; refine zG8 fun ag ly lo g r x q k zz=>?_; obtain⟨rfl,G,W,hy,hx,hyx,hlow,hm,kk⟩:=zz
  have nd:=ox.nd
  have hr1:cf 1 _:=hr.mono (by decide)
  refine⟨_,ae (aD (i:=4) nd rfl (Or.inr rfl) (aS aG (aw (pv 0) rfl) (bj mz (pv 2) (pv 3)) (fun _ _=>rfl)))
   (ae (jr (i:=5) rfl nd rfl rfl (lM rfl rfl (by rfl) (by kernel_rfl)) (gQ rfl T.fT (aa (aO aN (by rfl) T.eO PySem.boot_len (aa (pv 4) ai)) ai)) (aR (own:=[("season",6)]) (by kernel_rfl)) (fun _ _ _ _ _=>aL (i:=6) nd rfl (Or.inl rfl))
    (fun _ _ _ _ _=>lK (gc (aA (E:=EN) GW hr1 rfl T.qh FW.kp bW .nil aT (aa (aS (r:=qW K) aG (pv 1) (aS (r:=qW K) aG (pv 4) (pv 6) (fun _ _=>rfl)) (fun _ _=>rfl)) (aa (aS (r:=qW K) aG (pv 1) (pv 2) (fun _ _=>rfl)) ai))))) (fun _ _ _ _ _=>pv 6))
   (ak (aF (aS aG (pv 5) az (fun _ _=>rfl))))),?_⟩
  obtain⟨⟨dg,lw,lt,hg1,_⟩,⟨os,ho1,ho2,ho3⟩⟩:=id G
  have hlt:x - q < os.length:=by omega
  have ho:=List.getElem?_eq_getElem hlt
  refine zV rfl (zF hg1 T.aH T.bq rfl (zV rfl (zV rfl (zO (zI (SqL.of ho1) (at_of (j:=x - q) (by omega) (by rw [List.getElem?_map,ho]; rfl)) ?_)))))
  have hl:=ho3 _ _ ho
  have h6:g.seasons≤6:=W.s6
  have hol:=l0 g (x - q)
  refine zV rfl (zE2 _ _ ⟨rfl,.inl (SqL.of hl),((g.seasons:Nat):Int),(by rw [aQ,hol]),by omega,by omega,fun D hD=>?_⟩)
  rw [Int.toNat_natCast]
  refine A7 (ud g r k x q) hD (by omega) (show 6 < 7 by decide) (fun i H' hi s Z z=>?_) fun H2 p2 s2=>?_
  ·have ho:(outs g (x - q))[i]?=some (g.next i (x - q)):=by unfold outs; rw [List.getElem?_map,List.getElem?_range hi]; rfl
   have hle:g.next i (x - q)≤g.n:=W.le hi (by omega)
   refine⟨rfl,zX rfl (zX rfl (zX rfl (zI (SqL.of (s _ _ hl)) (bg (rT ho)) (zI (SqL.of (s _ _ hy)) (bg (En hle)) (zX rfl (zX rfl (zI (SqL.of (s _ _ hy)) (bg (En hx)) ⟨Vbecag.years g r (g.next i (x - q)),k,by rw [hyx]; rfl,zX rfl ?_⟩)))))))⟩
   have e:ltO (Vbecag.years g r (g.next i (x - q))) k=ud g r k x q i:=by unfold ltO ud; cases Vbecag.years g r (g.next i (x - q))<;>rfl
   rw [e]
   exact z _ (fun _ _ e=>e)
  exact zV rfl (zI (SqL.of p2) (at_of (j:=0) rfl (rT (EG hx hyx hlow hm).2.2)) (kk H2 s2))
end HG
end
section
namespace HG
open PySem PySem.Spec PyProof.Rows L2
open PySem.W (Frag)
variable {P:Program} {w:World} {K:Frag} {mg:Str→Option Value} {base:Heap} {A:Ad}
theorem Mb {A:Around} {k:Nat} (hr:cf k A):A.units + 64 < cLine:=by have:=hr.un; omega
theorem xi:∀ ns:List Int,PyData.canLayAll0 (ns.map PyData.int)=true
 | []=>rfl
 | n :: ns=>by rw [List.map_cons]; unfold PyData.canLayAll0; rw [xi ns]; rfl
theorem yw:∀ ns:List Int,PyData.depthAll (ns.map PyData.int)≤1
 | []=>by decide
 | n :: ns=>by
  rw [List.map_cons]
  unfold PyData.depthAll
  have:=yw ns
  have h:PyData.depth (PyData.int n)≤1:=by first | exact Nat.le_refl _ | (unfold PyData.depth; omega)
  omega
theorem shaped_ints (ns:List Int):SeqAt.shaped (PyData.list (ns.map PyData.int))=true:=by
 unfold SeqAt.shaped
 rw [Bool.and_eq_true]
 refine⟨by unfold PyData.canLay0; exact xi ns,decide_eq_true ?_⟩
 unfold PyData.depth
 have:=yw ns
 omega
theorem BQ:∀ ns ms:List Int,PyData.eqvAll (ns.map PyData.int) (ms.map PyData.int)=decide (ns=ms)
 | [],[]=>by rfl
 | [],_ :: _=>by rw [List.map_nil,List.map_cons]; unfold PyData.eqvAll; simp
 | _ :: _,[]=>by rw [List.map_nil,List.map_cons]; unfold PyData.eqvAll; simp
 | n :: ns,m :: ms=>by
  rw [List.map_cons,List.map_cons]
  unfold PyData.eqvAll
  rw [BQ ns ms]
  unfold PyData.eqv
  apply Bool.eq_iff_iff.mpr
  rw [Bool.and_eq_true,beq_iff_eq,decide_eq_true_eq,decide_eq_true_eq,List.cons.injEq]
theorem AY {H:Hp}:∀ ns:List Int,yh K H (ns.map V.int) (ns.map PyData.int)
 | []=>.nil
 | n :: ns=>.cons (.int n) (AY ns)
theorem Ax:∀ t:List Nat,((t.zip (t.drop 1)).all fun p=>decide (p.1≤p.2))=true↔t.Pairwise (·≤·)
 | []=>by simp
 | [a]=>by simp
 | a :: b :: t=>by
  have ih:=Ax (b :: t)
  rw [List.drop_succ_cons,List.drop_zero] at ih ⊢
  rw [List.zip_cons_cons,List.all_cons,Bool.and_eq_true,ih,List.pairwise_cons (a:=a)]
  constructor
  ·rintro ⟨h1,h2⟩
   refine⟨fun x hx=>?_,h2⟩
   have h1:a≤b:=of_decide_eq_true h1
   rcases List.mem_cons.mp hx with rfl | hx
   ·exact h1
   ·exact Nat.le_trans h1 ((List.pairwise_cons.mp h2).1 x hx)
  ·rintro ⟨h1,h2⟩
   exact⟨decide_eq_true (h1 b List.mem_cons_self),h2⟩
theorem DM {t:List Nat} {ns:List Int} (hp:ns.Perm (t.map fun x:Nat=>(x:Int))) (hs:ns.Pairwise (·≤·)):decide ((t.map fun x:Nat=>(x:Int))=ns)=(t.zip (t.drop 1)).all fun p=>decide (p.1≤p.2):=by
 apply Bool.eq_iff_iff.mpr
 rw [decide_eq_true_eq,Ax]
 have e:(t.map fun x:Nat=>(x:Int)).Pairwise (·≤·)↔t.Pairwise (·≤·):=by
  rw [List.pairwise_map]
  constructor
  ·intro h; exact h.imp fun q=>by omega
  ·intro h; exact h.imp fun q=>by omega
 rw [← e]
 constructor
 ·intro h; rw [h]; exact hs
 ·intro h
  exact List.Perm.eq_of_pairwise (fun a b _ _ h1 h2=>Int.le_antisymm h1 h2) h hs hp.symm
theorem Ht {te:TE} {vs:List Nat} {σ:L2.St} {H1:Hp} {D:Addr} {Qd:Hp→Prop} {j n:Nat} (c:Nat→List V) (hD:H1 D=none) (hz:n≤100000)
  (turn:∀ (i:Nat) H,i < n→aE H1 H→∀ Z:VK,(∀ H' l,H l=none→H' l=some (.lst (c i))→aE H H'→Z (.ref l) H')→fM j (.int (i:Int)) (wipe σ vs) H fun σ2 H2=>wipe σ2 vs=wipe σ vs∧te σ2 H2 Z)
  (fin:∀ H (os:List Addr),H D=some (.lst (os.map V.ref))→os.length=n→(∀ (i:Nat) o,os[i]?=some o→H o=some (.lst (c i)))→aE H1 H→Qd H):oF (Itr 0 n) (fM j) xP te vs σ H1 D Qd:=by
 refine rH (lo:=0) (n:=n) (fun i H'=>∃ os:List Addr,Grows H1 D (os.map V.ref) H'∧os.length=i∧∀ (e:Nat) (o:Addr),os[e]?=some o→H' o=some (.lst (c e))∧o≠D) ⟨[],.nil hD,rfl,fun e o q=>by simp at q⟩ ?_ fun H2 ⟨os,p2,hol,ho⟩=>fin H2 os p2.at_ hol (fun e o q=>(ho e o q).1) p2.same
 rintro i H hi ⟨os,p,hol,ho⟩
 rw [Int.zero_add]
 have t:=turn i H hi p.same (fun y H4=>∃ acc,H4 D=some (.lst acc)∧acc.length < sizeLine∧∃ os:List Addr,Grows H1 D (os.map V.ref) (upd H4 D (.lst (acc ++ [y])))∧os.length=i + 1∧∀ (e:Nat) (o:Addr),os[e]?=some o→(upd H4 D (.lst (acc ++ [y]))) o=some (.lst (c e))∧o≠D) ?_
 ·refine dJ _ _ _ _ _ (fun σ2 H2 h=>⟨h.1,?_⟩) t
  dsimp only [xP]
  rw [if_pos rfl]
  exact h.2
 ·intro H3 l fl hl3 s3
  refine⟨_,(p.on s3).at_,?_,os ++ [l],?_,by rw [List.length_append,hol]; rfl,fun e o q=>?_⟩
  ·rw [List.length_map,hol,sizeLine_eq]; omega
  ·rw [List.map_append]; exact (p.on s3).more hD (fun _ _ e=>e)
  ·have hlD:l≠D:=fun e=>by rw [e,p.at_] at fl; cases fl
   by_cases c:e < os.length
   ·rw [List.getElem?_append_left c] at q
    obtain⟨q1,q2⟩:=ho e o q
    exact⟨by rw [aj q2]; exact s3 _ _ q1,q2⟩
   ·rw [List.getElem?_append_right (by omega)] at q
    have e0:e - os.length=0:=by
     cases z':e - os.length with
     | zero=>rfl
     | succ m=>rw [z'] at q; simp at q
    rw [e0] at q
    cases q
    have:e=os.length:=by omega
    rw [this,hol]
    exact⟨by rw [aj hlD]; exact hl3,hlD⟩
theorem vT:ay ["growth","rows","season","row"] ["growth"] (au rh):=⟨rfl,rfl,rfl,by decide +kernel,rfl,by decide +kernel,by decide +kernel⟩
def Ir (A:Ad):Sp:=fun vs H Q _=>∃ (ag:Addr) (g:Vbecag.Growth),vs=[.ref ag]∧uS A H ag g∧WfG g∧∀ H',aE H H'→Q (.bl (Vbecag.rising g)) H'
theorem Be (T:Txt K mg A):Fok P w K mg base 2 A.jP ["growth"] (Ir A):=by
 obtain⟨fd,F⟩:=T.lO
 obtain⟨fdS,GS,bS⟩:=cp (P:=P) (w:=w) (base:=base) T
 obtain⟨fdR,GR,bR⟩:=rV (P:=P) (w:=w) (base:=base) T
 refine⟨fd,?_,F.b1 fun _ _ _ _ _ _ _=>rfl⟩
 refine F.okX vT (fun vs H Q E h=>?_) (fun cdv A' outer s H vs Q E hr h=>?_)
 ·exact zL2 (fun _ _=>rfl) h
 ·revert h; refine zG2 fun ag g zz=>?_; obtain⟨rfl,G,W,k⟩:=zz
  have nd:=vT.nd
  refine⟨_,ae (jr (i:=1) rfl nd rfl rfl (lM rfl rfl (by rfl) (by kernel_rfl)) (gQ rfl T.fT (aa (cq (E:=EN) (pv 0) T.aH T.cn GS (hr.mono (by decide)) bS .nil aT) ai)) (aR (own:=[("season",2)]) (by kernel_rfl)) (fun _ _ _ _ _=>aL (i:=2) nd rfl (Or.inl rfl)) (fun _ _ _ _ _=>cw)
    (fun _ _ _ _ _=>bz (E:=EN) (pv 0) T.aH T.rO GR (hr.mono (by decide)) bR .nil aT (aa (pv 2) ai)))
   (ak (aF (aO (Dk rfl) (by rfl) T.z9 (by kernel_rfl) (aa (iA rfl nd (aY (pv 1)) (aR (own:=[("row",3)]) (by kernel_rfl)) (fun _ _ _ _ _=>aL (i:=3) nd rfl (Or.inl rfl)) (fun _ _ _ _ _=>cw)
    (fun _ _ _ _ _=>EU (r:=LB K) (KJ (Mb hr)) (pv 3) (show PE _ _ (tCB (EY K) (ID (tY 3) CN)) from aO Fp (by rfl) T.uZ (by kernel_rfl) (aa (pv 3) ai)) (HF _))) ai)))),?_⟩
  obtain⟨dg,lw,lt,tl,hg1,_,_,htl⟩:=id G
  have h6:g.seasons≤6:=W.s6
  refine zV rfl (zE3 ag dg _ ⟨rfl,hg1,(vi htl).2.2.1,ag,g,rfl,G,((g.seasons:Nat):Int),rfl,by omega,by omega,fun D hD=>?_⟩)
  rw [Int.toNat_natCast]
  refine Ht (fun c=>nv (g.table.getD c [])) hD (by omega) (fun i H' hi s Z z=>?_) fun H2 os p2 hol ho s2=>?_
  ·have G':=G.keep s
   obtain⟨dg',lw',lt',tl',hg',_,_,htl'⟩:=id G'
   exact⟨rfl,zV rfl (zE3 ag dg' _ ⟨rfl,hg',(vi htl').2.2.2.1,zV rfl (zE3 ag g i ⟨rfl,G',W,hi,z⟩)⟩)⟩
  have htl:=W.len
  have hlen:os.length=g.table.length:=by rw [hol,htl]; rfl
  refine zV rfl ⟨D,rfl,⟨_,SqL.of p2⟩,fun D2 hD2=>mL ((g.table.map fun t=>(t.zip (t.drop 1)).all fun p=>decide (p.1≤p.2)).map V.bl) p2 hD2 (by rw [List.length_map,List.length_map,List.length_map,hlen]) (by rw [List.length_map]; omega) (fun i x y H' hi hy s Z z=>?_) dJ fun H3 p3 s3=>?_⟩
  ·obtain⟨o,hoi,rfl⟩:=pf hi
   rw [List.map_map] at hy
   obtain⟨t,ht,rfl⟩:=yK hy
   have hrow:=ho i o hoi
   have et:g.table.getD i []=t:=by rw [List.getD_eq_getElem?_getD,ht]; rfl
   rw [et] at hrow
   have htm:t∈g.table:=List.mem_of_getElem? ht
   have hlt:=(W.row t htm).1
   have n50:=W.n50
   have hS:SqL K H' o ((t.map fun x:Nat=>(x:Int)).map V.int):=by
    have:=SqL.of (K:=K) (s _ _ hrow)
    unfold nv at this
    rw [List.map_map]
    exact this
   refine⟨rfl,zV rfl (zV rfl (zE2 o (t.map (fun x:Nat=>(x:Int))) ⟨rfl,hS,by rw [List.length_map]; omega,fun ns' p hp hs hpn=>?_⟩))⟩
   have hne:o≠p:=aq (s _ _ hrow) hpn
   refine⟨.list ((t.map fun x:Nat=>(x:Int)).map PyData.int),.list (ns'.map PyData.int),.lst (SqL.of (xs:=(t.map fun x:Nat=>(x:Int)).map V.int) ?_) (AY _),.lst (SqL.of af) (AY _),shaped_ints _,shaped_ints _,?_⟩
   ·rw [aj hne,s _ _ hrow]
    unfold nv
    rw [List.map_map]; rfl
   ·unfold PyData.eqv
    rw [BQ,DM hp hs]
    exact z _ (aE.upd hpn)
  ·refine zE2 D2 (g.table.map (fun t=>(t.zip (t.drop 1)).all fun p=>decide (p.1≤p.2))) ⟨rfl,SqL.of p3,?_⟩
   have:=k H3 (s2.trans s3)
   unfold Vbecag.rising at this
   rw [List.all_map]
   exact this
end HG
end
section
namespace HG
open Vbecag VM
theorem foldl_max:∀ (l:List Nat) (a:Nat),(∀ x∈l,x≤l.foldl max a)∧a≤l.foldl max a∧(l.foldl max a=a∨l.foldl max a∈l)
 | [],a=>⟨fun x h=>(nomatch h),Nat.le_refl _,.inl rfl⟩
 | y :: l,a=>by
  obtain⟨h1,h2,h3⟩:=foldl_max l (max a y)
  refine⟨fun x hx=>?_,by rw [List.foldl_cons]; omega,?_⟩
  ·rw [List.foldl_cons]
   rcases List.mem_cons.mp hx with rfl | hx
   ·omega
   ·exact h1 x hx
  ·rw [List.foldl_cons]
   rcases h3 with h3 | h3
   ·rw [h3]
    by_cases c:a≤y
    ·exact .inr (by rw [Nat.max_eq_right c]; exact List.mem_cons_self)
    ·exact .inl (Nat.max_eq_left (by omega))
   ·exact .inr (List.mem_cons_of_mem _ h3)
theorem n9 {l:List Nat} {m:Nat} (hm:m∈l) (h:∀ y∈l,y≤m):Vbecag.greatest l=m:=by
 obtain⟨h1,h2,h3⟩:=foldl_max l 0
 unfold Vbecag.greatest
 have:=h1 m hm
 rcases h3 with h3 | h3
 ·omega
 ·have:=h _ h3; omega
theorem vk {l:List Nat} (h:l≠[]):Vbecag.greatest l∈l∧∀ y∈l,y≤Vbecag.greatest l:=by
 obtain⟨h1,h2,h3⟩:=foldl_max l 0
 unfold Vbecag.greatest
 refine⟨?_,h1⟩
 rcases h3 with h3 | h3
 ·cases l with
  | nil=>exact absurd rfl h
  | cons a l =>
   have:=h1 a List.mem_cons_self
   rw [h3] at this ⊢
   have:a=0:=by omega
   rw [this]; exact List.mem_cons_self
 ·exact h3
theorem rJ:∀ {l:List Nat},l≠[]→leastOf l∈l∧∀ y∈l,leastOf l≤y
 | [],h=>absurd rfl h
 | [a],_=>by simp [leastOf]
 | a :: b :: l,_=>by
  obtain⟨h1,h2⟩:=rJ (l:=b :: l) (by simp)
  have e:leastOf (a :: b :: l)=min a (leastOf (b :: l)):=rfl
  rw [e]
  refine⟨?_,fun y hy=>?_⟩
  ·rcases Nat.le_total a (leastOf (b :: l)) with z | z
   ·rw [Nat.min_eq_left z]; exact List.mem_cons_self
   ·rw [Nat.min_eq_right z]; exact List.mem_cons_of_mem _ h1
  ·rcases List.mem_cons.mp hy with rfl | hy
   ·exact Nat.min_le_left _ _
   ·exact Nat.le_trans (Nat.min_le_right _ _) (h2 y hy)
theorem yG {l:List Nat} {m:Nat} (hm:m∈l) (h:∀ y∈l,m≤y):leastOf l=m:=by
 obtain⟨h1,h2⟩:=rJ (l:=l) (by intro e; rw [e] at hm; cases hm)
 exact Nat.le_antisymm (h2 m hm) (h _ h1)
def xA (r:Rule) (u:Nat) (L:List (Option Nat)) (x:Nat):List Nat:=(catches r x).filterMap fun q=>(L.getD (x - q) none).map fun v=>v + u * q
def bestAt (r:Rule) (u:Nat) (L:List (Option Nat)) (x:Nat):Option Nat:=if x < r.low then none else if xA r u L x=[] then none else some (greatest (xA r u L x))
def jz (r:Rule) (u:Nat) (L:List (Option Nat)):List (Option Nat):=(List.range L.length).map (bestAt r u L)
theorem vz {r:Rule} {u:Nat} {L:List (Option Nat)} {x m:Nat}:m∈xA r u L x↔∃ q,(r.least≤q∧q≤r.most∧q≤x)∧∃ v,L.getD (x - q) none=some v∧m=v + u * q:=by
 unfold xA
 rw [List.mem_filterMap]
 constructor
 ·rintro ⟨q,hq,h⟩
  refine⟨q,du.mp hq,?_⟩
  cases e:L.getD (x - q) none with
  | none=>rw [e] at h; cases h
  | some v=>rw [e] at h; exact⟨v,rfl,(Option.some.inj h).symm⟩
 ·rintro ⟨q,hq,v,h,rfl⟩
  exact⟨q,du.mpr hq,by rw [h]; rfl⟩
def G0 (l:List (Option Int)):Option Int→Prop
 | none=>∀ z∈l,z=none
 | some m=>some m∈l∧∀ i,some i∈l→i≤m
def worth (u:Nat) (L:List (Option Nat)):List (Option Int):=(List.range L.length).map fun (e:Nat)=>Option.map (fun (v:Nat)=>(v:Int) - (u:Int) * (e:Int)) (L.getD e none)
theorem mX (u:Nat) (L:List (Option Nat)):(worth u L).length=L.length:=by simp [worth]
theorem wb {u:Nat} {L:List (Option Nat)} {e:Nat} (h:e < L.length):(worth u L)[e]?=some (Option.map (fun (v:Nat)=>(v:Int) - (u:Int) * (e:Int)) (L.getD e none)):=by
 unfold worth
 rw [List.getElem?_map,List.getElem?_range h]; rfl
theorem Fd {r:Rule} {u:Nat} {L:List (Option Nat)} {x:Nat} (hx:x < L.length) (hl:¬ x < r.low) (h:G0 (iT r x (worth u L)) none):bestAt r u L x=none:=by
 unfold bestAt
 rw [if_neg hl,if_pos]
 cases e:xA r u L x with
 | nil=>rfl
 | cons m l =>
  obtain⟨q,hq,v,hv,_⟩:=vz.mp (show m∈xA r u L x by rw [e]; exact List.mem_cons_self)
  have:=h _ ((lp (by rw [mX]; exact hx)).mpr ⟨q,hq,wb (by omega)⟩)
  rw [hv] at this
  cases this
theorem Fe {r:Rule} {u:Nat} {L:List (Option Nat)} {x:Nat} {m:Int} (hx:x < L.length) (hl:¬ x < r.low) (h:G0 (iT r x (worth u L)) (some m)):∃ b:Nat,bestAt r u L x=some b∧m + (u:Int) * (x:Int)=(b:Int):=by
 obtain⟨h1,h2⟩:=h
 obtain⟨q,hq,e⟩:=(lp (by rw [mX]; exact hx)).mp h1
 rw [wb (by omega)] at e
 cases e2:L.getD (x - q) none with
 | none=>rw [e2] at e; cases e
 | some v =>
  rw [e2] at e
  have e:m=(v:Int) - (u:Int) * ((x - q:Nat):Int):=(Option.some.inj (Option.some.inj e)).symm
  have hmem:v + u * q∈xA r u L x:=vz.mpr ⟨q,hq,v,e2,rfl⟩
  have key:∀ (p:Nat) (v':Nat),p≤x→(v':Int) - (u:Int) * ((x - p:Nat):Int) + (u:Int) * (x:Int)=((v' + u * p:Nat):Int):=fun p v' hp=>by
   have h3:((x - p:Nat):Int)=(x:Int) - (p:Int):=by omega
   rw [h3,Int.mul_sub]
   push_cast
   omega
  have hg:greatest (xA r u L x)=v + u * q:=n9 hmem fun y hy=>by
   obtain⟨q',hq',v',hv',rfl⟩:=vz.mp hy
   have:=h2 ((v':Int) - (u:Int) * ((x - q':Nat):Int)) ((lp (by rw [mX]; exact hx)).mpr ⟨q',hq',by rw [wb (by omega),hv']; rfl⟩)
   have k1:=key q v hq.2.2
   have k2:=key q' v' hq'.2.2
   exact Int.ofNat_le.mp (by rw [← k1,← k2]; exact Int.add_le_add_right (by rw [← e]; exact this) _)
  refine⟨v + u * q,?_,?_⟩
  ·unfold bestAt
   rw [if_neg hl,if_neg (fun z=>by rw [z] at hmem; cases hmem),hg]
  ·rw [e]; exact key q v hq.2.2
def rG (R:List (Option Nat)) (after:List Nat):Option Nat:=if (after.any fun y=>(R.getD y none).isNone)=true then none else some (leastOf (after.map fun y=>(R.getD y none).getD 0))
def rF (ws:List Nat) (R:List (Option Nat)) (after:List Nat):Option Nat:=if (after.any fun y=>(R.getD y none).isNone)=true then none else some ((ws.zip (after.map fun y=>(R.getD y none).getD 0)).map fun p=>p.1 * p.2).sum
theorem ny {g:Growth} {r:Rule}:∀ {k x:Nat},isIn (sk g r (k + 1)) x=true↔x≤g.n∧r.low≤x∧ok g r (sk g r k) x
 | 0,x=>by
  show isIn (stay g r (high g r)) x=true↔_
  rw [b7,gM]
  constructor
  ·rintro ⟨a,⟨_,b⟩,c⟩; exact⟨a,b,c⟩
  ·rintro ⟨a,b,c⟩; exact⟨a,⟨a,b⟩,c⟩
 | k + 1,x=>by
  constructor
  ·intro h
   have h2:=b7.mp h
   exact⟨h2.1,(ny.mp h2.2.1).2.1,h2.2.2⟩
  ·rintro ⟨a,b,c⟩
   refine b7.mpr ⟨a,ny.mpr ⟨a,b,xZ (fun y hy=>Br hy) c⟩,c⟩
def rowOf (g:Growth) (s:Stocks) (v:List Nat):List (Option Nat):=(stocks g).map fun x=>if isIn s x=true then some (v.getD x 0) else none
theorem tG (g:Growth) (s:Stocks) (v:List Nat):(rowOf g s v).length=g.n + 1:=by simp [rowOf,stocks]
theorem pA {g:Growth} {s:Stocks} {v:List Nat} {x:Nat} (hx:x≤g.n):(rowOf g s v).getD x none=if isIn s x=true then some (v.getD x 0) else none:=by
 unfold rowOf
 rw [List.getD_eq_getElem?_getD,gO hx]; rfl
theorem any_none {g:Growth} (W:WfG g) {s:Stocks} {v:List Nat} {e:Nat} (he:e≤g.n):((outs g e).any fun y=>((rowOf g s v).getD y none).isNone)=true↔¬ ∀ c,c < g.seasons→isIn s (g.next c e)=true:=by
 rw [← uV,List.any_eq_true]
 constructor
 ·rintro ⟨y,hy,h⟩ z
  rw [pA (mU W he hy),if_pos (List.all_eq_true.mp z y hy)] at h
  cases h
 ·intro h
  have h:((outs g e).all (isIn s))=false:=by cases q:(outs g e).all (isIn s) with | true=>exact absurd q h | false=>rfl
  obtain⟨y,hy,h2⟩:=List.all_eq_false.mp h
  exact⟨y,hy,by rw [pA (mU W he hy),if_neg h2]; rfl⟩
theorem Au {g:Growth} (W:WfG g) {s:Stocks} {v:List Nat} {e:Nat} (he:e≤g.n) (h:∀ c,c < g.seasons→isIn s (g.next c e)=true):((outs g e).map fun y=>((rowOf g s v).getD y none).getD 0)=(List.range g.seasons).map fun c=>v.getD (g.next c e) 0:=by
 unfold outs
 rw [List.map_map]
 refine List.map_congr_left fun c hc=>?_
 have hc:=List.mem_range.mp hc
 show ((rowOf g s v).getD (g.next c e) none).getD 0=_
 rw [pA (W.le hc he),if_pos (h c hc)]; rfl
theorem Cr {g:Growth} {r:Rule} {k u:Nat} {v':List Nat} {L:List (Option Nat)} {val:Nat→Nat→Nat} (hL:L.length=g.n + 1)
  (hn:∀ e,e≤g.n→¬ (∀ c,c < g.seasons→isIn (sk g r k) (g.next c e)=true)→L.getD e none=none)
  (hs:∀ x q,x≤g.n→q≤x→(∀ c,c < g.seasons→isIn (sk g r k) (g.next c (x - q))=true)→∃ t,L.getD (x - q) none=some t∧t + u * q=val x q)
  (hv:∀ x,x≤g.n→v'.getD x 0=greatest ((good g r (sk g r k) x).map (val x))):rowOf g (sk g r (k + 1)) v'=jz r u L:=by
 unfold rowOf jz stocks
 rw [hL]
 refine List.map_congr_left fun x hx=>?_
 have hx:x≤g.n:=by have:=List.mem_range.mp hx; omega
 have hc:∀ m,m∈xA r u L x↔m∈(good g r (sk g r k) x).map (val x):=fun m=>by
  rw [vz,List.mem_map]
  constructor
  ·rintro ⟨q,hq,t,ht,rfl⟩
   have h3:∀ c,c < g.seasons→isIn (sk g r k) (g.next c (x - q))=true:=Classical.byContradiction fun z=>by
    rw [hn _ (by omega) z] at ht; cases ht
   obtain⟨t',ht',e⟩:=hs x q hx hq.2.2 h3
   rw [ht] at ht'
   cases ht'
   exact⟨q,lX.mpr ⟨hq,fA.mpr h3⟩,e.symm⟩
  ·rintro ⟨q,hq,rfl⟩
   obtain⟨h1,h2⟩:=lX.mp hq
   obtain⟨t,ht,e⟩:=hs x q hx h1.2.2 (fA.mp h2)
   exact⟨q,h1,t,ht,e.symm⟩
 have hok:xA r u L x≠[]↔ok g r (sk g r k) x:=by
  constructor
  ·intro h
   cases e:xA r u L x with
   | nil=>exact absurd e h
   | cons m l =>
    obtain⟨q,hq,_⟩:=List.mem_map.mp ((hc m).mp (by rw [e]; exact List.mem_cons_self))
    obtain⟨h1,h2⟩:=lX.mp hq
    exact⟨q,h1,fA.mp h2⟩
  ·rintro ⟨q,h1,h2⟩ e
   have:=(hc (val x q)).mpr (List.mem_map.mpr ⟨q,lX.mpr ⟨h1,fA.mpr h2⟩,rfl⟩)
   rw [e] at this; cases this
 unfold bestAt
 by_cases hl:x < r.low
 ·rw [if_pos hl,if_neg fun z=>by have:=(ny.mp z).2.1; omega]
 ·rw [if_neg hl]
  by_cases c:xA r u L x=[]
  ·rw [if_pos c,if_neg fun z=>(hok.mpr (ny.mp z).2.2) c]
  ·rw [if_neg c,if_pos (ny.mpr ⟨hx,by omega,hok.mp c⟩),hv x hx]
   congr 1
   obtain⟨m1,m2⟩:=vk c
   exact n9 ((hc _).mp m1) fun y hy=>m2 y ((hc y).mpr hy)
def eJ (g:Growth) (r:Rule) (k:Nat):List (Option Nat):=rowOf g (sk g r k) (sure g r k).2
def eD (g:Growth) (r:Rule) (k:Nat):List (Option Nat):=rowOf g (sk g r k) (mean g r k).2
def md (g:Growth) (f:List Nat→Option Nat):List (Option Nat):=(List.range (g.n + 1)).map fun e=>f (outs g e)
theorem pP {g:Growth} {f:List Nat→Option Nat} {e:Nat} (he:e≤g.n):(md g f).getD e none=f (outs g e):=by
 unfold md
 rw [List.getD_eq_getElem?_getD,List.getElem?_map,List.getElem?_range (by omega)]; rfl
theorem kP (g:Growth) (f:List Nat→Option Nat):(md g f).length=g.n + 1:=by simp [md]
theorem rC {g:Growth} {f:Nat→Nat} {x:Nat} (hx:x≤g.n):((stocks g).map f).getD x 0=f x:=by
 rw [List.getD_eq_getElem?_getD,gO hx]; rfl
theorem Gv {g:Growth} (W:WfG g) {r:Rule} {k:Nat}:eJ g r (k + 1)=jz r 1 (md g (rG (eJ g r k))):=by
 unfold eJ
 refine Cr (k:=k) (val:=fun x q=>q + leastOf ((List.range g.seasons).map fun c=>(sure g r k).2.getD (g.next c (x - q)) 0)) (kP _ _) (fun e he h=>?_) (fun x q hx hq h=>?_) fun x hx=>?_
 ·rw [pP he]
  unfold rG
  rw [if_pos ((any_none W he).mpr h)]
 ·rw [pP (by omega)]
  unfold rG
  rw [if_neg fun z=>(any_none W (by omega)).mp z h,Au W (by omega) h]
  exact⟨_,rfl,by show _ + 1 * q=q + _; omega⟩
 ·show (sureStep g r (sure g r k).1 (sure g r k).2).getD x 0=_
  unfold sureStep
  rw [rC hx,yg]
theorem E5:∀ (ws:List Nat) (f:Nat→Nat) (i:Nat),((ws.zip ((List.range' i ws.length).map f)).map fun p=>p.1 * p.2)=(ws.zipIdx i).map fun p=>p.1 * f p.2
 | [],_,_=>rfl
 | w :: ws,f,i=>by
  rw [List.length_cons,List.range'_succ,List.map_cons,List.zip_cons_cons,List.zipIdx_cons,List.map_cons,List.map_cons,E5 ws f (i + 1)]
theorem FT {g:Growth} (W:WfG g) {r:Rule} {k:Nat}:eD g r (k + 1)=jz r (weight g ^ (k + 1)) (md g (rF g.weights (eD g r k))):=by
 unfold eD
 refine Cr (k:=k) (val:=fun x q=>q * weight g ^ k * weight g + ((g.weights.zipIdx).map fun p=>p.1 * (mean g r k).2.getD (g.next p.2 (x - q)) 0).sum) (kP _ _) (fun e he h=>?_) (fun x q hx hq h=>?_) fun x hx=>?_
 ·rw [pP he]
  unfold rF
  rw [if_pos ((any_none W he).mpr h)]
 ·rw [pP (by omega)]
  unfold rF
  rw [if_neg fun z=>(any_none W (by omega)).mp z h,Au W (by omega) h]
  refine⟨_,rfl,?_⟩
  have e:=E5 g.weights (fun c=>(mean g r k).2.getD (g.next c (x - q)) 0) 0
  unfold Growth.seasons
  rw [List.range_eq_range',e,Nat.pow_succ,Nat.mul_assoc q,Nat.mul_comm q,Nat.add_comm]
 ·show (meanStep g r (weight g ^ k) (mean g r k).1 (mean g r k).2).getD x 0=_
  unfold meanStep
  rw [rC hx,xX]
theorem Ay {g:Growth} {r:Rule}:(stocks g).map (fun x=>if x < r.low then none else some 0)=rowOf g (sk g r 0) ((stocks g).map fun _=>0):=by
 unfold rowOf
 refine List.map_congr_left fun x hx=>?_
 have hx:x≤g.n:=by unfold stocks at hx; have:=List.mem_range.mp hx; omega
 rw [rC hx]
 show _=if isIn (high g r) x=true then _ else _
 by_cases c:x < r.low
 ·rw [if_pos c,if_neg fun z=>by have:=(gM.mp z).2; omega]
 ·rw [if_neg c,if_pos (gM.mpr ⟨hx,by omega⟩)]
end HG
end
section
namespace HG
open PySem PySem.Spec PyProof.Rows L2
open PySem.W (Frag)
variable {P:Program} {w:World} {K:Frag} {mg:Str→Option Value} {base:Heap} {A:Ad}
def iV:Option Int→V
 | none=>.non
 | some k=>.int k
theorem nL:ay ["growth","rule","stock"] ["growth","rule"] (au ki):=⟨rfl,rfl,rfl,by decide +kernel,rfl,by decide +kernel,by decide +kernel⟩
def Jx (g:Vbecag.Growth) (r:Vbecag.Rule):List (Option Nat):=(Vbecag.stocks g).map fun x=>if x < r.low then none else some 0
def KZ (A:Ad):Sp:=fun vs H Q _=>∃ (ag ar:Addr) (g:Vbecag.Growth) (r:Vbecag.Rule),vs=[.ref ag,.ref ar]∧uS A H ag g∧WfG g∧iU A H ar r∧pN H Q (yv (Jx g r))
theorem uD (T:Txt K mg A):Fok P w K mg base 2 A.cU ["growth","rule"] (KZ A):=by
 obtain⟨fd,F⟩:=T.d9
 obtain⟨fdA,GA,bA⟩:=bt (P:=P) (w:=w) (base:=base) T
 refine⟨fd,?_,F.b2 fun _ _ _ _ _ _ _ _=>rfl⟩
 refine F.okX nL (fun vs H Q E h=>?_) (fun cdv A' outer s H vs Q E hr h=>?_)
 ·exact zL4 (fun _ _ _ _=>rfl) h
 ·revert h; refine zG4 fun ag ar g r zz=>?_; obtain⟨rfl,G,W,R,k⟩:=zz
  have nd:=nL.nd
  have n50:=W.n50
  refine⟨_,ak (aF (iA rfl nd (aY (cq (E:=EN) (pv 0) T.aH T.a0 GA hr bA .nil aT)) (aR (own:=[("stock",2)]) (by kernel_rfl))
   (fun _ _ _ _ _=>aL (i:=2) nd rfl (Or.inl rfl)) (fun _ _ _ _ _=>cw)
   (fun _ _ _ _ _=>l5 (bx (pz (pv 2) (show PE _ _ (BA K (tY 1) "low") from aw (pv 1) rfl))) gb az))),?_⟩
  obtain⟨dg,lw,lt,tl,hg1,_,_,htl⟩:=id G
  refine zV rfl (zE3 ag dg _ ⟨rfl,hg1,(vi htl).2.2.2.2,ag,g,rfl,G,W,fun H1 ls fls hls s1=>?_⟩)
  refine⟨ls,rfl,⟨_,SqL.of hls⟩,fun D hD=>jm (fun x=>yV (if x < r.low then none else some 0)) hls hD (by rw [eN]; omega) (fun i x H' hi s Z z=>?_) fun H' h s=>?_⟩
  ·obtain⟨dr,hr'⟩:=R.keep (s1.trans s)
   refine⟨rfl,zX rfl (zX rfl (zF hr' T.bh T.cP rfl (zO (zX rfl ?_))))⟩
   refine ko (fun c=>?_) fun c=>?_
   ·have c:x < r.low:=by have:=of_decide_eq_true c; omega
    rw [if_pos c] at z
    exact z _ (fun _ _ e=>e)
   ·have c:¬ x < r.low:=fun q=>c (decide_eq_true (show (x:Int) < (r.low:Int) by omega))
    rw [if_neg c] at z
    exact z _ (fun _ _ e=>e)
  ·refine k H' D (s1.free hD) ?_ (s1.trans s)
   rw [h]
   unfold yv Jx
   rw [List.map_map]
   rfl
theorem ow:ay ["totals","total"] ["totals"] (au kU):=⟨rfl,rfl,rfl,by decide +kernel,rfl,by decide +kernel,by decide +kernel⟩
def JH:Sp:=fun vs H Q _=>∃ (a:Addr) (l:List (Option Int)),vs=[.ref a]∧H a=some (.lst (l.map iV))∧l.length≤1000∧∀ H' y,G0 l y→aE H H'→Q (iV y) H'
theorem qe:∀ l:List (Option Int),((l.map iV).filter fun v=>!decide (v=V.non))=(l.filterMap id).map V.int
 | []=>rfl
 | none :: l=>by
  have ih:=qe l
  rw [List.map_cons,List.filter_cons,if_neg (by simp [iV]),ih]; rfl
 | some k :: l=>by
  have ih:=qe l
  rw [List.map_cons,List.filter_cons,if_pos (by simp [iV]),ih]; rfl
theorem vH (T:Txt K mg A):Fok P w K mg base 1 A.dw ["totals"] JH:=by
 obtain⟨fd,F⟩:=T.eW
 refine⟨fd,?_,F.b1 fun _ _ _ _ _ _ _=>rfl⟩
 refine F.okX ow (fun vs H Q E h=>?_) (fun cdv A' outer s H vs Q E hr h=>?_)
 ·exact zL2 (fun _ _=>rfl) h
 ·revert h; refine zG2 fun a l zz=>?_; obtain⟨rfl,ha,hz,k⟩:=zz
  have nd:=ow.nd
  refine⟨_,ak (aF (wV (EA rfl) (by rfl) T.uY (by kernel_rfl) (aa (iA rfl nd (aY (pv 0)) (aR (own:=[("total",1)]) (by kernel_rfl))
   (fun _ _ _ _ _=>aL (i:=1) nd rfl (Or.inl rfl)) (fun _ _ _ _ _=>lK (bx (ET (pv 1)))) (fun _ _ _ _ _=>pv 1)) ai) (Bg gb DK))),?_⟩
  refine zV rfl ⟨a,rfl,⟨_,SqL.of ha⟩,fun D hD=>EL (fun v=>!decide (v=V.non)) ha hD (by rw [List.length_map]; omega) (show 1 < 2 by decide) (fun i x H' hi s Z z=>?_) fun H' h s=>?_⟩
  ·exact⟨rfl,zX rfl (zX rfl (z _ (fun _ _ e=>e)))⟩
  ·rw [qe] at h
   refine⟨D,l.filterMap id,.non,rfl,rfl,SqL.of h,fun e=>k H' none (fun z hz=>?_) s,fun m hm hmax=>k H' (some m) ⟨?_,fun i hi=>hmax i ?_⟩ s⟩
   ·cases z with
    | none=>rfl
    | some i =>
     have:i∈l.filterMap id:=List.mem_filterMap.mpr ⟨some i,hz,rfl⟩
     rw [e] at this; cases this
   ·obtain⟨y,hy,e⟩:=List.mem_filterMap.mp hm
    have e:y=some m:=e
    rw [← e]; exact hy
   ·exact List.mem_filterMap.mpr ⟨some i,hi,rfl⟩
theorem xr:ay ["rule","unit","later","worth","row","stock","best","left"] ["rule","unit","later"] (au uf):=⟨rfl,rfl,rfl,by decide +kernel,rfl,by decide +kernel,by decide +kernel⟩
def KR (A:Ad):Sp:=fun vs H Q _=>∃ (ar ll:Addr) (r:Vbecag.Rule) (u:Nat) (L:List (Option Nat)),vs=[.ref ar,.int u,.ref ll]∧iU A H ar r∧H ll=some (.lst (yv L))∧L.length≤51∧pN H Q (yv (jz r u L))
theorem getD_some {l:List (Option Nat)} {x:Nat} (h:x < l.length):l[x]?=some (l.getD x none):=by
 rw [List.getD_eq_getElem?_getD,List.getElem?_eq_getElem h]; rfl
theorem xp (T:Txt K mg A):Fok P w K mg base 2 A.k7 ["rule","unit","later"] (KR A):=by
 obtain⟨fd,F⟩:=T.kO
 obtain⟨fdL,GL,bL⟩:=lu (P:=P) (w:=w) (base:=base) T
 obtain⟨fdK,GK,bK⟩:=vH (P:=P) (w:=w) (base:=base) T
 obtain⟨_,FK⟩:=T.eW
 refine⟨fd,?_,F.b3 fun _ _ _ _ _ _ _ _ _=>rfl⟩
 refine F.okX xr (fun vs H Q E h=>?_) (fun cdv A' outer s H vs Q E hr h=>?_)
 ·exact zL5 (fun _ _ _ _ _=>rfl) h
 ·revert h; refine zG5 fun ar ll r u L zz=>?_; obtain⟨rfl,R,hL,hz,k⟩:=zz
  have nd:=xr.nd
  refine⟨_,ae (jr (i:=3) rfl nd rfl rfl (lM rfl rfl (by rfl) (by kernel_rfl)) (gQ rfl T.fT (aa (aO aN (by rfl) T.eO PySem.boot_len (aa (pv 2) ai)) ai)) (aR (own:=[("left",7)]) (by kernel_rfl)) (fun _ _ _ _ _=>aL (i:=7) nd rfl (Or.inl rfl)) (fun _ _ _ _ _=>cw)
    (fun _ _ _ _ _=>l5 (bx (uG (aS (r:=qW K) aG (pv 2) (pv 7) (fun _ _=>rfl)))) gb (bj mz (aS (r:=qW K) aG (pv 2) (pv 7) (fun _ _=>rfl)) (bj qo (pv 1) (pv 7)))))
   (ae (aD (i:=4) nd rfl (Or.inl rfl) (bQ ai))
   (ae (iB PassesOwn.leaving rfl (gQ rfl T.fT (aa (aO aN (by rfl) T.eO PySem.boot_len (aa (pv 2) ai)) ai)) (aL (i:=5) nd rfl (Or.inl rfl))
    (ae (aD (i:=6) nd rfl (Or.inl rfl) (l5 (bx (pz (pv 5) (aw (pv 0) rfl))) gb (aA (E:=EN) GK (hr.mono (by decide)) rfl T.iP FK.kp bK .nil aT (aa (bz (E:=EN) (pv 0) T.bh T.lj GL (hr.mono (by decide)) bL .nil aT (aa (pv 3) (aa (pv 5) ai))) ai))))
    (ak (aK (qE PySem.F.plainAttrs_list PySem.F.slot_list_append PySem.F.type_list_append fE (pv 4) (aa (l5 (bx (uG (pv 6))) gb (bj iz (pv 6) (bj qo (pv 1) (pv 5)))) ai))))))
   (ak (aF (pv 4))))),?_⟩
  refine zV rfl (zE2 ll _ ⟨rfl,.inl (SqL.of hL),((L.length:Nat):Int),(by rw [nO]),by omega,by omega,fun D hD=>?_⟩)
  rw [Int.toNat_natCast]
  refine Jd ((worth u L).map iV) hD (by rw [List.length_map,mX]) (by omega) (fun i y H' hi hy s Z z=>?_) fun H1 p1 s1=>?_
  ·rw [List.getElem?_map,wb hi] at hy
   have hy:iV (Option.map (fun (v:Nat)=>(v:Int) - (u:Int) * (i:Int)) (L.getD i none))=y:=Option.some.inj hy
   have hat:=bg (xx (getD_some hi))
   refine⟨rfl,zX rfl (zX rfl (zI (SqL.of (s _ _ hL)) hat (zX rfl ?_)))⟩
   cases e:L.getD i none with
   | none =>
    rw [e] at hy
    rw [← hy] at z
    exact nP (z _ (fun _ _ e=>e))
   | some v =>
    rw [e] at hy hat
    rw [← hy] at z
    refine qN (zV rfl (zV rfl (zI (SqL.of (s _ _ hL)) hat (zV rfl (zV rfl (zO ⟨.inr ⟨by omega,by omega⟩,zO (z _ (fun _ _ e=>e))⟩))))))
  refine⟨by show 0≤sizeLine; decide,fun Dr fDr=>?_⟩
  have s2:=aE.upd (o:=HO.lst []) fDr
  have s12:=s1.trans s2
  have fr:H Dr=none:=s1.free fDr
  refine zV rfl (zE2 ll _ ⟨rfl,.inl (SqL.of (s12 _ _ hL)),((L.length:Nat):Int),(by rw [nO]),by omega,by omega,?_⟩)
  rw [Int.toNat_natCast]
  refine sX (lo:=0) (n:=L.length) (fun i σ H'=>(∃ v5 v6,σ=[some (.ref ar),some (.int (u:Int)),some (.ref ll),some (.ref D),some (.ref Dr),v5,v6,none])∧aE H1 H'∧H' Dr=some (.lst (yv ((jz r u L).take i))))
   ⟨⟨none,none,rfl⟩,s2,af⟩ ?_ ?_
  ·rintro i σ H' hi ⟨⟨v5,v6,rfl⟩,sH,hDr⟩
   rw [Int.zero_add]
   have s0:=s1.trans sH
   obtain⟨dr,hr'⟩:=R.keep s0
   have hb:(jz r u L)[i]?=some (bestAt r u L i):=by unfold jz; rw [List.getElem?_map,List.getElem?_range hi]; rfl
   have hbl:(jz r u L).length=L.length:=by simp [jz]
   refine zX rfl (zX rfl (zF hr' T.bh T.cP rfl (zO (zX rfl ?_))))
   refine ko (fun c=>?_) fun c=>?_
   ·have c:i < r.low:=by have:=of_decide_eq_true c; omega
    refine zX rfl ⟨.inl ⟨rfl,_,SqL.of hDr⟩,zX rfl (zX rfl (nP ⟨Dr,_,_,rfl,rfl,hDr,?_,⟨_,_,rfl⟩,?_,?_⟩))⟩
    ·rw [nO,List.length_take,sizeLine_eq]; omega
    ·exact fun b o e=>by rw [aj (aq e fDr)]; exact sH _ _ e
    ·rw [af,List.take_add_one,hb]
     unfold bestAt
     rw [if_pos c]
     unfold yv
     rw [List.map_append]; rfl
   ·have c:¬ i < r.low:=fun q=>c (decide_eq_true (show (i:Int) < (r.low:Int) by omega))
    refine zV rfl (zM hr' rfl (zV rfl (zV rfl (zE5 ar D r i _ ⟨rfl,⟨dr,hr'⟩,sH _ _ p1,by rw [List.length_map,mX]; exact hi,fun H2 l fl hl2 s2=>?_⟩))))
    refine zE2 l (iT r i (worth u L)) ⟨rfl,by rw [← tf]; exact hl2,by have:=FF (r:=r) (x:=i) (xs:=worth u L); rw [mX] at this; omega,fun H3 y hy s3=>?_⟩
    have s23:=s2.trans s3
    have hD3:=s23 _ _ hDr
    have same:∀ o,aE H1 (upd H3 Dr o):=fun o b u' e=>by rw [aj (aq e fDr)]; exact s23 _ _ (sH _ _ e)
    have hlen:(yv ((jz r u L).take i)).length < sizeLine:=by rw [nO,List.length_take,sizeLine_eq]; omega
    refine zX rfl ⟨.inl ⟨rfl,_,SqL.of hD3⟩,zX rfl (zX rfl ?_)⟩
    cases y with
    | none =>
     refine nP (zE3 Dr _ _ ⟨rfl,rfl,hD3,hlen,⟨_,_,rfl⟩,same _,?_⟩)
     rw [af,List.take_add_one,hb,Fd hi c hy]
     unfold yv
     rw [List.map_append]; rfl
    | some m =>
     obtain⟨b,hb2,e⟩:=Fe hi c hy
     refine qN ⟨_,rfl,_,rfl,_,rfl,_,_,rfl,rfl,.inr ⟨by omega,by omega⟩,_,_,rfl,rfl,Dr,_,_,rfl,rfl,hD3,hlen,⟨_,_,rfl⟩,same _,?_⟩
     rw [af,List.take_add_one,hb,hb2]
     show some (HO.lst (_ ++ [V.int (m + (u:Int) * (i:Int))]))=_
     rw [e]
     unfold yv
     rw [List.map_append]; rfl
  ·rintro σ H' ⟨⟨v5,v6,rfl⟩,sH,hDr⟩
   rw [List.take_of_length_le (by simp [jz])] at hDr
   exact zV rfl (k H' Dr fr hDr (s1.trans sH))
end HG
end
section
namespace HG
open PySem PySem.Spec PyProof.Rows L2
open PySem.W (Frag)
variable {P:Program} {w:World} {K:Frag} {mg:Str→Option Value} {base:Heap} {A:Ad}
theorem A2:∀ l:List (Option Nat),inV .non (yv l)=l.any Option.isNone
 | []=>rfl
 | y :: l=>by
  have ih:=A2 l
  unfold inV at ih ⊢
  unfold yv at ih ⊢
  rw [List.map_cons,List.any_cons,List.any_cons,ih]
  cases y<;>rfl
theorem E4 (l:List (Option Nat)):(yv l).all vg=true:=List.all_eq_true.mpr fun v hv=>by
 obtain⟨y,_,rfl⟩:=List.mem_map.mp hv
 cases y<;>rfl
theorem IJ {l:List (Option Nat)} (h:l.any Option.isNone=false):yv l=(l.map fun y=>((y.getD 0:Nat):Int)).map V.int:=by
 unfold yv
 rw [List.map_map]
 refine List.map_congr_left fun y hy=>?_
 cases y with
 | none =>
  have:=List.any_eq_false.mp h none hy
  exact absurd rfl this
 | some k=>rfl
def pick (R:List (Option Nat)) (after:List Nat):List (Option Nat):=after.map fun y=>R.getD y none
theorem uc:ay ["row","after","totals","stock"] ["row","after"] (au pX):=⟨rfl,rfl,rfl,by decide +kernel,rfl,by decide +kernel,by decide +kernel⟩
def CH:Sp:=fun vs H Q _=>∃ (lr la:Addr) (R:List (Option Nat)) (after:List Nat),vs=[.ref lr,.ref la]∧H lr=some (.lst (yv R))∧H la=some (.lst (nv after))∧(∀ y∈after,y < R.length)∧after≠[]∧after.length≤1000∧∀ H',aE H H'→Q (yV (rG R after)) H'
theorem zU (T:Txt K mg A):Fok P w K mg base 1 A.iN ["row","after"] CH:=by
 obtain⟨fd,F⟩:=T.j8
 refine⟨fd,?_,F.b2 fun _ _ _ _ _ _ _ _=>rfl⟩
 refine F.okX uc (fun vs H Q E h=>?_) (fun cdv A' outer s H vs Q E hr h=>?_)
 ·exact zL4 (fun _ _ _ _=>rfl) h
 ·revert h; refine zG4 fun lr la R after zz=>?_; obtain⟨rfl,h1,h2,hin,hne,hz,k⟩:=zz
  have nd:=uc.nd
  refine⟨_,ae (jr (i:=2) rfl nd rfl rfl (lM rfl rfl (by rfl) (by kernel_rfl)) (aY (pv 1)) (aR (own:=[("stock",3)]) (by kernel_rfl)) (fun _ _ _ _ _=>aL (i:=3) nd rfl (Or.inl rfl)) (fun _ _ _ _ _=>cw)
    (fun _ _ _ _ _=>aS (r:=qW K) aG (pv 0) (pv 3) (fun _ _=>rfl)))
   (ak (aF (l5 (yc Ar gb (pv 2) (by rfl)) gb (aO (Kk rfl) (by rfl) T.Aa (by kernel_rfl) (aa (pv 2) ai))))),?_⟩
  refine zV rfl ⟨la,rfl,⟨_,SqL.of h2⟩,fun D hD=>jm (fun x=>yV (R.getD x none)) h2 hD (by omega) (fun i x H' hi s Z z=>?_) fun H' h s=>?_⟩
  ·exact⟨rfl,zV rfl (zV rfl (zI (SqL.of (s _ _ h1)) (bg (xx (getD_some (hin x (List.mem_of_getElem? hi))))) (z _ (fun _ _ e=>e))))⟩
  have hp:H' D=some (.lst (yv (pick R after))):=by rw [h]; unfold yv pick; rw [List.map_map]; rfl
  refine zX rfl ⟨D,zX rfl ⟨.inl (SqL.of hp),rfl,E4 _,zX rfl ?_⟩⟩
  rw [if_neg (by decide),A2]
  have e1:(pick R after).any Option.isNone=after.any fun y=>(R.getD y none).isNone:=by unfold pick; rw [List.any_map]; rfl
  have kk:=k H' s
  unfold rG at kk
  rw [← e1] at kk
  cases c:(pick R after).any Option.isNone with
  | true =>
   rw [c,if_pos rfl] at kk
   exact nP kk
  | false =>
   rw [c,if_neg (by decide)] at kk
   refine qN (zV rfl (zE2 D ((pick R after).map (fun y=>((y.getD 0:Nat):Int))) ⟨rfl,?_,?_,fun m hm hmin=>?_⟩))
   ·rw [← IJ c]; exact SqL.of hp
   ·unfold pick
    rw [List.length_map,List.length_map]
    exact List.length_pos_iff.mpr hne
   ·obtain⟨y,hy,rfl⟩:=List.mem_map.mp hm
    unfold pick at hy
    obtain⟨x,hx,rfl⟩:=List.mem_map.mp hy
    have e2:Vbecag.leastOf (after.map fun y=>(R.getD y none).getD 0)=(R.getD x none).getD 0:=yG (List.mem_map.mpr ⟨x,hx,rfl⟩) fun z hz=>by
     obtain⟨x',hx',rfl⟩:=List.mem_map.mp hz
     have:=hmin (((R.getD x' none).getD 0:Nat):Int) (List.mem_map.mpr ⟨_,List.mem_map.mpr ⟨x',hx',rfl⟩,rfl⟩)
     omega
    rw [e2] at kk
    exact kk
theorem pJ:ay ["growth","rule","row","after"] ["growth","rule","row"] (au my):=⟨rfl,rfl,rfl,by decide +kernel,rfl,by decide +kernel,by decide +kernel⟩
def DU (A:Ad):Sp:=fun vs H Q _=>∃ (ag ar lr lo:Addr) (g:Vbecag.Growth) (r:Vbecag.Rule) (k:Nat),vs=[.ref ag,.ref ar,.ref lr]∧GrA A H ag g lo∧WfG g∧iU A H ar r∧H lr=some (.lst (yv (eJ g r k)))∧pN H Q (yv (eJ g r (k + 1)))
theorem wQ (T:Txt K mg A):Fok P w K mg base 3 A.dX ["growth","rule","row"] (DU A):=by
 obtain⟨fd,F⟩:=T.gq
 obtain⟨fdB,GB,bB⟩:=xp (P:=P) (w:=w) (base:=base) T
 obtain⟨fdL,GL,bL⟩:=zU (P:=P) (w:=w) (base:=base) T
 obtain⟨_,FB⟩:=T.kO
 obtain⟨_,FL⟩:=T.j8
 refine⟨fd,?_,F.b3 fun _ _ _ _ _ _ _ _ _=>rfl⟩
 refine F.okX pJ (fun vs H Q E h=>?_) (fun cdv A' outer s H vs Q E hr h=>?_)
 ·exact zL7 (fun _ _ _ _ _ _ _=>rfl) h
 ·revert h; refine zG7 fun ag ar lr lo g r j zz=>?_; obtain⟨rfl,G,W,R,hlr,k⟩:=zz
  have nd:=pJ.nd
  have n50:=W.n50
  refine⟨_,ak (aF (aA (E:=EN) GB (hr.mono (by decide)) rfl T.nA FB.kp bB .nil aT (aa (pv 1) (aa az (aa (iA rfl nd (aY (aw (pv 0) rfl)) (aR (own:=[("after",3)]) (by kernel_rfl)) (fun _ _ _ _ _=>aL (i:=3) nd rfl (Or.inl rfl)) (fun _ _ _ _ _=>cw)
    (fun _ _ _ _ _=>aA (E:=EN) GL (hr.mono (by decide)) rfl T.mR FL.kp bL .nil aT (aa (pv 2) (aa (pv 3) ai)))) ai))))),?_⟩
  obtain⟨⟨dg,lw,lt,hg1,_⟩,⟨os,ho1,ho2,ho3⟩⟩:=id G
  refine zV rfl (zV rfl (zF hg1 T.aH T.bq rfl ⟨lo,rfl,⟨_,SqL.of ho1⟩,fun D hD=>mL (yv (md g (rG (eJ g r j)))) ho1 hD (by rw [nO,kP,List.length_map,ho2]) (by rw [List.length_map]; omega) (fun i x y H' hi hy s Z z=>?_) dJ fun H1 p1 s1=>?_⟩))
  ·obtain⟨o,ho,rfl⟩:=pf hi
   have hin:i < g.n + 1:=by have:=(List.getElem?_eq_some_iff.mp ho).1; omega
   have e:y=yV (rG (eJ g r j) (outs g i)):=by
    unfold yv md at hy
    rw [List.map_map,List.getElem?_map,List.getElem?_range hin] at hy
    exact (Option.some.inj hy).symm
   subst e
   have hs1:1≤g.seasons:=W.s1
   have hs6:g.seasons≤6:=W.s6
   exact⟨rfl,zV rfl (zV rfl (zE4 lr o (eJ g r j) (outs g i) ⟨rfl,s _ _ hlr,s _ _ (ho3 i o ho),fun y hy=>by unfold eJ; rw [tG]; have:=mU W (by omega) hy; omega,(fun e=>by have:=l0 g i; rw [e] at this; simp at this; omega),by rw [l0]; omega,fun H2 s2=>z _ s2⟩))⟩
  ·refine zE5 ar D r 1 (md g (rG (eJ g r j))) ⟨rfl,R.keep s1,p1,by rw [kP]; omega,fun H2 l fl hl s2=>?_⟩
   rw [← Gv W] at hl
   exact k H2 l (s1.free fl) hl (s1.trans s2)
theorem Je {a b D:Addr} {xs ys:List V} {te:TE} {vs:List Nat} {σ:L2.St} {H1:Hp} {Qd:Hp→Prop} {j1 j2:Nat} (zs:List V) (hx:H1 a=some (.lst xs)) (hy:H1 b=some (.lst ys)) (hD:H1 D=none) (hl:ys.length=xs.length) (hzl:zs.length=xs.length) (hz:xs.length≤100000)
  (hw:∀ x y,wipe (((wipe σ vs).set j1 (some x)).set j2 (some y)) vs=wipe σ vs)
  (turn:∀ (i:Nat) x y z H,xs[i]?=some x→ys[i]?=some y→zs[i]?=some z→aE H1 H→∀ Z:VK,(∀ H',aE H H'→Z z H')→te (((wipe σ vs).set j1 (some x)).set j2 (some y)) H Z)
  (fin:∀ H,H D=some (.lst zs)→aE H1 H→Qd H):oF (Itz K a b) (Ks K 2 (BU (fM j1) (BU (fM j2) Kr))) xP te vs σ H1 D Qd:=by
 refine⟨fun i m H=>m=xs.length - i∧i≤xs.length∧Grows H1 D (zs.take i) H,⟨_,rfl,Nat.zero_le _,.nil hD⟩,?_⟩
 rintro i m H ⟨rfl,hi,p⟩
 have qx:SqL K H a xs:=SqL.of (p.same _ _ hx)
 have qy:SqL K H b ys:=SqL.of (p.same _ _ hy)
 by_cases c:i < xs.length
 ·refine .inr ⟨⟨xs,ys,xs[i],ys[i]'(by omega),qx,qy,List.getElem?_eq_getElem c,List.getElem?_eq_getElem _⟩,fun H=>Grows H1 D (zs.take (i + 1)) H,fun H' p'=>⟨_,by omega,rfl,c,p'⟩,?_⟩
  rintro v H' ⟨T,x,y,rfl,hT,rfl,ex,ey⟩
  have hzi:zs[i]?=some (zs[i]'(by omega)):=List.getElem?_eq_getElem (by omega)
  have s2:=p.same.trans (aE.upd (o:=HO.tup [x,y]) hT)
  refine zE2 T [x,y] ⟨rfl,SqT.of af,rfl,x,[y],rfl,y,[],rfl,rfl,hw x y,?_⟩
  dsimp only [xP]
  rw [if_pos rfl]
  refine turn i x y _ _ (ex _ qx) (ey _ qy) hzi s2 _ fun H' s3=>?_
  have p3:=(p.on (aE.upd (o:=HO.tup [x,y]) hT)).on s3
  refine⟨_,p3.at_,?_,?_⟩
  ·rw [List.length_take,sizeLine_eq]; omega
  ·rw [List.take_add_one,hzi]
   exact p3.more hD (fun _ _ e=>e)
 ·refine .inl ⟨⟨xs,ys,qx,qy,.inl (by omega)⟩,fin H ?_ p.same⟩
  have:=p.at_
  rw [List.take_of_length_le (by omega)] at this
  exact this
theorem t9:ay ["row","after","weights","totals","stock","weight","total"] ["row","after","weights"] (au pS):=⟨rfl,rfl,rfl,by decide +kernel,rfl,by decide +kernel,by decide +kernel⟩
def CA:Sp:=fun vs H Q _=>∃ (lr la lw:Addr) (R:List (Option Nat)) (after ws:List Nat),vs=[.ref lr,.ref la,.ref lw]∧H lr=some (.lst (yv R))∧H la=some (.lst (nv after))∧H lw=some (.lst (nv ws))∧(∀ y∈after,y < R.length)∧after.length=ws.length∧(∀ x∈ws,x≤4)∧after.length≤1000∧∀ H',aE H H'→Q (yV (rF ws R after)) H'
theorem vW:∀ l:List Nat,(l.map fun x:Nat=>(x:Int)).sum=((l.sum:Nat):Int)
 | []=>rfl
 | a :: l=>by rw [List.map_cons,List.sum_cons,List.sum_cons,vW l]; push_cast; rfl
theorem zQ (T:Txt K mg A):Fok P w K mg base 1 A.iI ["row","after","weights"] CA:=by
 obtain⟨fd,F⟩:=T.j5
 refine⟨fd,?_,F.b3 fun _ _ _ _ _ _ _ _ _=>rfl⟩
 refine F.okX t9 (fun vs H Q E h=>?_) (fun cdv A' outer s H vs Q E hr h=>?_)
 ·exact zL6 (fun _ _ _ _ _ _=>rfl) h
 ·revert h; refine zG6 fun lr la lw R after ws zz=>?_; obtain⟨rfl,h1,h2,h3,hin,hlen,h4,hz,k⟩:=zz
  have nd:=t9.nd
  refine⟨_,ae (jr (i:=3) rfl nd rfl rfl (lM rfl rfl (by rfl) (by kernel_rfl)) (aY (pv 1)) (aR (own:=[("stock",4)]) (by kernel_rfl)) (fun _ _ _ _ _=>aL (i:=4) nd rfl (Or.inl rfl)) (fun _ _ _ _ _=>cw)
    (fun _ _ _ _ _=>aS (r:=qW K) aG (pv 0) (pv 4) (fun _ _=>rfl)))
   (ae (iC (yc Ar gb (pv 3) (by rfl)) (ak (aF gb)) cu)
   (ak (aF (aO (He rfl) (by rfl) T.BF (by kernel_rfl) (aa (iA rfl nd (KP rfl T.Ex (aa (pv 2) (aa (pv 3) ai))) (aR (own:=[("weight",5),("total",6)]) (by kernel_rfl))
    (fun _ _ _ _ _=>show PG _ _ (Ks K 2 (BU (fM 5) (BU (fM 6) Kr))) from KO rfl (Ck (aL (i:=5) nd rfl (Or.inl rfl)) (Ck (aL (i:=6) nd rfl (Or.inl rfl)) Jr))) (fun _ _ _ _ _=>cw) (fun _ _ _ _ _=>bj qo (pv 5) (pv 6))) ai))))),?_⟩
  refine zV rfl ⟨la,rfl,⟨_,SqL.of h2⟩,fun D hD=>jm (fun x=>yV (R.getD x none)) h2 hD (by omega) (fun i x H' hi s Z z=>?_) fun H' h s=>?_⟩
  ·exact⟨rfl,zV rfl (zV rfl (zI (SqL.of (s _ _ h1)) (bg (xx (getD_some (hin x (List.mem_of_getElem? hi))))) (z _ (fun _ _ e=>e))))⟩
  have hp:H' D=some (.lst (yv (pick R after))):=by rw [h]; unfold yv pick; rw [List.map_map]; rfl
  refine zX rfl ⟨D,zX rfl ⟨.inl (SqL.of hp),rfl,E4 _,zX rfl ?_⟩⟩
  rw [if_neg (by decide),A2]
  have e1:(pick R after).any Option.isNone=after.any fun y=>(R.getD y none).isNone:=by unfold pick; rw [List.any_map]; rfl
  have kk:=fun H2 (s2:aE H' H2)=>k H2 (s.trans s2)
  unfold rF at kk
  rw [← e1] at kk
  cases c:(pick R after).any Option.isNone with
  | true =>
   rw [c,if_pos rfl] at kk
   exact nP (kk _ (fun _ _ e=>e))
  | false =>
   rw [c,if_neg (by decide)] at kk
   have hpl:(pick R after).length=ws.length:=by unfold pick; rw [List.length_map]; exact hlen
   refine qN (zV rfl (zV rfl (zE4 lw D _ _ ⟨rfl,SqL.of (s _ _ h3),SqL.of hp,fun D2 hD2=>Je (((ws.zip (after.map fun y=>(R.getD y none).getD 0)).map fun p=>p.1 * p.2).map fun x:Nat=>V.int (x:Int)) (s _ _ h3) hp hD2 (by rw [nO,aQ]; exact hpl) (by rw [List.length_map,List.length_map,List.length_zip,List.length_map,aQ]; omega) (by rw [aQ]; omega) (fun x y=>rfl) (fun i x y z H2 hx hy hzz s2 Z zz=>?_) fun H3 p3 s3=>?_⟩)))
   ·obtain⟨n,hn,rfl⟩:=lg hx
    obtain⟨o,ho,rfl⟩:=yK (f:=yV) hy
    have ho2:=ho
    unfold pick at ho
    cases ea:after[i]? with
    | none=>rw [List.getElem?_map,ea] at ho; cases ho
    | some y0 =>
     rw [List.getElem?_map,ea] at ho
     have ho:R.getD y0 none=o:=Option.some.inj ho
     cases o with
     | none=>exact absurd rfl (List.any_eq_false.mp c none (List.mem_of_getElem? ho2))
     | some v =>
      have hn4:n≤4:=h4 n (List.mem_of_getElem? hn)
      have hzip:(ws.zip (after.map fun y=>(R.getD y none).getD 0))[i]?=some (n,v):=by
       refine List.getElem?_zip_eq_some.mpr ⟨hn,?_⟩
       rw [List.getElem?_map,ea]
       show some ((R.getD y0 none).getD 0)=some v
       rw [ho]; rfl
      have ez:z=V.int ((n * v:Nat):Int):=by
       rw [List.getElem?_map,List.getElem?_map,hzip] at hzz
       exact (Option.some.inj hzz).symm
      subst ez
      refine zV rfl (zV rfl (zO ⟨.inl ⟨by omega,by omega⟩,?_⟩))
      show Z (V.int ((n:Int) * (v:Int))) H2
      rw [show ((n:Int) * (v:Int))=((n * v:Nat):Int) from by push_cast; rfl]
      exact zz _ (fun _ _ e=>e)
   ·refine zE2 D2 (((ws.zip (after.map fun y=>(R.getD y none).getD 0)).map fun p=>p.1 * p.2).map (fun x:Nat=>(x:Int))) ⟨rfl,by rw [List.map_map]; exact SqL.of p3,?_⟩
    rw [vW]
    exact kk H3 s3
theorem pI:ay ["growth","rule","unit","row","after"] ["growth","rule","unit","row"] (au mx):=⟨rfl,rfl,rfl,by decide +kernel,rfl,by decide +kernel,by decide +kernel⟩
def DS (A:Ad):Sp:=fun vs H Q _=>∃ (ag ar lr lo:Addr) (g:Vbecag.Growth) (r:Vbecag.Rule) (k:Nat),vs=[.ref ag,.ref ar,.int ((Vbecag.weight g ^ (k + 1):Nat):Int),.ref lr]∧GrA A H ag g lo∧WfG g∧(∀ x∈g.weights,x≤4)∧iU A H ar r∧H lr=some (.lst (yv (eD g r k)))∧pN H Q (yv (eD g r (k + 1)))
theorem wO (T:Txt K mg A):Fok P w K mg base 3 A.dW ["growth","rule","unit","row"] (DS A):=by
 obtain⟨fd,F⟩:=T.gp
 obtain⟨fdB,GB,bB⟩:=xp (P:=P) (w:=w) (base:=base) T
 obtain⟨fdL,GL,bL⟩:=zQ (P:=P) (w:=w) (base:=base) T
 obtain⟨_,FB⟩:=T.kO
 obtain⟨_,FL⟩:=T.j5
 refine⟨fd,?_,F.b4 fun _ _ _ _ _ _ _ _ _ _=>rfl⟩
 refine F.okX pI (fun vs H Q E h=>?_) (fun cdv A' outer s H vs Q E hr h=>?_)
 ·exact zL7 (fun _ _ _ _ _ _ _=>rfl) h
 ·revert h; refine zG7 fun ag ar lr lo g r j zz=>?_; obtain⟨rfl,G,W,h4,R,hlr,k⟩:=zz
  have nd:=pI.nd
  have n50:=W.n50
  refine⟨_,ak (aF (aA (E:=EN) GB (hr.mono (by decide)) rfl T.nA FB.kp bB .nil aT (aa (pv 1) (aa (pv 2) (aa (iA rfl nd (aY (aw (pv 0) rfl)) (aR (own:=[("after",4)]) (by kernel_rfl)) (fun _ _ _ _ _=>aL (i:=4) nd rfl (Or.inl rfl)) (fun _ _ _ _ _=>cw)
    (fun _ _ _ _ _=>aA (E:=EN) GL (hr.mono (by decide)) rfl T.mO FL.kp bL .nil aT (aa (pv 3) (aa (pv 4) (aa (show PE _ _ (BA K (tY 0) "weights") from aw (pv 0) rfl) ai))))) ai))))),?_⟩
  obtain⟨⟨dg,lw,lt,hg1,hg2,_⟩,⟨os,ho1,ho2,ho3⟩⟩:=id G
  refine zV rfl (zV rfl (zV rfl (zF hg1 T.aH T.bq rfl ⟨lo,rfl,⟨_,SqL.of ho1⟩,fun D hD=>mL (yv (md g (rF g.weights (eD g r j)))) ho1 hD (by rw [nO,kP,List.length_map,ho2]) (by rw [List.length_map]; omega) (fun i x y H' hi hy s Z z=>?_) dJ fun H1 p1 s1=>?_⟩)))
  ·obtain⟨o,ho,rfl⟩:=pf hi
   have hin:i < g.n + 1:=by have:=(List.getElem?_eq_some_iff.mp ho).1; omega
   have e:y=yV (rF g.weights (eD g r j) (outs g i)):=by
    unfold yv md at hy
    rw [List.map_map,List.getElem?_map,List.getElem?_range hin] at hy
    exact (Option.some.inj hy).symm
   subst e
   have hs6:g.seasons≤6:=W.s6
   exact⟨rfl,zV rfl (zV rfl (zV rfl (zF (s _ _ hg1) T.aH T.eF rfl (zE6 lr o lw (eD g r j) (outs g i) g.weights ⟨rfl,s _ _ hlr,s _ _ (ho3 i o ho),s _ _ hg2,fun y hy=>by unfold eD; rw [tG]; have:=mU W (by omega) hy; omega,l0 g i,h4,by rw [l0]; omega,fun H2 s2=>z _ s2⟩))))⟩
  ·refine zE5 ar D r (Vbecag.weight g ^ (j + 1)) (md g (rF g.weights (eD g r j))) ⟨rfl,R.keep s1,p1,by rw [kP]; omega,fun H2 l fl hl s2=>?_⟩
   rw [← FT W] at hl
   exact k H2 l (s1.free fl) hl (s1.trans s2)
theorem t8:ay ["weights","years","cases","year"] ["weights","years"] (au pR):=⟨rfl,rfl,rfl,by decide +kernel,rfl,by decide +kernel,by decide +kernel⟩
def JF:Sp:=fun vs H Q _=>∃ (lw:Addr) (ws:List Nat) (k:Nat),vs=[.ref lw,.int k]∧H lw=some (.lst (nv ws))∧ws.sum≤24∧k≤1000∧Q (.int ((ws.sum ^ k:Nat):Int)) H
theorem zP (T:Txt K mg A):Fok P w K mg base 1 A.iH ["weights","years"] JF:=by
 obtain⟨fd,F⟩:=T.j4
 refine⟨fd,?_,F.b2 fun _ _ _ _ _ _ _ _=>rfl⟩
 refine F.okX t8 (fun vs H Q E h=>?_) (fun cdv A' outer s H vs Q E hr h=>?_)
 ·exact zL3 (fun _ _ _=>rfl) h
 ·revert h; refine zG3 fun lw ws k zz=>?_; obtain⟨rfl,h1,h24,hk,kk⟩:=zz
  have nd:=t8.nd
  refine⟨_,ae (aD (i:=2) nd rfl (Or.inl rfl) az)
   (ae (iB PassesOwn.leaving rfl (gQ rfl T.fT (aa (pv 1) ai)) (aL (i:=3) nd rfl (Or.inl rfl))
    (ak (aD (i:=2) nd rfl (Or.inl rfl) (bj qo (pv 2) (aO (He rfl) (by rfl) T.BF (by kernel_rfl) (aa (pv 0) ai))))))
   (ak (aF (pv 2)))),?_⟩
  have hS:SqL K H lw ((ws.map fun x:Nat=>(x:Int)).map V.int):=by
   have:=SqL.of (K:=K) h1
   unfold nv at this
   rw [List.map_map]
   exact this
  refine zV rfl ⟨(k:Int),rfl,by omega,by omega,?_⟩
  rw [Int.toNat_natCast]
  refine sX (lo:=0) (n:=k) (fun i σ H'=>(∃ v,σ=[some (.ref lw),some (.int (k:Int)),some (.int ((ws.sum ^ i:Nat):Int)),v])∧H'=H) ⟨⟨none,rfl⟩,rfl⟩ ?_ ?_
  ·rintro i σ H' hi ⟨⟨v,rfl⟩,rfl⟩
   refine zV rfl (zV rfl (zE2 lw (ws.map (fun x:Nat=>(x:Int))) ⟨rfl,hS,zO ⟨.inr ?_,⟨some (.int (0 + (i:Int))),?_⟩,rfl⟩⟩))
   ·rw [vW]; exact⟨by omega,by omega⟩
   ·rw [vW,show ((ws.sum ^ (i + 1):Nat):Int)=((ws.sum ^ i:Nat):Int) * ((ws.sum:Nat):Int) from by rw [Nat.pow_succ]; push_cast; rfl]
    rfl
  ·rintro σ H' ⟨⟨v,rfl⟩,rfl⟩
   exact zV rfl kk
end HG
end
section
namespace HG
open PySem PySem.Spec PyProof.Rows L2
open PySem.W (Frag)
variable {P:Program} {w:World} {K:Frag} {mg:Str→Option Value} {base:Heap} {A:Ad}
def hvF (a b c d e f g:V):List (Str×V):=[("growth",a),("rule",b),("years",c),("safe",d),("demands",e),("sure_rows",f),("mean_rows",g)]
def eT (o:HO):Prop:=∀ a l,o≠.lst (.ref a :: l)
structure Own (h:Addr) (H H':Hp):Prop where
 keep:∀ b o,b≠h→eT o→H b=some o→H' b=some o
 live:∀ b o,H b=some o→∃ o',H' b=some o'
theorem Own.of {h:Addr} {H H':Hp} (s:aE H H'):Own h H H':=⟨fun b o _ _ e=>s _ _ e,fun b o e=>⟨o,s _ _ e⟩⟩
theorem Own.trans {h:Addr} {H H1 H2:Hp} (a:Own h H H1) (b:Own h H1 H2):Own h H H2:=⟨fun x o n1 n2 e=>b.keep _ _ n1 n2 (a.keep _ _ n1 n2 e),fun x o e=>let ⟨o',e'⟩:=a.live _ _ e; b.live _ _ e'⟩
theorem Own.free {h:Addr} {H H':Hp} (a:Own h H H') {q:Addr} (hq:H' q=none):H q=none:=by
 cases e:H q with
 | none=>rfl
 | some o =>
  obtain⟨o',e'⟩:=a.live _ _ e
  rw [hq] at e'; cases e'
theorem Own.rows {h sl a:Addr} {H:Hp} {o:HO} {l:List V} (q:H sl=some (.lst (.ref a :: l))):Own h H (L2.upd H sl o):=⟨fun b u n m e=>by
 have:b≠sl:=fun z=>by rw [z,q] at e; cases e; exact m a l rfl
 rw [aj this]; exact e,fun b u e=>by
 by_cases c:b=sl
 ·exact⟨o,by rw [c,af]⟩
 ·exact⟨u,by rw [aj c]; exact e⟩⟩
structure fb (H:Hp) (sl:Addr) (f:Nat→List (Option Nat)):Prop where
 ex:∃ os:List Addr,H sl=some (.lst (os.map V.ref))∧os≠[]∧os.length≤101∧∀ (k:Nat) (o:Addr),os[k]?=some o→H o=some (.lst (yv (f k)))
theorem DH {l:List Nat}:eT (.lst (nv l)):=fun a m e=>by
 cases l with
 | nil=>cases e
 | cons x l=>injection e with e; injection e with e; cases e
theorem Hr {l:List Int}:eT (.lst (l.map V.int)):=fun a m e=>by
 cases l with
 | nil=>cases e
 | cons x l=>injection e with e; injection e with e; cases e
theorem Ez {l:List Bool}:eT (.lst (l.map V.bl)):=fun a m e=>by
 cases l with
 | nil=>cases e
 | cons x l=>injection e with e; injection e with e; cases e
theorem qA {l:List (Option Nat)}:eT (.lst (yv l)):=fun a m e=>by
 cases l with
 | nil=>cases e
 | cons x l =>
  injection e with e; injection e with e
  cases x<;>cases e
theorem sY {C dx:Addr} {fs:List (Str×V)}:eT (.ins C dx fs):=fun a m e=>by cases e
theorem fb.keep {H H':Hp} {sl:Addr} {f:Nat→List (Option Nat)} (r:fb H sl f) (hs:∀ o,H sl=some o→H' sl=some o) (hk:∀ b o,eT o→(∃ l,o = .lst l)→H b=some o→H' b=some o):fb H' sl f:=by
 obtain⟨os,h1,h2,h3,h4⟩:=r
 exact⟨os,hs _ h1,h2,h3,fun k o e=>hk _ _ qA ⟨_,rfl⟩ (h4 k o e)⟩
inductive Holds (A:Ad) (H:Hp):V→V→V→V→V→V→V→Vbecag.State→Prop
 | none:Holds A H .non .non .non .non .non .non .non ⟨none,none⟩
 | growth {ag lo:Addr} {g:Vbecag.Growth}:GrA A H ag g lo→WfG g→Holds A H (.ref ag) .non .non .non .non .non .non ⟨some g,none⟩
 | both {ag lo ar ly ls sl ml:Addr} {dm:V} {g:Vbecag.Growth} {r:Vbecag.Rule}:GrA A H ag g lo→WfG g→iU A H ar r→WfR g r→H ly=some (.lst (yv (yrs g r)))→H ls=some (.lst ((Vbecag.safe g r).map V.bl)) →
   (dm = .non∨∃ ld,dm = .ref ld∧H ld=some (.lst (yv (dem g r))))→fb H sl (eJ g r)→fb H ml (eD g r)→sl≠ml→sl≠lo→ml≠lo→Holds A H (.ref ag) (.ref ar) (.ref ly) (.ref ls) dm (.ref sl) (.ref ml) ⟨some g,some r⟩
structure gT (A:Ad) (H:Hp) (h:Addr) (st:Vbecag.State):Prop where
 ex:∃ dx a b c d e f g,H h=some (.ins A.aC dx (hvF a b c d e f g))∧Holds A H a b c d e f g st
theorem fb.same {H H':Hp} {sl:Addr} {f:Nat→List (Option Nat)} (r:fb H sl f) (s:aE H H'):fb H' sl f:=r.keep (fun o e=>s _ _ e) fun b o _ _ e=>s _ _ e
theorem Holds.same {H H':Hp} {a b c d e f g:V} {st:Vbecag.State} (h:Holds A H a b c d e f g st) (s:aE H H'):Holds A H' a b c d e f g st:=by
 cases h with
 | none=>exact .none
 | growth g1 w1=>exact .growth (g1.keep s) w1
 | both g1 w1 r1 w2 y1 l1 d1 s1 m1 n1 n2 n3=>exact .both (g1.keep s) w1 (r1.keep s) w2 (s _ _ y1) (s _ _ l1) (d1.imp_right fun ⟨ld,e,q⟩=>⟨ld,e,s _ _ q⟩) (s1.same s) (m1.same s) n1 n2 n3
theorem gT.same {H H':Hp} {h:Addr} {st:Vbecag.State} (x:gT A H h st) (s:aE H H'):gT A H' h st:=by
 obtain⟨dx,a,b,c,d,e,f,g,h1,h2⟩:=x
 exact⟨dx,a,b,c,d,e,f,g,s _ _ h1,h2.same s⟩
theorem gT.ne {H:Hp} {h q:Addr} {st:Vbecag.State} (x:gT A H h st) (hq:H q=none):q≠h:=by
 obtain⟨dx,a,b,c,d,e,f,g,h1,h2⟩:=x
 exact fun z=>by rw [z,h1] at hq; cases hq
theorem GrA.but {H H':Hp} {x dx ag lo:Addr} {fs:List (Str×V)} {g:Vbecag.Growth} (h:GrA A H ag g lo) (hx:H x=some (.ins A.aC dx fs)) (hc1:A.aC≠A.aU) (s:But x H H'):GrA A H' ag g lo:=by
 obtain⟨⟨dx',lw,lt,h1,h2,h3⟩,⟨os,o1,o2,o3⟩⟩:=h
 have nl:∀ b l,H b=some (.lst l)→b≠x:=fun b l e=>hW e hx (by intro z; cases z)
 exact⟨⟨dx',lw,lt,s _ _ (hW h1 hx (by intro z; injection z with z1; exact hc1 z1.symm)) h1,s _ _ (nl _ _ h2) h2,s _ _ (nl _ _ h3) h3⟩,⟨os,s _ _ (nl _ _ o1) o1,o2,fun e o q=>s _ _ (nl _ _ (o3 e o q)) (o3 e o q)⟩⟩
theorem GrA.rows {H:Hp} {ag lo sl:Addr} {g:Vbecag.Growth} {o:HO} (h:GrA A H ag g lo) (hl:H sl=some o) (hr:¬ eT o) (hi:∃ l,o = .lst l) (hne:sl≠lo) {o':HO}:GrA A (upd H sl o') ag g lo:=by
 obtain⟨⟨dx',lw,lt,h1,h2,h3⟩,⟨os,o1,o2,o3⟩⟩:=h
 have nn:∀ b u,H b=some u→eT u→b≠sl:=fun b u e m z=>by
  rw [z,hl] at e; cases e; exact hr m
 exact⟨⟨dx',lw,lt,by rw [aj (nn _ _ h1 sY)]; exact h1,by rw [aj (nn _ _ h2 DH)]; exact h2,by rw [aj (nn _ _ h3 DH)]; exact h3⟩,⟨os,by rw [aj (Ne.symm hne)]; exact o1,o2,fun e o q=>by rw [aj (nn _ _ (o3 e o q) DH)]; exact o3 e o q⟩⟩
theorem Txt.KG (T:Txt K mg A):A.aC≠A.aU:=fun e=>by have:=T.vA; rw [e,beq_self_eq_true] at this; cases this
theorem qu:ay ["self"] ["self"] (au gX):=⟨rfl,rfl,rfl,by decide +kernel,rfl,by decide +kernel,by decide +kernel⟩
def hv1 (a:V):List (Str×V):=[("growth",a)]
def Ik (A:Ad):Sp:=fun vs H Q _=>∃ x dx a fs,vs=[.ref x]∧H x=some (.ins A.aC dx fs)∧(fs=hv1 a∨∃ b c d e f g,fs=hvF a b c d e f g)∧Q .non (upd H x (.ins A.aC dx (hvF a .non .non .non .non .non .non)))
theorem kE (T:Txt K mg A):Fok P w K mg base 1 A.cB ["self"] (Ik A):=by
 obtain⟨fd,F⟩:=T.dN
 refine⟨fd,?_,F.b1 fun _ _ _ _ _ _ _=>rfl⟩
 refine F.okX qu (fun vs H Q E h=>?_) (fun cdv A' outer s H vs Q E hr h=>?_)
 ·exact zL4 (fun _ _ _ _=>rfl) h
 ·revert h; refine zG4 fun x dx a fs zz=>?_; obtain⟨rfl,hx,hf,k⟩:=zz
  refine⟨_,ae (bU (pv 0) gb rfl) (ae (bU (pv 0) gb rfl) (ae (bU (pv 0) gb rfl) (ae (bU (pv 0) gb rfl) (ae (bU (pv 0) gb rfl) (ak (bU (pv 0) gb rfl)))))),?_⟩
  rcases hf with rfl | ⟨b,c,d,e,f,g,rfl⟩
  ·refine zV rfl (zS hx T.ao T.aP (by show 1 < 1000; decide) ?_)
   refine zV rfl (zS af T.ao T.cH (by show 2 < 1000; decide) ?_)
   refine zV rfl (zS af T.ao T.bu (by show 3 < 1000; decide) ?_)
   refine zV rfl (zS af T.ao T.bX (by show 4 < 1000; decide) ?_)
   refine zV rfl (zS af T.ao T.br (by show 5 < 1000; decide) ?_)
   refine zV rfl (zS af T.ao T.a9 (by show 6 < 1000; decide) ?_)
   show Q .non _
   rw [bo,bo,bo,bo,bo]
   exact k
  ·refine zV rfl (zS hx T.ao T.aP (by show 7 < 1000; decide) ?_)
   refine zV rfl (zS af T.ao T.cH (by show 7 < 1000; decide) ?_)
   refine zV rfl (zS af T.ao T.bu (by show 7 < 1000; decide) ?_)
   refine zV rfl (zS af T.ao T.bX (by show 7 < 1000; decide) ?_)
   refine zV rfl (zS af T.ao T.br (by show 7 < 1000; decide) ?_)
   refine zV rfl (zS af T.ao T.a9 (by show 7 < 1000; decide) ?_)
   show Q .non _
   rw [bo,bo,bo,bo,bo]
   exact k
theorem xM:ay ["self"] ["self"] (au m4):=⟨rfl,rfl,rfl,by decide +kernel,rfl,by decide +kernel,by decide +kernel⟩
def z3 (A:Ad):Sp:=fun vs H Q _=>∃ x dx,vs=[.ref x]∧H x=some (.ins A.aC dx [])∧Q .non (upd H x (.ins A.aC dx (hvF .non .non .non .non .non .non .non)))
theorem xC (T:Txt K mg A):Fok P w K mg base 2 A.iq ["self"] (z3 A):=by
 obtain⟨fd,F⟩:=T.jY
 obtain⟨fdF,GF,bF⟩:=kE (P:=P) (w:=w) (base:=base) T
 refine⟨fd,?_,F.b1 fun _ _ _ _ _ _ _=>rfl⟩
 refine F.okX xM (fun vs H Q E h=>?_) (fun cdv A' outer s H vs Q E hr h=>?_)
 ·exact zL2 (fun _ _=>rfl) h
 ·revert h; refine zG2 fun x dx zz=>?_; obtain⟨rfl,hx,k⟩:=zz
  refine⟨_,ae (bU (pv 0) gb rfl) (ak (aK (cq (E:=EN) (pv 0) T.ao T.kC GF hr bF .nil aT))),?_⟩
  refine zV rfl (zS hx T.ao T.aB (by show 0 < 1000; decide) ?_)
  refine zX rfl (zM af rfl ⟨x,dx,.non,zX rfl ⟨af,.inl rfl,?_⟩⟩)
  rw [bo]
  exact k
theorem qv:ay ["self","growth"] ["self","growth"] (au gY):=⟨rfl,rfl,rfl,by decide +kernel,rfl,by decide +kernel,by decide +kernel⟩
def Bv (A:Ad):Sp:=fun vs H Q _=>∃ x dx ag a b c d e f g,vs=[.ref x,.ref ag]∧H x=some (.ins A.aC dx (hvF a b c d e f g))∧Q .non (upd H x (.ins A.aC dx (hvF (.ref ag) .non .non .non .non .non .non)))
theorem ql (T:Txt K mg A):Fok P w K mg base 2 A.cC ["self","growth"] (Bv A):=by
 obtain⟨fd,F⟩:=T.dO
 obtain⟨fdF,GF,bF⟩:=kE (P:=P) (w:=w) (base:=base) T
 refine⟨fd,?_,F.b2 fun _ _ _ _ _ _ _ _=>rfl⟩
 refine F.okX qv (fun vs H Q E h=>?_) (fun cdv A' outer s H vs Q E hr h=>?_)
 ·exact L7 (fun _ _ _ _ _ _ _ _ _ _=>rfl) h
 ·revert h; refine L6 fun x dx ag a b c d e f g zz=>?_; obtain⟨rfl,hx,k⟩:=zz
  refine⟨_,ae (bU (pv 0) (pv 1) rfl) (ak (aK (cq (E:=EN) (pv 0) T.ao T.kC GF hr bF .nil aT))),?_⟩
  refine zV rfl (zV rfl (zS hx T.ao T.aB (by show 7 < 1000; decide) ?_))
  refine zX rfl (zM af rfl ⟨x,dx,.ref ag,zX rfl ⟨af,.inr ⟨b,c,d,e,f,g,rfl⟩,?_⟩⟩)
  rw [bo]
  exact k
end HG
end
section
namespace HG
open PySem PySem.Spec PyProof.Rows L2
open PySem.W (Frag)
variable {P:Program} {w:World} {K:Frag} {mg:Str→Option Value} {base:Heap} {A:Ad}
theorem C4 (g:Vbecag.Growth) (r:Vbecag.Rule):(yrs g r).map Option.isNone=Vbecag.safe g r:=by
 refine VM.ext (g:=g) (by simp [yrs,Vbecag.stocks]) VM.kr fun x hx=>?_
 unfold yrs
 rw [List.map_map,VM.lT,decide_eq_true hx,Bool.true_and]
 apply Bool.eq_iff_iff.mpr
 show (Vbecag.years g r x).isNone=true↔_
 rw [Option.isNone_iff_eq_none]
 exact VM.kH
theorem F8 (g:Vbecag.Growth) (r:Vbecag.Rule):Jx g r=eJ g r 0:=Ay
theorem F7 (g:Vbecag.Growth) (r:Vbecag.Rule):Jx g r=eD g r 0:=Ay
theorem J5 {H:Hp} {sl o:Addr} {f:Nat→List (Option Nat)} (h1:H sl=some (.lst [.ref o])) (h2:H o=some (.lst (yv (f 0)))):fb H sl f:=⟨[o],h1,by simp,by simp,fun k o' e=>by
 cases k with
 | zero=>cases e; exact h2
 | succ k=>simp at e⟩
theorem fb.but {H H':Hp} {sl x dx C:Addr} {fs:List (Str×V)} {f:Nat→List (Option Nat)} (r:fb H sl f) (hx:H x=some (.ins C dx fs)) (s:But x H H'):fb H' sl f:=by
 obtain⟨os,h1,h2,h3,h4⟩:=r
 have nl:∀ b l,H b=some (.lst l)→b≠x:=fun b l e=>hW e hx (by intro z; cases z)
 exact⟨os,s _ _ (nl _ _ h1) h1,h2,h3,fun k o e=>s _ _ (nl _ _ (h4 k o e)) (h4 k o e)⟩
theorem Own.but {h:Addr} {H H':Hp} (s:But h H H') (l:∃ o,H' h=some o):Own h H H':=⟨fun b o n _ e=>s _ _ n e,fun b o e=>by
 by_cases c:b=h
 ·rw [c]; exact l
 ·exact⟨o,s _ _ c e⟩⟩
theorem l8:ay ["self","rule","years"] ["self","rule"] (au iZ):=⟨rfl,rfl,rfl,by decide +kernel,rfl,by decide +kernel,by decide +kernel⟩
def DQ (A:Ad):Sp:=fun vs H Q _=>∃ (x dx ar ag lo:Addr) (b c d e f m:V) (g:Vbecag.Growth) (r:Vbecag.Rule),vs=[.ref x,.ref ar]∧H x=some (.ins A.aC dx (hvF (.ref ag) b c d e f m))∧GrA A H ag g lo∧WfG g∧iU A H ar r∧WfR g r∧ar≠x ∧
 ∀ H',gT A H' x ⟨some g,some r⟩→But x H H'→Q .non H'
theorem rW (T:Txt K mg A):Fok P w K mg base 4 A.di ["self","rule"] (DQ A):=by
 obtain⟨fd,F⟩:=T.eS
 obtain⟨fdY,GY,bY⟩:=uE (P:=P) (w:=w) (base:=base) T
 obtain⟨fdR,GR,bR⟩:=uD (P:=P) (w:=w) (base:=base) T
 obtain⟨_,FY⟩:=T.ee
 obtain⟨_,FR⟩:=T.d9
 refine⟨fd,?_,F.b2 fun _ _ _ _ _ _ _ _=>rfl⟩
 refine F.okX l8 (fun vs H Q E h=>?_) (fun cdv A' outer s H vs Q E hr h=>?_)
 ·obtain⟨x,dx,ar,ag,lo,b,c,d,e,f,m,g,r,rfl,_⟩:=h; rfl
 ·obtain⟨x,dx,ar,ag,lo,b,c,d,e,f,m,g,r,rfl,hx,G,W,R,WR,hne,k⟩:=h
  have nd:=l8.nd
  have n50:=W.n50
  have hr2:cf 2 _:=hr.mono (by decide)
  have hr3:cf 3 _:=hr.mono (by decide)
  have ng:=T.KG
  refine⟨_,ae (bU (pv 0) (pv 1) rfl)
   (ae (bU (pv 0) (aA (E:=EN) GY hr3 rfl T.hJ FY.kp bY .nil aT (aa (aw (pv 0) rfl) (aa (pv 1) ai))) rfl)
   (ae (bU (pv 0) (iA rfl nd (aY (aw (pv 0) rfl)) (aR (own:=[("years",2)]) (by kernel_rfl)) (fun _ _ _ _ _=>aL (i:=2) nd rfl (Or.inl rfl)) (fun _ _ _ _ _=>cw) (fun _ _ _ _ _=>lx (uG (pv 2)))) rfl)
   (ae (bU (pv 0) gb rfl)
   (ae (bU (pv 0) (bQ (aa (aA (E:=EN) GR hr2 rfl T.eB FR.kp bR .nil aT (aa (aw (pv 0) rfl) (aa (pv 1) ai))) ai)) rfl)
   (ak (bU (pv 0) (bQ (aa (aA (E:=EN) GR hr2 rfl T.eB FR.kp bR .nil aT (aa (aw (pv 0) rfl) (aa (pv 1) ai))) ai)) rfl)))))),?_⟩
  have ub:∀ {H':Hp} {o:HO},But x H' (upd H' x o):=fun b o hb e=>by rw [aj hb]; exact e
  have nx:∀ {H':Hp} {dx':Addr} {fs:List (Str×V)} {b:Addr} {l:List V},H' x=some (.ins A.aC dx' fs)→H' b=some (.lst l)→b≠x:=fun h1 h2=>hW h2 h1 (by intro z; cases z)
  have rk:∀ {H' H'':Hp},iU A H' ar r→But x H' H''→iU A H'' ar r:=fun ⟨dr,e⟩ s=>⟨dr,s _ _ hne e⟩
  refine zV rfl (zV rfl (zS hx T.ao T.aP (by show 7 < 1000; decide) ?_))
  have b1:=ub (H':=H) (o:=.ins A.aC dx (hvF (.ref ag) (.ref ar) c d e f m))
  have G1:=G.but hx ng b1
  have R1:=rk R b1
  refine zV rfl (zF af T.ao T.aB rfl (zV rfl (zE5 ag ar lo g r ⟨rfl,G1,W,R1,fun H2 ly fly hly s2=>?_⟩)))
  have hx2:=s2 _ _ (af (H:=H) (a:=x) (o:=.ins A.aC dx (hvF (.ref ag) (.ref ar) c d e f m)))
  refine zV rfl (zS hx2 T.ao T.cH (by show 7 < 1000; decide) ?_)
  have b2:=ub (H':=H2) (o:=.ins A.aC dx (hvF (.ref ag) (.ref ar) (.ref ly) d e f m))
  have G2:=(G1.keep s2).but hx2 ng b2
  have R2:=rk (R1.keep s2) b2
  have y2:=b2 _ _ (nx hx2 hly) hly
  refine zV rfl (zF af T.ao T.cH rfl ⟨ly,rfl,⟨_,SqL.of y2⟩,fun ls fls=>mL ((Vbecag.safe g r).map V.bl) y2 fls (by rw [nO,← C4,List.length_map,List.length_map]) (by rw [nO]; simp [yrs,Vbecag.stocks]; omega) (fun i z y H' hi hy s Z zz=>?_) dJ fun H3 p3 s3=>?_⟩)
  ·obtain⟨o,ho,rfl⟩:=yK (f:=yV) hi
   rw [← C4,List.map_map,List.getElem?_map,ho] at hy
   cases hy
   refine⟨rfl,zV rfl ?_⟩
   show Z (.bl (decide (yV o=V.non))) H'
   rw [Ld]
   exact zz _ (fun _ _ e=>e)
  have hx3:=s3 _ _ (af (H:=H2) (a:=x) (o:=.ins A.aC dx (hvF (.ref ag) (.ref ar) (.ref ly) d e f m)))
  refine zV rfl (zS hx3 T.ao T.bu (by show 7 < 1000; decide) ?_)
  have b3:=ub (H':=H3) (o:=.ins A.aC dx (hvF (.ref ag) (.ref ar) (.ref ly) (.ref ls) e f m))
  have G3:=(G2.keep s3).but hx3 ng b3
  have R3:=rk (R2.keep s3) b3
  have y3:=b3 _ _ (nx hx3 (s3 _ _ y2)) (s3 _ _ y2)
  have l3:=b3 _ _ (nx hx3 p3) p3
  refine zV rfl (zS af T.ao T.bX (by show 7 < 1000; decide) ?_)
  rw [bo]
  have b4:=ub (H':=H3) (o:=.ins A.aC dx (hvF (.ref ag) (.ref ar) (.ref ly) (.ref ls) .non f m))
  have G4:=(G2.keep s3).but hx3 ng b4
  have R4:=rk (R2.keep s3) b4
  have y4:=b4 _ _ (nx hx3 (s3 _ _ y2)) (s3 _ _ y2)
  have l4:=b4 _ _ (nx hx3 p3) p3
  refine zV rfl (zF af T.ao T.aB rfl (zV rfl (zE4 ag ar g r ⟨rfl,G4.gr,W,R4,fun H5 o5 f5 h5 s5=>?_⟩)))
  refine⟨by show 1≤sizeLine; decide,fun sl fsl=>?_⟩
  have s5b:=s5.trans (aE.upd (o:=HO.lst [V.ref o5]) fsl)
  have hx5:=s5b _ _ (af (H:=H3) (a:=x) (o:=.ins A.aC dx (hvF (.ref ag) (.ref ar) (.ref ly) (.ref ls) .non f m)))
  have w5:fb (upd H5 sl (.lst [V.ref o5])) sl (eJ g r):=J5 af (by rw [aj (aq h5 fsl),h5,F8])
  refine zV rfl (zS hx5 T.ao T.br (by show 7 < 1000; decide) ?_)
  have b6:=ub (H':=upd H5 sl (.lst [V.ref o5])) (o:=.ins A.aC dx (hvF (.ref ag) (.ref ar) (.ref ly) (.ref ls) .non (.ref sl) m))
  have G6:=(G4.keep s5b).but hx5 ng b6
  have R6:=rk (R4.keep s5b) b6
  have y6:=b6 _ _ (nx hx5 (s5b _ _ y4)) (s5b _ _ y4)
  have l6:=b6 _ _ (nx hx5 (s5b _ _ l4)) (s5b _ _ l4)
  have w6:=w5.but hx5 b6
  refine zV rfl (zF af T.ao T.aB rfl (zV rfl (zE4 ag ar g r ⟨rfl,G6.gr,W,R6,fun H7 o7 f7 h7 s7=>?_⟩)))
  refine⟨by show 1≤sizeLine; decide,fun ml fml=>?_⟩
  have s7b:=s7.trans (aE.upd (o:=HO.lst [V.ref o7]) fml)
  have hx7:=s7b _ _ (af (H:=upd H5 sl (.lst [V.ref o5])) (a:=x) (o:=.ins A.aC dx (hvF (.ref ag) (.ref ar) (.ref ly) (.ref ls) .non (.ref sl) m)))
  have v7:fb (upd H7 ml (.lst [V.ref o7])) ml (eD g r):=J5 af (by rw [aj (aq h7 fml),h7,F7])
  refine zV rfl (zS hx7 T.ao T.a9 (by show 7 < 1000; decide) ?_)
  have b8:=ub (H':=upd H7 ml (.lst [V.ref o7])) (o:=.ins A.aC dx (hvF (.ref ag) (.ref ar) (.ref ly) (.ref ls) .non (.ref sl) (.ref ml)))
  obtain⟨os,hos,_⟩:=id G4.out
  obtain⟨os',hos',_⟩:=id G6.out
  obtain⟨os6,hos6,_⟩:=id w6
  refine k _ ⟨dx,_,_,_,_,_,_,_,af,.both ((G6.keep s7b).but hx7 ng b8) W (rk (R6.keep s7b) b8) WR (b8 _ _ (nx hx7 (s7b _ _ y6)) (s7b _ _ y6)) (b8 _ _ (nx hx7 (s7b _ _ l6)) (s7b _ _ l6)) (.inl rfl) ((w6.same s7b).but hx7 b8) (v7.but hx7 b8) ?_ ?_ ?_⟩ ?_
  ·exact aq (s7 _ _ hos6) fml
  ·exact fun z=>by rw [z] at fsl; rw [s5 _ _ hos] at fsl; cases fsl
  ·exact fun z=>by rw [z] at fml; rw [s7 _ _ hos'] at fml; cases fml
  ·exact fun b o hb q=>b8 _ _ hb (s7b _ _ (b6 _ _ hb (s5b _ _ (b4 _ _ hb (s3 _ _ (b2 _ _ hb (s2 _ _ (b1 _ _ hb q))))))))
theorem vQ:ay ["self","stock"] ["self","stock"] (au kR):=⟨rfl,rfl,rfl,by decide +kernel,rfl,by decide +kernel,by decide +kernel⟩
def Gb (A:Ad):Sp:=fun vs H Q _=>∃ (h:Addr) (g:Vbecag.Growth) (r:Vbecag.Rule) (x:Nat),vs=[.ref h,.int x]∧gT A H h ⟨some g,some r⟩∧x≤g.n∧∀ H',gT A H' h ⟨some g,some r⟩→Own h H H'→Q (yV (Vbecag.demand g r x)) H'
theorem Hh {g:Vbecag.Growth} {r:Vbecag.Rule} {x:Nat} (hx:x≤g.n):(yv (dem g r))[x]?=some (yV (Vbecag.demand g r x)):=xx (gO hx)
theorem vD (T:Txt K mg A):Fok P w K mg base 5 A.fc ["self","stock"] (Gb A):=by
 obtain⟨fd,F⟩:=T.iE
 obtain⟨fdD,GD,bD⟩:=rY (P:=P) (w:=w) (base:=base) T
 obtain⟨_,FD⟩:=T.c7
 refine⟨fd,?_,F.b2 fun _ _ _ _ _ _ _ _=>rfl⟩
 refine F.okX vQ (fun vs H Q E h=>?_) (fun cdv A' outer s H vs Q E hr h=>?_)
 ·exact zL4 (fun _ _ _ _=>rfl) h
 ·revert h; refine zG4 fun h g r x zz=>?_; obtain⟨rfl,hv,hx,k⟩:=zz
  refine⟨_,ae (iC (bx (uG (aw (pv 0) rfl))) (ak (bU (pv 0) (aA (E:=EN) GD (hr.mono (by decide)) rfl T.eV FD.kp bD .nil aT (aa (aw (pv 0) rfl) (aa (aw (pv 0) rfl) ai))) rfl)) cu)
   (ak (aF (aS aG (aw (pv 0) rfl) (pv 1) (fun _ _=>rfl)))),?_⟩
  obtain⟨dx,a,b,c,d,e,f,m,h1,h2⟩:=id hv
  cases h2 with
  | @both ag lo ar ly ls sl ml dm _ _ g1 w1 r1 w2 y1 l1 d1 s1 m1 n1 n2 n3 =>
   refine zX rfl (zF h1 T.ao T.bX rfl (zX rfl ?_))
   rcases d1 with rfl | ⟨ld,rfl,hld⟩
   ·refine nP (zV rfl (zF h1 T.ao T.aB rfl (zV rfl (zF h1 T.ao T.aP rfl (zE5 ag ar lo g r ⟨rfl,g1,w1,r1,w2,fun H2 ld fld hld s2=>?_⟩)))))
    have hx2:=s2 _ _ h1
    refine zV rfl (zS hx2 T.ao T.bX (by show 7 < 1000; decide) ?_)
    have b2:But h H2 (upd H2 h (.ins A.aC dx (hvF (.ref ag) (.ref ar) (.ref ly) (.ref ls) (.ref ld) (.ref sl) (.ref ml)))):=fun b o hb e=>by rw [aj hb]; exact e
    have nx:∀ {b:Addr} {l:List V},H2 b=some (.lst l)→b≠h:=fun h3=>hW h3 hx2 (by intro z; cases z)
    have ld2:=b2 _ _ (nx hld) hld
    refine zV rfl (zF af T.ao T.bX rfl (zV rfl (zI (SqL.of ld2) (bg (Hh hx)) ?_)))
    refine k _ ⟨dx,_,_,_,_,_,_,_,af,.both ((g1.keep s2).but hx2 T.KG b2) w1 ?_ w2 (b2 _ _ (nx (s2 _ _ y1)) (s2 _ _ y1)) (b2 _ _ (nx (s2 _ _ l1)) (s2 _ _ l1)) (.inr ⟨ld,rfl,ld2⟩) ((s1.same s2).but hx2 b2) ((m1.same s2).but hx2 b2) n1 n2 n3⟩ ((Own.of s2).trans (.but b2 ⟨_,af⟩))
    obtain⟨dr,hr'⟩:=r1.keep s2
    refine⟨dr,b2 _ _ (hW hr' hx2 ?_) hr'⟩
    intro z
    injection z with z1
    have:=T.xB
    rw [z1,beq_self_eq_true] at this
    cases this
   ·refine qN (zV rfl (zF h1 T.ao T.bX rfl (zV rfl (zI (SqL.of hld) (bg (Hh hx)) ?_))))
    exact k H hv (.of fun _ _ e=>e)
end HG
end
section
namespace HG
open PySem PySem.Spec PyProof.Rows L2
open PySem.W (Frag)
variable {P:Program} {w:World} {K:Frag} {mg:Str→Option Value} {base:Heap} {A:Ad}
structure BD (A:Ad) (H:Hp) (h dx ag lo ar ly ls:Addr) (dm:V) (sl ml:Addr) (g:Vbecag.Growth) (r:Vbecag.Rule):Prop where
 at_:H h=some (.ins A.aC dx (hvF (.ref ag) (.ref ar) (.ref ly) (.ref ls) dm (.ref sl) (.ref ml)))
 gr:GrA A H ag g lo
 wg:WfG g
 ru:iU A H ar r
 wr:WfR g r
 ys:H ly=some (.lst (yv (yrs g r)))
 sf:H ls=some (.lst ((Vbecag.safe g r).map V.bl))
 de:dm = .non∨∃ ld,dm = .ref ld∧H ld=some (.lst (yv (dem g r)))
 su:fb H sl (eJ g r)
 me:fb H ml (eD g r)
 n1:sl≠ml
 n2:sl≠lo
 n3:ml≠lo
theorem gT.both {H:Hp} {h:Addr} {g:Vbecag.Growth} {r:Vbecag.Rule} (x:gT A H h ⟨some g,some r⟩):∃ dx ag lo ar ly ls dm sl ml,BD A H h dx ag lo ar ly ls dm sl ml g r:=by
 obtain⟨dx,a,b,c,d,e,f,m,h1,h2⟩:=x
 cases h2 with
 | both g1 w1 r1 w2 y1 l1 d1 s1 m1 n1 n2 n3=>exact⟨dx,_,_,_,_,_,_,_,_,h1,g1,w1,r1,w2,y1,l1,d1,s1,m1,n1,n2,n3⟩
theorem BD.hv {H:Hp} {h dx ag lo ar ly ls:Addr} {dm:V} {sl ml:Addr} {g:Vbecag.Growth} {r:Vbecag.Rule} (b:BD A H h dx ag lo ar ly ls dm sl ml g r):gT A H h ⟨some g,some r⟩ :=
 ⟨dx,_,_,_,_,_,_,_,b.at_,.both b.gr b.wg b.ru b.wr b.ys b.sf b.de b.su b.me b.n1 b.n2 b.n3⟩
theorem BD.same {H H':Hp} {h dx ag lo ar ly ls:Addr} {dm:V} {sl ml:Addr} {g:Vbecag.Growth} {r:Vbecag.Rule} (b:BD A H h dx ag lo ar ly ls dm sl ml g r) (s:aE H H'):BD A H' h dx ag lo ar ly ls dm sl ml g r :=
 ⟨s _ _ b.at_,b.gr.keep s,b.wg,b.ru.keep s,b.wr,s _ _ b.ys,s _ _ b.sf,b.de.imp_right fun ⟨ld,e,q⟩=>⟨ld,e,s _ _ q⟩,b.su.same s,b.me.same s,b.n1,b.n2,b.n3⟩
theorem fb.more {H:Hp} {sl l:Addr} {f:Nat→List (Option Nat)} {os:List Addr} (h1:H sl=some (.lst (os.map V.ref))) (h3:os.length≤100) (h4:∀ (k:Nat) (o:Addr),os[k]?=some o→H o=some (.lst (yv (f k)))) (hl:H l=some (.lst (yv (f os.length)))) (hne:∀ o,H o=some (.lst (yv (f os.length)))∨(∃ k:Nat,H o=some (.lst (yv (f k))))→o≠sl) :
  fb (upd H sl (.lst ((os ++ [l]).map V.ref))) sl f:=by
 refine⟨os ++ [l],af,by simp,by rw [List.length_append]; show os.length + 1≤101; omega,fun k o e=>?_⟩
 by_cases c:k < os.length
 ·rw [List.getElem?_append_left c] at e
  have:=h4 k o e
  rw [aj (hne o (.inr ⟨k,this⟩))]; exact this
 ·rw [List.getElem?_append_right (by omega)] at e
  have e0:k - os.length=0:=by
   cases z':k - os.length with
   | zero=>rfl
   | succ m=>rw [z'] at e; simp at e
  rw [e0] at e
  cases e
  rw [show k=os.length from by omega,aj (hne l (.inl hl))]; exact hl
theorem wX {os:List Addr} (h:os≠[]):∃ a l,os.map V.ref = .ref a :: l:=by
 cases os with
 | nil=>exact absurd rfl h
 | cons a l=>exact⟨a,_,rfl⟩
theorem EZ {H:Hp} {sl o:Addr} {os:List Addr} {u:HO} (h:os≠[]) (h1:H sl=some (.lst (os.map V.ref))) (h2:H o=some u) (hu:eT u):o≠sl:=fun z=>by
 obtain⟨a,l,e⟩:=wX h
 rw [z,h1,e] at h2
 cases h2
 exact hu a l rfl
theorem qX:ay ["self","stock","years"] ["self","stock","years"] (au ik):=⟨rfl,rfl,rfl,by decide +kernel,rfl,by decide +kernel,by decide +kernel⟩
def JN (A:Ad):Sp:=fun vs H Q _=>∃ (h:Addr) (g:Vbecag.Growth) (r:Vbecag.Rule) (x t:Nat),vs=[.ref h,.int x,.int t]∧gT A H h ⟨some g,some r⟩∧x≤g.n∧t≤100∧∀ H',gT A H' h ⟨some g,some r⟩→Own h H H'→Q (yV ((eJ g r t).getD x none)) H'
theorem qU (T:Txt K mg A):Fok P w K mg base 4 A.cN ["self","stock","years"] (JN A):=by
 obtain⟨fd,F⟩:=T.d5
 obtain⟨fdN,GN,bN⟩:=wQ (P:=P) (w:=w) (base:=base) T
 obtain⟨_,FN⟩:=T.gq
 refine⟨fd,?_,F.b3 fun _ _ _ _ _ _ _ _ _=>rfl⟩
 refine F.okX qX (fun vs H Q E h=>?_) (fun cdv A' outer s H vs Q E hr h=>?_)
 ·exact zL5 (fun _ _ _ _ _=>rfl) h
 ·revert h; refine zG5 fun h g r x t zz=>?_; obtain⟨rfl,hv,hx,ht,k⟩:=zz
  refine⟨_,ae (js PassesOwn.leaving (bx (HK (aO aN (by rfl) T.eO PySem.boot_len (aa (aw (pv 0) rfl) ai)) (pv 2)))
    (ak (aK (qE PySem.F.plainAttrs_list PySem.F.slot_list_append PySem.F.type_list_append fE (aw (pv 0) rfl) (aa (aA (E:=EN) GN (hr.mono (by decide)) rfl T.jB FN.kp bN .nil aT (aa (aw (pv 0) rfl) (aa (aw (pv 0) rfl) (aa (aS aG (aw (pv 0) rfl) (t6 o6 az) (fun _ _=>rfl)) ai)))) ai)))))
   (ak (aF (aS aG (aS aG (aw (pv 0) rfl) (pv 2) (fun _ _=>rfl)) (pv 1) (fun _ _=>rfl)))),?_⟩
  obtain⟨dx,ag,lo,ar,ly,ls,dm,sl,ml,B⟩:=hv.both
  let IV:Nat→L2.St→Hp→Prop:=fun m σ H'=>σ=[some (.ref h),some (.int (x:Int)),some (.int (t:Int))]∧BD A H' h dx ag lo ar ly ls dm sl ml g r∧Own h H H'∧∃ os:List Addr,H' sl=some (.lst (os.map V.ref))∧m=200 - os.length
  obtain⟨os0,ho0,_⟩:=id B.su
  refine⟨IV,⟨_,rfl,B,.of fun _ _ e=>e,os0,ho0,rfl⟩,?_⟩
  rintro m σ H' ⟨rfl,B',O',os',ho',rfl⟩
  obtain⟨os,h1,h2,h3,h4⟩:=id B'.su
  obtain rfl:os'=os:=by
   rw [ho'] at h1
   injection h1 with h1; injection h1 with h1
   exact List.map_inj_right (fun a b e=>by cases e; rfl) |>.mp h1
  refine zX rfl (zF B'.at_ T.ao T.br rfl ⟨sl,zX rfl ⟨.inl (SqL.of h1),zX rfl (zO (zX rfl ?_))⟩⟩)
  rw [List.length_map]
  refine ko (fun c=>?_) fun c=>?_
  ·have c:os'.length≤t:=by have:=of_decide_eq_true c; omega
   refine⟨fun σ' H''=>∃ m',m' < 200 - os'.length∧IV m' σ' H'',fun _ _ q=>q,?_⟩
   obtain⟨os1,ol,rfl⟩:∃ os1 ol,os'=os1 ++ [ol]:=⟨_,_,(List.dropLast_concat_getLast h2).symm⟩
   have hol:=h4 os1.length ol (by rw [List.getElem?_append_right (Nat.le_refl _),Nat.sub_self]; rfl)
   have hlen:(os1 ++ [ol]).length=os1.length + 1:=by simp
   refine zV rfl (zF B'.at_ T.ao T.br rfl ⟨.inl ⟨rfl,_,SqL.of h1⟩,?_⟩)
   refine zX rfl (zF B'.at_ T.ao T.aB rfl (zX rfl (zF B'.at_ T.ao T.aP rfl (zX rfl (zF B'.at_ T.ao T.br rfl (zX rfl (zI (SqL.of h1) (by rw [List.map_append]; exact yl _ _) ?_)))))))
   refine zE7 ag ar ol lo g r os1.length ⟨rfl,B'.gr,B'.wg,B'.ru,hol,fun H2 l fl hl s2=>?_⟩
   have B2:=B'.same s2
   have h12:=s2 _ _ h1
   refine zE3 sl _ _ ⟨rfl,rfl,h12,by rw [List.length_map,sizeLine_eq]; omega,?_⟩
   obtain⟨ah,lh,eh⟩:=wX h2
   have e5:(os1 ++ [ol]).map V.ref ++ [V.ref l]=((os1 ++ [ol]) ++ [l]).map V.ref:=by simp
   rw [e5]
   have nr:∀ {b:Addr} {u:HO},H2 b=some u→eT u→b≠sl:=fun e q=>EZ h2 h12 e q
   have keep:∀ {b:Addr} {u:HO},H2 b=some u→eT u→(upd H2 sl (.lst (((os1 ++ [ol]) ++ [l]).map V.ref))) b=some u:=fun e q=>by rw [aj (nr e q)]; exact e
   have nrows:¬ eT (HO.lst ((os1 ++ [ol]).map V.ref)):=fun z=>by rw [eh] at z; exact z _ _ rfl
   refine⟨_,?_,rfl,?_,O'.trans ((Own.of s2).trans ?_),_,af,rfl⟩
   ·rw [List.length_append (as:=os1 ++ [ol])]
    show 200 - ((os1 ++ [ol]).length + 1) < _
    omega
   ·refine⟨keep B2.at_ sY,B2.gr.rows h12 nrows ⟨_,rfl⟩ B2.n2,B2.wg,?_,B2.wr,keep B2.ys qA,keep B2.sf Ez,B2.de.imp_right fun ⟨ld,e,q⟩=>⟨ld,e,keep q qA⟩,?_,?_,B2.n1,B2.n2,B2.n3⟩
    ·obtain⟨dr,q⟩:=B2.ru
     exact⟨dr,keep q sY⟩
    ·refine fb.more h12 (by omega) (fun k o e=>s2 _ _ (h4 k o e)) (by rw [hlen]; exact hl) fun o q=>?_
     rcases q with q | ⟨k,q⟩
     ·exact nr q qA
     ·exact nr q qA
    ·refine B2.me.keep (fun o e=>by rw [aj (Ne.symm B2.n1)]; exact e) fun b o q _ e=>keep e q
   ·rw [eh] at h12
    exact Own.rows h12
  ·have c:t < os'.length:=Nat.lt_of_not_le fun z=>c (decide_eq_true (show ((os'.length:Nat):Int)≤(t:Int) by omega))
   have hot:=List.getElem?_eq_getElem c
   have hrow:=h4 t _ hot
   refine zV rfl (zF B'.at_ T.ao T.br rfl (zV rfl (zI (SqL.of h1) (bg (by rw [List.getElem?_map,hot]; rfl)) (zV rfl (zI (SqL.of hrow) (bg (xx (getD_some (by unfold eJ; rw [tG]; omega)))) (k H' B'.hv O'))))))
theorem wZ:ay ["self","years"] ["self","years"] (au mi):=⟨rfl,rfl,rfl,by decide +kernel,rfl,by decide +kernel,by decide +kernel⟩
def Ii (A:Ad):Sp:=fun vs H Q _=>∃ (h:Addr) (g:Vbecag.Growth) (r:Vbecag.Rule) (t:Nat),vs=[.ref h,.int t]∧gT A H h ⟨some g,some r⟩∧t≤1000∧Q (.int ((Vbecag.weight g ^ t:Nat):Int)) H
theorem IC {c:Nat}:∀ {l:List Nat},(∀ x∈l,x≤c)→l.sum≤l.length * c
 | [],_=>by simp
 | a :: l,h=>by
  rw [List.sum_cons,List.length_cons,Nat.add_mul]
  have:=IC (l:=l) fun x hx=>h x (List.mem_cons_of_mem _ hx)
  have:=h a List.mem_cons_self
  omega
theorem px (T:Txt K mg A):Fok P w K mg base 2 A.gv ["self","years"] (Ii A):=by
 obtain⟨fd,F⟩:=T.jv
 obtain⟨fdN,GN,bN⟩:=zP (P:=P) (w:=w) (base:=base) T
 obtain⟨_,FN⟩:=T.j4
 refine⟨fd,?_,F.b2 fun _ _ _ _ _ _ _ _=>rfl⟩
 refine F.okX wZ (fun vs H Q E h=>?_) (fun cdv A' outer s H vs Q E hr h=>?_)
 ·exact zL4 (fun _ _ _ _=>rfl) h
 ·revert h; refine zG4 fun h g r t zz=>?_; obtain⟨rfl,hv,ht,k⟩:=zz
  refine⟨_,ak (aF (aA (E:=EN) GN hr rfl T.mN FN.kp bN .nil aT (aa (aw (aw (pv 0) rfl) rfl) (aa (pv 1) ai)))),?_⟩
  obtain⟨dx,ag,lo,ar,ly,ls,dm,sl,ml,B⟩:=hv.both
  obtain⟨⟨dg,lw,lt,g1,g2,g3⟩,_⟩:=id B.gr
  have h24:=IC B.wg.w4
  have h6:=B.wg.s6
  exact zV rfl (zF B.at_ T.ao T.aB rfl (zF g1 T.aH T.eF rfl (zV rfl (zE3 lw g.weights t ⟨rfl,g2,by omega,ht,k⟩))))
theorem kL:ay ["self","stock","years","unit"] ["self","stock","years"] (au ij):=⟨rfl,rfl,rfl,by decide +kernel,rfl,by decide +kernel,by decide +kernel⟩
def JJ (A:Ad):Sp:=fun vs H Q _=>∃ (h:Addr) (g:Vbecag.Growth) (r:Vbecag.Rule) (x t:Nat),vs=[.ref h,.int x,.int t]∧gT A H h ⟨some g,some r⟩∧x≤g.n∧t≤100∧∀ H',gT A H' h ⟨some g,some r⟩→Own h H H'→Q (yV ((eD g r t).getD x none)) H'
theorem qT (T:Txt K mg A):Fok P w K mg base 4 A.cM ["self","stock","years"] (JJ A):=by
 obtain⟨fd,F⟩:=T.dZ
 obtain⟨fdN,GN,bN⟩:=wO (P:=P) (w:=w) (base:=base) T
 obtain⟨fdC,GC,bC⟩:=px (P:=P) (w:=w) (base:=base) T
 obtain⟨_,FN⟩:=T.gp
 refine⟨fd,?_,F.b3 fun _ _ _ _ _ _ _ _ _=>rfl⟩
 refine F.okX kL (fun vs H Q E h=>?_) (fun cdv A' outer s H vs Q E hr h=>?_)
 ·exact zL5 (fun _ _ _ _ _=>rfl) h
 ·revert h; refine zG5 fun h g r x t zz=>?_; obtain⟨rfl,hv,hx,ht,k⟩:=zz
  have nd:=kL.nd
  refine⟨_,ae (js PassesOwn.leaving (bx (HK (aO aN (by rfl) T.eO PySem.boot_len (aa (aw (pv 0) rfl) ai)) (pv 2)))
    (ae (aD (i:=3) nd rfl (Or.inl rfl) (bz (E:=EN) (pv 0) T.ao T.pw GC (hr.mono (by decide)) bC .nil aT (aa (aO aN (by rfl) T.eO PySem.boot_len (aa (aw (pv 0) rfl) ai)) ai)))
    (ak (aK (qE PySem.F.plainAttrs_list PySem.F.slot_list_append PySem.F.type_list_append fE (aw (pv 0) rfl) (aa (aA (E:=EN) GN (hr.mono (by decide)) rfl T.jA FN.kp bN .nil aT (aa (aw (pv 0) rfl) (aa (aw (pv 0) rfl) (aa (pv 3) (aa (aS aG (aw (pv 0) rfl) (t6 o6 az) (fun _ _=>rfl)) ai))))) ai))))))
   (ak (aF (aS aG (aS aG (aw (pv 0) rfl) (pv 2) (fun _ _=>rfl)) (pv 1) (fun _ _=>rfl)))),?_⟩
  obtain⟨dx,ag,lo,ar,ly,ls,dm,sl,ml,B⟩:=hv.both
  let IV:Nat→L2.St→Hp→Prop:=fun m σ H'=>(∃ v,σ=[some (.ref h),some (.int (x:Int)),some (.int (t:Int)),v])∧BD A H' h dx ag lo ar ly ls dm sl ml g r∧Own h H H'∧∃ os:List Addr,H' ml=some (.lst (os.map V.ref))∧m=200 - os.length
  obtain⟨os0,ho0,_⟩:=id B.me
  refine⟨IV,⟨_,⟨none,rfl⟩,B,.of fun _ _ e=>e,os0,ho0,rfl⟩,?_⟩
  rintro m σ H' ⟨⟨v,rfl⟩,B',O',os',ho',rfl⟩
  obtain⟨os,h1,h2,h3,h4⟩:=id B'.me
  obtain rfl:os'=os:=by
   rw [ho'] at h1
   injection h1 with h1; injection h1 with h1
   exact List.map_inj_right (fun a b e=>by cases e; rfl) |>.mp h1
  refine zX rfl (zF B'.at_ T.ao T.a9 rfl ⟨ml,zX rfl ⟨.inl (SqL.of h1),zX rfl (zO (zX rfl ?_))⟩⟩)
  rw [List.length_map]
  refine ko (fun c=>?_) fun c=>?_
  ·have c:os'.length≤t:=by have:=of_decide_eq_true c; omega
   refine⟨fun σ' H''=>∃ m',m' < 200 - os'.length∧IV m' σ' H'',fun _ _ q=>q,?_⟩
   obtain⟨os1,ol,rfl⟩:∃ os1 ol,os'=os1 ++ [ol]:=⟨_,_,(List.dropLast_concat_getLast h2).symm⟩
   have hol:=h4 os1.length ol (by rw [List.getElem?_append_right (Nat.le_refl _),Nat.sub_self]; rfl)
   have hlen:(os1 ++ [ol]).length=os1.length + 1:=by simp
   refine zV rfl (zM B'.at_ rfl (zV rfl (zF B'.at_ T.ao T.a9 rfl (zE2 ml _ ⟨rfl,.inl (SqL.of h1),h,g,r,os1.length + 1,by rw [List.length_map,hlen]; rfl,B'.hv,by omega,?_⟩))))
   refine zV rfl (zF B'.at_ T.ao T.a9 rfl ⟨.inl ⟨rfl,_,SqL.of h1⟩,?_⟩)
   refine zX rfl (zF B'.at_ T.ao T.aB rfl (zX rfl (zF B'.at_ T.ao T.aP rfl (zX rfl (zX rfl (zF B'.at_ T.ao T.a9 rfl (zX rfl (zI (SqL.of h1) (by rw [List.map_append]; exact yl _ _) ?_))))))))
   refine zE7 ag ar ol lo g r os1.length ⟨rfl,B'.gr,B'.wg,B'.wg.w4,B'.ru,hol,fun H2 l fl hl s2=>?_⟩
   have B2:=B'.same s2
   have h12:=s2 _ _ h1
   refine zE3 ml _ _ ⟨rfl,rfl,h12,by rw [List.length_map,sizeLine_eq]; omega,?_⟩
   obtain⟨ah,lh,eh⟩:=wX h2
   have e5:(os1 ++ [ol]).map V.ref ++ [V.ref l]=((os1 ++ [ol]) ++ [l]).map V.ref:=by simp
   rw [e5]
   have nr:∀ {b:Addr} {u:HO},H2 b=some u→eT u→b≠ml:=fun e q=>EZ h2 h12 e q
   have keep:∀ {b:Addr} {u:HO},H2 b=some u→eT u→(upd H2 ml (.lst (((os1 ++ [ol]) ++ [l]).map V.ref))) b=some u:=fun e q=>by rw [aj (nr e q)]; exact e
   have nrows:¬ eT (HO.lst ((os1 ++ [ol]).map V.ref)):=fun z=>by rw [eh] at z; exact z _ _ rfl
   refine⟨_,?_,⟨_,rfl⟩,?_,O'.trans ((Own.of s2).trans ?_),_,af,rfl⟩
   ·rw [List.length_append (as:=os1 ++ [ol])]
    show 200 - ((os1 ++ [ol]).length + 1) < _
    omega
   ·refine⟨keep B2.at_ sY,B2.gr.rows h12 nrows ⟨_,rfl⟩ B2.n3,B2.wg,?_,B2.wr,keep B2.ys qA,keep B2.sf Ez,B2.de.imp_right fun ⟨ld,e,q⟩=>⟨ld,e,keep q qA⟩,?_,?_,B2.n1,B2.n2,B2.n3⟩
    ·obtain⟨dr,q⟩:=B2.ru
     exact⟨dr,keep q sY⟩
    ·refine B2.su.keep (fun o e=>by rw [aj B2.n1]; exact e) fun b o q _ e=>keep e q
    ·refine fb.more h12 (by omega) (fun k o e=>s2 _ _ (h4 k o e)) (by rw [hlen]; exact hl) fun o q=>?_
     rcases q with q | ⟨k,q⟩
     ·exact nr q qA
     ·exact nr q qA
   ·rw [eh] at h12
    exact Own.rows h12
  ·have c:t < os'.length:=Nat.lt_of_not_le fun z=>c (decide_eq_true (show ((os'.length:Nat):Int)≤(t:Int) by omega))
   have hot:=List.getElem?_eq_getElem c
   have hrow:=h4 t _ hot
   refine zV rfl (zF B'.at_ T.ao T.a9 rfl (zV rfl (zI (SqL.of h1) (bg (by rw [List.getElem?_map,hot]; rfl)) (zV rfl (zI (SqL.of hrow) (bg (xx (getD_some (by unfold eD; rw [tG]; omega)))) (k H' B'.hv O'))))))
end HG
end
section
namespace HG
section
open Vbecag VM
def rD (s:Stocks):List Nat→Stocks
 | []=>s
 | x :: l=>rD (s.set x true) l
theorem wq:∀ (l:List Nat) (s:Stocks),(rD s l).length=s.length
 | [],_=>rfl
 | x :: l,s=>by unfold rD; rw [wq l,List.length_set]
theorem yC:∀ (l:List Nat) (s:Stocks) (z:Nat),rD s (l ++ [z])=(rD s l).set z true
 | [],_,_=>rfl
 | x :: l,s,z=>by
  show rD (s.set x true) (l ++ [z])=_
  rw [yC l]; rfl
theorem Al:∀ (l:List Nat) (s:Stocks) (x:Nat),x < s.length→isIn (rD s l) x=(isIn s x || l.contains x)
 | [],s,x,_=>by simp [rD]
 | z :: l,s,x,hx=>by
  unfold rD
  rw [Al l _ x (by rw [List.length_set]; exact hx)]
  unfold isIn
  by_cases h:x=z
  ·subst h
   rw [List.getD_eq_getElem?_getD,List.getElem?_set_self hx,List.contains_cons,beq_self_eq_true,Bool.true_or,Bool.or_true]; rfl
  ·rw [List.getD_eq_getElem?_getD,List.getElem?_set_ne (Ne.symm h),← List.getD_eq_getElem?_getD,List.contains_cons,show (x == z)=false from by simpa using h,Bool.false_or]
theorem BY {g:Growth} {l:List Nat}:rD ((stocks g).map fun _=>false) l=setOf g l:=by
 refine ext (g:=g) (by rw [wq]; exact kq g _) (kq g _) fun x hx=>?_
 rw [Al _ _ _ (by rw [kq]; omega),lT]
 unfold setOf
 rw [lT,decide_eq_true hx,Bool.true_and,Bool.true_and,Bool.false_or]
theorem yD {g:Growth} {l:List Nat} {x:Nat} (hx:x≤g.n):isIn (setOf g l) x=l.contains x:=by
 unfold setOf
 rw [lT,decide_eq_true hx,Bool.true_and]
theorem FI {g:Growth} {l:List Nat}:(setOf g l).length=g.n + 1:=kq g _
theorem Fo {g:Growth} {r:Rule} {l:List Nat} (hl:∀ x∈l,x≤g.n):closed g r (setOf g l)=(!(l.any fun x=>decide (x < r.low)) && (leaving g r (setOf g l)).isEmpty):=by
 apply Bool.eq_iff_iff.mpr
 unfold closed
 rw [List.all_eq_true,Bool.and_eq_true]
 constructor
 ·intro h
  have h2:∀ x,x≤g.n→isIn (setOf g l) x=true→r.low≤x∧ok g r (setOf g l) x:=fun x hx hi=>by
   have:=h x (by unfold stocks; exact List.mem_range.mpr (by omega))
   rw [hi,Bool.not_true,Bool.false_or,Bool.and_eq_true,A0] at this
   obtain⟨a,q,b,c⟩:=this
   exact⟨of_decide_eq_true a,q,b,fA.mp c⟩
  refine⟨?_,?_⟩
  ·cases e:l.any fun x=>decide (x < r.low) with
   | false=>rfl
   | true =>
    obtain⟨x,hx,hc⟩:=List.any_eq_true.mp e
    have:=(h2 x (hl x hx) (by rw [yD (hl x hx)]; exact List.contains_iff_mem.mpr hx)).1
    have:=of_decide_eq_true hc
    omega
  ·cases e:leaving g r (setOf g l) with
   | nil=>rfl
   | cons a m =>
    have:=fO.mp (show a∈leaving g r (setOf g l) by rw [e]; exact List.mem_cons_self)
    exact absurd (h2 a this.1 this.2.1).2 this.2.2
 ·rintro ⟨h1,h2⟩ x hx
  have hx:x≤g.n:=by unfold stocks at hx; have:=List.mem_range.mp hx; omega
  cases e:isIn (setOf g l) x with
  | false=>rfl
  | true =>
   rw [Bool.not_true,Bool.false_or,Bool.and_eq_true,A0]
   have hm:x∈l:=by rw [yD hx] at e; exact List.contains_iff_mem.mp e
   refine⟨decide_eq_true (Nat.le_of_not_lt fun z=>?_),?_⟩
   ·rw [List.any_eq_true.mpr ⟨x,hm,decide_eq_true z⟩] at h1
    cases h1
   ·have:ok g r (setOf g l) x:=Classical.byContradiction fun z=>by
     have:=fO.mpr ⟨hx,e,z⟩
     rw [List.isEmpty_iff.mp h2] at this; cases this
    obtain⟨q,a,b⟩:=this
    exact⟨q,a,fA.mpr b⟩
def xo (ks:List Nat) (after:List Nat):Nat:=if (after.filter fun y=>decide (0 < ks.getD y 0)).map (fun y=>ks.getD y 0)=[] then 1001 else leastOf ((after.filter fun y=>decide (0 < ks.getD y 0)).map fun y=>ks.getD y 0)
theorem B5 {ks after:List Nat} {a:Nat} (ha:a≤1000):xo ks after < a↔∃ y∈after,1≤ks.getD y 0∧ks.getD y 0 < a:=by
 unfold xo
 by_cases c:(after.filter fun y=>decide (0 < ks.getD y 0)).map (fun y=>ks.getD y 0)=[]
 ·rw [if_pos c]
  constructor
  ·intro h; omega
  ·rintro ⟨y,hy,h1,h2⟩
   have:ks.getD y 0∈(after.filter fun y=>decide (0 < ks.getD y 0)).map (fun y=>ks.getD y 0):=List.mem_map.mpr ⟨y,List.mem_filter.mpr ⟨hy,decide_eq_true h1⟩,rfl⟩
   rw [c] at this; cases this
 ·rw [if_neg c]
  obtain⟨h1,h2⟩:=rJ c
  constructor
  ·intro h
   obtain⟨y,hy,e⟩:=List.mem_map.mp h1
   obtain⟨hy1,hy2⟩:=List.mem_filter.mp hy
   have:=of_decide_eq_true hy2
   exact⟨y,hy1,this,by rw [e]; exact h⟩
  ·rintro ⟨y,hy,q1,q2⟩
   have:=h2 (ks.getD y 0) (List.mem_map.mpr ⟨y,List.mem_filter.mpr ⟨hy,decide_eq_true q1⟩,rfl⟩)
   omega
def lows (g:Growth) (ks:List Nat):List Nat:=(List.range (g.n + 1)).map fun e=>xo ks (outs g e)
def uk (r:Rule) (lw:List Nat) (x k:Nat):Bool:=k == 0 || (if k=1 then decide (x < r.low) else (iT r x lw).all fun b=>decide (b < k))
theorem DL {g:Growth} {r:Rule} {ks:List Nat} (hk:∀ x∈ks,x≤1000):refutes g r ks=(stocks g).all fun x=>uk r (lows g ks) x (ks.getD x 0):=by
 unfold refutes
 have e:∀ x∈stocks g,(let a:=ks.getD x 0
   a == 0 || (if a=1 then decide (x < r.low) else (catches r x).all fun q=>(List.range g.seasons).any fun c =>
    let b:=ks.getD (g.next c (x - q)) 0
    decide (1≤b∧b < a)))=uk r (lows g ks) x (ks.getD x 0):=fun x hx=>by
  have hx:x≤g.n:=by unfold stocks at hx; have:=List.mem_range.mp hx; omega
  have ha:ks.getD x 0≤1000:=by
   rw [List.getD_eq_getElem?_getD]
   cases q:ks[x]? with
   | none=>exact Nat.zero_le _
   | some v=>exact hk v (List.mem_of_getElem? q)
  unfold uk
  dsimp only
  congr 1
  by_cases c:ks.getD x 0=1
  ·rw [if_pos c,if_pos c]
  ·rw [if_neg c,if_neg c]
   apply Bool.eq_iff_iff.mpr
   have hlen:x < (lows g ks).length:=by simp [lows]; omega
   rw [List.all_eq_true,List.all_eq_true]
   constructor
   ·intro h b hb
    obtain⟨q,hq,e⟩:=(lp hlen).mp hb
    have hb:xo ks (outs g (x - q))=b:=by
     unfold lows at e
     rw [List.getElem?_map,List.getElem?_range (by omega)] at e
     exact Option.some.inj e
    obtain⟨cc,hc,h2⟩:=List.any_eq_true.mp (h q (du.mpr hq))
    rw [← hb]
    exact decide_eq_true ((B5 ha).mpr ⟨g.next cc (x - q),List.mem_map.mpr ⟨cc,hc,rfl⟩,of_decide_eq_true h2⟩)
   ·intro h q hq
    have hq:=du.mp hq
    have:=of_decide_eq_true (h (xo ks (outs g (x - q))) ((lp hlen).mpr ⟨q,hq,by unfold lows; rw [List.getElem?_map,List.getElem?_range (by omega)]; rfl⟩))
    obtain⟨y,hy,h2⟩:=(B5 ha).mp this
    obtain⟨cc,hc,rfl⟩:=List.mem_map.mp hy
    exact List.any_eq_true.mpr ⟨cc,hc,decide_eq_true h2⟩
 rw [Bool.eq_iff_iff,List.all_eq_true,List.all_eq_true]
 constructor
 ·intro h x hx; rw [← e x hx]; exact h x hx
 ·intro h x hx; rw [e x hx]; exact h x hx
end
open PySem PySem.Spec PyProof.Rows L2
open PySem.W (Frag)
variable {P:Program} {w:World} {K:Frag} {mg:Str→Option Value} {base:Heap} {A:Ad}
theorem mH:ay ["growth","rule","stocks","inside","stock"] ["growth","rule","stocks"] (au jJ):=⟨rfl,rfl,rfl,by decide +kernel,rfl,by decide +kernel,by decide +kernel⟩
def Iu (A:Ad):Sp:=fun vs H Q _=>∃ (ag ar la lo:Addr) (g:Vbecag.Growth) (r:Vbecag.Rule) (l:List Nat),vs=[.ref ag,.ref ar,.ref la]∧GrA A H ag g lo∧WfG g∧iU A H ar r∧H la=some (.lst (nv l))∧(∀ x∈l,x≤g.n)∧l.length≤1000∧∀ H',aE H H'→Q (.bl (Vbecag.closed g r (Vbecag.setOf g l))) H'
theorem tQ (T:Txt K mg A):Fok P w K mg base 3 A.cF ["growth","rule","stocks"] (Iu A):=by
 obtain⟨fd,F⟩:=T.dD
 obtain⟨fdA,GA,bA⟩:=bt (P:=P) (w:=w) (base:=base) T
 obtain⟨fdL,GL,bL⟩:=kF (P:=P) (w:=w) (base:=base) T
 obtain⟨_,FL⟩:=T.cD
 refine⟨fd,?_,F.b3 fun _ _ _ _ _ _ _ _ _=>rfl⟩
 refine F.okX mH (fun vs H Q E h=>?_) (fun cdv A' outer s H vs Q E hr h=>?_)
 ·exact zL7 (fun _ _ _ _ _ _ _=>rfl) h
 ·revert h; refine zG7 fun ag ar la lo g r l zz=>?_; obtain⟨rfl,G,W,R,hla,hl,hz,k⟩:=zz
  have nd:=mH.nd
  have n50:=W.n50
  refine⟨_,ae (iC (gc (aO (Kj rfl) (by rfl) T.Ew (by kernel_rfl) (aa (iA rfl nd (aY (pv 2)) (aR (own:=[("stock",4)]) (by kernel_rfl)) (fun _ _ _ _ _=>aL (i:=4) nd rfl (Or.inl rfl)) (fun _ _ _ _ _=>cw)
    (fun _ _ _ _ _=>lx (pz (pv 4) (show PE _ _ (BA K (tY 1) "low") from aw (pv 1) rfl)))) ai))) (ak (aF sg)) cu)
   (ae (jr (i:=3) rfl nd rfl rfl (lM rfl rfl (by rfl) (by kernel_rfl)) (aY (cq (E:=EN) (pv 0) T.aH T.a0 GA (hr.mono (by decide)) bA .nil aT)) (aR (own:=[("stock",4)]) (by kernel_rfl)) (fun _ _ _ _ _=>aL (i:=4) nd rfl (Or.inl rfl)) (fun _ _ _ _ _=>cw) (fun _ _ _ _ _=>sg))
   (ae (iB PassesOwn.leaving rfl (aY (pv 2)) (aL (i:=4) nd rfl (Or.inl rfl)) (ak (Bh sg (Bf (pv 3) (pv 4) set_list))))
   (ak (aF (lx (wR (aO aN (by rfl) T.eO PySem.boot_len (aa (aA (E:=EN) GL (hr.mono (by decide)) rfl T.b9 FL.kp bL .nil aT (aa (pv 0) (aa (pv 1) (aa (pv 3) ai)))) ai)) az)))))),?_⟩
  refine zV rfl ⟨la,rfl,⟨_,SqL.of hla⟩,fun D hD=>jm (fun x=>V.bl (decide (x < r.low))) hla hD (by omega) (fun i x H' hi s Z z=>?_) fun H1 p1 s1=>?_⟩
  ·obtain⟨dr,hr'⟩:=R.keep s
   refine⟨rfl,zV rfl (zV rfl (zF hr' T.bh T.cP rfl (zO ?_)))⟩
   show Z (.bl (decide ((x:Int) < (r.low:Int)))) H'
   rw [show decide ((x:Int) < (r.low:Int))=decide (x < r.low) from by simp]
   exact z _ (fun _ _ e=>e)
  refine⟨D,l.map (fun x=>decide (x < r.low)),rfl,by rw [List.map_map]; exact SqL.of p1,zX rfl ?_⟩
  have ea:(l.map fun x=>decide (x < r.low)).any id=l.any fun x=>decide (x < r.low):=by rw [List.any_map]; rfl
  rw [ea]
  have kk:=fun H2 (s2:aE H1 H2)=>k H2 (s1.trans s2)
  rw [Fo hl] at kk
  cases c:l.any fun x=>decide (x < r.low) with
  | true =>
   rw [c] at kk
   exact nP (kk _ (fun _ _ e=>e))
  | false =>
   rw [c] at kk
   obtain⟨⟨dg,lw,lt,hg1,_⟩,_⟩:=id G
   refine qN (zV rfl (zM (s1 _ _ hg1) rfl (zE2 ag g ⟨rfl,(G.keep s1).gr,W,fun H2 ls fls hls s2=>?_⟩)))
   refine⟨ls,rfl,⟨_,SqL.of hls⟩,fun Di fDi=>jm (fun _=>V.bl false) hls fDi (by rw [eN]; omega) (fun i x H' hi s Z z=>⟨rfl,z _ (fun _ _ e=>e)⟩) fun H3 p3 s3=>?_⟩
   have s13:=s2.trans s3
   have s03:=s1.trans s13
   have fi:H1 Di=none:=s2.free fDi
   have hne:la≠Di:=aq (s1 _ _ hla) fi
   refine⟨_,rfl,la,rfl,⟨_,SqL.of (s03 _ _ hla)⟩,jl (K:=K) (a:=la) (xs:=nv l) (fun i σ H'=>(∃ v,σ=[some (.ref ag),some (.ref ar),some (.ref la),some (.ref Di),v])∧aE H1 H'∧H' Di=some (.lst ((rD ((Vbecag.stocks g).map fun _=>false) (l.take i)).map V.bl)))
    ⟨⟨none,rfl⟩,s13,by rw [p3]; show _=some (HO.lst (((Vbecag.stocks g).map fun _=>false).map V.bl)); rw [List.map_map]; rfl⟩ (fun i σ H' _ q=>SqL.of (q.2.1 _ _ (s1 _ _ hla))) ?_ ?_⟩
   ·rintro i y σ H' hi ⟨⟨v,rfl⟩,sH,q1⟩
    obtain⟨z,hz',rfl⟩:=lg hi
    have hzn:z≤g.n:=hl z (List.mem_of_getElem? hz')
    refine zV rfl (zV rfl (zE4 Di _ _ z ⟨rfl,rfl,q1,?_,⟨_,rfl⟩,?_,?_⟩))
    ·rw [List.length_map,wq,VM.kq]; exact xV (by omega)
    ·intro b o e
     rw [aj (aq e fi)]; exact sH _ _ e
    ·rw [af,List.take_add_one,hz',Option.toList_some,yC,List.map_set]
   ·rintro σ H' ⟨⟨v,rfl⟩,sH,q1⟩
    rw [aQ,List.take_length,BY] at q1
    have s0:=s1.trans sH
    refine zV rfl (zV rfl (zV rfl (zE7 ag ar Di lo g r _ ⟨rfl,G.keep s0,W,R.keep s0,q1,FI,fun H4 l4 f4 h4 s4=>?_⟩)))
    refine zE2 l4 _ ⟨rfl,.inl (SqL.of h4),zO ?_⟩
    rw [aQ]
    have kf:=kk H4 (sH.trans s4)
    have e:decide (((leaving g r (Vbecag.setOf g l)).length:Int)=0)=(leaving g r (Vbecag.setOf g l)).isEmpty:=by
     cases leaving g r (Vbecag.setOf g l) with
     | nil=>rfl
     | cons a m=>simp; omega
    show Q (.bl (decide (((leaving g r (Vbecag.setOf g l)).length:Int)=0))) H4
    rw [e]
    exact kf
end HG
end
section
namespace HG
open PySem PySem.Spec PyProof.Rows L2
open PySem.W (Frag)
variable {P:Program} {w:World} {K:Frag} {mg:Str→Option Value} {base:Heap} {A:Ad}
theorem Jc {a D:Addr} {ns:List Nat} {tt:TT} {te:TE} {vs:List Nat} {σ:L2.St} {H1:Hp} {Qd:Hp→Prop} {j:Nat} (p:Nat→Bool) (f:Nat→V) (hx:H1 a=some (.lst (nv ns))) (hD:H1 D=none) (hz:ns.length≤100000)
  (turn:∀ (i:Nat) (x:Nat) H,ns[i]?=some x→aE H1 H→∀ Z:Bool→Hp→Prop,(∀ H',aE H H'→Z (p x) H')→fM j (.int (x:Int)) (wipe σ vs) H fun σ2 H2=>wipe σ2 vs=wipe σ vs∧tt σ2 H2 Z)
  (elt:∀ (i:Nat) (x:Nat) H,ns[i]?=some x→p x=true→aE H1 H→∀ Z:VK,(∀ H',aE H H'→Z (f x) H')→te ((wipe σ vs).set j (some (.int (x:Int)))) H Z)
  (fin:∀ H,H D=some (.lst ((ns.filter p).map f))→aE H1 H→Qd H):oF (Itl K a) (fM j) tt te vs σ H1 D Qd:=by
 refine A6 (K:=K) (a:=a) (xs:=nv ns) (fun i H'=>Grows H1 D (((ns.take i).filter p).map f) H') (.nil hD) (fun i H' _ p=>SqL.of (p.same _ _ hx)) ?_ fun H' q=>?_
 ·intro i y H hi q
  obtain⟨x,hx',rfl⟩:=lg hi
  have hlt:i < ns.length:=(List.getElem?_eq_some_iff.mp hx').1
  refine turn i x H hx' q.same _ fun H' s=>?_
  have q2:=q.on s
  rw [List.take_add_one,hx',Option.toList_some,List.filter_append,List.filter_cons,List.filter_nil]
  cases c:p x with
  | true =>
   rw [if_pos rfl]
   refine elt i x H' hx' c q2.same _ fun H3 s3=>⟨_,(q2.on s3).at_,?_,?_⟩
   ·have h1:=List.length_filter_le p (ns.take i)
    rw [List.length_take] at h1
    rw [List.length_map,sizeLine_eq]; omega
   ·rw [if_pos rfl,List.map_append]
    exact (q2.on s3).more hD (fun _ _ e=>e)
  | false =>
   rw [if_neg (by decide),if_neg (by decide),List.append_nil]
   exact q2
 ·rw [aQ,List.take_length] at q
  exact fin H' q.at_ q.same
theorem DG {ks:List Nat} {x:Nat} (h:x < ks.length):(nv ks)[x]?=some (.int ((ks.getD x 0:Nat):Int)):=rT (by rw [List.getD_eq_getElem?_getD,List.getElem?_eq_getElem h]; rfl)
theorem sL:ay ["after","ranks","stock"] ["after","ranks"] (au oV):=⟨rfl,rfl,rfl,by decide +kernel,rfl,by decide +kernel,by decide +kernel⟩
def Io:Sp:=fun vs H Q _=>∃ (la lk:Addr) (after ks:List Nat),vs=[.ref la,.ref lk]∧H la=some (.lst (nv after))∧H lk=some (.lst (nv ks))∧(∀ y∈after,y < ks.length)∧after.length≤1000∧∀ H',aE H H'→Q (.int ((xo ks after:Nat):Int)) H'
theorem zd (T:Txt K mg A):Fok P w K mg base 1 A.gJ ["after","ranks"] Io:=by
 obtain⟨fd,F⟩:=T.jg
 obtain⟨tk,hNR⟩:=T.tq
 refine⟨fd,?_,F.b2 fun _ _ _ _ _ _ _ _=>rfl⟩
 refine F.okX sL (fun vs H Q E h=>?_) (fun cdv A' outer s H vs Q E hr h=>?_)
 ·exact zL4 (fun _ _ _ _=>rfl) h
 ·revert h; refine zG4 fun la lk after ks zz=>?_; obtain⟨rfl,h1,h2,hin,hz,k⟩:=zz
  have nd:=sL.nd
  refine⟨_,ak (aF (wV (IQ rfl) (by rfl) T.Aa (by kernel_rfl) (aa (iA rfl nd (aY (pv 0)) (aR (own:=[("stock",2)]) (by kernel_rfl)) (fun _ _ _ _ _=>aL (i:=2) nd rfl (Or.inl rfl))
   (fun _ _ _ _ _=>lK (bx (qD (aS (r:=qW K) aG (pv 1) (pv 2) (fun _ _=>rfl)) az))) (fun _ _ _ _ _=>aS (r:=qW K) aG (pv 1) (pv 2) (fun _ _=>rfl))) ai)
   (Bg (vO (v:=.int 1001) rfl hNR ⟨tk,rfl⟩) DK))),?_⟩
  refine zV rfl ⟨la,rfl,⟨_,SqL.of h1⟩,fun D hD=>Jc (fun y=>decide (0 < ks.getD y 0)) (fun y=>V.int ((ks.getD y 0:Nat):Int)) h1 hD (by omega) (fun i x H' hi s Z z=>?_) (fun i x H' hi _ s Z z=>?_) fun H1 p1 s1=>?_⟩
  ·refine⟨rfl,zX rfl (zX rfl (zI (SqL.of (s _ _ h2)) (bg (DG (hin x (List.mem_of_getElem? hi)))) (zO (zX rfl ?_))))⟩
   show Z (decide ((0:Int) < ((ks.getD x 0:Nat):Int))) H'
   rw [show decide ((0:Int) < ((ks.getD x 0:Nat):Int))=decide (0 < ks.getD x 0) from by apply Bool.eq_iff_iff.mpr; rw [decide_eq_true_eq,decide_eq_true_eq]; omega]
   exact z _ (fun _ _ e=>e)
  ·exact zV rfl (zV rfl (zI (SqL.of (s _ _ h2)) (bg (DG (hin x (List.mem_of_getElem? hi)))) (z _ (fun _ _ e=>e))))
  ·have kk:=k H1 s1
   unfold xo at kk
   refine⟨D,((after.filter fun y=>decide (0 < ks.getD y 0)).map fun y=>ks.getD y 0).map (fun x:Nat=>(x:Int)),.int 1001,rfl,rfl,by rw [List.map_map,List.map_map]; exact SqL.of p1,fun e=>?_,fun m hm hmin=>?_⟩
   ·rw [if_pos (List.map_eq_nil_iff.mp e)] at kk
    exact kk
   ·obtain⟨m',hm',rfl⟩:=List.mem_map.mp hm
    rw [if_neg (fun z=>by rw [z] at hm'; cases hm'),yG hm' fun y hy=>by
     have:=hmin (y:Int) (List.mem_map.mpr ⟨y,hy,rfl⟩); omega] at kk
    exact kk
theorem zZ:ay ["rule","lowest","stock","rank"] ["rule","lowest","stock","rank"] (au pV):=⟨rfl,rfl,rfl,by decide +kernel,rfl,by decide +kernel,by decide +kernel⟩
def CF (A:Ad):Sp:=fun vs H Q _=>∃ (ar ll:Addr) (r:Vbecag.Rule) (lw:List Nat) (x k:Nat),vs=[.ref ar,.ref ll,.int x,.int k]∧iU A H ar r∧H ll=some (.lst (nv lw))∧x < lw.length∧lw.length≤1000∧∀ H',aE H H'→Q (.bl (uk r lw x k)) H'
theorem zR (T:Txt K mg A):Fok P w K mg base 2 A.iL ["rule","lowest","stock","rank"] (CF A):=by
 obtain⟨fd,F⟩:=T.j6
 obtain⟨fdL,GL,bL⟩:=lu (P:=P) (w:=w) (base:=base) T
 refine⟨fd,?_,F.b4 fun _ _ _ _ _ _ _ _ _ _=>rfl⟩
 refine F.okX zZ (fun vs H Q E h=>?_) (fun cdv A' outer s H vs Q E hr h=>?_)
 ·exact zL6 (fun _ _ _ _ _ _=>rfl) h
 ·revert h; refine zG6 fun ar ll r lw x n zz=>?_; obtain⟨rfl,R,hll,hx,hz,k⟩:=zz
  refine⟨_,ae (iC (bx (wR (pv 3) az)) (ak (aF sg)) cu)
   (ae (iC (bx (wR (pv 3) az)) (ak (aF (lx (pz (pv 2) (aw (pv 0) rfl))))) cu)
   (ak (aF (lx (pz (wV (EA rfl) (by rfl) T.uY (by kernel_rfl) (aa (bz (E:=EN) (pv 0) T.bh T.lj GL (hr.mono (by decide)) bL .nil aT (aa (pv 1) (aa (pv 2) ai))) ai) (Bg az DK)) (pv 3)))))),?_⟩
  obtain⟨dr,hr'⟩:=id R
  have kk:=k
  unfold uk at kk
  refine zX rfl (zO (zX rfl ?_))
  refine ko (fun c=>?_) fun c=>?_
  ·have c:n=0:=by have:=of_decide_eq_true c; omega
   subst c
   exact kk H (fun _ _ e=>e)
  have c:n≠0:=fun z=>c (decide_eq_true (by omega))
  have en:(n == 0)=false:=by simpa using c
  rw [en,Bool.false_or] at kk
  refine zX rfl (zO (zX rfl ?_))
  refine ko (fun c2=>?_) fun c2=>?_
  ·have c2:n=1:=by have:=of_decide_eq_true c2; omega
   rw [if_pos c2] at kk
   refine zV rfl (zV rfl (zF hr' T.bh T.cP rfl (zO ?_)))
   show Q (.bl (decide ((x:Int) < (r.low:Int)))) H
   rw [show decide ((x:Int) < (r.low:Int))=decide (x < r.low) from by simp]
   exact kk H (fun _ _ e=>e)
  have c2:n≠1:=fun z=>c2 (decide_eq_true (by omega))
  rw [if_neg c2] at kk
  refine zV rfl (zM hr' rfl (zV rfl (zV rfl (zE5 ar ll r x _ ⟨rfl,R,hll,by rw [aQ]; exact hx,fun H2 l fl hl s2=>?_⟩))))
  have hl2:H2 l=some (.lst (((iT r x lw).map fun x:Nat=>(x:Int)).map V.int)):=by
   rw [hl]
   unfold nv
   rw [tf,List.map_map]; rfl
  refine⟨l,(iT r x lw).map (fun x:Nat=>(x:Int)),.int 0,rfl,rfl,SqL.of hl2,fun e=>?_,fun m hm hmax=>?_⟩
  ·have e:=List.map_eq_nil_iff.mp e
   rw [e] at kk
   refine zV rfl (zO ?_)
   show Q (.bl (decide ((0:Int) < (n:Int)))) H2
   rw [decide_eq_true (show (0:Int) < (n:Int) by omega)]
   exact kk H2 s2
  ·obtain⟨m',hm',rfl⟩:=List.mem_map.mp hm
   refine zV rfl (zO ?_)
   show Q (.bl (decide ((m':Int) < (n:Int)))) H2
   rw [show decide ((m':Int) < (n:Int))=(iT r x lw).all fun b=>decide (b < n) from by
    apply Bool.eq_iff_iff.mpr
    rw [decide_eq_true_eq,List.all_eq_true]
    constructor
    ·intro h b hb
     have:=hmax (b:Int) (List.mem_map.mpr ⟨b,hb,rfl⟩)
     exact decide_eq_true (by omega)
    ·intro h
     have:=of_decide_eq_true (h m' hm')
     omega]
   exact kk H2 s2
theorem ua:ay ["growth","rule","ranks","lowest","after","stock"] ["growth","rule","ranks"] (au pW):=⟨rfl,rfl,rfl,by decide +kernel,rfl,by decide +kernel,by decide +kernel⟩
def JL (A:Ad):Sp:=fun vs H Q _=>∃ (ag ar lk lo:Addr) (g:Vbecag.Growth) (r:Vbecag.Rule) (ks:List Nat),vs=[.ref ag,.ref ar,.ref lk]∧GrA A H ag g lo∧WfG g∧iU A H ar r∧H lk=some (.lst (nv ks))∧ks.length=g.n + 1∧(∀ x∈ks,x≤1000)∧∀ H',aE H H'→Q (.bl (Vbecag.refutes g r ks)) H'
theorem zT (T:Txt K mg A):Fok P w K mg base 3 A.iM ["growth","rule","ranks"] (JL A):=by
 obtain⟨fd,F⟩:=T.j7
 obtain⟨fdA,GA,bA⟩:=bt (P:=P) (w:=w) (base:=base) T
 obtain⟨fdL,GL,bL⟩:=zd (P:=P) (w:=w) (base:=base) T
 obtain⟨fdH,GH,bH⟩:=zR (P:=P) (w:=w) (base:=base) T
 obtain⟨_,FL⟩:=T.jg
 obtain⟨_,FH⟩:=T.j6
 refine⟨fd,?_,F.b3 fun _ _ _ _ _ _ _ _ _=>rfl⟩
 refine F.okX ua (fun vs H Q E h=>?_) (fun cdv A' outer s H vs Q E hr h=>?_)
 ·exact zL7 (fun _ _ _ _ _ _ _=>rfl) h
 ·revert h; refine zG7 fun ag ar lk lo g r ks zz=>?_; obtain⟨rfl,G,W,R,hlk,hkl,hk,k⟩:=zz
  have nd:=ua.nd
  have n50:=W.n50
  refine⟨_,ae (aD (i:=3) nd rfl (Or.inr rfl) (iA rfl nd (aY (aw (pv 0) rfl)) (aR (own:=[("after",4)]) (by kernel_rfl)) (fun _ _ _ _ _=>aL (i:=4) nd rfl (Or.inl rfl)) (fun _ _ _ _ _=>cw)
    (fun _ _ _ _ _=>aA (E:=EN) GL (hr.mono (by decide)) rfl T.lH FL.kp bL .nil aT (aa (pv 4) (aa (pv 2) ai)))))
   (ak (aF (aO (Dk rfl) (by rfl) T.z9 (by kernel_rfl) (aa (iA rfl nd (aY (cq (E:=EN) (pv 0) T.aH T.a0 GA (hr.mono (by decide)) bA .nil aT)) (aR (own:=[("stock",5)]) (by kernel_rfl)) (fun _ _ _ _ _=>aL (i:=5) nd rfl (Or.inl rfl)) (fun _ _ _ _ _=>cw)
    (fun _ _ _ _ _=>aA (E:=EN) GH (hr.mono (by decide)) rfl T.mP FH.kp bH .nil aT (aa (pv 1) (aa (pv 3) (aa (pv 5) (aa (aS (r:=qW K) aG (pv 2) (pv 5) (fun _ _=>rfl)) ai)))))) ai)))),?_⟩
  obtain⟨⟨dg,lw,lt,hg1,_⟩,⟨os,ho1,ho2,ho3⟩⟩:=id G
  have hll:(lows g ks).length=g.n + 1:=by simp [lows]
  refine zV rfl (zF hg1 T.aH T.bq rfl ⟨lo,rfl,⟨_,SqL.of ho1⟩,fun D hD=>mL (nv (lows g ks)) ho1 hD (by rw [aQ,hll,List.length_map,ho2]) (by rw [List.length_map]; omega) (fun i x y H' hi hy s Z z=>?_) dJ fun H1 p1 s1=>?_⟩)
  ·obtain⟨o,ho,rfl⟩:=pf hi
   have hin:i < g.n + 1:=by have:=(List.getElem?_eq_some_iff.mp ho).1; omega
   have e:y=V.int ((xo ks (outs g i):Nat):Int):=by
    unfold nv lows at hy
    rw [List.map_map,List.getElem?_map,List.getElem?_range hin] at hy
    exact (Option.some.inj hy).symm
   subst e
   have hs6:g.seasons≤6:=W.s6
   exact⟨rfl,zV rfl (zV rfl (zE4 o lk (outs g i) ks ⟨rfl,s _ _ (ho3 i o ho),s _ _ hlk,fun y hy=>by rw [hkl]; have:=mU W (by omega) hy; omega,by rw [l0]; omega,fun H2 s2=>z _ s2⟩))⟩
  ·refine zV rfl (zM (s1 _ _ hg1) rfl (zE2 ag g ⟨rfl,(G.keep s1).gr,W,fun H2 ls fls hls s2=>?_⟩))
   refine⟨ls,rfl,⟨_,SqL.of hls⟩,fun D2 hD2=>jm (fun x=>V.bl (uk r (lows g ks) x (ks.getD x 0))) hls hD2 (by rw [eN]; omega) (fun i x H' hi s Z z=>?_) fun H3 p3 s3=>?_⟩
   ·obtain⟨rfl,hin⟩:=tJ hi
    have s0:=(s1.trans s2).trans s
    exact⟨rfl,zV rfl (zV rfl (zV rfl (zV rfl (zV rfl (zI (SqL.of (s0 _ _ hlk)) (bg (DG (by omega))) (zE6 ar D r (lows g ks) x (ks.getD x 0) ⟨rfl,R.keep s0,s _ _ (s2 _ _ p1),by omega,by omega,fun H4 s4=>z _ s4⟩))))))⟩
   ·refine zE2 D2 ((Vbecag.stocks g).map (fun x=>uk r (lows g ks) x (ks.getD x 0))) ⟨rfl,by rw [List.map_map]; exact SqL.of p3,?_⟩
    have:=k H3 ((s1.trans s2).trans s3)
    rw [DL hk] at this
    rw [List.all_map]
    exact this
end HG
end
section
namespace HG
section
open Vbecag VM
theorem wY {g:Growth} {r:Rule} {x:Nat} (h:isIn (safe g r) x=true):good g r (safe g r) x≠[]:=by
 obtain⟨_,_,q,h1,h2⟩:=gd h
 intro e
 have:q∈good g r (safe g r) x:=lX.mpr ⟨h1,fA.mpr h2⟩
 rw [e] at this; cases this
theorem xq {g:Growth} {r:Rule} {s:Stocks} {c:Nat}:∀ (l:List Nat) (x:Nat),played g r s (l ++ [c]) x=((played g r s l x).1 ++ [greatest (good g r s (played g r s l x).2)],g.next c ((played g r s l x).2 - greatest (good g r s (played g r s l x).2)))
 | [],x=>rfl
 | d :: l,x=>by
  show (greatest (good g r s x) :: (played g r s (l ++ [c]) (g.next d (x - greatest (good g r s x)))).1,(played g r s (l ++ [c]) (g.next d (x - greatest (good g r s x)))).2)=_
  rw [xq l]
  rfl
theorem F1 {g:Growth} {r:Rule} {x c:Nat} (h:isIn (safe g r) x=true) (hc:c < g.seasons):greatest (good g r (safe g r) x)≤x∧isIn (safe g r) (g.next c (x - greatest (good g r (safe g r) x)))=true:=by
 obtain⟨h1,_⟩:=vk (wY h)
 obtain⟨h2,h3⟩:=lX.mp h1
 exact⟨h2.2.2,fA.mp h3 c hc⟩
theorem HD {r:Rule} {x:Nat} (h:r.least≤r.most):(catches r x).isEmpty=true↔x < r.least:=by
 rw [List.isEmpty_iff]
 constructor
 ·intro e
  refine Nat.lt_of_not_le fun z=>?_
  have:r.least∈catches r x:=du.mpr ⟨Nat.le_refl _,h,z⟩
  rw [e] at this; cases this
 ·intro hx
  cases e:catches r x with
  | nil=>rfl
  | cons q l =>
   have:=du.mp (show q∈catches r x by rw [e]; exact List.mem_cons_self)
   omega
theorem Du {g:Growth} {r:Rule} {x:Nat} (h:x < r.low∨(catches r x).isEmpty=true):∀ l,forced g r l x=some []
 | []=>by unfold forced; rw [if_pos h]
 | q :: l=>by unfold forced; rw [if_pos h]
theorem Dv {g:Growth} {r:Rule} {x:Nat} (h:¬ (x < r.low∨(catches r x).isEmpty=true)):forced g r [] x=none:=by unfold forced; rw [if_neg h]
theorem Dt {g:Growth} {r:Rule} {x q:Nat} {l:List Nat} (h:¬ (x < r.low∨(catches r x).isEmpty=true)) (hq:(catches r x).contains q=false):forced g r (q :: l) x=none:=by unfold forced; rw [if_neg h,if_pos hq]
theorem Fv {g:Growth} {r:Rule} {x q:Nat} {l:List Nat} (h:¬ (x < r.low∨(catches r x).isEmpty=true)) (hq:(catches r x).contains q=true):forced g r (q :: l) x=(forced g r l (g.next (harm g r x q) (x - q))).map fun m=>harm g r x q :: m:=by
 rw [forced,if_neg h,if_neg (by rw [hq]; decide)]
theorem mK (r:Rule) (x q:Nat):(catches r x).contains q=may r x q:=by
 apply Bool.eq_iff_iff.mpr
 rw [List.contains_iff_mem,du]
 unfold may
 rw [decide_eq_true_eq]
end
open PySem PySem.Spec PyProof.Rows L2
open PySem.W (Frag)
variable {P:Program} {w:World} {K:Frag} {mg:Str→Option Value} {base:Heap} {A:Ad}
theorem Ref.same {n:Int} {H H1:Hp} {E:XK} (r:Ref K A n H E) (s:aE H H1):Ref K A n H1 E:=fun C dx H' h1 h2 h3 h4 h5=>r C dx H' h1 h2 h3 h4 (s.trans h5)
theorem Cd (l:List Nat):(l.map fun x:Nat=>(x:Int)).map V.int=nv l:=by unfold nv; rw [List.map_map]; rfl
theorem EF {g:Vbecag.Growth} {r:Vbecag.Rule} {s:Vbecag.Stocks} {x:Nat}:(Vbecag.good g r s x).length≤x + 1:=by
 unfold Vbecag.good Vbecag.catches
 have h1:=List.length_filter_le (fun q=>Vbecag.leads g s x q) ((List.range (min r.most x + 1)).filter fun q=>decide (r.least≤q))
 have h2:=List.length_filter_le (fun q=>decide (r.least≤q)) (List.range (min r.most x + 1))
 rw [List.length_range] at h2
 omega
theorem oz:ay ["growth","rule","safe","stock","seasons","made","season","catch"] ["growth","rule","safe","stock","seasons"] (au kY):=⟨rfl,rfl,rfl,by decide +kernel,rfl,by decide +kernel,by decide +kernel⟩
def Ip (A:Ad):Sp:=fun vs H Q _=>∃ (ag ar ls lq lo:Addr) (g:Vbecag.Growth) (r:Vbecag.Rule) (x:Nat) (cs:List Nat),vs=[.ref ag,.ref ar,.ref ls,.int x,.ref lq]∧GrA A H ag g lo∧WfG g∧iU A H ar r∧H ls=some (.lst ((Vbecag.safe g r).map V.bl))∧Vbecag.isIn (Vbecag.safe g r) x=true∧H lq=some (.lst (nv cs))∧(∀ c∈cs,c < g.seasons)∧cs.length≤1000 ∧
 pN H Q (nv ((Vbecag.played g r (Vbecag.safe g r) cs x).1 ++ [(Vbecag.played g r (Vbecag.safe g r) cs x).2]))
theorem vL (T:Txt K mg A):Fok P w K mg base 3 A.dA ["growth","rule","safe","stock","seasons"] (Ip A):=by
 obtain⟨fd,F⟩:=T.eY
 obtain⟨fdC,GC,bC⟩:=qC (P:=P) (w:=w) (base:=base) T
 obtain⟨fdN,GN,bN⟩:=eG (P:=P) (w:=w) (base:=base) T
 obtain⟨_,FC⟩:=T.eZ
 refine⟨fd,?_,F.b5 fun _ _ _ _ _ _ _ _ _ _ _=>rfl⟩
 refine F.okX oz (fun vs H Q E h=>?_) (fun cdv A' outer s H vs Q E hr h=>?_)
 ·exact zL9 (fun _ _ _ _ _ _ _ _ _=>rfl) h
 ·revert h; refine zG9 fun ag ar ls lq lo g r x cs zz=>?_; obtain⟨rfl,G,W,R,hls,hsx,hlq,hcs,hz,k⟩:=zz
  have nd:=oz.nd
  have n50:=W.n50
  refine⟨_,ae (aD (i:=5) nd rfl (Or.inl rfl) (bQ ai))
   (ae (iB PassesOwn.leaving rfl (aY (pv 4)) (aL (i:=6) nd rfl (Or.inl rfl))
    (ae (aD (i:=7) nd rfl (Or.inl rfl) (aO (Hd rfl) (by rfl) T.uY (by kernel_rfl) (aa (aA (E:=EN) GC (hr.mono (by decide)) rfl T.iw FC.kp bC .nil aT (aa (pv 0) (aa (pv 1) (aa (pv 2) (aa (pv 3) ai))))) ai)))
    (ae (aK (qE PySem.F.plainAttrs_list PySem.F.slot_list_append PySem.F.type_list_append fE (pv 5) (aa (pv 7) ai)))
    (ak (aD (i:=3) nd rfl (Or.inl rfl) (bz (E:=EN) (pv 0) T.aH T.eC GN (hr.mono (by decide)) bN .nil aT (aa (bj mz (pv 3) (pv 7)) (aa (pv 6) ai))))))))
   (ak (aF (bj uF (pv 5) (bQ (aa (pv 3) ai)))))),?_⟩
  refine⟨by show 0≤sizeLine; decide,fun D fD=>?_⟩
  have s1:=aE.upd (o:=HO.lst []) fD
  refine⟨_,rfl,lq,rfl,⟨_,SqL.of (s1 _ _ hlq)⟩,jl (K:=K) (a:=lq) (xs:=nv cs) (fun i σ H'=>(∃ v6 v7,σ=[some (.ref ag),some (.ref ar),some (.ref ls),some (.int ((Vbecag.played g r (Vbecag.safe g r) (cs.take i) x).2:Nat)),some (.ref lq),some (.ref D),v6,v7])∧aE H H'∧H' D=some (.lst (nv (Vbecag.played g r (Vbecag.safe g r) (cs.take i) x).1))∧(Vbecag.played g r (Vbecag.safe g r) (cs.take i) x).1.length=i∧Vbecag.isIn (Vbecag.safe g r) (Vbecag.played g r (Vbecag.safe g r) (cs.take i) x).2=true)
   ⟨⟨none,none,rfl⟩,s1,af,rfl,hsx⟩ (fun i σ H' _ q=>SqL.of (q.2.1 _ _ hlq)) ?_ ?_⟩
  ·rintro i y σ H' hi ⟨⟨v6,v7,rfl⟩,sH,hD,hl,hs⟩
   obtain⟨c,hc,rfl⟩:=lg hi
   have hlt:i < cs.length:=(List.getElem?_eq_some_iff.mp hc).1
   have hcs':c < g.seasons:=hcs c (List.mem_of_getElem? hc)
   have e:=xq (g:=g) (r:=r) (s:=Vbecag.safe g r) (c:=c) (cs.take i) x
   rw [List.take_add_one,hc,Option.toList_some,e]
   generalize Vbecag.played g r (Vbecag.safe g r) (cs.take i) x=p at hD hl hs ⊢
   have hpn:p.2≤g.n:=(VM.gd hs).1
   obtain⟨hq,hnx⟩:=F1 hs hcs'
   refine zV rfl (zV rfl (zV rfl (zV rfl (zE8 ag ar ls lo g r _ p.2 ⟨rfl,G.keep sH,W,R.keep sH,sH _ _ hls,VM.kr,hpn,fun H2 l fl hl2 s2=>?_⟩))))
   refine zE2 l ((Vbecag.good g r (Vbecag.safe g r) p.2).map (fun x:Nat=>(x:Int))) ⟨rfl,by rw [Cd]; exact SqL.of hl2,by rw [List.length_map]; exact List.length_pos_iff.mpr (wY hs),fun m hm hmax=>?_⟩
   obtain⟨m',hm',rfl⟩:=List.mem_map.mp hm
   have em:Vbecag.greatest (Vbecag.good g r (Vbecag.safe g r) p.2)=m':=n9 hm' fun y hy=>by
    have:=hmax (y:Int) (List.mem_map.mpr ⟨y,hy,rfl⟩); omega
   rw [em] at hq hnx ⊢
   have hD2:=s2 _ _ hD
   refine zV rfl ⟨.inl ⟨rfl,_,SqL.of hD2⟩,zV rfl (zE3 D _ _ ⟨rfl,rfl,hD2,by rw [aQ,hl,sizeLine_eq]; omega,?_⟩)⟩
   have s3:aE H (upd H2 D (.lst (nv p.1 ++ [V.int (m':Int)]))):=fun b o e=>by
    rw [aj (aq e fD)]; exact s2 _ _ (sH _ _ e)
   have G3:=(G.keep s3).gr
   obtain⟨dg,lw,lt,tl,hg1,_,_,htl⟩:=id G3
   refine zV rfl (zE3 ag dg _ ⟨rfl,hg1,(vi htl).2.1,zV rfl (zV rfl (zO (zV rfl ⟨ag,g,p.2 - m',c,?_,G3,W,by omega,hcs',⟨_,_,rfl⟩,s3,?_,?_,hnx⟩)))⟩)
   ·show [V.ref ag,V.int ((p.2:Int) - (m':Int)),V.int (c:Int)]=[V.ref ag,V.int ((p.2 - m':Nat):Int),V.int (c:Int)]
    rw [show ((p.2:Int) - (m':Int))=((p.2 - m':Nat):Int) from by omega]
   ·rw [af,iS]
   ·rw [List.length_append,hl]; rfl
  ·rintro σ H' ⟨⟨v6,v7,rfl⟩,sH,hD,hl,hs⟩
   rw [aQ,List.take_length] at hD hl ⊢
   refine zV rfl (zV rfl ⟨by show 1≤sizeLine; decide,fun D2 fD2=>?_⟩)
   have s2:=aE.upd (o:=HO.lst [V.int ((Vbecag.played g r (Vbecag.safe g r) cs x).2:Nat)]) fD2
   refine zE4 D D2 _ _ ⟨rfl,rfl,s2 _ _ hD,af,by rw [aQ,hl,sizeLine_eq]; show cs.length + 1≤_; omega,fun D3 fD3=>?_⟩
   have s3:=(sH.trans s2).trans (aE.upd (o:=HO.lst (nv (Vbecag.played g r (Vbecag.safe g r) cs x).1 ++ [V.int ((Vbecag.played g r (Vbecag.safe g r) cs x).2:Nat)])) fD3)
   refine k _ D3 ((sH.trans s2).free fD3) ?_ s3
   rw [af,iS]
theorem Bn:ay ["rule","stock"] ["rule","stock"] (au rg):=⟨rfl,rfl,rfl,by decide +kernel,rfl,by decide +kernel,by decide +kernel⟩
def JG (A:Ad):Sp:=fun vs H Q _=>∃ (ar:Addr) (r:Vbecag.Rule) (x:Nat),vs=[.ref ar,.int x]∧iU A H ar r∧Q (.bl (decide (x < r.low) || decide (x < r.least))) H
theorem Bd (T:Txt K mg A):Fok P w K mg base 1 A.jO ["rule","stock"] (JG A):=by
 obtain⟨fd,F⟩:=T.lN
 refine⟨fd,?_,F.b2 fun _ _ _ _ _ _ _ _=>rfl⟩
 refine F.okX Bn (fun vs H Q E h=>?_) (fun cdv A' outer s H vs Q E hr h=>?_)
 ·exact zL3 (fun _ _ _=>rfl) h
 ·revert h; refine zG3 fun ar r x zz=>?_; obtain⟨rfl,⟨dr,h1⟩,k⟩:=zz
  refine⟨_,ak (aF (LA (lx (pz (pv 1) (aw (pv 0) rfl))) (DJ (lx (pz (pv 1) (aw (pv 0) rfl)))))),?_⟩
  refine zX rfl (zX rfl (zF h1 T.bh T.cP rfl (zO (zX rfl ?_))))
  have e:∀ y:Nat,decide ((x:Int) < (y:Int))=decide (x < y):=fun y=>by apply Bool.eq_iff_iff.mpr; rw [decide_eq_true_eq,decide_eq_true_eq]; omega
  cases c:decide (x < r.low) with
  | true =>
   rw [c,Bool.true_or] at k
   show if decide ((x:Int) < (r.low:Int))=true then _ else _
   rw [e,c]
   exact nP k
  | false =>
   rw [c,Bool.false_or] at k
   show if decide ((x:Int) < (r.low:Int))=true then _ else _
   rw [e,c]
   refine qN (zV rfl (zV rfl (zF h1 T.bh T.gP rfl (zO ?_))))
   show Q (.bl (decide ((x:Int) < (r.least:Int)))) H
   rw [e]
   exact k
theorem oy:ay ["growth","rule","years","stock","catches","came","catch","season"] ["growth","rule","years","stock","catches"] (au kX):=⟨rfl,rfl,rfl,by decide +kernel,rfl,by decide +kernel,by decide +kernel⟩
def Ij (K:Frag) (A:Ad):Sp:=fun vs H Q E=>∃ (ag ar ly lc lo:Addr) (g:Vbecag.Growth) (r:Vbecag.Rule) (x j:Nat) (l:List Nat),vs=[.ref ag,.ref ar,.ref ly,.int x,.ref lc]∧GrA A H ag g lo∧WfG g∧iU A H ar r∧WfR g r∧H ly=some (.lst (yv (yrs g r)))∧x≤g.n∧Vbecag.years g r x=some j∧H lc=some (.lst (nv l))∧l.length≤1000 ∧
 (∀ m,Vbecag.forced g r l x=some m→pN H Q (nv m))∧(Vbecag.forced g r l x=none→Ref K A (-7) H E)
theorem vK (T:Txt K mg A):Fok P w K mg base 4 A.dz ["growth","rule","years","stock","catches"] (Ij K A):=by
 obtain⟨fd,F⟩:=T.eX
 obtain⟨fdE,GE,bE⟩:=Bd (P:=P) (w:=w) (base:=base) T
 obtain⟨fdM,GM,bM⟩:=i5 (P:=P) (w:=w) (base:=base) T
 obtain⟨fdH,GH,bH⟩:=ou (P:=P) (w:=w) (base:=base) T
 obtain⟨fdN,GN,bN⟩:=eG (P:=P) (w:=w) (base:=base) T
 obtain⟨fdO,GO,bO⟩:=xD (P:=P) (w:=w) (base:=base) T
 obtain⟨_,FE⟩:=T.lN
 obtain⟨_,FH⟩:=T.dv
 refine⟨fd,?_,F.b5 fun _ _ _ _ _ _ _ _ _ _ _=>rfl⟩
 refine F.okX oy (fun vs H Q E h=>?_) (fun cdv A' outer s H vs Q E hr h=>?_)
 ·exact L7 (fun _ _ _ _ _ _ _ _ _ _=>rfl) h
 ·revert h; refine L6 fun ag ar ly lc lo g r x j l zz=>?_; obtain⟨rfl,G,W,R,WR,hly,hx,hyx,hlc,hz,k1,k2⟩:=zz
  have nd:=oy.nd
  have n50:=W.n50
  have hr3:cf 3 _:=hr.mono (by decide)
  refine⟨_,ae (aD (i:=5) nd rfl (Or.inl rfl) (bQ ai))
   (ae (js PassesOwn.leaving (wW (gc (aA (E:=EN) GE (hr.mono (by decide)) rfl T.oj FE.kp bE .nil aT (aa (pv 1) (aa (pv 3) ai)))))
    (ae (iC (bx (wR (aO aN (by rfl) T.eO PySem.boot_len (aa (pv 5) ai)) (aO aN (by rfl) T.eO PySem.boot_len (aa (pv 4) ai)))) (ak (fG (dC T.zD GO hr3 rfl T.pq bO .nil ax.passes) ax rfl)) cu)
    (ae (aD (i:=6) nd rfl (Or.inl rfl) (aS aG (pv 4) (aO aN (by rfl) T.eO PySem.boot_len (aa (pv 5) ai)) (fun _ _=>rfl)))
    (ae (iC (wW (gc (bz (E:=EN) (pv 1) T.bh T.i4 GM (hr.mono (by decide)) bM .nil aT (aa (pv 3) (aa (pv 6) ai))))) (ak (fG (dC T.zD GO hr3 rfl T.pq bO .nil ax.passes) ax rfl)) cu)
    (ae (aD (i:=7) nd rfl (Or.inl rfl) (aA (E:=EN) GH (hr.mono (by decide)) rfl T.fC FH.kp bH .nil aT (aa (pv 0) (aa (pv 2) (aa (pv 3) (aa (pv 6) ai))))))
    (ae (aK (qE PySem.F.plainAttrs_list PySem.F.slot_list_append PySem.F.type_list_append fE (pv 5) (aa (pv 7) ai)))
    (ak (aD (i:=3) nd rfl (Or.inl rfl) (bz (E:=EN) (pv 0) T.aH T.eC GN (hr.mono (by decide)) bN .nil aT (aa (bj mz (pv 3) (pv 6)) (aa (pv 7) ai)))))))))))
   (ak (aF (pv 5)))),?_⟩
  refine⟨by show 0≤sizeLine; decide,fun D fD=>?_⟩
  have s1:=aE.upd (o:=HO.lst []) fD
  let IV:Nat→L2.St→Hp→Prop:=fun m σ H'=>∃ (y jy:Nat) (ms:List Nat),(∃ v6 v7,σ=[some (.ref ag),some (.ref ar),some (.ref ly),some (.int (y:Int)),some (.ref lc),some (.ref D),v6,v7])∧aE H H'∧H' D=some (.lst (nv ms))∧y≤g.n∧Vbecag.years g r y=some jy∧ms.length≤l.length∧m=l.length - ms.length ∧
   Vbecag.forced g r l x=(Vbecag.forced g r (l.drop ms.length) y).map fun t=>ms ++ t
  refine⟨IV,⟨_,x,j,[],⟨none,none,rfl⟩,s1,af,hx,hyx,Nat.zero_le _,rfl,?_⟩,?_⟩
  ·rw [List.length_nil,List.drop_zero]
   cases Vbecag.forced g r l x<;>rfl
  rintro m σ H' ⟨y,jy,ms,⟨v6,v7,rfl⟩,sH,hD,hy,hyy,hml,rfl,hf⟩
  have R':=R.keep sH
  obtain⟨dr,hr'⟩:=id R'
  refine zX rfl (zX rfl ⟨ar,r,y,rfl,R',zX rfl ?_⟩)
  have endI:(decide (y < r.low) || decide (y < r.least))=true↔(y < r.low∨(Vbecag.catches r y).isEmpty=true):=by
   rw [Bool.or_eq_true,decide_eq_true_eq,decide_eq_true_eq,HD WR.lm]
  cases c:(decide (y < r.low) || decide (y < r.least)) with
  | true =>
   refine qN (zV rfl (k1 ms ?_ H' D fD hD sH))
   rw [hf,Du (endI.mp c)]
   simp
  | false =>
   have hne:¬ (y < r.low∨(Vbecag.catches r y).isEmpty=true):=fun z=>by rw [endI.mpr z] at c; cases c
   refine nP ⟨fun σ' H''=>∃ m',m' < l.length - ms.length∧IV m' σ' H'',fun _ _ q=>q,?_⟩
   refine zX rfl ⟨D,zX rfl ⟨.inl (SqL.of hD),zX rfl ⟨lc,zX rfl ⟨.inl (SqL.of (sH _ _ hlc)),zO (zX rfl ?_)⟩⟩⟩⟩
   rw [aQ,aQ]
   refine ko (fun c2=>?_) fun c2=>?_
   ·have c2:ms.length=l.length:=by have:=of_decide_eq_true c2; omega
    refine eI T.zB T.nN T.oq ((k2 ?_).same sH)
    rw [hf,c2,List.drop_length,Dv hne]; rfl
   have c2:ms.length < l.length:=Nat.lt_of_le_of_ne hml fun z=>c2 (decide_eq_true (by omega))
   have hq:=List.getElem?_eq_getElem c2
   have hdrop:l.drop ms.length=l[ms.length] :: l.drop (ms.length + 1):=List.drop_eq_getElem_cons c2
   refine zV rfl (zV rfl (zE2 D _ ⟨rfl,.inl (SqL.of hD),zI (SqL.of (sH _ _ hlc)) (at_of (j:=ms.length) (by rw [aQ]) (rT hq)) ?_⟩))
   refine zX rfl (zM hr' rfl (zX rfl (zX rfl ⟨ar,r,y,l[ms.length],rfl,R',zX rfl ?_⟩)))
   cases c3:may r y l[ms.length] with
   | false =>
    refine nP (eI T.zB T.nN T.oq ((k2 ?_).same sH))
    rw [hf,hdrop,Dt hne (by rw [mK]; exact c3)]; rfl
   | true =>
    have hm:r.least≤l[ms.length]∧l[ms.length]≤r.most∧l[ms.length]≤y:=of_decide_eq_true c3
    have hlow:r.low≤y:=Nat.le_of_not_lt fun z=>hne (.inl z)
    obtain⟨h1,h2,_⟩:=EG hy hyy hlow hm
    refine qN (zV rfl (zV rfl (zV rfl (zV rfl (zE8 ag ly lo g r y (l[ms.length]) jy ⟨rfl,G.keep sH,W,sH _ _ hly,hy,hyy,hlow,hm,fun H2 s2=>?_⟩)))))
    have hD2:=s2 _ _ hD
    refine zV rfl ⟨.inl ⟨rfl,_,SqL.of hD2⟩,zV rfl (zE3 D _ _ ⟨rfl,rfl,hD2,by rw [aQ,sizeLine_eq]; omega,?_⟩)⟩
    have s3:aE H (upd H2 D (.lst (nv ms ++ [V.int (Vbecag.harm g r y l[ms.length]:Nat)]))):=fun b o e=>by
     rw [aj (aq e fD)]; exact s2 _ _ (sH _ _ e)
    have G3:=(G.keep s3).gr
    obtain⟨dg,lw,lt,tl,hg1,_,_,htl⟩:=id G3
    unfold ud at h2
    cases ey:Vbecag.years g r (g.next (Vbecag.harm g r y l[ms.length]) (y - l[ms.length])) with
    | none=>rw [ey] at h2; cases h2
    | some jn =>
     refine zV rfl (zE3 ag dg _ ⟨rfl,hg1,(vi htl).2.1,zV rfl (zV rfl (zO (zV rfl ⟨ag,g,y - l[ms.length],Vbecag.harm g r y l[ms.length],?_,G3,W,by omega,h1,l.length - (ms ++ [Vbecag.harm g r y l[ms.length]]).length,?_,g.next (Vbecag.harm g r y l[ms.length]) (y - l[ms.length]),jn,ms ++ [Vbecag.harm g r y l[ms.length]],⟨_,_,rfl⟩,s3,?_,W.le h1 (by omega),ey,?_,rfl,?_⟩)))⟩)
     ·show [V.ref ag,V.int ((y:Int) - ((l[ms.length]:Nat):Int)),V.int _]=[V.ref ag,V.int ((y - l[ms.length]:Nat):Int),V.int _]
      rw [show ((y:Int) - ((l[ms.length]:Nat):Int))=((y - l[ms.length]:Nat):Int) from by omega]
     ·rw [List.length_append]; show l.length - (ms.length + 1) < _; omega
     ·rw [af,iS]
     ·rw [List.length_append]; show ms.length + 1≤_; omega
     ·rw [hf,hdrop,Fv hne (by rw [mK]; exact c3),List.length_append]
      show _=Option.map _ (Vbecag.forced g r (l.drop (ms.length + 1)) _)
      rw [Option.map_map]
      congr 1
      funext t
      simp
end HG
end
section
namespace HG
open Vbecag VM
def U (g:Growth) (m:Nat):Stocks:=(stocks g).map m.testBit
theorem oZ {g:Growth} {m x:Nat}:isIn (U g m) x=(decide (x≤g.n) && m.testBit x):=lT g _ x
theorem AM {m k x:Nat} (h:m < 2 ^ k) (hx:k≤x):m.testBit x=false:=Nat.testBit_lt_two_pow (Nat.lt_of_lt_of_le h (Nat.pow_le_pow_right (by decide) hx))
theorem Li {g:Growth} {m k:Nat} (hm:m < 2 ^ (g.n + 1)) (hk:k < 2 ^ (g.n + 1)) (h:U g m=U g k):m=k:=by
 apply Nat.eq_of_testBit_eq
 intro i
 by_cases hi:i≤g.n
 ·have:=congrArg (fun s=>isIn s i) h
  simp only [oZ,decide_eq_true hi,Bool.true_and] at this
  exact this
 ·rw [AM hm (by omega),AM hk (by omega)]
def r6 (f:Nat→Nat) (l:List Nat):Nat:=l.foldl (fun a x=>a ||| f x) 0
theorem zf (f:Nat→Nat) (l:List Nat) (x:Nat):r6 f (l ++ [x])=r6 f l ||| f x:=by
 unfold r6
 rw [List.foldl_append]; rfl
theorem HJ (f:Nat→Nat) (i:Nat):∀ (l:List Nat) (a:Nat),(l.foldl (fun a x=>a ||| f x) a).testBit i=(a.testBit i || l.any fun x=>(f x).testBit i)
 | [],a=>by simp
 | x :: l,a=>by rw [List.foldl_cons,HJ f i l,Nat.testBit_or,List.any_cons,Bool.or_assoc]
theorem As {f:Nat→Nat} {l:List Nat} {i:Nat}:(r6 f l).testBit i=l.any fun x=>(f x).testBit i:=by
 unfold r6
 rw [HJ,Nat.zero_testBit,Bool.false_or]
theorem J2 {f:Nat→Nat} {k:Nat}:∀ (l:List Nat) (a:Nat),a < 2 ^ k→(∀ x∈l,f x < 2 ^ k)→l.foldl (fun a x=>a ||| f x) a < 2 ^ k
 | [],a,h,_=>h
 | x :: l,a,h,hl=>J2 l _ (Nat.or_lt_two_pow h (hl x List.mem_cons_self)) fun y hy=>hl y (List.mem_cons_of_mem _ hy)
theorem Cg {f:Nat→Nat} {k:Nat} {l:List Nat} (h:∀ x∈l,f x < 2 ^ k):r6 f l < 2 ^ k:=J2 l 0 (Nat.two_pow_pos k) h
def msk (l:List Nat):Nat:=r6 (fun x=>2 ^ x) l
theorem xY {l:List Nat} {i:Nat}:(msk l).testBit i=l.contains i:=by
 unfold msk
 rw [As]
 apply Bool.eq_iff_iff.mpr
 rw [List.any_eq_true,List.contains_iff_mem]
 constructor
 ·rintro ⟨x,hx,h⟩
  rw [Nat.testBit_two_pow,decide_eq_true_eq] at h
  rw [← h]; exact hx
 ·intro h
  exact⟨i,h,by rw [Nat.testBit_two_pow]; simp⟩
theorem HB {l:List Nat} {n:Nat} (h:∀ x∈l,x≤n):msk l < 2 ^ (n + 1):=Cg fun x hx=>Nat.pow_lt_pow_right (by decide) (by have:=h x hx; omega)
theorem Lj {g:Growth} {l:List Nat}:U g (msk l)=setOf g l:=by
 refine ext (g:=g) (kq g _) (kq g _) fun x hx=>?_
 rw [oZ,decide_eq_true hx,Bool.true_and,xY,yD hx]
def nQ (g:Growth) (m:Nat):List Nat:=(List.range (g.n + 1)).filter m.testBit
theorem lY {g:Growth} {m x:Nat}:x∈nQ g m↔x≤g.n∧m.testBit x=true:=by
 unfold nQ
 rw [List.mem_filter,List.mem_range]
 constructor
 ·rintro ⟨a,b⟩; exact⟨by omega,b⟩
 ·rintro ⟨a,b⟩; exact⟨by omega,b⟩
theorem Ba {g:Growth} {m:Nat} (h0:m≠0) (hm:m < 2 ^ (g.n + 1)):nQ g m≠[]:=by
 obtain⟨i,hi⟩:=Nat.exists_testBit_of_ne_zero h0
 have:i≤g.n:=Nat.le_of_not_lt fun z=>by rw [AM hm (by omega)] at hi; cases hi
 intro e
 have q:i∈nQ g m:=lY.mpr ⟨this,hi⟩
 rw [e] at q; cases q
theorem DE {g:Growth} {m f:Nat} (h:(nQ g m)[0]?=some f):f∈nQ g m∧∀ x∈nQ g m,f≤x:=by
 refine⟨List.mem_of_getElem? h,fun x hx=>?_⟩
 have hp:(nQ g m).Pairwise (· < ·):=List.Pairwise.filter _ List.pairwise_lt_range
 cases e:nQ g m with
 | nil=>rw [e] at h; cases h
 | cons a l =>
  rw [e] at h hx hp
  cases h
  rcases List.mem_cons.mp hx with rfl | hx
  ·exact Nat.le_refl _
  ·exact Nat.le_of_lt ((List.pairwise_cons.mp hp).1 x hx)
def uo (r:Rule) (m:Nat):Bool:=decide (0 < m % 2 ^ r.low)
theorem vp {r:Rule} {m:Nat}:uo r m=true↔∃ x,x < r.low∧m.testBit x=true:=by
 unfold uo
 rw [decide_eq_true_eq]
 constructor
 ·intro h
  obtain⟨i,hi⟩:=Nat.exists_testBit_of_ne_zero (show m % 2 ^ r.low≠0 by omega)
  rw [Nat.testBit_mod_two_pow,Bool.and_eq_true,decide_eq_true_eq] at hi
  exact⟨i,hi⟩
 ·rintro ⟨x,h1,h2⟩
  refine Nat.pos_of_ne_zero fun e=>?_
  have:(m % 2 ^ r.low).testBit x=true:=by rw [Nat.testBit_mod_two_pow,decide_eq_true h1,h2]; rfl
  rw [e,Nat.zero_testBit] at this; cases this
def oset (g:Growth) (e:Nat):Nat:=msk (outs g e)
def aft (g:Growth) (m q:Nat):Nat:=r6 (fun x=>oset g (x - q)) (nQ g m)
theorem xQ {g:Growth} {m q y:Nat}:(aft g m q).testBit y=true↔∃ x,x∈nQ g m∧∃ c,c < g.seasons∧g.next c (x - q)=y:=by
 unfold aft
 rw [As,List.any_eq_true]
 constructor
 ·rintro ⟨x,hx,h⟩
  unfold oset at h
  rw [xY,List.contains_iff_mem] at h
  obtain⟨c,hc,e⟩:=List.mem_map.mp h
  exact⟨x,hx,c,List.mem_range.mp hc,e⟩
 ·rintro ⟨x,hx,c,hc,e⟩
  refine⟨x,hx,?_⟩
  unfold oset
  rw [xY,List.contains_iff_mem]
  exact List.mem_map.mpr ⟨c,List.mem_range.mpr hc,e⟩
theorem Jo {g:Growth} (W:WfG g) {e:Nat} (he:e≤g.n):oset g e < 2 ^ (g.n + 1):=HB fun x hx=>mU W he hx
theorem Kf {g:Growth} (W:WfG g) {m q:Nat}:aft g m q < 2 ^ (g.n + 1):=Cg fun x hx=>Jo W (by have:=(lY.mp hx).1; omega)
def NX (g:Growth) (r:Rule) (m t:Nat):Prop:=∃ q,(r.least≤q∧q≤r.most∧∀ x∈nQ g m,q≤x)∧t=aft g m q∧uo r t=false
theorem NX.ok {g:Growth} (W:WfG g) {r:Rule} {m t:Nat} (h0:m≠0) (hm:m < 2 ^ (g.n + 1)) (h:NX g r m t):t≠0∧t < 2 ^ (g.n + 1):=by
 obtain⟨q,_,rfl,_⟩:=h
 refine⟨fun e=>?_,Kf W⟩
 obtain⟨x,hx⟩:∃ x,x∈nQ g m:=List.exists_mem_of_ne_nil _ (Ba h0 hm)
 have:(aft g m q).testBit (g.next 0 (x - q))=true:=xQ.mpr ⟨x,hx,0,W.s1,rfl⟩
 rw [e,Nat.zero_testBit] at this; cases this
theorem Hg {g:Growth} {r:Rule} {m q:Nat} (W:WfG g) (h0:m≠0) (hm:m < 2 ^ (g.n + 1)) {t:Stocks}:dark g r (U g m) q=some t↔(r.least≤q∧q≤r.most∧∀ x∈nQ g m,q≤x)∧uo r (aft g m q)=false∧t=U g (aft g m q):=by
 have hall:(stocks g).all (fun x=>!isIn (U g m) x || ((catches r x).contains q && (List.range g.seasons).all fun c=>decide (r.low≤g.next c (x - q))))=true↔(r.least≤q∧q≤r.most∧∀ x∈nQ g m,q≤x)∧uo r (aft g m q)=false:=by
  rw [List.all_eq_true]
  constructor
  ·intro h
   have h2:∀ x,x∈nQ g m→(r.least≤q∧q≤r.most∧q≤x)∧∀ c,c < g.seasons→r.low≤g.next c (x - q):=fun x hx=>by
    obtain⟨a,b⟩:=lY.mp hx
    have:=h x (by unfold stocks; exact List.mem_range.mpr (by omega))
    rw [oZ,decide_eq_true a,b,Bool.and_self,Bool.not_true,Bool.false_or,Bool.and_eq_true,List.contains_iff_mem,du,List.all_eq_true] at this
    exact⟨this.1,fun c hc=>of_decide_eq_true (this.2 c (List.mem_range.mpr hc))⟩
   obtain⟨x0,hx0⟩:∃ x,x∈nQ g m:=List.exists_mem_of_ne_nil _ (Ba h0 hm)
   refine⟨⟨(h2 x0 hx0).1.1,(h2 x0 hx0).1.2.1,fun x hx=>(h2 x hx).1.2.2⟩,?_⟩
   cases e:uo r (aft g m q) with
   | false=>rfl
   | true =>
    obtain⟨y,hy,hb⟩:=vp.mp e
    obtain⟨x,hx,c,hc,e2⟩:=xQ.mp hb
    have:=(h2 x hx).2 c hc
    omega
  ·rintro ⟨⟨h1,h2,h3⟩,h4⟩ x hx
   have hx:x≤g.n:=by unfold stocks at hx; have:=List.mem_range.mp hx; omega
   rw [oZ,decide_eq_true hx,Bool.true_and]
   cases e:m.testBit x with
   | false=>rfl
   | true =>
    have hxm:x∈nQ g m:=lY.mpr ⟨hx,e⟩
    rw [Bool.not_true,Bool.false_or,Bool.and_eq_true,List.contains_iff_mem,du,List.all_eq_true]
    refine⟨⟨h1,h2,h3 x hxm⟩,fun c hc=>decide_eq_true (Nat.le_of_not_lt fun z=>?_)⟩
    have:=vp.mpr ⟨_,z,xQ.mpr ⟨x,hxm,c,List.mem_range.mp hc,rfl⟩⟩
    rw [h4] at this; cases this
 have himg:((stocks g).map fun y=>(stocks g).any fun x=>isIn (U g m) x && (List.range g.seasons).any fun c=>g.next c (x - q) == y)=U g (aft g m q):=by
  refine ext (g:=g) (kq g _) (kq g _) fun y hy=>?_
  rw [lT,oZ,decide_eq_true hy,Bool.true_and,Bool.true_and]
  apply Bool.eq_iff_iff.mpr
  rw [xQ,List.any_eq_true]
  constructor
  ·rintro ⟨x,hx,h⟩
   rw [Bool.and_eq_true,oZ,Bool.and_eq_true,decide_eq_true_eq,List.any_eq_true] at h
   obtain⟨⟨a,b⟩,c,hc,e⟩:=h
   exact⟨x,lY.mpr ⟨a,b⟩,c,List.mem_range.mp hc,beq_iff_eq.mp e⟩
  ·rintro ⟨x,hx,c,hc,e⟩
   obtain⟨a,b⟩:=lY.mp hx
   refine⟨x,by unfold stocks; exact List.mem_range.mpr (by omega),?_⟩
   rw [Bool.and_eq_true,oZ,Bool.and_eq_true,decide_eq_true_eq,List.any_eq_true]
   exact⟨⟨a,b⟩,c,List.mem_range.mpr hc,beq_iff_eq.mpr e⟩
 unfold dark
 rw [himg]
 by_cases c:(stocks g).all (fun x=>!isIn (U g m) x || ((catches r x).contains q && (List.range g.seasons).all fun c=>decide (r.low≤g.next c (x - q))))=true
 ·rw [if_pos c]
  obtain⟨a,b⟩:=hall.mp c
  constructor
  ·intro e; exact⟨a,b,(Option.some.inj e).symm⟩
  ·rintro ⟨_,_,e⟩; rw [e]
 ·rw [if_neg c]
  constructor
  ·intro e; cases e
  ·rintro ⟨a,b,_⟩; exact absurd (hall.mpr ⟨a,b⟩) c
theorem xU {g:Growth} {r:Rule} {m:Nat} (W:WfG g) (h0:m≠0) (hm:m < 2 ^ (g.n + 1)) {t:Stocks}:t∈nu g r (U g m)↔∃ k,NX g r m k∧t=U g k:=by
 rw [FU]
 constructor
 ·rintro ⟨q,hq,h⟩
  obtain⟨a,b,c⟩:=(Hg W h0 hm).mp h
  exact⟨_,⟨q,a,rfl,b⟩,c⟩
 ·rintro ⟨k,⟨q,a,rfl,b⟩,rfl⟩
  exact⟨q,a.2.1,(Hg W h0 hm).mpr ⟨a,b,rfl⟩⟩
inductive C6 (N:Nat→List Nat):Nat→Prop
 | mk {m:Nat}:(∀ t∈N m,C6 N t)→C6 N m
theorem BG {g:Growth} {r:Rule} (W:WfG g) {m0:Nat} (h0:m0≠0) (hm:m0 < 2 ^ (g.n + 1)) (hl:uo r m0=false) {ms:List Nat} {N:Nat→List Nat} (hr:∀ t∈ms,Reach g r (U g m0) (U g t)) (hok:∀ t∈ms,t≠0∧t < 2 ^ (g.n + 1)) (hin:m0∈ms) (hN:∀ m∈ms,∀ t,t∈N m↔NX g r m t) (hcl:∀ m∈ms,∀ t∈N m,t∈ms) (hlen:ms.length≤300) {b:Bool} (h1:b=true→∃ T:Nat→Prop,T m0∧∀ m,T m→m∈ms∧∃ t∈N m,T t) (h2:b=false→C6 N m0) :
  blind g r (U g m0)=some b:=by
 have hlow:∀ x,x≤g.n→isIn (U g m0) x=true→r.low≤x:=fun x hx hi=>Nat.le_of_not_lt fun z=>by
  rw [oZ,decide_eq_true hx,Bool.true_and] at hi
  have:=vp.mpr ⟨x,z,hi⟩
  rw [hl] at this; cases this
 obtain⟨b',hb,hiff⟩:=Ff (g:=g) (r:=r) (s:=U g m0) hlow (l:=ms.map (U g)) (fun t=>by
  constructor
  ·intro h
   obtain⟨m,hm,rfl⟩:=List.mem_map.mp h
   exact hr m hm
  ·intro h
   induction h with
   | refl=>exact List.mem_map.mpr ⟨m0,hin,rfl⟩
   | step a c ih =>
    obtain⟨m,hm,rfl⟩:=List.mem_map.mp ih
    obtain⟨k,hk,rfl⟩:=(xU W (hok m hm).1 (hok m hm).2).mp c
    exact List.mem_map.mpr ⟨k,hcl m hm k ((hN m hm k).mpr hk),rfl⟩) (by rw [List.length_map]; exact hlen)
 rw [hb]
 congr 1
 apply Bool.eq_iff_iff.mpr
 rw [hiff]
 constructor
 ·rintro ⟨T,t0,tT⟩
  cases e:b with
  | true=>rfl
  | false =>
   exfalso
   have key:∀ m,C6 N m→m∈ms→¬ T (U g m):=fun m d=>by
    induction d with
    | mk a ih =>
     rename_i m
     intro hm hT
     obtain⟨_,u,hu,hTu⟩:=tT _ hT
     obtain⟨k,hk,rfl⟩:=(xU W (hok m hm).1 (hok m hm).2).mp hu
     have hkN:=(hN m hm k).mpr hk
     exact ih k hkN (hcl m hm k hkN) hTu
   exact key m0 (h2 e) hin t0
 ·intro e
  obtain⟨T,t0,tT⟩:=h1 e
  refine⟨fun s=>∃ m,m∈ms∧T m∧s=U g m,⟨m0,hin,t0,rfl⟩,?_⟩
  rintro s ⟨m,hm,hT,rfl⟩
  refine⟨List.mem_map.mpr ⟨m,hm,rfl⟩,?_⟩
  obtain⟨_,t,ht,hTt⟩:=tT m hT
  exact⟨U g t,(xU W (hok m hm).1 (hok m hm).2).mpr ⟨t,(hN m hm t).mp ht,rfl⟩,t,hcl m hm t ht,hTt,rfl⟩
theorem yq {g:Growth} {r:Rule} {m0:Nat} (hl:uo r m0=false) {ms:List Nat} (nd:ms.Nodup) (hr:∀ t∈ms,Reach g r (U g m0) (U g t)) (hok:∀ t∈ms,t≠0∧t < 2 ^ (g.n + 1)) (hlen:300 < ms.length):blind g r (U g m0)=none:=by
 have hlow:∀ x,x≤g.n→isIn (U g m0) x=true→r.low≤x:=fun x hx hi=>Nat.le_of_not_lt fun z=>by
  rw [oZ,decide_eq_true hx,Bool.true_and] at hi
  have:=vp.mpr ⟨x,z,hi⟩
  rw [hl] at this; cases this
 refine Dg hlow (l:=ms.map (U g)) ?_ (fun t ht=>?_) (by rw [List.length_map]; exact hlen)
 ·unfold List.Nodup at nd ⊢
  rw [List.pairwise_map]
  exact List.Pairwise.imp_of_mem (fun ha hb hne e=>hne (Li (hok _ ha).2 (hok _ hb).2 e)) nd
 ·obtain⟨m,hm,rfl⟩:=List.mem_map.mp ht
  exact hr m hm
theorem AN {g:Growth} {r:Rule} {m0:Nat} (hm:m0 < 2 ^ (g.n + 1)) (hl:uo r m0=true):blind g r (U g m0)=some false:=by
 obtain⟨x,h1,h2⟩:=vp.mp hl
 have hx:x≤g.n:=Nat.le_of_not_lt fun z=>by rw [AM hm (by omega)] at h2; cases h2
 exact Fg ⟨x,hx,by rw [oZ,decide_eq_true hx,h2]; rfl,h1⟩
end HG
end
section
namespace HG
open PySem PySem.Spec PyProof.Rows L2
open PySem.W (Frag)
variable {P:Program} {w:World} {K:Frag} {mg:Str→Option Value} {base:Heap} {A:Ad}
theorem yo (a b:Nat):Builtin.bitAnd (a:Int) (b:Int)=((a &&& b:Nat):Int):=by
 rw [PyProof.Rows.bitAnd_pp (by omega) (by omega),Int.toNat_natCast,Int.toNat_natCast]
theorem Ag (a b:Nat):Builtin.bitOr (a:Int) (b:Int)=((a ||| b:Nat):Int):=by
 rw [PyProof.Rows.bitOr_and,yo]
 have:=PyProof.Rows.nat_or_add_and a b
 omega
def marks (g:Vbecag.Growth):List Nat:=(List.range (g.n + 1)).map fun i=>2 ^ i
theorem yL {g:Vbecag.Growth} {i:Nat} (h:i≤g.n):(marks g)[i]?=some (2 ^ i):=by
 unfold marks
 rw [List.getElem?_map,List.getElem?_range (by omega)]; rfl
theorem nI:ay ["growth","marks"] ["growth"] (au ke):=⟨rfl,rfl,rfl,by decide +kernel,rfl,by decide +kernel,by decide +kernel⟩
def JI (A:Ad):Sp:=fun vs H Q _=>∃ (ag:Addr) (g:Vbecag.Growth),vs=[.ref ag]∧uS A H ag g∧WfG g∧pN H Q (nv (marks g))
theorem uB (T:Txt K mg A):Fok P w K mg base 1 A.cR ["growth"] (JI A):=by
 obtain⟨fd,F⟩:=T.d7
 refine⟨fd,?_,F.b1 fun _ _ _ _ _ _ _=>rfl⟩
 refine F.okX nI (fun vs H Q E h=>?_) (fun cdv A' outer s H vs Q E hr h=>?_)
 ·exact zL2 (fun _ _=>rfl) h
 ·revert h; refine zG2 fun ag g zz=>?_; obtain⟨rfl,G,W,k⟩:=zz
  have nd:=nI.nd
  have n50:=W.n50
  refine⟨_,ae (aD (i:=1) nd rfl (Or.inl rfl) (bQ (aa az ai)))
   (ae (js PassesOwn.leaving (bx (HK (aO aN (by rfl) T.eO PySem.boot_len (aa (pv 1) ai)) (aw (pv 0) rfl)))
    (ak (aK (qE PySem.F.plainAttrs_list PySem.F.slot_list_append PySem.F.type_list_append fE (pv 1) (aa (bj qo az (aS aG (pv 1) (t6 o6 az) (fun _ _=>rfl))) ai)))))
   (ak (aF (pv 1)))),?_⟩
  refine⟨by show 1≤sizeLine; decide,fun D fD=>?_⟩
  have s1:=aE.upd (o:=HO.lst [V.int 1]) fD
  let IV:Nat→L2.St→Hp→Prop:=fun m σ H'=>∃ j,j≤g.n∧m=g.n - j∧σ=[some (.ref ag),some (.ref D)]∧aE H H'∧H' D=some (.lst (nv ((List.range (j + 1)).map fun i=>2 ^ i)))
  refine⟨IV,⟨_,0,Nat.zero_le _,rfl,rfl,s1,af⟩,?_⟩
  rintro m σ H' ⟨j,hj,rfl,rfl,sH,hD⟩
  obtain⟨dg,lw,lt,tl,hg1,_,_,htl⟩:=id (G.keep sH)
  refine zX rfl ⟨D,zX rfl ⟨.inl (SqL.of hD),zX rfl (zF hg1 T.aH T.aW rfl (zO (zX rfl ?_)))⟩⟩
  rw [aQ,List.length_map,List.length_range]
  refine ko (fun c=>?_) fun c=>?_
  ·have c:j + 1≤g.n:=by have:=of_decide_eq_true c; omega
   refine⟨fun σ' H''=>∃ m',m' < g.n - j∧IV m' σ' H'',fun _ _ q=>q,?_⟩
   have e1:nv ((List.range (j + 1)).map fun i=>2 ^ i)=nv ((List.range j).map fun i=>2 ^ i) ++ [.int ((2 ^ j:Nat):Int)]:=by rw [List.range_succ,List.map_append,List.map_singleton,iS]
   refine⟨_,rfl,.inl ⟨rfl,_,SqL.of hD⟩,_,rfl,_,rfl,zI (SqL.of hD) (by rw [e1]; exact yl _ _) ⟨_,_,rfl,rfl,.inl ⟨by decide,by decide⟩,D,_,_,rfl,rfl,hD,by rw [aQ,List.length_map,List.length_range,sizeLine_eq]; omega,?_⟩⟩
   refine⟨g.n - (j + 1),by omega,j + 1,c,rfl,rfl,fun b o e=>by rw [aj (aq e fD)]; exact sH _ _ e,?_⟩
   rw [af]
   show some (HO.lst (_ ++ [V.int ((2:Int) * ((2 ^ j:Nat):Int))]))=_
   rw [show (2:Int) * ((2 ^ j:Nat):Int)=((2 ^ (j + 1):Nat):Int) from by rw [Nat.pow_succ]; push_cast; omega,← iS]
   congr 3
   rw [List.range_succ (n:=j + 1),List.map_append,List.map_singleton]
  ·have c:j=g.n:=by
    refine Nat.le_antisymm hj (Nat.le_of_not_lt fun z=>c (decide_eq_true ?_))
    push_cast
    omega
   subst c
   exact zV rfl (k H' D fD hD sH)
theorem Az:ay ["marks","stocks","found","stock"] ["marks","stocks"] (au yu):=⟨rfl,rfl,rfl,by decide +kernel,rfl,by decide +kernel,by decide +kernel⟩
def JM:Sp:=fun vs H Q _=>∃ (lm la:Addr) (g:Vbecag.Growth) (l:List Nat),vs=[.ref lm,.ref la]∧H lm=some (.lst (nv (marks g)))∧H la=some (.lst (nv l))∧(∀ x∈l,x≤g.n)∧Q (.int ((msk l:Nat):Int)) H
theorem Aq (T:Txt K mg A):Fok P w K mg base 1 A.pd ["marks","stocks"] JM:=by
 obtain⟨fd,F⟩:=T.o8
 refine⟨fd,?_,F.b2 fun _ _ _ _ _ _ _ _=>rfl⟩
 refine F.okX Az (fun vs H Q E h=>?_) (fun cdv A' outer s H vs Q E hr h=>?_)
 ·exact zL4 (fun _ _ _ _=>rfl) h
 ·revert h; refine zG4 fun lm la g l zz=>?_; obtain⟨rfl,h1,h2,hl,k⟩:=zz
  have nd:=Az.nd
  refine⟨_,ae (aD (i:=2) nd rfl (Or.inl rfl) az)
   (ae (iB PassesOwn.leaving rfl (aY (pv 1)) (aL (i:=3) nd rfl (Or.inl rfl)) (ak (aD (i:=2) nd rfl (Or.inl rfl) (bj J1 (pv 2) (aS aG (pv 0) (pv 3) (fun _ _=>rfl))))))
   (ak (aF (pv 2)))),?_⟩
  refine zV rfl ⟨la,rfl,⟨_,SqL.of h2⟩,jl (K:=K) (a:=la) (xs:=nv l) (fun i σ H'=>(∃ v,σ=[some (.ref lm),some (.ref la),some (.int ((msk (l.take i):Nat):Int)),v])∧H'=H) ⟨⟨none,rfl⟩,rfl⟩ (fun i σ H' _ q=>by rw [q.2]; exact SqL.of h2) ?_ ?_⟩
  ·rintro i y σ H' hi ⟨⟨v,rfl⟩,rfl⟩
   obtain⟨x,hx,rfl⟩:=lg hi
   refine zV rfl (zV rfl (zV rfl (zI (SqL.of h1) (bg (rT (yL (hl x (List.mem_of_getElem? hx))))) (zO ⟨⟨some (.int (x:Int)),?_⟩,rfl⟩))))
   show [some (V.ref lm),some (V.ref la),some (V.int (Builtin.bitOr ((msk (l.take i):Nat):Int) ((2 ^ x:Nat):Int))),some (V.int (x:Int))]=_
   rw [Ag,List.take_add_one,hx,Option.toList_some]
   unfold msk
   rw [zf]
  ·rintro σ H' ⟨⟨v,rfl⟩,rfl⟩
   rw [aQ,List.take_length]
   exact zV rfl k
def blF (ar lm los:Addr):List (Str×V):=[("rule",.ref ar),("marks",.ref lm),("outcome_sets",.ref los)]
def Ci (g:Vbecag.Growth):List Nat:=(List.range (g.n + 1)).map (oset g)
theorem Cj {g:Vbecag.Growth} {i:Nat} (h:i≤g.n):(Ci g)[i]?=some (oset g i):=by
 unfold Ci
 rw [List.getElem?_map,List.getElem?_range (by omega)]; rfl
structure AJ (A:Ad) (H:Hp) (x:Addr) (g:Vbecag.Growth) (r:Vbecag.Rule):Prop where
 ex:∃ dx ar lm los,H x=some (.ins A.cQ dx (blF ar lm los))∧iU A H ar r∧H lm=some (.lst (nv (marks g)))∧H los=some (.lst (nv (Ci g)))
theorem AJ.keep {H H':Hp} {x:Addr} {g:Vbecag.Growth} {r:Vbecag.Rule} (b:AJ A H x g r) (s:aE H H'):AJ A H' x g r:=by
 obtain⟨dx,ar,lm,los,h1,h2,h3,h4⟩:=b
 exact⟨dx,ar,lm,los,s _ _ h1,h2.keep s,s _ _ h3,s _ _ h4⟩
theorem t7:ay ["self","growth","rule","after"] ["self","growth","rule"] (au pQ):=⟨rfl,rfl,rfl,by decide +kernel,rfl,by decide +kernel,by decide +kernel⟩
def Cz (A:Ad):Sp:=fun vs H Q _=>∃ (x dx ag ar lo:Addr) (g:Vbecag.Growth) (r:Vbecag.Rule),vs=[.ref x,.ref ag,.ref ar]∧H x=some (.ins A.cQ dx [])∧ag≠x∧ar≠x∧GrA A H ag g lo∧WfG g∧iU A H ar r∧∀ H',AJ A H' x g r→But x H H'→Q .non H'
theorem GrA.Ki {H H':Hp} {x dx C ag lo:Addr} {fs:List (Str×V)} {g:Vbecag.Growth} (h:GrA A H ag g lo) (hx:H x=some (.ins C dx fs)) (hne:ag≠x) (s:But x H H'):GrA A H' ag g lo:=by
 obtain⟨⟨dx',lw,lt,h1,h2,h3⟩,⟨os,o1,o2,o3⟩⟩:=h
 have nl:∀ b l,H b=some (.lst l)→b≠x:=fun b l e=>hW e hx (by intro z; cases z)
 exact⟨⟨dx',lw,lt,s _ _ hne h1,s _ _ (nl _ _ h2) h2,s _ _ (nl _ _ h3) h3⟩,⟨os,s _ _ (nl _ _ o1) o1,o2,fun e o q=>s _ _ (nl _ _ (o3 e o q)) (o3 e o q)⟩⟩
theorem zN (T:Txt K mg A):Fok P w K mg base 2 A.kn ["self","growth","rule"] (Cz A):=by
 obtain⟨fd,F⟩:=T.mJ
 obtain⟨fdM,GM,bM⟩:=uB (P:=P) (w:=w) (base:=base) T
 obtain⟨fdS,GS,bS⟩:=Aq (P:=P) (w:=w) (base:=base) T
 obtain⟨_,FM⟩:=T.d7
 obtain⟨_,FS⟩:=T.o8
 refine⟨fd,?_,F.b3 fun _ _ _ _ _ _ _ _ _=>rfl⟩
 refine F.okX t7 (fun vs H Q E h=>?_) (fun cdv A' outer s H vs Q E hr h=>?_)
 ·exact zL7 (fun _ _ _ _ _ _ _=>rfl) h
 ·revert h; refine zG7 fun x dx ag ar lo g r zz=>?_; obtain⟨rfl,hx,na,nr,G,W,R,k⟩:=zz
  have nd:=t7.nd
  have n50:=W.n50
  refine⟨_,ae (bU (pv 0) (pv 2) rfl) (ae (bU (pv 0) (aA (E:=EN) GM (hr.mono (by decide)) rfl T.g8 FM.kp bM .nil aT (aa (pv 1) ai)) rfl)
   (ak (bU (pv 0) (iA rfl nd (aY (aw (pv 1) rfl)) (aR (own:=[("after",3)]) (by kernel_rfl)) (fun _ _ _ _ _=>aL (i:=3) nd rfl (Or.inl rfl)) (fun _ _ _ _ _=>cw)
    (fun _ _ _ _ _=>aA (E:=EN) GS (hr.mono (by decide)) rfl T.rN FS.kp bS .nil aT (aa (show PE _ _ (BA K (tY 0) "marks") from aw (pv 0) rfl) (aa (pv 3) ai)))) rfl))),?_⟩
  have ub:∀ {H':Hp} {o:HO},But x H' (upd H' x o):=fun b o hb e=>by rw [aj hb]; exact e
  have nx:∀ {H':Hp} {dx' C:Addr} {fs:List (Str×V)} {b:Addr} {l:List V},H' x=some (.ins C dx' fs)→H' b=some (.lst l)→b≠x:=fun h1 h2=>hW h2 h1 (by intro z; cases z)
  have rk:∀ {H' H'':Hp},iU A H' ar r→But x H' H''→iU A H'' ar r:=fun ⟨dr,e⟩ s=>⟨dr,s _ _ nr e⟩
  refine zV rfl (zV rfl (zS hx T.cJ T.lJ (by show 0 < 1000; decide) ?_))
  have b1:=ub (H':=H) (o:=.ins A.cQ dx [("rule",.ref ar)])
  have G1:=G.Ki hx na b1
  have R1:=rk R b1
  refine zV rfl (zE2 ag g ⟨rfl,G1.gr,W,fun H2 lm flm hlm s2=>?_⟩)
  have hx2:=s2 _ _ (af (H:=H) (a:=x) (o:=.ins A.cQ dx [("rule",.ref ar)]))
  refine zV rfl (zS hx2 T.cJ T.fF (by show 1 < 1000; decide) ?_)
  have b2:=ub (H':=H2) (o:=.ins A.cQ dx [("rule",.ref ar),("marks",.ref lm)])
  have G2:=(G1.keep s2).Ki hx2 na b2
  have R2:=rk (R1.keep s2) b2
  have m2:=b2 _ _ (nx hx2 hlm) hlm
  obtain⟨⟨dg,lw,lt,hg1,_⟩,⟨os,ho1,ho2,ho3⟩⟩:=id G2
  refine zV rfl (zF hg1 T.aH T.bq rfl ⟨lo,rfl,⟨_,SqL.of ho1⟩,fun D hD=>mL (nv (Ci g)) ho1 hD (by rw [aQ,List.length_map,ho2]; simp [Ci]) (by rw [List.length_map]; omega) (fun i z y H' hi hy s Z zz=>?_) dJ fun H3 p3 s3=>?_⟩)
  ·obtain⟨o,ho,rfl⟩:=pf hi
   have hin:i < g.n + 1:=by have:=(List.getElem?_eq_some_iff.mp ho).1; omega
   rw [rT (Cj (by omega))] at hy
   cases hy
   exact⟨rfl,zV rfl (zF (s _ _ af) T.cJ T.fF rfl (zV rfl (zE4 lm o g (outs g i) ⟨rfl,s _ _ m2,s _ _ (ho3 i o ho),fun y hy=>mU W (by omega) hy,zz _ (fun _ _ e=>e)⟩)))⟩
  have hx3:=s3 _ _ (af (H:=H2) (a:=x) (o:=.ins A.cQ dx [("rule",.ref ar),("marks",.ref lm)]))
  refine zV rfl (zS hx3 T.cJ T.kJ (by show 2 < 1000; decide) ?_)
  have b3:=ub (H':=H3) (o:=.ins A.cQ dx (blF ar lm D))
  refine k _ ⟨dx,ar,lm,D,af,rk (R2.keep s3) b3,b3 _ _ (nx hx3 (s3 _ _ m2)) (s3 _ _ m2),b3 _ _ (nx hx3 p3) p3⟩ fun b o hb q=>b3 _ _ hb (s3 _ _ (b2 _ _ hb (s2 _ _ (b1 _ _ hb q))))
theorem pB:ay ["self","met","stock"] ["self","met"] (au mh):=⟨rfl,rfl,rfl,by decide +kernel,rfl,by decide +kernel,by decide +kernel⟩
def Gg (A:Ad):Sp:=fun vs H Q _=>∃ (x:Addr) (g:Vbecag.Growth) (r:Vbecag.Rule) (m:Nat),vs=[.ref x,.int (m:Int)]∧AJ A H x g r∧WfG g∧pN H Q (nv (nQ g m))
theorem IM (m i:Nat):decide ((0:Int) < ((m &&& 2 ^ i:Nat):Int))=m.testBit i:=by
 apply Bool.eq_iff_iff.mpr
 rw [decide_eq_true_eq]
 constructor
 ·intro h
  obtain⟨j,hj⟩:=Nat.exists_testBit_of_ne_zero (show m &&& 2 ^ i≠0 by omega)
  rw [Nat.testBit_and,Nat.testBit_two_pow,Bool.and_eq_true,decide_eq_true_eq] at hj
  rw [hj.2]; exact hj.1
 ·intro h
  have:(m &&& 2 ^ i).testBit i=true:=by rw [Nat.testBit_and,h,Nat.testBit_two_pow]; simp
  have h0:m &&& 2 ^ i≠0:=fun e=>by rw [e,Nat.zero_testBit] at this; cases this
  omega
theorem wH (T:Txt K mg A):Fok P w K mg base 1 A.gu ["self","met"] (Gg A):=by
 obtain⟨fd,F⟩:=T.ju
 refine⟨fd,?_,F.b2 fun _ _ _ _ _ _ _ _=>rfl⟩
 refine F.okX pB (fun vs H Q E h=>?_) (fun cdv A' outer s H vs Q E hr h=>?_)
 ·exact zL4 (fun _ _ _ _=>rfl) h
 ·revert h; refine zG4 fun x g r m zz=>?_; obtain⟨rfl,⟨dx,ar,lm,los,h1,h2,h3,h4⟩,W,k⟩:=zz
  have nd:=pB.nd
  have n50:=W.n50
  have hml:(marks g).length=g.n + 1:=by simp [marks]
  refine⟨_,ak (aF (iA rfl nd (gQ rfl T.fT (aa (aO aN (by rfl) T.eO PySem.boot_len (aa (aw (pv 0) rfl) ai)) ai)) (aR (own:=[("stock",2)]) (by kernel_rfl)) (fun _ _ _ _ _=>aL (i:=2) nd rfl (Or.inl rfl))
   (fun _ _ _ _ _=>lK (bx (qD (bj KI (pv 1) (aS (r:=qW K) aG (show PE _ _ (BA K (tY 0) "marks") from aw (pv 0) rfl) (pv 2) (fun _ _=>rfl))) az))) (fun _ _ _ _ _=>pv 2))),?_⟩
  refine zV rfl (zF h1 T.cJ T.fF rfl (zE2 lm _ ⟨rfl,.inl (SqL.of h3),((g.n + 1:Nat):Int),(by rw [aQ,hml]),by omega,by omega,fun D hD=>?_⟩))
  rw [Int.toNat_natCast]
  refine A7 m.testBit hD (by omega) (show 2 < 3 by decide) (fun i H' hi s Z z=>?_) fun H' h s=>k H' D hD h s
  refine⟨rfl,zX rfl (zX rfl (zF (s _ _ h1) T.cJ T.fF rfl (zX rfl (zI (SqL.of (s _ _ h3)) (bg (rT (yL (by omega)))) (zO (zO (zX rfl ?_)))))))⟩
  show Z (decide ((0:Int) < Builtin.bitAnd (m:Int) ((2 ^ i:Nat):Int))) H'
  rw [yo,IM]
  exact z _ (fun _ _ e=>e)
theorem tU:ay ["self","met"] ["self","met"] (au jF):=⟨rfl,rfl,rfl,by decide +kernel,rfl,by decide +kernel,by decide +kernel⟩
def Iv (A:Ad):Sp:=fun vs H Q _=>∃ (x:Addr) (g:Vbecag.Growth) (r:Vbecag.Rule) (m:Nat),vs=[.ref x,.int (m:Int)]∧AJ A H x g r∧r.low≤g.n∧Q (.bl (uo r m)) H
theorem mF (T:Txt K mg A):Fok P w K mg base 1 A.dF ["self","met"] (Iv A):=by
 obtain⟨fd,F⟩:=T.fP
 refine⟨fd,?_,F.b2 fun _ _ _ _ _ _ _ _=>rfl⟩
 refine F.okX tU (fun vs H Q E h=>?_) (fun cdv A' outer s H vs Q E hr h=>?_)
 ·exact zL4 (fun _ _ _ _=>rfl) h
 ·revert h; refine zG4 fun x g r m zz=>?_; obtain⟨rfl,⟨dx,ar,lm,los,h1,⟨dr,h2⟩,h3,h4⟩,hlow,k⟩:=zz
  refine⟨_,ak (aF (lx (qD (bj KL (pv 1) (aS aG (aw (pv 0) rfl) (aw (aw (pv 0) rfl) rfl) (fun _ _=>rfl))) az))),?_⟩
  have hp:(0:Int) < ((2 ^ r.low:Nat):Int):=by have:=Nat.two_pow_pos r.low; omega
  refine zV rfl (zV rfl (zF h1 T.cJ T.fF rfl (zV rfl (zF h1 T.cJ T.lJ rfl (zF h2 T.bh T.cP rfl (zI (SqL.of h3) (bg (rT (yL hlow))) (zO ⟨hp,zO ?_⟩)))))))
  show Q (.bl (decide ((0:Int) < (m:Int) % ((2 ^ r.low:Nat):Int)))) H
  have e:decide ((0:Int) < (m:Int) % ((2 ^ r.low:Nat):Int))=uo r m:=by
   unfold uo
   apply Bool.eq_iff_iff.mpr
   rw [decide_eq_true_eq,decide_eq_true_eq,← Int.natCast_emod]
   omega
  rw [e]
  exact k
theorem nG:ay ["self","stocks","catch","found","stock"] ["self","stocks","catch"] (au ka):=⟨rfl,rfl,rfl,by decide +kernel,rfl,by decide +kernel,by decide +kernel⟩
def JC (A:Ad):Sp:=fun vs H Q _=>∃ (x la:Addr) (g:Vbecag.Growth) (r:Vbecag.Rule) (l:List Nat) (q:Nat),vs=[.ref x,.ref la,.int (q:Int)]∧AJ A H x g r∧H la=some (.lst (nv l))∧(∀ y∈l,q≤y∧y≤g.n)∧Q (.int ((r6 (fun y=>oset g (y - q)) l:Nat):Int)) H
theorem uy (T:Txt K mg A):Fok P w K mg base 1 A.ei ["self","stocks","catch"] (JC A):=by
 obtain⟨fd,F⟩:=T.g0
 refine⟨fd,?_,F.b3 fun _ _ _ _ _ _ _ _ _=>rfl⟩
 refine F.okX nG (fun vs H Q E h=>?_) (fun cdv A' outer s H vs Q E hr h=>?_)
 ·exact zL6 (fun _ _ _ _ _ _=>rfl) h
 ·revert h; refine zG6 fun x la g r l q zz=>?_; obtain⟨rfl,⟨dx,ar,lm,los,h1,h2,h3,h4⟩,hla,hl,k⟩:=zz
  have nd:=nG.nd
  refine⟨_,ae (aD (i:=3) nd rfl (Or.inl rfl) az)
   (ae (iB PassesOwn.leaving rfl (aY (pv 1)) (aL (i:=4) nd rfl (Or.inl rfl)) (ak (aD (i:=3) nd rfl (Or.inl rfl) (bj J1 (pv 3) (aS aG (aw (pv 0) rfl) (bj mz (pv 4) (pv 2)) (fun _ _=>rfl))))))
   (ak (aF (pv 3)))),?_⟩
  refine zV rfl ⟨la,rfl,⟨_,SqL.of hla⟩,jl (K:=K) (a:=la) (xs:=nv l) (fun i σ H'=>(∃ v,σ=[some (.ref x),some (.ref la),some (.int (q:Int)),some (.int ((r6 (fun y=>oset g (y - q)) (l.take i):Nat):Int)),v])∧H'=H) ⟨⟨none,rfl⟩,rfl⟩ (fun i σ H' _ q=>by rw [q.2]; exact SqL.of hla) ?_ ?_⟩
  ·rintro i y σ H' hi ⟨⟨v,rfl⟩,rfl⟩
   obtain⟨z,hz,rfl⟩:=lg hi
   obtain⟨hq,hn⟩:=hl z (List.mem_of_getElem? hz)
   refine zV rfl (zV rfl (zF h1 T.cJ T.kJ rfl (zV rfl (zV rfl (zO (zI (SqL.of h4) (at_of (j:=z - q) (by omega) (rT (Cj (by omega)))) (zO ⟨⟨some (.int (z:Int)),?_⟩,rfl⟩)))))))
   show [some (V.ref x),some (V.ref la),some (V.int (q:Int)),some (V.int (Builtin.bitOr ((r6 (fun y=>oset g (y - q)) (l.take i):Nat):Int) ((oset g (z - q):Nat):Int))),some (V.int (z:Int))]=_
   rw [Ag,List.take_add_one,hz,Option.toList_some,zf]
  ·rintro σ H' ⟨⟨v,rfl⟩,rfl⟩
   rw [aQ,List.take_length]
   exact zV rfl k
end HG
end
section
namespace HG
open PySem PySem.Spec PyProof.Rows L2
open PySem.W (Frag)
variable {P:Program} {w:World} {K:Frag} {mg:Str→Option Value} {base:Heap} {A:Ad}
def ky (m:Nat):Key:=Sum.inl (m:Int)
theorem Dz {a b:Nat} (h:ky a=ky b):a=b:=by
 unfold ky at h
 injection h with h
 omega
def dk (ms:List Nat) (f:Nat→V):List (Key×V):=ms.map fun m=>(ky m,f m)
theorem nt (ms:List Nat) (f:Nat→V):(dk ms f).length=ms.length:=by simp [dk]
theorem IT (ms:List Nat) (f:Nat→V):(dk ms f).map (fun p=>kV p.1)=nv ms:=by
 unfold dk nv
 rw [List.map_map]
 rfl
theorem Dl {f:Nat→V} {k:Nat}:∀ {ms:List Nat},k∈ms→vZ (dk ms f) (ky k)=some (f k)
 | m :: ms,h=>by
  show vZ ((ky m,f m) :: dk ms f) (ky k)=_
  by_cases e:m=k
  ·subst e; exact v9 rfl
  ·rw [sR (fun z=>e (Dz z))]
   exact Dl ((List.mem_cons.mp h).resolve_left (Ne.symm e))
theorem AX {f:Nat→V} {k:Nat}:∀ {ms:List Nat},k∉ms→vZ (dk ms f) (ky k)=none
 | [],_=>rfl
 | m :: ms,h=>by
  show vZ ((ky m,f m) :: dk ms f) (ky k)=_
  rw [sR (fun z=>h (by rw [← Dz z]; exact List.mem_cons_self))]
  exact AX fun z=>h (List.mem_cons_of_mem _ z)
theorem rq {f:Nat→V} {k:Nat} {v:V} {ms:List Nat} (h:k∉ms):putK (dk ms f) (ky k) v=dk (ms ++ [k]) (fun m=>if m=k then v else f m):=by
 unfold putK
 rw [if_neg (by rw [v8,AX h]; decide)]
 unfold dk
 rw [List.map_append,List.map_singleton]
 congr 1
 ·refine List.map_congr_left fun m hm=>?_
  show (ky m,f m)=(ky m,if m=k then v else f m)
  rw [if_neg (fun (z:m=k)=>h (z ▸ hm))]
 ·show [(ky k,v)]=[(ky k,if k=k then v else f k)]
  rw [if_pos rfl]
theorem Hj {f:Nat→V} {k:Nat} {v:V} {ms:List Nat} (h:k∈ms):putK (dk ms f) (ky k) v=dk ms (fun m=>if m=k then v else f m):=by
 unfold putK
 rw [if_pos (by rw [v8,Dl h]; rfl)]
 unfold dk
 rw [List.map_map]
 refine List.map_congr_left fun m hm=>?_
 show (if ky m=ky k then (ky m,v) else (ky m,f m))=(ky m,if m=k then v else f m)
 by_cases e:m=k
 ·subst e; rw [if_pos rfl,if_pos rfl]
 ·rw [if_neg (fun z=>e (Dz z)),if_neg e]
theorem km {f f':Nat→V} {ms:List Nat} (h:∀ m∈ms,f m=f' m):dk ms f=dk ms f':=by
 unfold dk
 exact List.map_congr_left fun m hm=>by rw [h m hm]
theorem nF:ay ["self","met","stocks","found","catch","after"] ["self","met"] (au j9):=⟨rfl,rfl,rfl,by decide +kernel,rfl,by decide +kernel,by decide +kernel⟩
def DT (A:Ad):Sp:=fun vs H Q _=>∃ (x:Addr) (g:Vbecag.Growth) (r:Vbecag.Rule) (m:Nat),vs=[.ref x,.int (m:Int)]∧AJ A H x g r∧WfG g∧WfR g r∧m≠0∧m < 2 ^ (g.n + 1) ∧
 ∀ H' l ts,H l=none→H' l=some (.lst (nv ts))→(∀ t,t∈ts↔NX g r m t)→ts.length≤100→aE H H'→Q (.ref l) H'
theorem ux (T:Txt K mg A):Fok P w K mg base 2 A.eg ["self","met"] (DT A):=by
 obtain⟨fd,F⟩:=T.gZ
 obtain⟨fdM,GM,bM⟩:=wH (P:=P) (w:=w) (base:=base) T
 obtain⟨fdA,GA,bA⟩:=uy (P:=P) (w:=w) (base:=base) T
 obtain⟨fdL,GL,bL⟩:=mF (P:=P) (w:=w) (base:=base) T
 refine⟨fd,?_,F.b2 fun _ _ _ _ _ _ _ _=>rfl⟩
 refine F.okX nF (fun vs H Q E h=>?_) (fun cdv A' outer s H vs Q E hr h=>?_)
 ·exact zL4 (fun _ _ _ _=>rfl) h
 ·revert h; refine zG4 fun x g r m zz=>?_; obtain⟨rfl,B,W,WR,h0,hm,k⟩:=zz
  have nd:=nF.nd
  have n50:=W.n50
  have hmost:=WR.most
  have hr1:cf 1 _:=hr.mono (by decide)
  refine⟨_,ae (aD (i:=2) nd rfl (Or.inl rfl) (bz (E:=EN) (pv 0) T.cJ T.wC GM hr1 bM .nil aT (aa (pv 1) ai)))
   (ae (aD (i:=3) nd rfl (Or.inl rfl) vN)
   (ae (iB PassesOwn.leaving rfl (F4 rfl T.fT (aa (aw (aw (pv 0) rfl) rfl) (aa (bj iz (aO (Fj rfl) (by rfl) T.Aa (by kernel_rfl) (aa (aw (aw (pv 0) rfl) rfl) (aa (aS aG (pv 2) az (fun _ _=>rfl)) ai))) az) ai))) (aL (i:=4) nd rfl (Or.inl rfl))
    (ae (aD (i:=5) nd rfl (Or.inl rfl) (bz (E:=EN) (pv 0) T.cJ T.ur GA hr1 bA .nil aT (aa (pv 2) (aa (pv 4) ai))))
    (ak (iC (wW (gc (bz (E:=EN) (pv 0) T.cJ T.mE GL hr1 bL .nil aT (aa (pv 5) ai)))) (ak (tF (mD hr) (pv 3) (pv 5) sg rfl)) cu))))
   (ak (aF (tx (AO rfl) rfl T.we rfl (aa (pv 3) ai)))))),?_⟩
  obtain⟨dx,ar,lm,los,h1,⟨dr,h2⟩,h3,h4⟩:=id B
  refine zV rfl (zM h1 rfl (zV rfl (zE4 x g r m ⟨rfl,B,W,fun H1 la fla hla s1=>?_⟩)))
  refine fun D fD=>?_
  have s2:=aE.upd (o:=HO.dK []) fD
  have s12:=s1.trans s2
  have fD0:H D=none:=s1.free fD
  cases ef:(nQ g m)[0]? with
  | none =>
   have:=Ba h0 hm
   cases q:nQ g m with
   | nil=>exact absurd q this
   | cons a l=>rw [q] at ef; cases ef
  | some f =>
   obtain⟨hf1,hf2⟩:=DE ef
   have hfn:f≤g.n:=(lY.mp hf1).1
   refine zV rfl (zF (s12 _ _ h1) T.cJ T.lJ rfl (zF (s12 _ _ h2) T.bh T.gP rfl (zV rfl (zF (s12 _ _ h1) T.cJ T.lJ rfl (zF (s12 _ _ h2) T.bh T.fY rfl (zV rfl (zI (SqL.of (s2 _ _ hla)) (at_of (j:=0) rfl (rT ef)) (zE2 _ _ ⟨rfl,zO (zE2 _ _ ⟨rfl,?_,?_⟩)⟩))))))))
   ·have hlm:=WR.lm
    refine⟨by omega,by omega,?_,?_⟩
    ·show _≤(if (f:Int) < (r.most:Int) then (f:Int) else (r.most:Int)) + 1
     split<;>omega
    ·show (if (f:Int) < (r.most:Int) then (f:Int) else (r.most:Int)) + 1 < _
     split<;>omega
   have en:((if (f:Int) < (r.most:Int) then (f:Int) else (r.most:Int)) + 1 - (r.least:Int)).toNat=min r.most f + 1 - r.least:=by
    split<;>omega
   show ∃ W,_
   refine sX (lo:=(r.least:Int)) (n:=((if (f:Int) < (r.most:Int) then (f:Int) else (r.most:Int)) + 1 - (r.least:Int)).toNat) (fun i σ H'=>(∃ v4 v5,σ=[some (.ref x),some (.int (m:Int)),some (.ref la),some (.ref D),v4,v5])∧aE H1 H'∧∃ ts:List Nat,H' D=some (.dK (dk ts fun _=>.bl true))∧ts.length≤i∧∀ t,t∈ts↔∃ q,r.least≤q∧q < r.least + i∧t=aft g m q∧uo r t=false)
    ⟨⟨none,none,rfl⟩,s2,[],af,Nat.le_refl _,fun t=>⟨(fun z=>nomatch z),fun ⟨q,a,b,_⟩=>absurd a (by omega)⟩⟩ ?_ ?_
   ·rintro i σ H' hi ⟨⟨v4,v5,rfl⟩,sH,ts,hD,hlen,hts⟩
    rw [en] at hi
    have B':=B.keep (s1.trans sH)
    obtain⟨dx',_,_,_,hx',_⟩:=id B'
    rw [show ((r.least:Int) + (i:Int))=((r.least + i:Nat):Int) from by omega]
    refine zV rfl (zM hx' rfl (zV rfl (zV rfl (zE6 x la g r (nQ g m) (r.least + i) ⟨rfl,B',sH _ _ hla,fun y hy=>⟨by have:=hf2 y hy; omega,(lY.mp hy).1⟩,?_⟩))))
    refine zX rfl (zM hx' rfl (zX rfl ⟨x,g,r,aft g m (r.least + i),rfl,B',WR.low,zX rfl ?_⟩))
    cases c:uo r (aft g m (r.least + i)) with
    | true =>
     refine qN ⟨⟨_,_,rfl⟩,sH,ts,hD,by omega,fun t=>?_⟩
     rw [hts]
     constructor
     ·rintro ⟨q,a,b,c1,c2⟩; exact⟨q,a,by omega,c1,c2⟩
     ·rintro ⟨q,a,b,c1,c2⟩
      refine⟨q,a,Nat.lt_of_le_of_ne (by omega) fun z=>?_,c1,c2⟩
      rw [c1,z,c] at c2; cases c2
    | false =>
     refine nP (zV rfl (zV rfl (zE2 D _ ⟨rfl,zH.k (k:=ky (aft g m (r.least + i))) hD (by rw [nt,sizeLine_eq]; omega),⟨_,_,rfl⟩,fun b o e=>by rw [aj (aq e fD)]; exact sH _ _ e,?_⟩)))
     by_cases hin:aft g m (r.least + i)∈ts
     ·refine⟨ts,?_,by omega,fun t=>?_⟩
      ·rw [af,Hj hin]
       congr 2
       exact km fun m _=>by split<;>rfl
      ·rw [hts]
       constructor
       ·rintro ⟨q,a,b,c1,c2⟩; exact⟨q,a,by omega,c1,c2⟩
       ·rintro ⟨q,a,b,c1,c2⟩
        by_cases z:q=r.least + i
        ·rw [z] at c1
         rw [← c1] at hin
         exact (hts t).mp hin
        ·exact⟨q,a,by omega,c1,c2⟩
     ·refine⟨ts ++ [aft g m (r.least + i)],?_,by rw [List.length_append]; show ts.length + 1≤_; omega,fun t=>?_⟩
      ·rw [af,rq hin]
       congr 2
       exact km fun m _=>by split<;>rfl
      ·rw [List.mem_append,List.mem_singleton,hts]
       constructor
       ·rintro (⟨q,a,b,c1,c2⟩ | rfl)
        ·exact⟨q,a,by omega,c1,c2⟩
        ·exact⟨_,by omega,by omega,rfl,c⟩
       ·rintro ⟨q,a,b,c1,c2⟩
        by_cases z:q=r.least + i
        ·exact .inr (by rw [c1,z])
        ·exact .inl ⟨q,a,by omega,c1,c2⟩
   ·rintro σ H' ⟨⟨v4,v5,rfl⟩,sH,ts,hD,hlen,hts⟩
    rw [en] at hlen hts
    refine zV rfl (zE2 D _ ⟨rfl,hD,fun l fl=>?_⟩)
    rw [IT]
    have s5:=(s1.trans sH).trans (aE.upd (o:=HO.lst (nv ts)) fl)
    refine k _ l ts ((s1.trans sH).free fl) af (fun t=>?_) (by omega) s5
    rw [hts]
    unfold NX
    constructor
    ·rintro ⟨q,a,b,c1,c2⟩
     exact⟨q,⟨a,by omega,fun y hy=>by have:=hf2 y hy; omega⟩,c1,c2⟩
    ·rintro ⟨q,⟨a,b,c0⟩,c1,c2⟩
     have:=c0 f hf1
     exact⟨q,a,by omega,c1,c2⟩
end HG
end
section
namespace HG
section
open Vbecag VM
structure Grf (g:Growth) (r:Rule) (m0:Nat) (cs ds ms ws:List Nat) (N:Nat→List Nat):Prop where
 ndm:ms.Nodup
 nd:(ds ++ ws).Nodup
 mem:∀ m,m∈ms↔m∈ds ++ ws
 re:∀ t∈ms,Reach g r (U g m0) (U g t)
 ok:∀ t∈ms,t≠0∧t < 2 ^ (g.n + 1)
 inn:m0∈ms
 nx:∀ m∈ds,∀ t,t∈N m↔NX g r m t
 cl:∀ m∈cs,∀ t∈N m,t∈ms
theorem Grf.start {g:Growth} {r:Rule} {m0:Nat} (h0:m0≠0) (hm:m0 < 2 ^ (g.n + 1)):Grf g r m0 [] [] [m0] [m0] (fun _=>[]) :=
 ⟨by simp,by simp,fun m=>by simp,fun t ht=>by rw [List.mem_singleton.mp ht]; exact .refl,fun t ht=>by rw [List.mem_singleton.mp ht]; exact⟨h0,hm⟩,List.mem_cons_self,(fun _ h=>nomatch h),(fun _ h=>nomatch h)⟩
theorem Grf.small {g:Growth} {r:Rule} {m0:Nat} {cs ds ms ws:List Nat} {N:Nat→List Nat} (G:Grf g r m0 cs ds ms ws N):ds.length + ws.length≤ms.length:=by
 have:=rS G.nd fun t ht=>(G.mem t).mpr ht
 rwa [List.length_append] at this
theorem Grf.take {g:Growth} {r:Rule} {m0 one:Nat} {cs ds ms ws ts:List Nat} {N:Nat→List Nat} (G:Grf g r m0 cs ds ms (ws ++ [one]) N) (hcs:cs=ds) (ht:∀ t,t∈ts↔NX g r one t):one∉ds∧one∈ms∧Grf g r m0 ds (ds ++ [one]) ms ws (fun m=>if m=one then ts else N m):=by
 subst hcs
 have hnd:=G.nd
 rw [List.nodup_append] at hnd
 obtain⟨n1,n2,n3⟩:=hnd
 have hno:one∉cs:=fun z=>n3 one z one (List.mem_append_right _ List.mem_cons_self) rfl
 rw [List.nodup_append] at n2
 have hmem:∀ m,m∈ms↔m∈(cs ++ [one]) ++ ws:=fun m=>by
  rw [G.mem]
  simp only [List.mem_append,List.mem_singleton]
  constructor
  ·rintro (h | h | h)
   ·exact .inl (.inl h)
   ·exact .inr h
   ·exact .inl (.inr h)
  ·rintro ((h | h) | h)
   ·exact .inl h
   ·exact .inr (.inr h)
   ·exact .inr (.inl h)
 refine⟨hno,(hmem one).mpr (List.mem_append_left _ (List.mem_append_right _ List.mem_cons_self)),G.ndm,?_,hmem,G.re,G.ok,G.inn,fun m hm t=>?_,fun m hm t ht'=>?_⟩
 ·rw [List.nodup_append]
  refine⟨?_,n2.1,fun a ha b hb=>?_⟩
  ·rw [List.nodup_append]
   exact⟨n1,by simp,fun a ha b hb=>by rw [List.mem_singleton.mp hb]; exact fun z=>hno (z ▸ ha)⟩
  ·rcases List.mem_append.mp ha with ha | ha
   ·exact n3 a ha b (List.mem_append_left _ hb)
   ·rw [List.mem_singleton.mp ha]
    exact fun z=>n2.2.2 b hb one List.mem_cons_self z.symm
 ·by_cases e:m=one
  ·subst e; simp only [if_pos rfl]; exact ht t
  ·simp only [if_neg e]
   exact G.nx m ((List.mem_append.mp hm).resolve_right fun z=>e (List.mem_singleton.mp z)) t
 ·have e:m≠one:=fun z=>hno (z ▸ hm)
  simp only [if_neg e] at ht'
  exact G.cl m hm t ht'
theorem Grf.meet {g:Growth} {r:Rule} (W:WfG g) {m0 one other:Nat} {cs ds ms ws:List Nat} {N:Nat→List Nat} (G:Grf g r m0 cs ds ms ws N) (h1:one∈ms) (h2:NX g r one other) (h3:other∉ms):Grf g r m0 cs ds (ms ++ [other]) (ws ++ [other]) N:=by
 have hok:=h2.ok W (G.ok one h1).1 (G.ok one h1).2
 refine⟨?_,?_,fun m=>?_,fun t ht=>?_,fun t ht=>?_,List.mem_append_left _ G.inn,G.nx,fun m hm t ht=>List.mem_append_left _ (G.cl m hm t ht)⟩
 ·rw [List.nodup_append]
  exact⟨G.ndm,by simp,fun a ha b hb=>by rw [List.mem_singleton.mp hb]; exact fun z=>h3 (z ▸ ha)⟩
 ·rw [← List.append_assoc,List.nodup_append]
  exact⟨G.nd,by simp,fun a ha b hb=>by rw [List.mem_singleton.mp hb]; exact fun z=>h3 ((G.mem other).mpr (z ▸ ha))⟩
 ·rw [← List.append_assoc,List.mem_append,List.mem_append (s:=ds ++ ws),G.mem]
 ·rcases List.mem_append.mp ht with ht | ht
  ·exact G.re t ht
  ·rw [List.mem_singleton.mp ht]
   exact .step (G.re one h1) ((xU W (G.ok one h1).1 (G.ok one h1).2).mpr ⟨other,h2,rfl⟩)
 ·rcases List.mem_append.mp ht with ht | ht
  ·exact G.ok t ht
  ·rw [List.mem_singleton.mp ht]; exact hok
end
open PySem PySem.Spec PyProof.Rows L2
open PySem.W (Frag)
variable {P:Program} {w:World} {K:Frag} {mg:Str→Option Value} {base:Heap} {A:Ad}
structure GH (H':Hp) (Df Dm Dw:Addr) (ds ms ws:List Nat) (ad:Nat→Addr) (N:Nat→List Nat):Prop where
 f:H' Df=some (.dK (dk ds fun m=>.ref (ad m)))
 m:H' Dm=some (.dK (dk ms fun _=>.bl true))
 w:H' Dw=some (.lst (nv ws))
 n:∀ d∈ds,H' (ad d)=some (.lst (nv (N d)))∧ad d≠Dw
theorem xu:ay ["blind","first","following","met","waiting","one","other"] ["blind","first"] (au uh):=⟨rfl,rfl,rfl,by decide +kernel,rfl,by decide +kernel,by decide +kernel⟩
structure Lk (g:Vbecag.Growth) (r:Vbecag.Rule) (m0:Nat) (ms:List Nat) (N:Nat→List Nat):Prop where
 nd:ms.Nodup
 re:∀ t∈ms,VM.Reach g r (U g m0) (U g t)
 ok:∀ t∈ms,t≠0∧t < 2 ^ (g.n + 1)
 inn:m0∈ms
 nx:∀ m∈ms,∀ t,t∈N m↔NX g r m t
 cl:∀ m∈ms,∀ t∈N m,t∈ms
 len:ms.length≤300
def LK (K:Frag) (A:Ad):Sp:=fun vs H Q E=>∃ (x:Addr) (g:Vbecag.Growth) (r:Vbecag.Rule) (m0:Nat),vs=[.ref x,.int (m0:Int)]∧AJ A H x g r∧WfG g∧WfR g r∧m0≠0∧m0 < 2 ^ (g.n + 1) ∧
 (∀ (H':Hp) (D:Addr) (ms:List Nat) (ad:Nat→Addr) (N:Nat→List Nat),H D=none→H' D=some (.dK (dk ms fun m=>.ref (ad m)))→(∀ m∈ms,H' (ad m)=some (.lst (nv (N m))))→(∀ m∈ms,(N m).length≤100)→Lk g r m0 ms N→aE H H'→Q (.ref D) H') ∧
 ((∃ ms:List Nat,ms.Nodup∧(∀ t∈ms,VM.Reach g r (U g m0) (U g t))∧(∀ t∈ms,t≠0∧t < 2 ^ (g.n + 1))∧300 < ms.length)→Ref K A (-8) H E)
theorem lD {H:Hp} {a:Addr} {ms:List Nat} {f:Nat→V} {k:Nat} (h:Rd H a (.dK (dk ms f))) (hk:k∈ms):E6 H a (.int (k:Int)) (some (f k)):=.inl ⟨_,ky k,h,rfl,(Dl hk).symm⟩
theorem Cf (T:Txt K mg A):Fok P w K mg base 4 A.k9 ["blind","first"] (LK K A):=by
 obtain⟨fd,F⟩:=T.mZ
 obtain⟨tk,hMS⟩:=T.oh
 obtain⟨fdN,GN,bN⟩:=ux (P:=P) (w:=w) (base:=base) T
 obtain⟨fdO,GO,bO⟩:=tP (P:=P) (w:=w) (base:=base) T
 refine⟨fd,?_,F.b2 fun _ _ _ _ _ _ _ _=>rfl⟩
 refine F.okX xu (fun vs H Q E h=>?_) (fun cdv A' outer s H vs Q E hr h=>?_)
 ·exact zL4 (fun _ _ _ _=>rfl) h
 ·revert h; refine zG4 fun x g r m0 zz=>?_; obtain⟨rfl,B,W,WR,h0,hm,k1,k2⟩:=zz
  have nd:=xu.nd
  refine⟨_,ae (aD (i:=2) nd rfl (Or.inl rfl) vN)
   (ae (aD (i:=3) nd rfl (Or.inl rfl) (Jp (HW (pv 1) sg Js) rfl rfl (by simp) (by decide)))
   (ae (aD (i:=4) nd rfl (Or.inl rfl) (bQ (aa (pv 1) ai)))
   (ae (js PassesOwn.leaving (bx (qD (aO aN (by rfl) T.eO PySem.boot_len (aa (pv 4) ai)) az))
    (ae (aD (i:=5) nd rfl (Or.inl rfl) (HN PySem.F.plainAttrs_list PySem.F.slot_list_pop PySem.F.type_list_pop HC (pv 4)))
    (ae (tF (mD hr) (pv 2) (pv 5) (bz (E:=EN) (pv 0) T.cJ T.uq GN (hr.mono (by decide)) bN .nil aT (aa (pv 5) ai)) rfl)
    (ae (iB PassesOwn.leaving rfl (aY (mV (mD hr) (pv 2) (pv 5) (fun _ _=>rfl))) (aL (i:=6) nd rfl (Or.inl rfl))
     (ak (iC (bx (F3 (mD hr) (pv 6) (pv 3))) (ae (tF (mD hr) (pv 3) (pv 6) sg rfl) (ak (aK (qE PySem.F.plainAttrs_list PySem.F.slot_list_append PySem.F.type_list_append fE (pv 4) (aa (pv 6) ai))))) cu)))
    (ak (iC (bx (qD (aO Fi (by rfl) T.eO PySem.boot_len (aa (pv 3) ai)) (vO (v:=.int 300) rfl hMS ⟨tk,rfl⟩))) (ak (fG (dC T.zE GO hr rfl T.lF bO .nil ax.passes) ax rfl)) cu))))))
   (ak (aF (pv 2)))))),?_⟩
  refine fun Df fDf=>?_
  have s1:=aE.upd (o:=HO.dK []) fDf
  refine fun Dm fDm=>zV rfl ⟨af,[(ky m0,.bl true)],rfl,by simp,?_⟩
  rw [bo]
  have s2:=aE.upd (o:=HO.dK (uv [] [(ky m0,V.bl true)])) fDm
  have fm:H Dm=none:=s1.free fDm
  have nfm:Df≠Dm:=aq (af (H:=H) (a:=Df) (o:=HO.dK [])) fDm
  refine zV rfl ⟨by show 1≤sizeLine; decide,fun Dw fDw=>?_⟩
  have s3:=aE.upd (o:=HO.lst [V.int (m0:Int)]) fDw
  have s13:=(s1.trans s2).trans s3
  have fw:H Dw=none:=(s1.trans s2).free fDw
  have nfw:Df≠Dw:=aq (s2 _ _ (af (H:=H) (a:=Df) (o:=HO.dK []))) fDw
  have nmw:Dm≠Dw:=aq (af (H:=upd H Df (.dK [])) (a:=Dm) (o:=HO.dK (uv [] [(ky m0,V.bl true)]))) fDw
  let IV:Nat→L2.St→Hp→Prop:=fun μ σ H'=>∃ (ds ms ws:List Nat) (ad:Nat→Addr) (N:Nat→List Nat),(∃ v5 v6,σ=[some (.ref x),some (.int (m0:Int)),some (.ref Df),some (.ref Dm),some (.ref Dw),v5,v6])∧aE H H'∧GH H' Df Dm Dw ds ms ws ad N∧Grf g r m0 ds ds ms ws N∧(∀ d∈ds,(N d).length≤100)∧ms.length≤300∧μ=301 - ds.length
  refine⟨IV,⟨_,[],[m0],[m0],fun _=>0,fun _=>[],⟨none,none,rfl⟩,s13,⟨?_,?_,af,(fun _ h=>nomatch h)⟩,.start h0 hm,(fun _ h=>nomatch h),by simp,rfl⟩,?_⟩
  ·rw [aj nfw,aj nfm,af]; rfl
  ·rw [aj nmw,af]; rfl
  rintro μ σ H' ⟨ds,ms,ws,ad,N,⟨v5,v6,rfl⟩,sH,Y,Gr,hNl,hml,rfl⟩
  refine zX rfl ⟨Dw,zX rfl ⟨.inl (SqL.of Y.w),zO (zX rfl ?_)⟩⟩
  rw [aQ]
  refine ko (fun c=>?_) fun c=>?_
  ·have c:ws≠[]:=fun e=>by
    have:=of_decide_eq_true c
    rw [e] at this
    simp at this
   refine⟨fun σ' H''=>∃ m',m' < 301 - ds.length∧IV m' σ' H'',fun _ _ q=>q,?_⟩
   obtain⟨wt,one,rfl⟩:∃ wt one,ws=wt ++ [one]:=⟨_,_,(List.dropLast_concat_getLast c).symm⟩
   have hw:=Y.w
   rw [iS] at hw
   refine zV rfl ⟨.inl ⟨rfl,_,SqL.of hw⟩,Dw,_,.int (one:Int),rfl,rfl,hw,by rw [List.length_append,List.getElem?_append_right (by simp)]; simp,?_⟩
   rw [List.dropLast_concat]
   have s4:aE H (upd H' Dw (.lst (nv wt))):=fun b o e=>by rw [aj (aq e fw)]; exact sH _ _ e
   have B4:=B.keep s4
   obtain⟨dx,_,_,_,hx4,_⟩:=id B4
   have hone:one∈ms:=(Gr.mem one).mpr (List.mem_append_right _ (List.mem_append_right _ List.mem_cons_self))
   refine zV rfl (zM hx4 rfl (zV rfl (zE4 x g r one ⟨rfl,B4,W,WR,(Gr.ok one hone).1,(Gr.ok one hone).2,fun H5 l ts fl hl hts htl s5=>?_⟩)))
   obtain⟨hno,_,G5⟩:=Gr.take rfl hts
   have hf5:H5 Df=some (.dK (dk ds fun m=>.ref (ad m))):=s5 _ _ (by rw [aj nfw]; exact Y.f)
   have hm5:H5 Dm=some (.dK (dk ms fun _=>.bl true)):=s5 _ _ (by rw [aj nmw]; exact Y.m)
   have hw5:H5 Dw=some (.lst (nv wt)):=s5 _ _ af
   have hlw:l≠Dw:=fun z=>by rw [z,af] at fl; cases fl
   have hlf:l≠Df:=hW hl hf5 (by intro z; cases z)
   have hsm:=Gr.small
   rw [List.length_append] at hsm
   have hsm:ds.length + (wt.length + 1)≤ms.length:=hsm
   refine zV rfl (zV rfl (zE2 Df _ ⟨rfl,zH.k (k:=ky one) hf5 (by rw [nt,sizeLine_eq]; omega),?_⟩))
   rw [rq hno]
   let ad':Nat→Addr:=fun m=>if m=one then l else ad m
   have e6:dk (ds ++ [one]) (fun m=>if m=one then V.ref l else V.ref (ad m))=dk (ds ++ [one]) fun m=>.ref (ad' m):=km fun m _=>by
    show (if m=one then V.ref l else V.ref (ad m))=V.ref (if m=one then l else ad m)
    split<;>rfl
   rw [e6]
   have s6:aE H (upd H5 Df (.dK (dk (ds ++ [one]) fun m=>.ref (ad' m)))):=fun b o e=>by rw [aj (aq e fDf)]; exact s5 _ _ (s4 _ _ e)
   have Y6:GH (upd H5 Df (.dK (dk (ds ++ [one]) fun m=>.ref (ad' m)))) Df Dm Dw (ds ++ [one]) ms wt ad' (fun m=>if m=one then ts else N m):=by
    refine⟨af,by rw [aj (Ne.symm nfm)]; exact hm5,by rw [aj (Ne.symm nfw)]; exact hw5,fun d hd=>?_⟩
    by_cases e:d=one
    ·subst e
     simp only [ad',if_pos rfl]
     exact⟨by rw [aj hlf]; exact hl,hlw⟩
    ·have hd:=(List.mem_append.mp hd).resolve_right fun z=>e (List.mem_singleton.mp z)
     obtain⟨q1,q2⟩:=Y.n d hd
     simp only [ad',if_neg e]
     have q3:H5 (ad d)=some (.lst (nv (N d))):=s5 _ _ (by rw [aj q2]; exact q1)
     exact⟨by rw [aj (hW q3 hf5 (by intro z; cases z))]; exact q3,q2⟩
   have eone:ad' one=l:=by simp only [ad',if_pos rfl]
   have hNl':∀ d∈ds ++ [one],((fun m=>if m=one then ts else N m) d).length≤100:=fun d hd=>by
    by_cases e:d=one
    ·simp only [if_pos e]; exact htl
    ·simp only [if_neg e]
     exact hNl d ((List.mem_append.mp hd).resolve_right fun z=>e (List.mem_singleton.mp z))
   refine⟨_,rfl,_,rfl,Df,_,rfl,lD (.inl Y6.f) (List.mem_append_right _ List.mem_cons_self),l,by rw [eone],⟨_,SqL.of (by rw [aj hlf]; exact hl)⟩,jl (K:=K) (a:=l) (xs:=nv ts) (fun j σ H'=>∃ (ms ws:List Nat),(∃ v6,σ=[some (.ref x),some (.int (m0:Int)),some (.ref Df),some (.ref Dm),some (.ref Dw),some (.int (one:Int)),v6])∧aE H H'∧GH H' Df Dm Dw (ds ++ [one]) ms ws ad' (fun m=>if m=one then ts else N m)∧Grf g r m0 ds (ds ++ [one]) ms ws (fun m=>if m=one then ts else N m)∧one∈ms∧(∀ t∈ts.take j,t∈ms)∧ms.length≤300 + j∧ws.length≤300 + j)
    ⟨ms,wt,⟨_,rfl⟩,s6,Y6,G5,hone,(fun t ht=>by simp at ht),by omega,by omega⟩ (fun j σ H' _ ⟨ms,ws,_,_,Y',_⟩=>SqL.of (by
     have:=(Y'.n one (List.mem_append_right _ List.mem_cons_self)).1
     rw [eone] at this
     simp only [if_pos rfl] at this
     exact this)) ?_ ?_⟩
   ·rintro j y σ H7 hj ⟨ms,ws,⟨v6,rfl⟩,s7,Y7,G7,ho7,ht7,hl7,hl7'⟩
    obtain⟨t,ht,rfl⟩:=lg hj
    have hjl:j < ts.length:=(List.getElem?_eq_some_iff.mp ht).1
    have hnx:NX g r one t:=(hts t).mp (List.mem_of_getElem? ht)
    by_cases hin:t∈ms
    ·refine zX rfl (zX rfl ⟨Dm,zX rfl ⟨lD (.inl Y7.m) hin,zX rfl (qN ⟨ms,ws,⟨_,rfl⟩,s7,Y7,G7,ho7,fun t' ht'=>?_,by omega,by omega⟩)⟩⟩)
     rcases eL ht ht' with h | h
     ·exact ht7 t' h
     ·rw [h]; exact hin
    ·refine zX rfl (zX rfl ⟨Dm,none,rfl,.inl ⟨_,ky t,.inl Y7.m,rfl,(AX hin).symm⟩,zX rfl (nP ?_)⟩)
     refine zV rfl (zV rfl (zE2 Dm _ ⟨rfl,zH.k (k:=ky t) Y7.m (by rw [nt,sizeLine_eq]; omega),?_⟩))
     rw [rq hin,km (f':=fun _=>V.bl true) fun m _=>by split<;>rfl]
     have hw8:(upd H7 Dm (.dK (dk (ms ++ [t]) fun _=>V.bl true))) Dw=some (.lst (nv ws)):=by rw [aj (Ne.symm nmw)]; exact Y7.w
     refine zV rfl ⟨.inl ⟨rfl,_,SqL.of hw8⟩,zV rfl (zE3 Dw _ _ ⟨rfl,rfl,hw8,by rw [aQ,sizeLine_eq]; omega,?_⟩)⟩
     rw [← iS]
     refine⟨ms ++ [t],ws ++ [t],⟨_,rfl⟩,fun b o e=>?_,⟨?_,?_,af,fun d hd=>?_⟩,G7.meet W ho7 hnx hin,List.mem_append_left _ ho7,fun t' ht'=>?_,by rw [List.length_append]; show ms.length + 1≤_; omega,by rw [List.length_append]; show ws.length + 1≤_; omega⟩
     ·rw [aj (aq e fw),aj (aq e fm)]; exact s7 _ _ e
     ·rw [aj nfw,aj nfm]; exact Y7.f
     ·rw [aj nmw,af]
     ·obtain⟨q1,q2⟩:=Y7.n d hd
      exact⟨by rw [aj q2,aj (hW q1 Y7.m (by intro z; cases z))]; exact q1,q2⟩
     ·rcases eL ht ht' with h | h
      ·exact List.mem_append_left _ (ht7 t' h)
      ·rw [h]; exact List.mem_append_right _ List.mem_cons_self
   ·rintro σ H7 ⟨ms,ws,⟨v6,rfl⟩,s7,Y7,G7,ho7,ht7,hl7,hl7'⟩
    rw [aQ,List.take_length] at ht7
    refine zX rfl ⟨Dm,zX rfl ⟨Y7.m,zO (zX rfl ?_)⟩⟩
    rw [nt]
    refine ko (fun c=>?_) fun c=>?_
    ·have c:300 < ms.length:=by have:=of_decide_eq_true c; omega
     exact eI T.zC T.qw T.qR ((k2 ⟨ms,G7.ndm,G7.re,G7.ok,c⟩).same s7)
    ·have c:ms.length≤300:=Nat.le_of_not_lt fun z=>c (decide_eq_true (show (300:Int) < ((ms.length:Nat):Int) by omega))
     refine⟨301 - (ds ++ [one]).length,?_,ds ++ [one],ms,ws,ad',_,⟨_,_,rfl⟩,s7,Y7,⟨G7.ndm,G7.nd,G7.mem,G7.re,G7.ok,G7.inn,G7.nx,fun m hm t ht=>?_⟩,hNl',c,rfl⟩
     ·have:=G7.small
      rw [List.length_append] at this ⊢
      show 301 - (ds.length + 1) < _
      have:ds.length + 1 + ws.length≤ms.length:=this
      omega
     ·by_cases e:m=one
      ·simp only [if_pos e] at ht
       exact ht7 t ht
      ·exact G7.cl m ((List.mem_append.mp hm).resolve_right fun z=>e (List.mem_singleton.mp z)) t ht
  ·have c:ws=[]:=by
    cases q:ws with
    | nil=>rfl
    | cons a l=>exact absurd (decide_eq_true (show (0:Int) < ((ws.length:Nat):Int) by rw [q]; simp)) c
   subst c
   have hmem:∀ m,m∈ms↔m∈ds:=fun m=>by rw [Gr.mem,List.append_nil]
   have hdl:ds.length≤300:=by have:=Gr.small; omega
   have hnd:=Gr.nd
   rw [List.append_nil] at hnd
   refine zV rfl (k1 H' Df ds ad N fDf Y.f (fun m hm=>(Y.n m hm).1) hNl ⟨hnd,fun t ht=>Gr.re t ((hmem t).mpr ht),fun t ht=>Gr.ok t ((hmem t).mpr ht),(hmem m0).mp Gr.inn,Gr.nx,fun m hm t ht=>(hmem t).mp (Gr.cl m hm t ht),hdl⟩ sH)
end HG
end
section
namespace HG
open PySem PySem.Spec PyProof.Rows L2
open PySem.W (Frag)
variable {P:Program} {w:World} {K:Frag} {mg:Str→Option Value} {base:Heap} {A:Ad}
theorem JY {ms:List Nat} {f:Nat→V} {i:Nat} {k:Key} {v:V} (h:(dk ms f)[i]?=some (k,v)):∃ m,ms[i]?=some m∧k=ky m:=by
 unfold dk at h
 rw [List.getElem?_map] at h
 cases e:ms[i]? with
 | none=>rw [e] at h; cases h
 | some m=>rw [e] at h; cases h; exact⟨m,rfl,rfl⟩
theorem Ds {d:Addr} {od:Obj} {ms:List Nat} {f:Nat→V} {g:TG} {tb:TS} {D:Ends} {σ:L2.St} {H:Hp} (Pv:Nat→L2.St→Hp→Prop) (h0:Pv 0 σ H) (hl:∀ i σ H,i≤ms.length→Pv i σ H→H d=some (.frz od (.dK (dk ms f))))
  (hs:∀ (i:Nat) m σ H,ms[i]?=some m→Pv i σ H→g (.int (m:Int)) σ H fun σ2 H2=>tb { D with nx:=Pv (i + 1),ct:=Pv (i + 1),bk:=D.nx } σ2 H2) (hd:∀ σ H,Pv ms.length σ H→D.nx σ H) :
  ∃ W:Nat→Nat→L2.St→Hp→Prop,(∃ m,W 0 m σ H)∧∀ i m σ H,W i m σ H →
   ((Itk d od (dk ms f)).stop i H∧D.nx σ H)∨((Itk d od (dk ms f)).go i H∧∃ N:L2.St→Hp→Prop,(∀ σ' H',N σ' H'→∃ m',m' < m∧W (i + 1) m' σ' H')∧∀ x H',(Itk d od (dk ms f)).yld i H x H'→g x σ H' fun σ2 H2=>tb { D with nx:=N,ct:=N,bk:=D.nx } σ2 H2):=by
 refine⟨fun i m σ H=>m=ms.length - i∧i≤ms.length∧Pv i σ H,⟨ms.length,by simp,Nat.zero_le _,h0⟩,?_⟩
 rintro i m σ H ⟨rfl,hi,p⟩
 have q:=hl i σ H hi p
 by_cases c:i < ms.length
 ·refine .inr ⟨⟨q,by rw [nt]; exact c⟩,Pv (i + 1),fun σ' H' p'=>⟨ms.length - (i + 1),by omega,rfl,c,p'⟩,?_⟩
  rintro x H' ⟨rfl,k,v,e,rfl⟩
  obtain⟨m,hm,rfl⟩:=JY e
  exact hs i m σ _ hm p
 ·have e:i=ms.length:=by omega
  subst e
  exact .inl ⟨⟨q,by rw [nt]; exact Nat.le_refl _⟩,hd σ H p⟩
theorem Jb {d D:Addr} {od:Obj} {ms:List Nat} {f:Nat→V} {tt:TT} {vs:List Nat} {σ:L2.St} {H1:Hp} {Qd:Hp→Prop} {j:Nat} (p:Nat→Bool) (hx:H1 d=some (.frz od (.dK (dk ms f)))) (hD:H1 D=none) (hz:ms.length≤100000) (hj:j < σ.length)
  (turn:∀ (i:Nat) (x:Nat) H,ms[i]?=some x→aE H1 H→∀ Z:Bool→Hp→Prop,(∀ H',aE H H'→Z (p x) H')→fM j (.int (x:Int)) (wipe σ vs) H fun σ2 H2=>wipe σ2 vs=wipe σ vs∧tt σ2 H2 Z)
  (fin:∀ H,H D=some (.lst (nv (ms.filter p)))→aE H1 H→Qd H):oF (Itk d od (dk ms f)) (fM j) tt (tY j) vs σ H1 D Qd:=by
 refine⟨fun i m H=>m=ms.length - i∧i≤ms.length∧Grows H1 D (nv ((ms.take i).filter p)) H,⟨_,rfl,Nat.zero_le _,.nil hD⟩,?_⟩
 rintro i m H ⟨rfl,hi,q⟩
 have hq:=q.same _ _ hx
 by_cases c:i < ms.length
 ·refine .inr ⟨⟨hq,by rw [nt]; exact c⟩,fun H=>Grows H1 D (nv ((ms.take (i + 1)).filter p)) H,fun H' p'=>⟨_,by omega,rfl,c,p'⟩,?_⟩
  rintro v H' ⟨rfl,k,y,e,rfl⟩
  obtain⟨x,hx',rfl⟩:=JY e
  refine turn i x _ hx' q.same _ fun H' s=>?_
  have q2:=q.on s
  rw [List.take_add_one,hx',Option.toList_some,List.filter_append,List.filter_cons,List.filter_nil]
  cases c2:p x with
  | true =>
   rw [if_pos rfl]
   refine⟨.int (x:Int),?_,_,q2.at_,?_,?_⟩
   ·rw [List.getElem?_set_self (by rw [jW]; exact hj)]; rfl
   ·have h1:=List.length_filter_le p (ms.take i)
    rw [List.length_take] at h1
    rw [aQ,sizeLine_eq]; omega
   ·rw [if_pos rfl,iS]
    exact q2.more hD (fun _ _ e=>e)
  | false =>
   rw [if_neg (by decide),if_neg (by decide),List.append_nil]
   exact q2
 ·refine .inl ⟨⟨hq,by rw [nt]; omega⟩,fin H ?_ q.same⟩
  have:=q.at_
  rw [List.take_of_length_le (by omega)] at this
  exact this
structure uT (d:Addr) (od:Obj) (u:HO) (H H':Hp):Prop where
 at_:H' d=some (.frz od u)
 same:∀ b o,b≠d→H b=some o→H' b=some o
theorem uT.off {d:Addr} {od:Obj} {u:HO} {H H':Hp} (s:uT d od u H H') (hd:H d=some u):aE H (upd H' d u):=fun b o e=>by
 by_cases c:b=d
 ·subst c; rw [hd] at e; cases e; exact af
 ·rw [aj c]; exact s.same _ _ c e
theorem uT.upd {d a:Addr} {od:Obj} {u o':HO} {H H':Hp} (s:uT d od u H H') (h1:a≠d) (h2:H a=none):uT d od u H (upd H' a o'):=⟨by rw [aj (Ne.symm h1)]; exact s.at_,fun b o hb e=>by rw [aj (aq e h2)]; exact s.same _ _ hb e⟩
def fH (N:Nat→List Nat) (ms:List Nat) (t:Nat):List Nat:=ms.flatMap fun m=>List.replicate ((N m).count t) m
theorem F6 (N:Nat→List Nat) (ms:List Nat) (m t:Nat):fH N (ms ++ [m]) t=fH N ms t ++ List.replicate ((N m).count t) m:=by
 unfold fH
 rw [List.flatMap_append]; simp
theorem zm {N:Nat→List Nat} {m t:Nat}:∀ {ms:List Nat},ms.Nodup→m∈ms→(fH N ms t).count m=(N m).count t
 | a :: ms,nd,h=>by
  rw [List.nodup_cons] at nd
  unfold fH
  rw [List.flatMap_cons,List.count_append,List.count_replicate]
  by_cases e:a=m
  ·subst e
   have:(ms.flatMap fun m=>List.replicate ((N m).count t) m).count a=0:=List.count_eq_zero.mpr fun z=>by
    obtain⟨b,hb,hz⟩:=List.mem_flatMap.mp z
    rw [List.eq_of_mem_replicate hz] at nd
    exact nd.1 hb
   rw [this]; simp
  ·rw [if_neg (by simpa using e)]
   have:=zm (N:=N) (t:=t) nd.2 ((List.mem_cons.mp h).resolve_left (Ne.symm e))
   unfold fH at this
   omega
theorem Ib {N:Nat→List Nat} {ms:List Nat} {m t:Nat} (h:m∈fH N ms t):m∈ms:=by
 obtain⟨b,hb,hz⟩:=List.mem_flatMap.mp h
 rw [List.eq_of_mem_replicate hz]; exact hb
theorem Cq {N:Nat→List Nat} {t c:Nat}:∀ {ms:List Nat},(∀ m∈ms,(N m).length≤c)→(fH N ms t).length≤ms.length * c
 | [],_=>by simp [fH]
 | a :: ms,h=>by
  unfold fH
  rw [List.flatMap_cons,List.length_append,List.length_replicate,List.length_cons,Nat.add_mul]
  have h1:=Cq (N:=N) (t:=t) (ms:=ms) fun m hm=>h m (List.mem_cons_of_mem _ hm)
  have h2:=h a List.mem_cons_self
  have h3:(N a).count t≤(N a).length:=List.count_le_length
  unfold fH at h1
  omega
theorem sN:ay ["following","before","one","other"] ["following"] (au oX):=⟨rfl,rfl,rfl,by decide +kernel,rfl,by decide +kernel,by decide +kernel⟩
structure GD (H:Hp) (Df:Addr) (ms:List Nat) (ad:Nat→Addr) (N:Nat→List Nat):Prop where
 f:H Df=some (.dK (dk ms fun m=>.ref (ad m)))
 n:∀ m∈ms,H (ad m)=some (.lst (nv (N m)))
def Ih:Sp:=fun vs H Q _=>∃ (Df:Addr) (ms:List Nat) (ad:Nat→Addr) (N:Nat→List Nat),vs=[.ref Df]∧GD H Df ms ad N∧ms.Nodup∧(∀ m∈ms,∀ t∈N m,t∈ms)∧(∀ m∈ms,(N m).length≤100)∧ms.length≤300 ∧
 ∀ (H':Hp) (D:Addr) (bd:Nat→Addr),H D=none→GD H' D ms bd (fH N ms)→aE H H'→Q (.ref D) H'
theorem ze (T:Txt K mg A):Fok P w K mg base 1 A.gL ["following"] Ih:=by
 obtain⟨fd,F⟩:=T.jh
 refine⟨fd,?_,F.b1 fun _ _ _ _ _ _ _=>rfl⟩
 refine F.okX sN (fun vs H Q E h=>?_) (fun cdv A' outer s H vs Q E hr h=>?_)
 ·exact zL4 (fun _ _ _ _=>rfl) h
 ·revert h; refine zG4 fun Df ms ad N zz=>?_; obtain⟨rfl,⟨hf,hn⟩,nd0,hcl,hNl,hml,k⟩:=zz
  have nd:=sN.nd
  refine⟨_,ae (aD (i:=1) nd rfl (Or.inl rfl) vN)
   (ae (yb (iB PassesOwn.leaving rfl (ya (pv 0)) (aL (i:=2) nd rfl (Or.inl rfl)) (ak (tF (mD hr) (pv 1) (pv 2) (bQ ai) rfl))))
   (ae (yb (iB PassesOwn.leaving rfl (ya (pv 0)) (aL (i:=2) nd rfl (Or.inl rfl))
    (ak (iB PassesOwn.leaving rfl (aY (mV (mD hr) (pv 0) (pv 2) (fun _ _=>rfl))) (aL (i:=3) nd rfl (Or.inl rfl))
     (ak (aK (qE PySem.F.plainAttrs_list PySem.F.slot_list_append PySem.F.type_list_append fE (mV (mD hr) (pv 1) (pv 3) (fun _ _=>rfl)) (aa (pv 2) ai))))))))
   (ak (aF (pv 1))))),?_⟩
  refine fun Db fDb=>?_
  have s1:=aE.upd (o:=HO.dK []) fDb
  have nfb:Df≠Db:=aq hf fDb
  have hf1:=s1 _ _ hf
  refine⟨Df,_,hf1,trivial,fun od=>⟨_,rfl,Df,od,rfl,.inl ⟨_,af,Ds (d:=Df) (od:=od) (ms:=ms) (f:=fun m=>.ref (ad m)) (fun i σ H'=>(∃ v2,σ=[some (.ref Df),some (.ref Db),v2,none])∧uT Df od (.dK (dk ms fun m=>.ref (ad m))) H H'∧∃ bd:Nat→Addr,H' Db=some (.dK (dk (ms.take i) fun m=>.ref (bd m))) ∧
    (∀ m∈ms.take i,H' (bd m)=some (.lst [])∧H (bd m)=none∧bd m≠Df)∧(∀ m∈ms.take i,∀ m'∈ms.take i,bd m=bd m'→m=m'))
   ⟨⟨none,rfl⟩,⟨af,fun b o hb e=>by rw [aj hb]; exact s1 _ _ e⟩,fun _=>0,by rw [aj (Ne.symm nfb),af]; rfl,(fun m h=>by simp at h),(fun m h=>by simp at h)⟩ (fun i σ H' _ q=>q.2.1.at_) ?_ ?_⟩⟩⟩
  ·rintro i m σ H' hi ⟨⟨v2,rfl⟩,sF,bd,hb,hbl,hinj⟩
   have him:i < ms.length:=(List.getElem?_eq_some_iff.mp hi).1
   have hmn:m∉ms.take i:=fun z=>by
    obtain⟨j,hj⟩:=List.mem_iff_getElem?.mp z
    have hji:j < i:=by
     have:=(List.getElem?_eq_some_iff.mp hj).1
     rw [List.length_take] at this; omega
    rw [List.getElem?_take_of_lt hji] at hj
    have:=J0 nd0 hj hi
    omega
   refine⟨by show 0≤sizeLine; decide,fun l fl=>?_⟩
   have hlb:l≠Db:=fun z=>by rw [z,hb] at fl; cases fl
   have hlf:l≠Df:=fun z=>by rw [z,sF.at_] at fl; cases fl
   have hlH:H l=none:=by
    cases e:H l with
    | none=>rfl
    | some o=>rw [sF.same _ _ hlf e] at fl; cases fl
   have hb2:(upd H' l (.lst [])) Db=some (.dK (dk (ms.take i) fun m=>.ref (bd m))):=by rw [aj (Ne.symm hlb)]; exact hb
   refine zV rfl (zV rfl (zE2 Db _ ⟨rfl,zH.k (k:=ky m) hb2 (by rw [nt,List.length_take,sizeLine_eq]; omega),⟨_,rfl⟩,(sF.upd hlf hlH).upd (Ne.symm nfb) fDb,fun x=>if x=m then l else bd x,?_,?_,?_⟩))
   ·rw [af,rq hmn,List.take_add_one,hi]
    congr 2
    exact km fun x _=>by
     show (if x=m then V.ref l else V.ref (bd x))=V.ref (if x=m then l else bd x)
     split<;>rfl
   ·intro x hx
    rcases eL hi hx with hx | rfl
    ·have hne:x≠m:=fun z=>hmn (z ▸ hx)
     simp only [if_neg hne]
     obtain⟨q1,q2,q3⟩:=hbl x hx
     have q4:bd x≠l:=fun z=>by rw [z,fl] at q1; cases q1
     exact⟨by rw [aj (hW q1 hb (by intro z; cases z)),aj q4]; exact q1,q2,q3⟩
    ·simp only [if_true,eq_self_iff_true]
     exact⟨by rw [aj hlb,af],hlH,hlf⟩
   ·intro x hx y hy e
    rcases eL hi hx with hx | rfl
    ·have hne:x≠m:=fun z=>hmn (z ▸ hx)
     rcases eL hi hy with hy | rfl
     ·have hne':y≠m:=fun z=>hmn (z ▸ hy)
      simp only [if_neg hne,if_neg hne'] at e
      exact hinj x hx y hy e
     ·simp only [if_neg hne,if_true,eq_self_iff_true] at e
      have:=(hbl x hx).1
      rw [e,fl] at this; cases this
    ·rcases eL hi hy with hy | rfl
     ·have hne':y≠x:=fun z=>hmn (z ▸ hy)
      simp only [if_neg hne',if_true,eq_self_iff_true] at e
      have:=(hbl y hy).1
      rw [← e,fl] at this; cases this
     ·rfl
  rintro σ H2 ⟨⟨v2,rfl⟩,sF,bd,hb,hbl,hinj⟩
  rw [List.take_length] at hb hbl hinj
  refine⟨sF.at_,?_⟩
  have s2:=sF.off hf
  have hb2:(upd H2 Df (.dK (dk ms fun m=>.ref (ad m)))) Db=some (.dK (dk ms fun m=>.ref (bd m))):=by rw [aj (Ne.symm nfb)]; exact hb
  have hbl2:∀ m∈ms,(upd H2 Df (.dK (dk ms fun m=>.ref (ad m)))) (bd m)=some (.lst []):=fun m hm=>by rw [aj (hbl m hm).2.2]; exact (hbl m hm).1
  refine⟨Df,_,af,trivial,fun od2=>⟨_,rfl,Df,od2,rfl,.inl ⟨_,af,Ds (d:=Df) (od:=od2) (ms:=ms) (f:=fun m=>.ref (ad m)) (fun i σ H'=>(∃ v2 v3,σ=[some (.ref Df),some (.ref Db),v2,v3])∧uT Df od2 (.dK (dk ms fun m=>.ref (ad m))) H H'∧H' Db=some (.dK (dk ms fun m=>.ref (bd m)))∧∀ t∈ms,H' (bd t)=some (.lst (nv (fH N (ms.take i) t))))
   ⟨⟨_,_,rfl⟩,⟨af,fun b o hb' e=>by rw [aj hb']; exact s2 _ _ e⟩,by rw [aj (Ne.symm nfb)]; exact hb2,fun t ht=>by rw [aj (hbl t ht).2.2]; exact hbl2 t ht⟩ (fun i σ H' _ q=>q.2.1.at_) ?_ ?_⟩⟩⟩
  ·rintro i m σ H' hi ⟨⟨v2,v3,rfl⟩,sF',hb',hbt⟩
   have hm:m∈ms:=List.mem_of_getElem? hi
   have him:i < ms.length:=(List.getElem?_eq_some_iff.mp hi).1
   have had:ad m≠Df:=hW (hn m hm) hf (by intro z; cases z)
   have hne:∀ t∈ms,bd t≠ad m:=fun t ht z=>by have:=(hbl t ht).2.1; rw [z,hn m hm] at this; cases this
   refine⟨_,rfl,_,rfl,Df,_,rfl,lD (.inr ⟨_,sF'.at_⟩) hm,ad m,rfl,⟨_,SqL.of (sF'.same _ _ had (hn m hm))⟩,jl (K:=K) (a:=ad m) (xs:=nv (N m)) (fun j σ H'=>(∃ v3,σ=[some (.ref Df),some (.ref Db),some (.int (m:Int)),v3])∧uT Df od2 (.dK (dk ms fun m=>.ref (ad m))) H H'∧H' Db=some (.dK (dk ms fun m=>.ref (bd m)))∧∀ t∈ms,H' (bd t)=some (.lst (nv (fH N (ms.take i) t ++ List.replicate (((N m).take j).count t) m))))
    ⟨⟨_,rfl⟩,sF',hb',fun t ht=>by rw [hbt t ht]; simp⟩ (fun j σ H' _ q=>SqL.of (q.2.1.same _ _ had (hn m hm))) ?_ ?_⟩
   ·rintro j y σ H3 hj ⟨⟨v3,rfl⟩,sF3,hb3,hbt3⟩
    obtain⟨t,ht,rfl⟩:=lg hj
    have htm:t∈ms:=hcl m hm t (List.mem_of_getElem? ht)
    have hlen:(fH N (ms.take i) t ++ List.replicate (((N m).take j).count t) m).length≤60000:=by
     have h1:=Cq (N:=N) (t:=t) (c:=100) (ms:=ms.take i) fun x hx=>hNl x (List.mem_of_mem_take hx)
     have h2:((N m).take j).count t≤((N m).take j).length:=List.count_le_length
     have h3:=hNl m hm
     rw [List.length_take] at h1 h2
     have h4:min i ms.length * 100≤300 * 100:=Nat.mul_le_mul_right _ (by omega)
     rw [List.length_append,List.length_replicate]
     omega
    refine zV rfl (zV rfl (zE2 Db _ ⟨rfl,lD (.inl hb3) htm,.inl ⟨rfl,_,SqL.of (hbt3 t htm)⟩,zV rfl (zE3 (bd t) _ _ ⟨rfl,rfl,hbt3 t htm,by rw [aQ,sizeLine_eq]; omega,⟨_,rfl⟩,sF3.upd (hbl t htm).2.2 (hbl t htm).2.1,?_,fun t' ht'=>?_⟩)⟩))
    ·rw [aj (Ne.symm (hW (hbt3 t htm) hb3 (by intro z; cases z)))]; exact hb3
    ·have ec:∀ t',((N m).take (j + 1)).count t'=((N m).take j).count t' + if t=t' then 1 else 0:=fun t'=>by
      rw [List.take_add_one,ht,Option.toList_some,List.count_append,List.count_singleton]
      congr 1
      by_cases z:t=t'<;>simp [z]
     rw [ec]
     by_cases e:t=t'
     ·subst e
      rw [af,if_pos rfl,← List.replicate_append_replicate,← List.append_assoc,← iS]; rfl
     ·rw [if_neg e,Nat.add_zero,aj (fun z=>e (hinj t' ht' t htm z).symm)]
      exact hbt3 t' ht'
   ·rintro σ H3 ⟨⟨v3,rfl⟩,sF3,hb3,hbt3⟩
    refine⟨⟨_,_,rfl⟩,sF3,hb3,fun t ht=>?_⟩
    rw [hbt3 t ht,aQ,List.take_length,List.take_add_one,hi,Option.toList_some,F6]
  ·rintro σ H3 ⟨⟨v2,v3,rfl⟩,sF3,hb3,hbt3⟩
   rw [List.take_length] at hbt3
   refine⟨sF3.at_,zV rfl (k _ Db bd fDb ⟨?_,fun t ht=>?_⟩ (sF3.off hf))⟩
   ·rw [aj (Ne.symm nfb)]; exact hb3
   ·rw [aj (hbl t ht).2.2]; exact hbt3 t ht
end HG
end
section
namespace HG
def cW (P:List Nat) (l:List Nat):Nat:=l.countP fun t=>!P.contains t
theorem wA {P l:List Nat} {one:Nat} (h:one∉P):cW P l=cW (P ++ [one]) l + l.count one:=by
 induction l with
 | nil=>rfl
 | cons a l ih =>
  unfold cW at ih ⊢
  rw [List.countP_cons,List.countP_cons,List.count_cons,ih]
  have e:(P ++ [one]).contains a=(P.contains a || a == one):=by
   apply Bool.eq_iff_iff.mpr
   rw [Bool.or_eq_true,List.contains_iff_mem,List.contains_iff_mem,List.mem_append,List.mem_singleton,beq_iff_eq]
  rw [e]
  by_cases c:a=one
  ·subst c
   have:P.contains a=false:=by
    cases q:P.contains a with
    | false=>rfl
    | true=>exact absurd (List.contains_iff_mem.mp q) h
   rw [this]
   simp
   omega
  ·rw [show (a == one)=false from by simpa using c]
   simp
   omega
theorem Fz {P l:List Nat} (h:cW P l=0):∀ t∈l,t∈P:=fun t ht=>by
 have:=List.countP_eq_zero.mp h t ht
 cases q:P.contains t with
 | true=>exact List.contains_iff_mem.mp q
 | false=>rw [q] at this; exact absurd rfl this
theorem Hu {P l:List Nat} (h:cW P l≠0):∃ t∈l,t∉P:=by
 obtain⟨t,ht,hp⟩:=List.countP_pos_iff.mp (show 0 < l.countP fun t=>!P.contains t from Nat.pos_of_ne_zero h)
 refine⟨t,ht,fun z=>?_⟩
 rw [List.contains_iff_mem.mpr z] at hp; cases hp
structure E7 (ms:List Nat) (N:Nat→List Nat) (Pd es:List Nat) (wy:Nat→Nat):Prop where
 nd:(Pd ++ es).Nodup
 sub:∀ m∈Pd ++ es,m∈ms
 zero:∀ m∈ms,wy m=0↔m∈Pd ++ es
 dead:∀ m∈Pd ++ es,C6 N m
theorem E7.len {ms:List Nat} {N:Nat→List Nat} {Pd es:List Nat} {wy:Nat→Nat} (k:E7 ms N Pd es wy):Pd.length + es.length≤ms.length:=by
 have:=VM.rS k.nd k.sub
 rwa [List.length_append] at this
theorem E7.start {ms:List Nat} {N:Nat→List Nat} (nd:ms.Nodup):E7 ms N [] (ms.filter fun m=>decide ((N m).length=0)) fun m=>cW [] (N m):=by
 have e:∀ m,cW [] (N m)=(N m).length:=fun m=>by
  unfold cW
  exact List.countP_eq_length.mpr fun t _=>by simp
 refine⟨by rw [List.nil_append]; exact nd.filter _,fun m hm=>by rw [List.nil_append] at hm; exact (List.mem_filter.mp hm).1,fun m hm=>?_,fun m hm=>?_⟩
 ·rw [e,List.nil_append,List.mem_filter,decide_eq_true_eq]
  exact⟨fun z=>⟨hm,z⟩,fun z=>z.2⟩
 ·rw [List.nil_append] at hm
  have:=of_decide_eq_true (List.mem_filter.mp hm).2
  refine .mk fun t ht=>?_
  rw [List.eq_nil_of_length_eq_zero this] at ht; cases ht
open PySem PySem.Spec PyProof.Rows L2
open PySem.W (Frag)
variable {P:Program} {w:World} {K:Frag} {mg:Str→Option Value} {base:Heap} {A:Ad}
theorem mI:ay ["following","first","before","ways","one","ended","earlier"] ["following","first"] (au jK):=⟨rfl,rfl,rfl,by decide +kernel,rfl,by decide +kernel,by decide +kernel⟩
def KS:Sp:=fun vs H Q _=>∃ (Df:Addr) (ms:List Nat) (ad:Nat→Addr) (N:Nat→List Nat) (m0:Nat),vs=[.ref Df,.int (m0:Int)]∧GD H Df ms ad N∧ms.Nodup∧(∀ m∈ms,∀ t∈N m,t∈ms)∧(∀ m∈ms,(N m).length≤100)∧ms.length≤300∧m0∈ms ∧
 ∀ (H':Hp) (b:Bool),(b=true→∃ T:Nat→Prop,T m0∧∀ m,T m→m∈ms∧∃ t∈N m,T t)→(b=false→C6 N m0)→aE H H'→Q (.bl b) H'
theorem tR (T:Txt K mg A):Fok P w K mg base 2 A.cG ["following","first"] KS:=by
 obtain⟨fd,F⟩:=T.dE
 obtain⟨fdB,GB,bB⟩:=ze (P:=P) (w:=w) (base:=base) T
 obtain⟨_,FB⟩:=T.jh
 refine⟨fd,?_,F.b2 fun _ _ _ _ _ _ _ _=>rfl⟩
 refine F.okX mI (fun vs H Q E h=>?_) (fun cdv A' outer s H vs Q E hr h=>?_)
 ·exact zL5 (fun _ _ _ _ _=>rfl) h
 ·revert h; refine zG5 fun Df ms ad N m0 zz=>?_; obtain⟨rfl,G,nd0,hcl,hNl,hml,hin,k⟩:=zz
  have nd:=mI.nd
  refine⟨_,ae (aD (i:=2) nd rfl (Or.inl rfl) (aA (E:=EN) GB (hr.mono (by decide)) rfl T.lI FB.kp bB .nil aT (aa (pv 0) ai)))
   (ae (aD (i:=3) nd rfl (Or.inr rfl) vN)
   (ae (yb (iB PassesOwn.leaving rfl (ya (pv 0)) (aL (i:=4) nd rfl (Or.inl rfl)) (ak (tF (mD hr) (pv 3) (pv 4) (aO aN (by rfl) T.eO PySem.boot_len (aa (mV (mD hr) (pv 0) (pv 4) (fun _ _=>rfl)) ai)) rfl))))
   (ae (yb (jr (i:=5) rfl nd rfl rfl (lM rfl rfl (by rfl) (by kernel_rfl)) (ya (pv 0)) (aR (own:=[("one",4)]) (by kernel_rfl)) (fun _ _ _ _ _=>aL (i:=4) nd rfl (Or.inl rfl))
    (fun _ _ _ _ _=>lK (bx (wR (mV (mD hr) (pv 3) (pv 4) (fun _ _=>rfl)) az))) (fun _ _ _ _ _=>pv 4)))
   (ae (js PassesOwn.leaving (bx (qD (aO aN (by rfl) T.eO PySem.boot_len (aa (pv 5) ai)) az))
    (ae (aD (i:=4) nd rfl (Or.inl rfl) (HN PySem.F.plainAttrs_list PySem.F.slot_list_pop PySem.F.type_list_pop HC (pv 5)))
    (ak (iB PassesOwn.leaving rfl (aY (mV (mD hr) (pv 2) (pv 4) (fun _ _=>rfl))) (aL (i:=6) nd rfl (Or.inl rfl))
     (ae (tF (mD hr) (pv 3) (pv 6) (bj mz (mV (mD hr) (pv 3) (pv 6) (fun _ _=>rfl)) az) rfl)
     (ak (iC (bx (wR (mV (mD hr) (pv 3) (pv 6) (fun _ _=>rfl)) az)) (ak (aK (qE PySem.F.plainAttrs_list PySem.F.slot_list_append PySem.F.type_list_append fE (pv 5) (aa (pv 6) ai)))) cu)))))))
   (ak (aF (lx (qD (mV (mD hr) (pv 3) (pv 1) (fun _ _=>rfl)) az)))))))),?_⟩
  refine zV rfl (zE4 Df ms ad N ⟨rfl,G,nd0,hcl,hNl,hml,fun H1 Db bd fDb GB1 s1=>?_⟩)
  refine fun Dy fDy=>?_
  have s2:=aE.upd (o:=HO.dK []) fDy
  have s12:=s1.trans s2
  have hf2:=s12 _ _ G.f
  have fy:H1 Dy=none:=fDy
  have nfy:Df≠Dy:=aq (s1 _ _ G.f) fDy
  have nby:Db≠Dy:=aq GB1.f fDy
  refine⟨Df,_,hf2,trivial,fun od=>⟨_,rfl,Df,od,rfl,.inl ⟨_,af,Ds (d:=Df) (od:=od) (ms:=ms) (f:=fun m=>.ref (ad m)) (fun i σ H'=>(∃ v4,σ=[some (.ref Df),some (.int (m0:Int)),some (.ref Db),some (.ref Dy),v4,none,none])∧uT Df od (.dK (dk ms fun m=>.ref (ad m))) H1 H'∧H' Dy=some (.dK (dk (ms.take i) fun m=>.int ((N m).length:Int))))
   ⟨⟨none,rfl⟩,⟨af,fun b o hb e=>by rw [aj hb]; exact s2 _ _ e⟩,by rw [aj (Ne.symm nfy),af]; rfl⟩ (fun i σ H' _ q=>q.2.1.at_) ?_ ?_⟩⟩⟩
  ·rintro i m σ H' hi ⟨⟨v4,rfl⟩,sF,hy⟩
   have hm:m∈ms:=List.mem_of_getElem? hi
   have him:i < ms.length:=(List.getElem?_eq_some_iff.mp hi).1
   have had:ad m≠Df:=hW (G.n m hm) G.f (by intro z; cases z)
   have hmn:m∉ms.take i:=fun z=>by
    obtain⟨j,hj⟩:=List.mem_iff_getElem?.mp z
    have hji:j < i:=by
     have:=(List.getElem?_eq_some_iff.mp hj).1
     rw [List.length_take] at this; omega
    rw [List.getElem?_take_of_lt hji] at hj
    have:=J0 nd0 hj hi
    omega
   refine zX rfl (zX rfl ⟨Df,zX rfl ⟨lD (.inr ⟨_,sF.at_⟩) hm,ad m,zX rfl ⟨.inl (SqL.of (sF.same _ _ had (s1 _ _ (G.n m hm)))),zX rfl (zX rfl ⟨Dy,zX rfl ⟨zH.k (k:=ky m) hy (by rw [nt,List.length_take,sizeLine_eq]; omega),⟨_,rfl⟩,sF.upd (Ne.symm nfy) fy,?_⟩⟩)⟩⟩⟩)
   rw [af,rq hmn,List.take_add_one,hi,aQ]
   congr 2
   exact km fun x _=>by
    show (if x=m then V.int ((N m).length:Int) else V.int ((N x).length:Int))=_
    by_cases e:x=m
    ·rw [if_pos e,e]
    ·rw [if_neg e]
  rintro σ H2 ⟨⟨v4,rfl⟩,sF,hy⟩
  rw [List.take_length] at hy
  refine⟨sF.at_,?_⟩
  have sF2:=sF.off (s1 _ _ G.f)
  have hy2:(upd H2 Df (.dK (dk ms fun m=>.ref (ad m)))) Dy=some (.dK (dk ms fun m=>.int ((N m).length:Int))):=by rw [aj (Ne.symm nfy)]; exact hy
  refine⟨Df,_,af,trivial,fun od2=>⟨_,rfl,Df,od2,rfl,.inl ⟨_,af,fun De fDe=>?_⟩⟩⟩
  rw [bo] at fDe ⊢
  refine Jb (fun m=>decide ((N m).length=0)) af fDe (by omega) (show 4 < 7 by decide) (fun i m H' hi s Z z=>?_) fun H3 p3 s3=>?_
  ·have hm:m∈ms:=List.mem_of_getElem? hi
   have hyH:H' Dy=some (.dK (dk ms fun m=>.int ((N m).length:Int))):=s _ _ (by rw [aj (Ne.symm nfy)]; exact hy)
   refine⟨rfl,zX rfl (zX rfl ⟨Dy,zX rfl ⟨lD (.inl hyH) hm,zO (zX rfl ?_)⟩⟩)⟩
   show Z (decide (((N m).length:Int)=0)) H'
   rw [show decide (((N m).length:Int)=0)=decide ((N m).length=0) from by apply Bool.eq_iff_iff.mpr; rw [decide_eq_true_eq,decide_eq_true_eq]; omega]
   exact z _ (fun _ _ e=>e)
  have hf3:=s3 _ _ (af (H:=H2) (a:=Df) (o:=.frz od2 (.dK (dk ms fun m=>.ref (ad m)))))
  refine⟨hf3,?_⟩
  have neD:De≠Df:=fun z=>by rw [z,af] at fDe; cases fDe
  have neY:De≠Dy:=fun z=>by rw [z,aj (Ne.symm nfy),hy] at fDe; cases fDe
  have s4:aE H1 (upd H3 Df (.dK (dk ms fun m=>.ref (ad m)))):=fun b o e=>by
   by_cases c:b=Df
   ·subst c; rw [s1 _ _ G.f] at e; cases e; exact af
   ·rw [aj c]; exact s3 _ _ (by rw [aj c]; exact sF.same _ _ c e)
  have hy4:(upd H3 Df (.dK (dk ms fun m=>.ref (ad m)))) Dy=some (.dK (dk ms fun m=>.int ((N m).length:Int))):=by
   rw [aj (Ne.symm nfy)]; exact s3 _ _ (by rw [aj (Ne.symm nfy)]; exact hy)
  have he4:(upd H3 Df (.dK (dk ms fun m=>.ref (ad m)))) De=some (.lst (nv (ms.filter fun m=>decide ((N m).length=0)))):=by rw [aj neD]; exact p3
  have fe:H1 De=none:=by
   cases e:H1 De with
   | none=>rfl
   | some o=>rw [aj neD,sF.same _ _ neD e] at fDe; cases fDe
  let IV:Nat→L2.St→Hp→Prop:=fun μ σ H'=>∃ (Pd es:List Nat),(∃ v4 v6,σ=[some (.ref Df),some (.int (m0:Int)),some (.ref Db),some (.ref Dy),v4,some (.ref De),v6])∧aE H1 H'∧H' Dy=some (.dK (dk ms fun m=>.int ((cW Pd (N m):Nat):Int)))∧H' De=some (.lst (nv es))∧E7 ms N Pd es (fun m=>cW Pd (N m))∧μ=301 - Pd.length
  have e0:∀ m,cW [] (N m)=(N m).length:=fun m=>by
   unfold cW
   exact List.countP_eq_length.mpr fun t _=>by simp
  refine⟨IV,⟨_,[],_,⟨_,_,rfl⟩,s4,?_,he4,.start nd0,rfl⟩,?_⟩
  ·rw [hy4]
   congr 2
   exact km fun m _=>by rw [e0]
  rintro μ σ H' ⟨Pd,es,⟨v4,v6,rfl⟩,sH,hyH,heH,KK,rfl⟩
  refine zX rfl ⟨De,zX rfl ⟨.inl (SqL.of heH),zO (zX rfl ?_)⟩⟩
  rw [aQ]
  refine ko (fun c=>?_) fun c=>?_
  ·have c:es≠[]:=fun e=>by
    have:=of_decide_eq_true c
    rw [e] at this
    simp at this
   refine⟨fun σ' H''=>∃ m',m' < 301 - Pd.length∧IV m' σ' H'',fun _ _ q=>q,?_⟩
   obtain⟨et,one,rfl⟩:∃ et one,es=et ++ [one]:=⟨_,_,(List.dropLast_concat_getLast c).symm⟩
   have hw:=heH
   rw [iS] at hw
   refine zV rfl ⟨.inl ⟨rfl,_,SqL.of hw⟩,De,_,.int (one:Int),rfl,rfl,hw,by rw [List.length_append,List.getElem?_append_right (by simp)]; simp,?_⟩
   rw [List.dropLast_concat]
   have hnd:=KK.nd
   rw [List.nodup_append] at hnd
   obtain⟨n1,n2,n3⟩:=hnd
   have hone:one∈Pd ++ (et ++ [one]):=List.mem_append_right _ (List.mem_append_right _ List.mem_cons_self)
   have hno:one∉Pd:=fun z=>n3 one z one (List.mem_append_right _ List.mem_cons_self) rfl
   have hom:one∈ms:=KK.sub one hone
   have hod:C6 N one:=KK.dead one hone
   have s5:aE H1 (upd H' De (.lst (nv et))):=fun b o e=>by rw [aj (aq e fe)]; exact sH _ _ e
   have hB:=GB1.n one hom
   have hcnt:∀ m∈ms,(fH N ms one).count m=(N m).count one:=fun m hm=>zm nd0 hm
   have hle:∀ m∈ms,(fH N ms one).count m≤cW Pd (N m):=fun m hm=>by rw [hcnt m hm,wA hno]; omega
   refine⟨_,rfl,_,rfl,Db,_,rfl,lD (.inl (s5 _ _ GB1.f)) hom,bd one,rfl,⟨_,SqL.of (s5 _ _ hB)⟩,jl (K:=K) (a:=bd one) (xs:=nv (fH N ms one)) (fun j σ H'=>∃ es:List Nat,(∃ v6,σ=[some (.ref Df),some (.int (m0:Int)),some (.ref Db),some (.ref Dy),some (.int (one:Int)),some (.ref De),v6])∧aE H1 H'∧H' Dy=some (.dK (dk ms fun m=>.int ((cW Pd (N m) - ((fH N ms one).take j).count m:Nat):Int)))∧H' De=some (.lst (nv es))∧E7 ms N (Pd ++ [one]) es (fun m=>cW Pd (N m) - ((fH N ms one).take j).count m))
    ⟨et,⟨_,rfl⟩,s5,?_,af,?_⟩ (fun j σ H' _ ⟨es,_,s',_⟩=>SqL.of (s' _ _ hB)) ?_ ?_⟩
   ·rw [aj (Ne.symm neY),hyH]
    congr 2
   ·have hperm:∀ m,m∈(Pd ++ [one]) ++ et↔m∈Pd ++ (et ++ [one]):=fun m=>by
     simp only [List.mem_append,List.mem_singleton]
     constructor
     ·rintro ((h | h) | h)
      ·exact .inl h
      ·exact .inr (.inr h)
      ·exact .inr (.inl h)
     ·rintro (h | h | h)
      ·exact .inl (.inl h)
      ·exact .inr h
      ·exact .inl (.inr h)
    rw [List.nodup_append] at n2
    refine⟨?_,fun m hm=>KK.sub m ((hperm m).mp hm),fun m hm=>?_,fun m hm=>KK.dead m ((hperm m).mp hm)⟩
    ·rw [List.nodup_append]
     refine⟨?_,n2.1,fun a ha b hb=>?_⟩
     ·rw [List.nodup_append]
      exact⟨n1,by simp,fun a ha b hb=>by rw [List.mem_singleton.mp hb]; exact fun z=>hno (z ▸ ha)⟩
     ·rcases List.mem_append.mp ha with ha | ha
      ·exact n3 a ha b (List.mem_append_left _ hb)
      ·rw [List.mem_singleton.mp ha]
       exact fun z=>n2.2.2 b hb one List.mem_cons_self z.symm
    ·rw [List.take_zero,List.count_nil,Nat.sub_zero,hperm]
     exact KK.zero m hm
   ·rintro j y σ H7 hj ⟨es,⟨v6,rfl⟩,s7,hy7,he7,K7⟩
    obtain⟨e,he,rfl⟩:=lg hj
    have hem:e∈ms:=Ib (List.mem_of_getElem? he)
    have ec:∀ x,((fH N ms one).take (j + 1)).count x=((fH N ms one).take j).count x + if e=x then 1 else 0:=fun x=>by
     rw [List.take_add_one,he,Option.toList_some,List.count_append,List.count_singleton]
     congr 1
     by_cases z:e=x<;>simp [z]
    have hlt:((fH N ms one).take j).count e + 1≤(fH N ms one).count e:=by
     have h1:=ec e
     rw [if_pos rfl] at h1
     rw [← h1]
     exact (List.take_sublist _ _).count_le e
    have hge:=hle e hem
    refine zV rfl (zV rfl (zE2 Dy _ ⟨rfl,lD (.inl hy7) hem,zO (zV rfl (zV rfl (zE2 Dy _ ⟨rfl,zH.k (k:=ky e) hy7 (by rw [nt,sizeLine_eq]; omega),?_⟩)))⟩))
    have ed:putK (dk ms fun m=>V.int ((cW Pd (N m) - ((fH N ms one).take j).count m:Nat):Int)) (ky e) (V.int (((cW Pd (N e) - ((fH N ms one).take j).count e:Nat):Int) - 1))=dk ms fun m=>V.int ((cW Pd (N m) - ((fH N ms one).take (j + 1)).count m:Nat):Int):=by
     rw [Hj hem]
     exact km fun x _=>by
      show (if x=e then V.int (((cW Pd (N e) - ((fH N ms one).take j).count e:Nat):Int) - 1) else V.int ((cW Pd (N x) - ((fH N ms one).take j).count x:Nat):Int))=_
      rw [ec]
      by_cases z:x=e
      ·subst z
       rw [if_pos rfl,if_pos rfl]
       congr 1
       omega
      ·rw [if_neg z,if_neg (Ne.symm z),Nat.add_zero]
    have ed':putK (dk ms fun m=>V.int ((cW Pd (N m) - ((fH N ms one).take j).count m:Nat):Int)) (ky e) ((fun i j=>V.int (i - j)) ((cW Pd (N e) - ((fH N ms one).take j).count e:Nat):Int) 1)=dk ms fun m=>V.int ((cW Pd (N m) - ((fH N ms one).take (j + 1)).count m:Nat):Int):=ed
    rw [ed']
    have s8:aE H1 (upd H7 Dy (.dK (dk ms fun m=>V.int ((cW Pd (N m) - ((fH N ms one).take (j + 1)).count m:Nat):Int)))):=fun b o q=>by rw [aj (aq q fy)]; exact s7 _ _ q
    have he8:(upd H7 Dy (.dK (dk ms fun m=>V.int ((cW Pd (N m) - ((fH N ms one).take (j + 1)).count m:Nat):Int)))) De=some (.lst (nv es)):=by rw [aj neY]; exact he7
    have hl7:=K7.len
    refine zX rfl (zX rfl ⟨Dy,zX rfl ⟨lD (.inl af) hem,zO (zX rfl ?_)⟩⟩)
    have hwe:0 < cW Pd (N e) - ((fH N ms one).take j).count e:=by omega
    have hne:e∉(Pd ++ [one]) ++ es:=fun z=>by have:=(K7.zero e hem).mpr z; omega
    have ece:=ec e
    rw [if_pos rfl] at ece
    refine ko (fun c=>?_) fun c=>?_
    ·have c:cW Pd (N e) - ((fH N ms one).take (j + 1)).count e=0:=by have:=of_decide_eq_true c; omega
     refine zV rfl ⟨.inl ⟨rfl,_,SqL.of he8⟩,zV rfl (zE3 De _ _ ⟨rfl,rfl,he8,by rw [aQ,sizeLine_eq]; omega,?_⟩)⟩
     rw [← iS]
     refine⟨es ++ [e],⟨_,rfl⟩,fun b o q=>by rw [aj (aq q fe)]; exact s8 _ _ q,by rw [aj (Ne.symm neY),af],af,?_⟩
     refine⟨?_,fun m hm=>?_,fun m hm=>?_,fun m hm=>?_⟩
     ·rw [← List.append_assoc,List.nodup_append]
      exact⟨K7.nd,by simp,fun a ha b hb=>by rw [List.mem_singleton.mp hb]; exact fun z=>hne (z ▸ ha)⟩
     ·rw [← List.append_assoc] at hm
      rcases List.mem_append.mp hm with hm | hm
      ·exact K7.sub m hm
      ·rw [List.mem_singleton.mp hm]; exact hem
     ·rw [← List.append_assoc,List.mem_append,List.mem_singleton,← K7.zero m hm,ec]
      by_cases z:e=m
      ·subst z
       rw [if_pos rfl,← ece]
       exact⟨fun _=>.inr rfl,fun _=>c⟩
      ·rw [if_neg z,Nat.add_zero]
       exact⟨fun q=>.inl q,fun q=>q.resolve_right (fun q=>z q.symm)⟩
     ·rw [← List.append_assoc] at hm
      rcases List.mem_append.mp hm with hm | hm
      ·exact K7.dead m hm
      ·rw [List.mem_singleton.mp hm]
       refine .mk fun t ht=>K7.dead t (List.mem_append_left _ (Fz ?_ t ht))
       have h1:=wA (l:=N e) hno
       have h2:=hcnt e hem
       have h3:((fH N ms one).take (j + 1)).count e≤(fH N ms one).count e:=(List.take_sublist _ _).count_le e
       omega
    ·have c:cW Pd (N e) - ((fH N ms one).take (j + 1)).count e≠0:=fun z=>c (decide_eq_true (show ((cW Pd (N e) - ((fH N ms one).take (j + 1)).count e:Nat):Int)=0 by rw [z]; rfl))
     refine⟨es,⟨_,rfl⟩,s8,af,he8,K7.nd,K7.sub,fun m hm=>?_,K7.dead⟩
     rw [ec]
     by_cases z:e=m
     ·subst z
      rw [if_pos rfl,← ece]
      exact⟨fun q=>absurd q c,fun q=>absurd q hne⟩
     ·rw [if_neg z,Nat.add_zero]
      exact K7.zero m hm
   ·rintro σ H7 ⟨es,⟨v6,rfl⟩,s7,hy7,he7,K7⟩
    rw [aQ,List.take_length] at hy7 K7
    have ew:∀ m∈ms,cW Pd (N m) - (fH N ms one).count m=cW (Pd ++ [one]) (N m):=fun m hm=>by
     rw [hcnt m hm,wA hno]; omega
    have hl7:=K7.len
    rw [List.length_append] at hl7
    have hl7:Pd.length + 1 + es.length≤ms.length:=hl7
    refine⟨301 - (Pd ++ [one]).length,?_,Pd ++ [one],es,⟨_,_,rfl⟩,s7,?_,he7,⟨K7.nd,K7.sub,fun m hm=>?_,K7.dead⟩,rfl⟩
    ·rw [List.length_append]; show 301 - (Pd.length + 1) < _; omega
    ·rw [hy7]
     congr 2
     exact km fun m hm=>by rw [ew m hm]
    ·rw [← ew m hm]; exact K7.zero m hm
  ·have c:es=[]:=by
    cases q:es with
    | nil=>rfl
    | cons a l=>exact absurd (decide_eq_true (show (0:Int) < ((es.length:Nat):Int) by rw [q]; simp)) c
   subst c
   refine zV rfl (zV rfl (zE2 Dy _ ⟨rfl,lD (.inl hyH) hin,zO ?_⟩))
   have hz:=fun m hm=>KK.zero m hm
   simp only [List.append_nil] at hz
   refine k H' (decide ((0:Int) < ((cW Pd (N m0):Nat):Int))) (fun e=>?_) (fun e=>?_) (s1.trans sH)
   ·have e:0 < cW Pd (N m0):=by have:=of_decide_eq_true e; omega
    refine⟨fun m=>m∈ms∧m∉Pd,⟨hin,fun z=>by have:=(hz m0 hin).mpr z; omega⟩,fun m hm=>⟨hm.1,?_⟩⟩
    obtain⟨t,ht,hp⟩:=Hu (fun z=>hm.2 ((hz m hm.1).mp z))
    exact⟨t,ht,hcl m hm.1 t ht,hp⟩
   ·have e:cW Pd (N m0)=0:=by have:=of_decide_eq_false e; omega
    exact KK.dead m0 (List.mem_append_left _ ((hz m0 hin).mp e))
theorem qK:ay ["growth","rule","stocks","blind","first"] ["growth","rule","stocks"] (au nj):=⟨rfl,rfl,rfl,by decide +kernel,rfl,by decide +kernel,by decide +kernel⟩
def JD (K:Frag) (A:Ad):Sp:=fun vs H Q E=>∃ (ag ar la lo:Addr) (g:Vbecag.Growth) (r:Vbecag.Rule) (l:List Nat),vs=[.ref ag,.ref ar,.ref la]∧GrA A H ag g lo∧WfG g∧iU A H ar r∧WfR g r∧H la=some (.lst (nv l))∧(∀ x∈l,x≤g.n)∧l≠[] ∧
 (∀ b,Vbecag.blind g r (Vbecag.setOf g l)=some b→∀ H',aE H H'→Q (.bl b) H')∧(Vbecag.blind g r (Vbecag.setOf g l)=none→Ref K A (-8) H E)
theorem xJ (T:Txt K mg A):Fok P w K mg base 5 A.fu ["growth","rule","stocks"] (JD K A):=by
 obtain⟨fd,F⟩:=T.ic
 obtain⟨fdI,GI,bI⟩:=zN (P:=P) (w:=w) (base:=base) T
 obtain⟨fdS,GS,bS⟩:=Aq (P:=P) (w:=w) (base:=base) T
 obtain⟨fdL,GL,bL⟩:=mF (P:=P) (w:=w) (base:=base) T
 obtain⟨fdM,GM,bM⟩:=Cf (P:=P) (w:=w) (base:=base) T
 obtain⟨fdG,GG,bG⟩:=tR (P:=P) (w:=w) (base:=base) T
 obtain⟨_,FS⟩:=T.o8
 obtain⟨_,FM⟩:=T.mZ
 obtain⟨_,FG⟩:=T.dE
 refine⟨fd,?_,F.b3 fun _ _ _ _ _ _ _ _ _=>rfl⟩
 refine F.okX qK (fun vs H Q E h=>?_) (fun cdv A' outer s H vs Q E hr h=>?_)
 ·exact zL7 (fun _ _ _ _ _ _ _=>rfl) h
 ·revert h; refine zG7 fun ag ar la lo g r l zz=>?_; obtain⟨rfl,G,W,R,WR,hla,hl,hne,k1,k2⟩:=zz
  have nd:=qK.nd
  have hr3:cf 3 _:=hr.mono (by decide)
  refine⟨_,ae (aD (i:=3) nd rfl (Or.inl rfl) (tD (E:=EN) T.HA GI hr3 rfl T.xW bI .nil aT (aa (pv 0) (aa (pv 1) ai))))
   (ae (aD (i:=4) nd rfl (Or.inl rfl) (aA (E:=EN) GS (hr.mono (by decide)) rfl T.rN FS.kp bS .nil aT (aa (aw (pv 3) rfl) (aa (pv 2) ai))))
   (ae (iC (gc (bz (E:=EN) (pv 3) T.cJ T.mE GL (hr.mono (by decide)) bL .nil aT (aa (pv 4) ai))) (ak (aF sg)) cu)
   (ak (aF (aA (E:=EN) GG (hr.mono (by decide)) rfl T.fX FG.kp bG .nil aT (aa (aA (E:=E) GM (hr.mono (by decide)) rfl T.qi FM.kp bM .nil ax.passes (aa (pv 3) (aa (pv 4) ai))) (aa (pv 4) ai))))))),?_⟩
  refine zV rfl (zV rfl (fun x dx hx hdx hxd=>?_))
  have s1:aE H (upd (upd H dx (.own x)) x (.ins A.cQ dx [])):=fun b o e=>by rw [aj (aq e hx),aj (aq e hdx)]; exact e
  obtain⟨⟨dg,_,_,hg1,_⟩,_⟩:=id G
  obtain⟨dr,hr1⟩:=id R
  refine zE7 x dx ag ar lo g r ⟨rfl,af,aq hg1 hx,aq hr1 hx,G.keep s1,W,R.keep s1,fun H2 B2 b2=>⟨rfl,?_⟩⟩
  have s2:aE H H2:=fun b o e=>b2 _ _ (aq e hx) (s1 _ _ e)
  obtain⟨dx2,ar2,lm,los,q1,q2,q3,q4⟩:=id B2
  refine zV rfl (zF q1 T.cJ T.fF rfl (zV rfl (zE4 lm la g l ⟨rfl,q3,s2 _ _ hla,hl,?_⟩)))
  refine zX rfl (zM q1 rfl (zX rfl ⟨x,g,r,msk l,rfl,B2,WR.low,zX rfl ?_⟩))
  have hm:msk l < 2 ^ (g.n + 1):=HB hl
  have h0:msk l≠0:=fun e=>by
   cases q:l with
   | nil=>exact hne q
   | cons a t =>
    have:(msk l).testBit a=true:=by rw [xY,q]; simp
    rw [e,Nat.zero_testBit] at this; cases this
  rw [← Lj] at k1 k2
  cases c:uo r (msk l) with
  | true=>exact nP (k1 false (AN hm c) H2 s2)
  | false =>
   refine qN (zV rfl (zV rfl (zE4 x g r (msk l) ⟨rfl,B2,W,WR,h0,hm,fun H3 Df ms ad N fDf hf hn hNl Wh s3=>?_,fun ⟨ms,a1,a2,a3,a4⟩=>(k2 (yq c a1 a2 a3 a4)).same s2⟩)))
   refine zV rfl (zE5 Df ms ad N (msk l) ⟨rfl,⟨hf,hn⟩,Wh.nd,Wh.cl,hNl,Wh.len,Wh.inn,fun H4 b t1 t2 s4=>?_⟩)
   exact k1 b (BG W h0 hm c Wh.re Wh.ok Wh.inn Wh.nx Wh.cl Wh.len t1 t2) H4 ((s2.trans s3).trans s4)
end HG
end
section
namespace HG
open PySem PySem.Spec PyProof.Rows L2
open PySem.W (Frag)
variable {P:Program} {w:World} {K:Frag} {mg:Str→Option Value} {base:Heap} {A:Ad}
theorem zY:ay ["harvest","stock"] ["harvest","stock"] (au pU):=⟨rfl,rfl,rfl,by decide +kernel,rfl,by decide +kernel,by decide +kernel⟩
structure Kc (A:Ad) (H:Hp) (h:Addr) (g:Vbecag.Growth):Prop where
 ex:∃ dx ag lo b c d e f m,H h=some (.ins A.aC dx (hvF (.ref ag) b c d e f m))∧GrA A H ag g lo∧WfG g
theorem gT.tL {H:Hp} {h:Addr} {g:Vbecag.Growth} {ro:Option Vbecag.Rule} (x:gT A H h ⟨some g,ro⟩):Kc A H h g:=by
 obtain⟨dx,a,b,c,d,e,f,m,h1,h2⟩:=x
 cases h2 with
 | growth g1 w1=>exact⟨dx,_,_,_,_,_,_,_,_,h1,g1,w1⟩
 | both g1 w1 _ _ _ _ _ _ _ _ _ _=>exact⟨dx,_,_,_,_,_,_,_,_,h1,g1,w1⟩
def CB (K:Frag) (A:Ad):Sp:=fun vs H Q E=>∃ (h:Addr) (g:Vbecag.Growth) (x:Int),vs=[.ref h,.int x]∧Kc A H h g∧(0≤x∧x≤(g.n:Int)→Q .non H)∧(¬ (0≤x∧x≤(g.n:Int))→Ref K A (-3) H E)
theorem bP (T:Txt K mg A):Fok P w K mg base 5 A.iK ["harvest","stock"] (CB K A):=by
 obtain⟨fd,F⟩:=T.ba
 obtain⟨fdR,GR,bR⟩:=eM (P:=P) (w:=w) (base:=base) T
 obtain⟨_,FR⟩:=T.cg
 refine⟨fd,?_,F.b2 fun _ _ _ _ _ _ _ _=>rfl⟩
 refine F.okX zY (fun vs H Q E h=>?_) (fun cdv A' outer s H vs Q E hr h=>?_)
 ·exact zL3 (fun _ _ _=>rfl) h
 ·revert h; refine zG3 fun h g x zz=>?_; obtain⟨rfl,⟨dx,ag,lo,b,c,d,e,f,m,h1,⟨⟨dg,lw,lt,g1,g2,g3⟩,_⟩,W⟩,k1,k2⟩:=zz
  refine⟨_,ak (aK (aA (E:=E) GR hr rfl T.ck FR.kp bR .nil ax.passes (aa (pv 1) (aa az (aa (aw (aw (pv 0) rfl) rfl) ai))))),?_⟩
  exact zV rfl (zV rfl (zF h1 T.ao T.aB rfl (zF g1 T.aH T.aW rfl (zE3 x 0 g.n ⟨rfl,fun q=>k1 q,fun q=>k2 q⟩))))
theorem uL:ay ["harvest","stocks","shortest","longest"] ["harvest","stocks","shortest","longest"] (au kg):=⟨rfl,rfl,rfl,by decide +kernel,rfl,by decide +kernel,by decide +kernel⟩
def Bw (K:Frag) (A:Ad):Sp:=fun vs H Q E=>∃ (h a:Addr) (g:Vbecag.Growth) (ns:List Int) (sh lo:Int),vs=[.ref h,.ref a,.int sh,.int lo]∧Kc A H h g∧SqL K H a (ns.map V.int) ∧
 ((sh≤ns.length∧(ns.length:Int)≤lo)∧(∀ x∈ns,0≤x∧x≤(g.n:Int))→Q .non H)∧(¬ ((sh≤ns.length∧(ns.length:Int)≤lo)∧∀ x∈ns,0≤x∧x≤(g.n:Int))→Ref K A (-4) H E)
theorem jL (T:Txt K mg A):Fok P w K mg base 5 A.cS ["harvest","stocks","shortest","longest"] (Bw K A):=by
 obtain⟨fd,F⟩:=T.cj
 obtain⟨fdR,GR,bR⟩:=mS (P:=P) (w:=w) (base:=base) T
 obtain⟨_,FR⟩:=T.fI
 refine⟨fd,?_,F.b4 fun _ _ _ _ _ _ _ _ _ _=>rfl⟩
 refine F.okX uL (fun vs H Q E h=>?_) (fun cdv A' outer s H vs Q E hr h=>?_)
 ·exact zL6 (fun _ _ _ _ _ _=>rfl) h
 ·revert h; refine zG6 fun h a g ns sh l2 zz=>?_; obtain⟨rfl,⟨dx,ag,lo,b,c,d,e,f,m,h1,⟨⟨dg,lw,lt,g1,g2,g3⟩,_⟩,W⟩,hS,k1,k2⟩:=zz
  refine⟨_,ak (aK (aA (E:=E) GR hr rfl T.fN FR.kp bR .nil ax.passes (aa (pv 1) (aa (pv 2) (aa (pv 3) (aa az (aa (aw (aw (pv 0) rfl) rfl) ai))))))),?_⟩
  exact zV rfl (zV rfl (zV rfl (zV rfl (zF h1 T.ao T.aB rfl (zF g1 T.aH T.aW rfl (zE6 a ns sh l2 0 g.n ⟨rfl,hS,fun q=>k1 q,fun q=>k2 q⟩))))))
theorem Bo:ay ["harvest","stock"] ["harvest","stock"] (au rm):=⟨rfl,rfl,rfl,by decide +kernel,rfl,by decide +kernel,by decide +kernel⟩
theorem vP {g:Vbecag.Growth} {r:Vbecag.Rule} {x:Nat} (hx:x≤g.n):((Vbecag.safe g r).map V.bl)[x]?=some (.bl (Vbecag.isIn (Vbecag.safe g r) x)):=Ey (by rw [VM.kr]; omega)
def DR (K:Frag) (A:Ad):Sp:=fun vs H Q E=>∃ (h:Addr) (g:Vbecag.Growth) (r:Vbecag.Rule) (x:Nat),vs=[.ref h,.int (x:Int)]∧gT A H h ⟨some g,some r⟩∧x≤g.n∧(Vbecag.isIn (Vbecag.safe g r) x=true→Q .non H)∧(Vbecag.isIn (Vbecag.safe g r) x=false→Ref K A (-6) H E)
theorem qm (T:Txt K mg A):Fok P w K mg base 4 A.jR ["harvest","stock"] (DR K A):=by
 obtain⟨fd,F⟩:=T.ie
 obtain⟨fdN,GN,bN⟩:=fZ (P:=P) (w:=w) (base:=base) T
 refine⟨fd,?_,F.b2 fun _ _ _ _ _ _ _ _=>rfl⟩
 refine F.okX Bo (fun vs H Q E h=>?_) (fun cdv A' outer s H vs Q E hr h=>?_)
 ·exact zL4 (fun _ _ _ _=>rfl) h
 ·revert h; refine zG4 fun h g r x zz=>?_; obtain⟨rfl,hv,hx,k1,k2⟩:=zz
  obtain⟨dx,ag,lo,ar,ly,ls,dm,sl,ml,B⟩:=hv.both
  refine⟨_,ak (iC (wW (gc (aS aG (aw (pv 0) rfl) (pv 1) (fun _ _=>rfl)))) (ak (fG (dC T.jt GN hr rfl T.eA bN .nil ax.passes) ax rfl)) cu),?_⟩
  refine zX rfl (zF B.at_ T.ao T.bu rfl (zX rfl (zI (SqL.of B.sf) (bg (vP hx)) (zX rfl ?_))))
  cases e:Vbecag.isIn (Vbecag.safe g r) x with
  | true=>exact k1 e
  | false=>exact eI (D:={ nx:=fun _ H1=>Q .non H1,rt:=Q }) T.gR T.bJ T.cb (k2 e)
theorem Ie:ay ["number"] ["number"] (au AV):=⟨rfl,rfl,rfl,by decide +kernel,rfl,by decide +kernel,by decide +kernel⟩
def Im (K:Frag) (A:Ad):Sp:=fun vs H Q E=>∃ (y:Option Nat),vs=[yV y]∧(∀ k,y=some k→Q (.int (k:Int)) H)∧(y=none→Ref K A (-6) H E)
theorem zc (T:Txt K mg A):Fok P w K mg base 4 A.sV ["number"] (Im K A):=by
 obtain⟨fd,F⟩:=T.pM
 obtain⟨fdN,GN,bN⟩:=fZ (P:=P) (w:=w) (base:=base) T
 refine⟨fd,?_,F.b1 fun _ _ _ _ _ _ _=>rfl⟩
 refine F.okX Ie (fun vs H Q E h=>?_) (fun cdv A' outer s H vs Q E hr h=>?_)
 ·exact zL1 (fun _=>rfl) h
 ·obtain⟨y,rfl,k1,k2⟩:=h
  refine⟨_,ae (iC (bx (uG (pv 0))) (ak (fG (dC T.jt GN hr rfl T.eA bN .nil ax.passes) ax rfl)) cu) (ak (aF (pv 0))),?_⟩
  refine zX rfl (zX rfl ?_)
  cases y with
  | none=>exact nP (eI T.gR T.bJ T.cb (k2 rfl))
  | some k=>exact qN (zV rfl (k1 k rfl))
theorem Bq:ay ["held"] ["held"] (au rp):=⟨rfl,rfl,rfl,by decide +kernel,rfl,by decide +kernel,by decide +kernel⟩
def LL:Sp:=fun vs H Q _=>∃ (b:Bool),vs=[.bl b]∧Q (.int (Vbecag.flag b)) H
theorem mT (T:Txt K mg A):Fok P w K mg base 1 A.jT ["held"] LL:=by
 obtain⟨fd,F⟩:=T.fJ
 refine⟨fd,?_,F.b1 fun _ _ _ _ _ _ _=>rfl⟩
 refine F.okX Bq (fun vs H Q E h=>?_) (fun cdv A' outer s H vs Q E hr h=>?_)
 ·exact zL1 (fun _=>rfl) h
 ·obtain⟨b,rfl,k⟩:=h
  refine⟨_,ak (aF (l5 (gc (pv 0)) az az)),?_⟩
  refine zX rfl (zX rfl ?_)
  cases b with
  | true=>exact nP k
  | false=>exact qN k
theorem Bp:ay ["harvest","stock"] ["harvest","stock"] (au rn):=⟨rfl,rfl,rfl,by decide +kernel,rfl,by decide +kernel,by decide +kernel⟩
def Iq (A:Ad):Sp:=fun vs H Q _=>∃ (h:Addr) (g:Vbecag.Growth) (r:Vbecag.Rule) (x:Nat),vs=[.ref h,.int (x:Int)]∧gT A H h ⟨some g,some r⟩∧x≤g.n∧pN H Q (nv (Vbecag.good g r (Vbecag.safe g r) x))
theorem vJ (T:Txt K mg A):Fok P w K mg base 3 A.jS ["harvest","stock"] (Iq A):=by
 obtain⟨fd,F⟩:=T.jN
 obtain⟨fdC,GC,bC⟩:=qC (P:=P) (w:=w) (base:=base) T
 obtain⟨_,FC⟩:=T.eZ
 refine⟨fd,?_,F.b2 fun _ _ _ _ _ _ _ _=>rfl⟩
 refine F.okX Bp (fun vs H Q E h=>?_) (fun cdv A' outer s H vs Q E hr h=>?_)
 ·exact zL4 (fun _ _ _ _=>rfl) h
 ·revert h; refine zG4 fun h g r x zz=>?_; obtain⟨rfl,hv,hx,k⟩:=zz
  obtain⟨dx,ag,lo,ar,ly,ls,dm,sl,ml,B⟩:=hv.both
  refine⟨_,ak (aF (aA (E:=EN) GC hr rfl T.iw FC.kp bC .nil aT (aa (aw (pv 0) rfl) (aa (aw (pv 0) rfl) (aa (aw (pv 0) rfl) (aa (pv 1) ai)))))),?_⟩
  exact zV rfl (zF B.at_ T.ao T.aB rfl (zV rfl (zF B.at_ T.ao T.aP rfl (zV rfl (zF B.at_ T.ao T.bu rfl (zV rfl (zE8 ag ar ls lo g r (Vbecag.safe g r) x ⟨rfl,B.gr,B.wg,B.ru,B.sf,VM.kr,hx,k⟩)))))))
def IL (K:Frag) (A:Ad) (n:Int) (h:Addr) (st:Vbecag.State) (H:Hp) (E:XK):Prop:=∀ C dx H',uU K C→w9 K C A.cE=true→aV K C "number"→H' dx=some (.xd (Jj n))→gT A H' h st→Own h H H'→E (.ref C) (some dx) H'
theorem IL.ref {n:Int} {h:Addr} {st:Vbecag.State} {H H1:Hp} {E:XK} (r:IL K A n h st H E) (hv:gT A H1 h st) (o:Own h H H1):Ref K A n H1 E:=fun C dx H' a b c d s=>r C dx H' a b c d (hv.same s) (o.trans (.of s))
def spA (K:Frag) (A:Ad) (p:Int) (n m:Nat) (gr ru:Bool):Sp:=fun vs H Q E=>∃ (h c:Addr) (st:Vbecag.State) (ws:List Int) (xs:List (List Int)),vs=[.ref h,.ref c]∧gT A H h st∧AK A H c p ws xs∧ws.length=n∧xs.length=m∧(gr=true→st.growth≠none)∧(ru=true→st.rule≠none) ∧
 (∀ H' l,H l=none→H' l=some (.lst ((Vbecag.step st ((p :: ws) :: xs)).2.map V.int))→gT A H' h (Vbecag.step st ((p :: ws) :: xs)).1→Own h H H'→Q (.ref l) H')∧∀ e,Vbecag.step st ((p :: ws) :: xs)=(st,[e])→IL K A e h st H E
theorem iO {α:Type} {l:List α} (h:l.length=1):∃ a,l=[a]:=by
 match l,h with
 | [a],_=>exact⟨a,rfl⟩
theorem zK {α:Type} {l:List α} (h:l.length=2):∃ a b,l=[a,b]:=by
 match l,h with
 | [a,b],_=>exact⟨a,b,rfl⟩
theorem Jf {α:Type} {l:List α} (h:l.length=3):∃ a b c,l=[a,b,c]:=by
 match l,h with
 | [a,b,c],_=>exact⟨a,b,c,rfl⟩
theorem len0 {α:Type} {l:List α} (h:l.length=0):l=[]:=List.eq_nil_of_length_eq_zero h
theorem nD {l:List Int} (h:∀ x∈l,0≤x):nv (l.map Int.toNat)=l.map V.int:=by
 unfold nv
 rw [List.map_map]
 refine List.map_congr_left fun x hx=>?_
 show V.int ((x.toNat:Nat):Int)=V.int x
 rw [Int.toNat_of_nonneg (h x hx)]
theorem xj (k:Nat):∀ (n:Nat) (l:List Nat),l.length=n * k→(Vbecag.rowsOf k n l).flatten=l
 | 0,l,h=>by
  rw [Nat.zero_mul] at h
  rw [List.eq_nil_of_length_eq_zero h]; rfl
 | n + 1,l,h=>by
  unfold Vbecag.rowsOf
  rw [List.flatten_cons,xj k n (l.drop k) (by rw [List.length_drop,h,Nat.add_mul]; omega),List.take_append_drop]
theorem yH (k:Nat):∀ (n:Nat) (l:List Nat),(Vbecag.rowsOf k n l).length=n
 | 0,_=>rfl
 | n + 1,l=>by unfold Vbecag.rowsOf; rw [List.length_cons,yH k n]
theorem yM {k:Nat}:∀ {n:Nat} {l r:List Nat},l.length=n * k→r∈Vbecag.rowsOf k n l→r.length=k∧∀ x∈r,x∈l
 | 0,l,r,_,h=>by cases h
 | n + 1,l,r,hl,h=>by
  unfold Vbecag.rowsOf at h
  have e:(n + 1) * k=n * k + k:=by rw [Nat.add_mul,Nat.one_mul]
  rcases List.mem_cons.mp h with rfl | h
  ·exact⟨by rw [List.length_take]; omega,fun x hx=>List.mem_of_mem_take hx⟩
  ·obtain⟨a,b⟩:=yM (n:=n) (by rw [List.length_drop]; omega) h
   exact⟨a,fun x hx=>List.mem_of_mem_drop (b x hx)⟩
theorem Es {l:List Int} {a b:Int}:(l.all fun x=>decide (a≤x∧x≤b))=true↔∀ x∈l,a≤x∧x≤b:=by
 rw [List.all_eq_true]
 constructor
 ·intro h x hx; exact of_decide_eq_true (h x hx)
 ·intro h x hx; exact decide_eq_true (h x hx)
theorem pE:ay ["harvest","call","greatest","weights","table","size"] ["harvest","call"] (au mq):=⟨rfl,rfl,rfl,by decide +kernel,rfl,by decide +kernel,by decide +kernel⟩
section
open Vbecag
variable {s:State} {n lo hi:Int} {a b:Nat} {x y:Int} {l:List Int}
theorem aX {k:Nat→Out} (h:lo≤n∧n≤hi):withNum s n lo hi k=k n.toNat:=if_pos h
theorem dq {k:Nat→Out} (h:¬ (lo≤n∧n≤hi)):withNum s n lo hi k=bad s (-3):=if_neg h
theorem ku {k:List Nat→Out} (h:(a≤l.length∧l.length≤b)∧∀ z∈l,x≤z∧z≤y):withList s a b x y l k=k (l.map Int.toNat):=if_pos ⟨h.1,Es.mpr h.2⟩
theorem nz {k:List Nat→Out} (h:¬ ((a≤l.length∧l.length≤b)∧∀ z∈l,x≤z∧z≤y)):withList s a b x y l k=bad s (-4):=if_neg fun z=>h ⟨z.1,Es.mp z.2⟩
theorem CJ (st:State) (n:Int) (wl tl:List Int):step st [[0,n],wl,tl]=withNum st n 1 50 fun n=>withList st 1 6 1 4 wl fun w=>withList st (w.length * (n + 1)) (w.length * (n + 1)) 0 (n:Int) tl fun t =>
  ({ growth:=some ⟨n,w,rowsOf (n + 1) w.length t⟩,rule:=none },[0]):=rfl
end
theorem wK (T:Txt K mg A):Fok P w K mg base 5 A.dQ ["harvest","call"] (spA K A 0 1 2 false false):=by
 obtain⟨fd,F⟩:=T.gh
 obtain⟨fdR,GR,bR⟩:=eM (P:=P) (w:=w) (base:=base) T
 obtain⟨fdL,GL,bL⟩:=mS (P:=P) (w:=w) (base:=base) T
 obtain⟨fdG,GG,bG⟩:=yQ (P:=P) (w:=w) (base:=base) T
 obtain⟨fdH,GH,bH⟩:=ql (P:=P) (w:=w) (base:=base) T
 obtain⟨_,FR⟩:=T.cg
 obtain⟨_,FL⟩:=T.fI
 refine⟨fd,?_,F.b2 fun _ _ _ _ _ _ _ _=>rfl⟩
 refine F.okX pE (fun vs H Q E h=>?_) (fun cdv A' outer s H vs Q E hr h=>?_)
 ·exact zL5 (fun _ _ _ _ _=>rfl) h
 ·revert h; refine zG5 fun h c st ws xs zz=>?_; obtain⟨rfl,hv,⟨dc,lw,lr,rs,c1,c2,c3,c4⟩,hws,hxs,_,_,kret,kref⟩:=zz
  have nd:=pE.nd
  have hr2:cf 2 _:=hr.mono (by decide)
  have hr4:cf 4 _:=hr.mono (by decide)
  obtain⟨n,rfl⟩:=iO hws
  obtain⟨wl,tl,rfl⟩:=zK hxs
  rw [CJ] at kret kref
  have kref0:=kref
  have kref:=fun e he=>(kref0 e he).ref hv (.of fun _ _ e=>e)
  cases c4 with
  | @cons a1 _ _ _ r1 c5 =>
  cases c5 with
  | @cons a2 _ _ _ r2 c6 =>
  cases c6
  refine⟨_,ae (aD (i:=2) nd rfl (Or.inl rfl) (aS aG (aw (pv 1) rfl) az (fun _ _=>rfl)))
   (ae (aD (i:=3) nd rfl (Or.inl rfl) (aS aG (aw (pv 1) rfl) az (fun _ _=>rfl)))
   (ae (aD (i:=4) nd rfl (Or.inl rfl) (aS aG (aw (pv 1) rfl) az (fun _ _=>rfl)))
   (ae (aK (aA (E:=E) GR hr rfl T.ck FR.kp bR .nil ax.passes (aa (pv 2) (aa az (aa az ai)))))
   (ae (aK (aA (E:=E) GL hr rfl T.fN FL.kp bL .nil ax.passes (aa (pv 3) (aa az (aa az (aa az (aa az ai)))))))
   (ae (aD (i:=5) nd rfl (Or.inl rfl) (bj qo (aO aN (by rfl) T.eO PySem.boot_len (aa (pv 3) ai)) (bj iz (pv 2) az)))
   (ae (aK (aA (E:=E) GL hr rfl T.fN FL.kp bL .nil ax.passes (aa (pv 4) (aa (pv 5) (aa (pv 5) (aa az (aa (pv 2) ai)))))))
   (ae (aK (bz (E:=E) (pv 0) T.ao T.qj GH hr2 bH .nil ax.passes (aa (tD (E:=E) T.FX GG hr4 rfl T.vq bG .nil ax.passes (aa (pv 2) (aa (pv 3) (aa (pv 4) ai)))) ai)))
   (ak (aF (bQ (aa az ai))))))))))),?_⟩
  refine zV rfl (zF c1 T.aZ T.aM rfl (zI (SqL.of c2) (at_of (j:=0) rfl rfl) ?_))
  refine zV rfl (zF c1 T.aZ T.eE rfl (zI (SqL.of c3) (at_of (j:=0) rfl rfl) ?_))
  refine zV rfl (zF c1 T.aZ T.eE rfl (zI (SqL.of c3) (at_of (j:=1) rfl rfl) ?_))
  refine zV rfl (zE3 n 1 50 ⟨rfl,fun hn=>?_,fun hn=>kref (-3) (dq hn)⟩)
  refine zV rfl (zE6 a1 wl 1 6 1 4 ⟨rfl,SqL.of r1,fun hw=>?_,fun hw=>kref (-4) ?_⟩)
  rotate_left
  ·rw [aX hn,nz fun z=>hw ⟨⟨by omega,by omega⟩,z.2⟩]; rfl
  refine zV rfl (zE2 a1 _ ⟨rfl,.inl (SqL.of r1),zV rfl (zO (zO ⟨.inl ⟨by rw [List.length_map]; omega,by rw [List.length_map]; omega⟩,?_⟩))⟩)
  rw [List.length_map]
  have en:n=((n.toNat:Nat):Int):=(Int.toNat_of_nonneg (by omega)).symm
  have esz:(wl.length:Int) * (n + 1)=((wl.length * (n.toNat + 1):Nat):Int):=by
   rw [Int.natCast_mul,Int.natCast_add]
   congr 2
  refine zV rfl (zV rfl (zV rfl (zV rfl (zE6 a2 tl _ _ 0 n ⟨rfl,SqL.of r2,fun ht=>?_,fun ht=>kref (-4) ?_⟩))))
  rotate_left
  ·rw [aX hn,ku ⟨⟨by omega,by omega⟩,hw.2⟩,nz fun z=>ht ⟨?_,?_⟩]
   ·rfl
   ·rw [esz]
    have:=z.1
    rw [List.length_map] at this
    exact⟨by omega,by omega⟩
   ·have:=z.2
    rw [← en] at this
    exact this
  obtain⟨⟨ht1,ht2⟩,ht3⟩:=ht
  have hlen:tl.length=wl.length * (n.toNat + 1):=by
   have h1:((wl.length * (n.toNat + 1):Nat):Int)≤(tl.length:Int):=by rw [← esz]; exact ht1
   have h2:(tl.length:Int)≤((wl.length * (n.toNat + 1):Nat):Int):=by rw [← esz]; exact ht2
   omega
  obtain⟨dh,va,vb,vc,vd,ve,vf,vm,h1,h2⟩:=id hv
  refine zV rfl (zM h1 rfl ?_)
  refine zV rfl (zV rfl (zV rfl (fun x dx hx hdx hxd=>?_)))
  have s0:aE H (upd (upd H dx (.own x)) x (.ins A.aU dx [])):=fun b o e=>by rw [aj (aq e hx),aj (aq e hdx)]; exact e
  let g:Vbecag.Growth:=⟨n.toNat,wl.map Int.toNat,Vbecag.rowsOf (n.toNat + 1) (wl.map Int.toNat).length (tl.map Int.toNat)⟩
  have Wg:WfG g:=by
   refine⟨by show 1≤n.toNat; omega,by show n.toNat≤50; omega,by show 1≤(wl.map Int.toNat).length; rw [List.length_map]; omega,by show (wl.map Int.toNat).length≤6; rw [List.length_map]; omega,fun x hx=>?_,yH _ _ _,fun r hr=>?_⟩
   ·obtain⟨z,hz,rfl⟩:=List.mem_map.mp hx
    have:=hw.2 z hz
    omega
   ·obtain⟨q1,q2⟩:=yM (by rw [List.length_map,List.length_map]; exact hlen) hr
    refine⟨q1,fun y hy=>?_⟩
    obtain⟨z,hz,rfl⟩:=List.mem_map.mp (q2 y hy)
    have:=ht3 z hz
    show z.toNat≤n.toNat
    omega
  have ew:nv g.weights=wl.map V.int:=nD fun y hy=>by have:=hw.2 y hy; omega
  have et:nv g.table.flatten=tl.map V.int:=by
   show nv (Vbecag.rowsOf (n.toNat + 1) (wl.map Int.toNat).length (tl.map Int.toNat)).flatten=_
   rw [xj _ _ _ (by rw [List.length_map,List.length_map]; exact hlen),nD fun y hy=>(ht3 y hy).1]
  refine⟨x,dx,g,a1,a2,by show [V.ref x,V.int n,V.ref a1,V.ref a2]=[V.ref x,V.int (n.toNat:Nat),V.ref a1,V.ref a2]; rw [← en],af,Wg,by rw [ew]; exact s0 _ _ r1,by rw [et]; exact s0 _ _ r2,fun H2 lo G2 b2=>⟨rfl,?_⟩⟩
  have s2:aE H H2:=fun b o e=>b2 _ _ (aq e hx) (s0 _ _ e)
  refine L5 h dh x va vb vc vd ve vf vm ⟨rfl,s2 _ _ h1,?_⟩
  refine⟨by show 1≤sizeLine; decide,fun l hl=>?_⟩
  rw [aX hn,ku ⟨⟨by omega,by omega⟩,hw.2⟩,ku ⟨⟨by rw [List.length_map]; omega,by rw [List.length_map]; omega⟩,by rw [← en]; exact ht3⟩] at kret
  have b3:But h H2 (upd H2 h (.ins A.aC dh (hvF (.ref x) .non .non .non .non .non .non))):=fun b o hb e=>by rw [aj hb]; exact e
  have s4:=aE.upd (o:=HO.lst [V.int 0]) hl
  have O4:Own h H _:=((Own.of s2).trans (.but b3 ⟨_,af⟩)).trans (.of s4)
  exact kret _ l (((Own.of s2).trans (Own.but b3 ⟨_,af⟩)).free hl) af ⟨dh,.ref x,.non,.non,.non,.non,.non,.non,s4 _ _ af,.growth ((G2.but (s2 _ _ h1) T.KG b3).keep s4) Wg⟩ O4
theorem Iy {st:Vbecag.State} (h:st.growth≠none):∃ g ro,st=⟨some g,ro⟩:=by
 obtain⟨go,ro⟩:=st
 cases go with
 | none=>exact absurd rfl h
 | some g=>exact⟨g,ro,rfl⟩
theorem oB {st:Vbecag.State} (h:st.growth≠none) (h2:st.rule≠none):∃ g r,st=⟨some g,some r⟩:=by
 obtain⟨go,ro⟩:=st
 cases go with
 | none=>exact absurd rfl h
 | some g =>
  cases ro with
  | none=>exact absurd rfl h2
  | some r=>exact⟨g,r,rfl⟩
theorem vC (l:List Nat):(Vbecag.ints l).map V.int=nv l:=by
 unfold Vbecag.ints nv
 rw [List.map_map]; rfl
theorem E3 {g:Vbecag.Growth} (W:WfG g):g.table.flatten.length≤306:=by
 have:∀ (t:List (List Nat)),(∀ r∈t,r.length=g.n + 1)→t.flatten.length=t.length * (g.n + 1):=by
  intro t
  induction t with
  | nil=>intro _; simp
  | cons r t ih =>
   intro h
   rw [List.flatten_cons,List.length_append,ih fun r m=>h r (List.mem_cons_of_mem _ m),h r List.mem_cons_self,List.length_cons,Nat.add_mul]
   omega
 rw [this _ fun r m=>(W.row r m).1,W.len]
 have h1:=W.s6
 have h2:=W.n50
 calc g.weights.length * (g.n + 1)≤6 * 51:=Nat.mul_le_mul h1 (by omega)
  _=306:=rfl
theorem sJ:ay ["harvest","call","growth"] ["harvest","call"] (au oU):=⟨rfl,rfl,rfl,by decide +kernel,rfl,by decide +kernel,by decide +kernel⟩
theorem zb (T:Txt K mg A):Fok P w K mg base 2 A.gI ["harvest","call"] (spA K A 1 0 0 true false):=by
 obtain⟨fd,F⟩:=T.jf
 obtain⟨fdS,GS,bS⟩:=cp (P:=P) (w:=w) (base:=base) T
 refine⟨fd,?_,F.b2 fun _ _ _ _ _ _ _ _=>rfl⟩
 refine F.okX sJ (fun vs H Q E h=>?_) (fun cdv A' outer s H vs Q E hr h=>?_)
 ·exact zL5 (fun _ _ _ _ _=>rfl) h
 ·revert h; refine zG5 fun h c st ws xs zz=>?_; obtain⟨rfl,hv,_,hws,hxs,hg,_,kret,kref⟩:=zz
  have nd:=sJ.nd
  obtain⟨g,ro,rfl⟩:=Iy (hg rfl)
  rw [len0 hws,len0 hxs] at kret kref
  have kref0:=kref
  have kref:=fun e he=>(kref0 e he).ref hv (.of fun _ _ e=>e)
  obtain⟨dx,ag,lo,b,c',d',e',f',m',h1,G,W⟩:=hv.tL
  obtain⟨⟨dg,lw,lt,g1,g2,g3⟩,_⟩:=id G
  refine⟨_,ae (aD (i:=2) nd rfl (Or.inl rfl) (aw (pv 0) rfl)) (ak (aF (bj uF (bj uF (bQ (aa az (aa (aw (pv 2) rfl) (aa (cq (E:=E) (pv 2) T.aH T.cn GS hr bS .nil ax.passes) ai)))) (aw (pv 2) rfl)) (aw (pv 2) rfl)))),?_⟩
  refine zV rfl (zF h1 T.ao T.aB rfl ?_)
  refine zV rfl (zF g1 T.aH T.aW rfl (zV rfl (zM g1 rfl (zE2 ag g ⟨rfl,G.gr,by show 3≤sizeLine; decide,fun p1 hp1=>?_⟩))))
  have s1:=aE.upd (o:=HO.lst [V.int 0,V.int (g.n:Int),V.int (g.seasons:Nat)]) hp1
  refine zV rfl (zF (s1 _ _ g1) T.aH T.eF rfl (zE4 p1 lw _ _ ⟨rfl,rfl,af,s1 _ _ g2,?_,fun p2 hp2=>?_⟩))
  ·rw [aQ,sizeLine_eq]; have:=W.s6; show 3 + _≤_; omega
  have s2:=aE.upd (o:=HO.lst ([V.int 0,V.int (g.n:Int),V.int (g.seasons:Nat)] ++ nv g.weights)) hp2
  refine zV rfl (zF (s2 _ _ (s1 _ _ g1)) T.aH T.jC rfl (zE4 p2 lt _ _ ⟨rfl,rfl,af,s2 _ _ (s1 _ _ g3),?_,fun p3 hp3=>?_⟩))
  ·rw [List.length_append,aQ,aQ,sizeLine_eq]; have:=W.s6; have:=E3 W; show 3 + _ + _≤_; omega
  have s3:=(s1.trans s2).trans (aE.upd (o:=HO.lst ([V.int 0,V.int (g.n:Int),V.int (g.seasons:Nat)] ++ nv g.weights ++ nv g.table.flatten)) hp3)
  refine kret _ p3 ((s1.trans s2).free hp3) ?_ (hv.same s3) (.of s3)
  rw [af]
  show _=some (HO.lst (([0,(g.n:Int),(g.seasons:Int)] ++ Vbecag.ints (g.weights ++ g.table.flatten)).map V.int))
  rw [List.map_append,vC]
  unfold nv
  rw [List.map_append,List.append_assoc]
  rfl
theorem sE:ay ["harvest","call","low","least","most"] ["harvest","call"] (au oQ):=⟨rfl,rfl,rfl,by decide +kernel,rfl,by decide +kernel,by decide +kernel⟩
theorem step_rule (g:Vbecag.Growth) (ro:Option Vbecag.Rule) (a b c:Int):Vbecag.step ⟨some g,ro⟩ [[2,a,b,c]]=Vbecag.withNum ⟨some g,ro⟩ a 0 (g.n:Int) fun l=>Vbecag.withNum ⟨some g,ro⟩ b 0 (g.n:Int) fun d=>Vbecag.withNum ⟨some g,ro⟩ c (d:Int) (g.n:Int) fun q =>
  ({ growth:=some g,rule:=some ⟨l,d,q⟩ },[0]):=rfl
theorem y8 (T:Txt K mg A):Fok P w K mg base 6 A.gF ["harvest","call"] (spA K A 2 3 0 true false):=by
 obtain⟨fd,F⟩:=T.jc
 obtain⟨fdS,GS,bS⟩:=bP (P:=P) (w:=w) (base:=base) T
 obtain⟨fdR,GR,bR⟩:=eM (P:=P) (w:=w) (base:=base) T
 obtain⟨fdI,GI,bI⟩:=vF (P:=P) (w:=w) (base:=base) T
 obtain⟨fdH,GH,bH⟩:=rW (P:=P) (w:=w) (base:=base) T
 obtain⟨_,FS⟩:=T.ba
 obtain⟨_,FR⟩:=T.cg
 refine⟨fd,?_,F.b2 fun _ _ _ _ _ _ _ _=>rfl⟩
 refine F.okX sE (fun vs H Q E h=>?_) (fun cdv A' outer s H vs Q E hr h=>?_)
 ·exact zL5 (fun _ _ _ _ _=>rfl) h
 ·revert h; refine zG5 fun h c st ws xs zz=>?_; obtain⟨rfl,hv,⟨dc,lw,lr,rs,c1,c2,c3,c4⟩,hws,hxs,hg,_,kret,kref⟩:=zz
  have nd:=sE.nd
  have hr4:cf 4 _:=hr.mono (by decide)
  have hr2:cf 2 _:=hr.mono (by decide)
  obtain⟨g,ro,rfl⟩:=Iy (hg rfl)
  obtain⟨x1,x2,x3,rfl⟩:=Jf hws
  rw [len0 hxs,step_rule] at kret kref
  have kref0:=kref
  have kref:=fun e he=>(kref0 e he).ref hv (.of fun _ _ e=>e)
  have hG:=hv.tL
  obtain⟨dx,ag,lo,b,c',d',e',f',m',h1,G,W⟩:=id hG
  obtain⟨⟨dg,lgw,lgt,g1,g2,g3⟩,_⟩:=id G
  refine⟨_,ae (aD (i:=2) nd rfl (Or.inl rfl) (aS aG (aw (pv 1) rfl) az (fun _ _=>rfl)))
   (ae (aD (i:=3) nd rfl (Or.inl rfl) (aS aG (aw (pv 1) rfl) az (fun _ _=>rfl)))
   (ae (aD (i:=4) nd rfl (Or.inl rfl) (aS aG (aw (pv 1) rfl) az (fun _ _=>rfl)))
   (ae (aK (aA (E:=E) GS hr rfl T.bc FS.kp bS .nil ax.passes (aa (pv 0) (aa (pv 2) ai))))
   (ae (aK (aA (E:=E) GS hr rfl T.bc FS.kp bS .nil ax.passes (aa (pv 0) (aa (pv 3) ai))))
   (ae (aK (aA (E:=E) GR hr4 rfl T.ck FR.kp bR .nil ax.passes (aa (pv 4) (aa (pv 3) (aa (aw (aw (pv 0) rfl) rfl) ai)))))
   (ae (aK (bz (E:=E) (pv 0) T.ao T.rP GH hr4 bH .nil ax.passes (aa (tD (E:=E) T.ER GI hr2 rfl T.yJ bI .nil ax.passes (aa (pv 2) (aa (pv 3) (aa (pv 4) ai)))) ai)))
   (ak (aF (bQ (aa az ai)))))))))),?_⟩
  refine zV rfl (zF c1 T.aZ T.aM rfl (zI (SqL.of c2) (at_of (j:=0) rfl rfl) ?_))
  refine zV rfl (zF c1 T.aZ T.aM rfl (zI (SqL.of c2) (at_of (j:=1) rfl rfl) ?_))
  refine zV rfl (zF c1 T.aZ T.aM rfl (zI (SqL.of c2) (at_of (j:=2) rfl rfl) ?_))
  refine zV rfl (zV rfl (zE3 h g x1 ⟨rfl,hG,fun q1=>?_,fun q1=>kref (-3) (dq q1)⟩))
  refine zV rfl (zV rfl (zE3 h g x2 ⟨rfl,hG,fun q2=>?_,fun q2=>kref (-3) (by rw [aX q1,dq q2]; rfl)⟩))
  have e2:((x2.toNat:Nat):Int)=x2:=Int.toNat_of_nonneg q2.1
  refine zV rfl (zV rfl (zV rfl (zF h1 T.ao T.aB rfl (zF g1 T.aH T.aW rfl (zE3 x3 x2 g.n ⟨rfl,fun q3=>?_,fun q3=>kref (-3) (by rw [aX q1,aX q2,dq (by rw [e2]; exact q3)]; rfl)⟩)))))
  rw [aX q1,aX q2,aX (by rw [e2]; exact q3)] at kret
  refine zV rfl (zM h1 rfl ?_)
  have e1:((x1.toNat:Nat):Int)=x1:=Int.toNat_of_nonneg q1.1
  have e3:((x3.toNat:Nat):Int)=x3:=Int.toNat_of_nonneg (by omega)
  refine zV rfl (zV rfl (zV rfl (fun x dr hx hdr hxd=>?_)))
  refine⟨x,dr,⟨x1.toNat,x2.toNat,x3.toNat⟩,by show [V.ref x,V.int x1,V.int x2,V.int x3]=[V.ref x,V.int (x1.toNat:Nat),V.int (x2.toNat:Nat),V.int (x3.toNat:Nat)]; rw [e1,e2,e3],af,rfl,?_⟩
  rw [bo]
  have s1:aE H (upd (upd H dr (.own x)) x (.ins A.gU dr (ruF ⟨x1.toNat,x2.toNat,x3.toNat⟩))):=fun b o e=>by rw [aj (aq e hx),aj (aq e hdr)]; exact e
  refine⟨h,dx,x,ag,lo,b,c',d',e',f',m',g,⟨x1.toNat,x2.toNat,x3.toNat⟩,rfl,s1 _ _ h1,G.keep s1,W,⟨dr,af⟩,⟨by show x1.toNat≤g.n; omega,by show x2.toNat≤x3.toNat; omega,by show x3.toNat≤g.n; omega⟩,hv.ne hx,fun H2 hv2 b2=>?_⟩
  refine⟨by show 1≤sizeLine; decide,fun l hl=>?_⟩
  have s2:=aE.upd (o:=HO.lst [V.int 0]) hl
  have O2:Own h H H2:=(Own.of s1).trans (.but b2 (by obtain⟨_,_,_,_,_,_,_,_,q,_⟩:=hv2; exact⟨_,q⟩))
  exact kret _ l (O2.free hl) af (hv2.same s2) (O2.trans (.of s2))
theorem qI:ay ["harvest","call","rule"] ["harvest","call"] (au nh):=⟨rfl,rfl,rfl,by decide +kernel,rfl,by decide +kernel,by decide +kernel⟩
theorem xH (T:Txt K mg A):Fok P w K mg base 1 A.fo ["harvest","call"] (spA K A 3 0 0 true true):=by
 obtain⟨fd,F⟩:=T.ia
 refine⟨fd,?_,F.b2 fun _ _ _ _ _ _ _ _=>rfl⟩
 refine F.okX qI (fun vs H Q E h=>?_) (fun cdv A' outer s H vs Q E hr h=>?_)
 ·exact zL5 (fun _ _ _ _ _=>rfl) h
 ·revert h; refine zG5 fun h c st ws xs zz=>?_; obtain⟨rfl,hv,_,hws,hxs,hg,hru,kret,kref⟩:=zz
  have nd:=qI.nd
  obtain⟨g,r,rfl⟩:=oB (hg rfl) (hru rfl)
  rw [len0 hws,len0 hxs] at kret kref
  have kref0:=kref
  have kref:=fun e he=>(kref0 e he).ref hv (.of fun _ _ e=>e)
  obtain⟨dx,ag,lo,ar,ly,ls,dm,sl,ml,B⟩:=hv.both
  obtain⟨dr,r1⟩:=B.ru
  have h1:=B.at_
  refine⟨_,ae (aD (i:=2) nd rfl (Or.inl rfl) (aw (pv 0) rfl)) (ak (aF (bQ (aa az (aa (aw (pv 2) rfl) (aa (aw (pv 2) rfl) (aa (aw (pv 2) rfl) ai))))))),?_⟩
  refine zV rfl (zF h1 T.ao T.aP rfl ?_)
  refine zV rfl (zF r1 T.bh T.cP rfl (zV rfl (zF r1 T.bh T.gP rfl (zV rfl (zF r1 T.bh T.fY rfl ⟨by show 4≤sizeLine; decide,fun l hl=>?_⟩)))))
  have s1:=aE.upd (o:=HO.lst [V.int 0,V.int (r.low:Nat),V.int (r.least:Nat),V.int (r.most:Nat)]) hl
  exact kret _ l hl af (hv.same s1) (.of s1)
theorem sC:ay ["harvest","call","stock","catch","season"] ["harvest","call"] (au oO):=⟨rfl,rfl,rfl,by decide +kernel,rfl,by decide +kernel,by decide +kernel⟩
theorem Gq (g:Vbecag.Growth) (ro:Option Vbecag.Rule) (a b c:Int):Vbecag.step ⟨some g,ro⟩ [[4,a,b,c]]=Vbecag.withNum ⟨some g,ro⟩ a 0 (g.n:Int) fun x=>Vbecag.withNum ⟨some g,ro⟩ b 0 (x:Int) fun q=>Vbecag.withNum ⟨some g,ro⟩ c 0 ((g.seasons:Int) - 1) fun c=>(⟨some g,ro⟩,[(g.next c (x - q):Int)]):=rfl
theorem yY (T:Txt K mg A):Fok P w K mg base 6 A.gD ["harvest","call"] (spA K A 4 3 0 true false):=by
 obtain⟨fd,F⟩:=T.ja
 obtain⟨fdS,GS,bS⟩:=bP (P:=P) (w:=w) (base:=base) T
 obtain⟨fdR,GR,bR⟩:=eM (P:=P) (w:=w) (base:=base) T
 obtain⟨fdC,GC,bC⟩:=cp (P:=P) (w:=w) (base:=base) T
 obtain⟨fdN,GN,bN⟩:=eG (P:=P) (w:=w) (base:=base) T
 obtain⟨_,FS⟩:=T.ba
 obtain⟨_,FR⟩:=T.cg
 refine⟨fd,?_,F.b2 fun _ _ _ _ _ _ _ _=>rfl⟩
 refine F.okX sC (fun vs H Q E h=>?_) (fun cdv A' outer s H vs Q E hr h=>?_)
 ·exact zL5 (fun _ _ _ _ _=>rfl) h
 ·revert h; refine zG5 fun h c st ws xs zz=>?_; obtain⟨rfl,hv,⟨dc,lw,lr,rs,c1,c2,c3,c4⟩,hws,hxs,hg,_,kret,kref⟩:=zz
  have nd:=sC.nd
  have hr4:cf 4 _:=hr.mono (by decide)
  have hr1:cf 1 _:=hr.mono (by decide)
  obtain⟨g,ro,rfl⟩:=Iy (hg rfl)
  obtain⟨x1,x2,x3,rfl⟩:=Jf hws
  rw [len0 hxs,Gq] at kret kref
  have kref0:=kref
  have kref:=fun e he=>(kref0 e he).ref hv (.of fun _ _ e=>e)
  have hG:=hv.tL
  obtain⟨dx,ag,lo,b,c',d',e',f',m',h1,G,W⟩:=id hG
  obtain⟨⟨dg,lgw,lgt,g1,g2,g3⟩,_⟩:=id G
  refine⟨_,ae (aD (i:=2) nd rfl (Or.inl rfl) (aS aG (aw (pv 1) rfl) az (fun _ _=>rfl)))
   (ae (aD (i:=3) nd rfl (Or.inl rfl) (aS aG (aw (pv 1) rfl) az (fun _ _=>rfl)))
   (ae (aD (i:=4) nd rfl (Or.inl rfl) (aS aG (aw (pv 1) rfl) az (fun _ _=>rfl)))
   (ae (aK (aA (E:=E) GS hr rfl T.bc FS.kp bS .nil ax.passes (aa (pv 0) (aa (pv 2) ai))))
   (ae (aK (aA (E:=E) GR hr4 rfl T.ck FR.kp bR .nil ax.passes (aa (pv 3) (aa az (aa (pv 2) ai)))))
   (ae (aK (aA (E:=E) GR hr4 rfl T.ck FR.kp bR .nil ax.passes (aa (pv 4) (aa az (aa (bj mz (cq (E:=E) (aw (pv 0) rfl) T.aH T.cn GC hr1 bC .nil ax.passes) az) ai)))))
   (ak (aF (bQ (aa (bz (E:=E) (aw (pv 0) rfl) T.aH T.eC GN hr1 bN .nil ax.passes (aa (bj mz (pv 2) (pv 3)) (aa (pv 4) ai))) ai))))))))),?_⟩
  refine zV rfl (zF c1 T.aZ T.aM rfl (zI (SqL.of c2) (at_of (j:=0) rfl rfl) ?_))
  refine zV rfl (zF c1 T.aZ T.aM rfl (zI (SqL.of c2) (at_of (j:=1) rfl rfl) ?_))
  refine zV rfl (zF c1 T.aZ T.aM rfl (zI (SqL.of c2) (at_of (j:=2) rfl rfl) ?_))
  refine zV rfl (zV rfl (zE3 h g x1 ⟨rfl,hG,fun q1=>?_,fun q1=>kref (-3) (dq q1)⟩))
  have e1:((x1.toNat:Nat):Int)=x1:=Int.toNat_of_nonneg q1.1
  refine zV rfl (zV rfl (zE3 x2 0 x1 ⟨rfl,fun q2=>?_,fun q2=>kref (-3) (by rw [aX q1,dq (by rw [e1]; exact q2)]; rfl)⟩))
  have e2:((x2.toNat:Nat):Int)=x2:=Int.toNat_of_nonneg q2.1
  refine zV rfl (zV rfl (zF h1 T.ao T.aB rfl (zM g1 rfl (zE2 ag g ⟨rfl,G.gr,zO ⟨x3,0,(g.seasons:Int) - 1,rfl,fun q3=>?_,fun q3=>kref (-3) (by rw [aX q1,aX (by rw [e1]; exact q2),dq q3]; rfl)⟩⟩))))
  rw [aX q1,aX (by rw [e1]; exact q2),aX q3] at kret
  have e3:((x3.toNat:Nat):Int)=x3:=Int.toNat_of_nonneg q3.1
  refine zV rfl (zF h1 T.ao T.aB rfl (zM g1 rfl (zV rfl (zV rfl (zO (zV rfl ⟨ag,g,x1.toNat - x2.toNat,x3.toNat,?_,G.gr,W,by omega,by omega,by show 1≤sizeLine; decide,fun l hl=>?_⟩))))))
  ·show [V.ref ag,V.int (x1 - x2),V.int x3]=[V.ref ag,V.int ((x1.toNat - x2.toNat:Nat):Int),V.int (x3.toNat:Nat)]
   rw [e3,show ((x1.toNat - x2.toNat:Nat):Int)=x1 - x2 from by omega]
  have s1:=aE.upd (o:=HO.lst [V.int (g.next x3.toNat (x1.toNat - x2.toNat):Nat)]) hl
  exact kret _ l hl af (hv.same s1) (.of s1)
end HG
end
section
namespace HG
open PySem PySem.Spec PyProof.Rows L2
open PySem.W (Frag)
variable {P:Program} {w:World} {K:Frag} {mg:Str→Option Value} {base:Heap} {A:Ad}
theorem sG:ay ["harvest","call","stocks","stock"] ["harvest","call"] (au oR):=⟨rfl,rfl,rfl,by decide +kernel,rfl,by decide +kernel,by decide +kernel⟩
theorem y9 (T:Txt K mg A):Fok P w K mg base 2 A.gG ["harvest","call"] (spA K A 5 0 0 true true):=by
 obtain⟨fd,F⟩:=T.jd
 obtain⟨fdA,GA,bA⟩:=bt (P:=P) (w:=w) (base:=base) T
 refine⟨fd,?_,F.b2 fun _ _ _ _ _ _ _ _=>rfl⟩
 refine F.okX sG (fun vs H Q E h=>?_) (fun cdv A' outer s H vs Q E hr h=>?_)
 ·exact zL5 (fun _ _ _ _ _=>rfl) h
 ·revert h; refine zG5 fun h c st ws xs zz=>?_; obtain⟨rfl,hv,_,hws,hxs,hg,hru,kret,kref⟩:=zz
  have nd:=sG.nd
  obtain⟨g,r,rfl⟩:=oB (hg rfl) (hru rfl)
  rw [len0 hws,len0 hxs] at kret kref
  obtain⟨dx,ag,lo,ar,ly,ls,dm,sl,ml,B⟩:=hv.both
  obtain⟨⟨dg,lgw,lgt,g1,g2,g3⟩,_⟩:=id B.gr
  have n50:=B.wg.n50
  refine⟨_,ae (aD (i:=2) nd rfl (Or.inl rfl) (cq (E:=E) (aw (pv 0) rfl) T.aH T.a0 GA hr bA .nil ax.passes))
   (ak (aF (bj uF (bQ (aa az ai)) (iA rfl nd (aY (pv 2)) (aR (own:=[("stock",3)]) (by kernel_rfl)) (fun _ _ _ _ _=>aL (i:=3) nd rfl (Or.inl rfl))
    (fun _ _ _ _ _=>lK (gc (aS (r:=qW K) aG (show PE _ _ (BA K (tY 0) "safe") from aw (pv 0) rfl) (pv 3) (fun _ _=>rfl)))) (fun _ _ _ _ _=>pv 3))))),?_⟩
  refine zV rfl (zF B.at_ T.ao T.aB rfl (zM g1 rfl (zE2 ag g ⟨rfl,B.gr.gr,B.wg,fun H1 l1 f1 hl1 s1=>?_⟩)))
  refine⟨by show 1≤sizeLine; decide,fun p1 hp1=>?_⟩
  have s2:=aE.upd (o:=HO.lst [V.int 0]) hp1
  have s12:=s1.trans s2
  refine zV rfl ⟨l1,rfl,⟨_,SqL.of (s2 _ _ hl1)⟩,fun D hD=>vo (Vbecag.isIn (Vbecag.safe g r)) (s2 _ _ hl1) hD (by rw [eN]; omega) (show 3 < 4 by decide) (fun i x H' hi s Z z=>?_) fun H3 p3 s3=>?_⟩
  ·obtain⟨rfl,hin⟩:=tJ hi
   have s0:=s12.trans s
   exact⟨rfl,zX rfl (zF (s0 _ _ B.at_) T.ao T.bu rfl (zX rfl (zI (SqL.of (s0 _ _ B.sf)) (bg (vP hin)) (zX rfl (z _ (fun _ _ e=>e))))))⟩
  refine zE4 p1 D _ _ ⟨rfl,rfl,s3 _ _ af,p3,?_,fun l hl=>?_⟩
  ·rw [aQ,sizeLine_eq]
   have h1:=List.length_filter_le (Vbecag.isIn (Vbecag.safe g r)) (Vbecag.stocks g)
   rw [eN] at h1
   show 1 + _≤_
   omega
  have s4:=(s12.trans s3).trans (aE.upd (o:=HO.lst ([V.int 0] ++ nv ((Vbecag.stocks g).filter (Vbecag.isIn (Vbecag.safe g r))))) hl)
  refine kret _ l ((s12.trans s3).free hl) ?_ (hv.same s4) (.of s4)
  rw [af]
  show _=some (HO.lst ((0 :: Vbecag.ints (Vbecag.members g (Vbecag.safe g r))).map V.int))
  rw [List.map_cons,vC]
  rfl
theorem pF:ay ["harvest","call","stock"] ["harvest","call"] (au mr):=⟨rfl,rfl,rfl,by decide +kernel,rfl,by decide +kernel,by decide +kernel⟩
theorem CK (g:Vbecag.Growth) (r:Vbecag.Rule) (a:Int):Vbecag.step ⟨some g,some r⟩ [[6,a]]=Vbecag.withNum ⟨some g,some r⟩ a 0 (g.n:Int) fun x=>if Vbecag.isIn (Vbecag.safe g r) x=true then (⟨some g,some r⟩,0 :: Vbecag.ints (Vbecag.good g r (Vbecag.safe g r) x)) else Vbecag.bad ⟨some g,some r⟩ (-6):=rfl
theorem Gp (g:Vbecag.Growth) (r:Vbecag.Rule) (a:Int):Vbecag.step ⟨some g,some r⟩ [[7,a]]=Vbecag.withNum ⟨some g,some r⟩ a 0 (g.n:Int) fun x=>if Vbecag.isIn (Vbecag.safe g r) x=true then (⟨some g,some r⟩,[(Vbecag.greatest (Vbecag.good g r (Vbecag.safe g r) x):Int)]) else Vbecag.bad ⟨some g,some r⟩ (-6):=rfl
theorem wL (T:Txt K mg A):Fok P w K mg base 6 A.dR ["harvest","call"] (spA K A 6 1 0 true true):=by
 obtain⟨fd,F⟩:=T.gi
 obtain⟨fdS,GS,bS⟩:=bP (P:=P) (w:=w) (base:=base) T
 obtain⟨fdN,GN,bN⟩:=qm (P:=P) (w:=w) (base:=base) T
 obtain⟨fdC,GC,bC⟩:=vJ (P:=P) (w:=w) (base:=base) T
 obtain⟨_,FS⟩:=T.ba
 obtain⟨_,FN⟩:=T.ie
 obtain⟨_,FC⟩:=T.jN
 refine⟨fd,?_,F.b2 fun _ _ _ _ _ _ _ _=>rfl⟩
 refine F.okX pF (fun vs H Q E h=>?_) (fun cdv A' outer s H vs Q E hr h=>?_)
 ·exact zL5 (fun _ _ _ _ _=>rfl) h
 ·revert h; refine zG5 fun h c st ws xs zz=>?_; obtain⟨rfl,hv,⟨dc,lw,lr,rs,c1,c2,c3,c4⟩,hws,hxs,hg,hru,kret,kref⟩:=zz
  have nd:=pF.nd
  have hr4:cf 4 _:=hr.mono (by decide)
  have hr3:cf 3 _:=hr.mono (by decide)
  obtain⟨g,r,rfl⟩:=oB (hg rfl) (hru rfl)
  obtain⟨x,rfl⟩:=iO hws
  rw [len0 hxs,CK] at kret kref
  have kref0:=kref
  have kref:=fun e he=>(kref0 e he).ref hv (.of fun _ _ e=>e)
  have n50:=(hv.both.choose_spec.choose_spec.choose_spec.choose_spec.choose_spec.choose_spec.choose_spec.choose_spec.choose_spec).wg.n50
  refine⟨_,ae (aD (i:=2) nd rfl (Or.inl rfl) (aS aG (aw (pv 1) rfl) az (fun _ _=>rfl)))
   (ae (aK (aA (E:=E) GS hr rfl T.bc FS.kp bS .nil ax.passes (aa (pv 0) (aa (pv 2) ai))))
   (ae (aK (aA (E:=E) GN hr4 rfl T.jV FN.kp bN .nil ax.passes (aa (pv 0) (aa (pv 2) ai))))
   (ak (aF (bj uF (bQ (aa az ai)) (aA (E:=E) GC hr3 rfl T.lW FC.kp bC .nil ax.passes (aa (pv 0) (aa (pv 2) ai)))))))),?_⟩
  refine zV rfl (zF c1 T.aZ T.aM rfl (zI (SqL.of c2) (at_of (j:=0) rfl rfl) ?_))
  refine zV rfl (zV rfl (zE3 h g x ⟨rfl,hv.tL,fun q1=>?_,fun q1=>kref (-3) (dq q1)⟩))
  obtain⟨y,rfl⟩:=Int.eq_ofNat_of_zero_le q1.1
  rw [aX q1,Int.toNat_natCast] at kret
  refine zV rfl (zV rfl (zE4 h g r y ⟨rfl,hv,by omega,fun q2=>?_,fun q2=>kref (-6) (by rw [aX q1,Int.toNat_natCast,if_neg (by rw [q2]; decide)]; rfl)⟩))
  rw [if_pos q2] at kret
  refine⟨by show 1≤sizeLine; decide,fun p1 hp1=>?_⟩
  have s1:=aE.upd (o:=HO.lst [V.int 0]) hp1
  refine zV rfl (zV rfl (zE4 h g r y ⟨rfl,hv.same s1,by omega,fun H2 l fl hl s2=>?_⟩))
  refine zE4 p1 l _ _ ⟨rfl,rfl,s2 _ _ af,hl,?_,fun l2 hl2=>?_⟩
  ·rw [aQ,sizeLine_eq]
   have:=EF (g:=g) (r:=r) (s:=Vbecag.safe g r) (x:=y)
   show 1 + _≤_
   omega
  have s3:=(s1.trans s2).trans (aE.upd (o:=HO.lst ([V.int 0] ++ nv (Vbecag.good g r (Vbecag.safe g r) y))) hl2)
  refine kret _ l2 ((s1.trans s2).free hl2) ?_ (hv.same s3) (.of s3)
  rw [af]
  show _=some (HO.lst ((0 :: Vbecag.ints (Vbecag.good g r (Vbecag.safe g r) y)).map V.int))
  rw [List.map_cons,vC]
  rfl
theorem sA:ay ["harvest","call","stock"] ["harvest","call"] (au oN):=⟨rfl,rfl,rfl,by decide +kernel,rfl,by decide +kernel,by decide +kernel⟩
theorem yX (T:Txt K mg A):Fok P w K mg base 6 A.gC ["harvest","call"] (spA K A 7 1 0 true true):=by
 obtain⟨fd,F⟩:=T.i9
 obtain⟨fdS,GS,bS⟩:=bP (P:=P) (w:=w) (base:=base) T
 obtain⟨fdN,GN,bN⟩:=qm (P:=P) (w:=w) (base:=base) T
 obtain⟨fdC,GC,bC⟩:=vJ (P:=P) (w:=w) (base:=base) T
 obtain⟨_,FS⟩:=T.ba
 obtain⟨_,FN⟩:=T.ie
 obtain⟨_,FC⟩:=T.jN
 refine⟨fd,?_,F.b2 fun _ _ _ _ _ _ _ _=>rfl⟩
 refine F.okX sA (fun vs H Q E h=>?_) (fun cdv A' outer s H vs Q E hr h=>?_)
 ·exact zL5 (fun _ _ _ _ _=>rfl) h
 ·revert h; refine zG5 fun h c st ws xs zz=>?_; obtain⟨rfl,hv,⟨dc,lw,lr,rs,c1,c2,c3,c4⟩,hws,hxs,hg,hru,kret,kref⟩:=zz
  have nd:=sA.nd
  have hr4:cf 4 _:=hr.mono (by decide)
  have hr3:cf 3 _:=hr.mono (by decide)
  obtain⟨g,r,rfl⟩:=oB (hg rfl) (hru rfl)
  obtain⟨x,rfl⟩:=iO hws
  rw [len0 hxs,Gp] at kret kref
  have kref0:=kref
  have kref:=fun e he=>(kref0 e he).ref hv (.of fun _ _ e=>e)
  refine⟨_,ae (aD (i:=2) nd rfl (Or.inl rfl) (aS aG (aw (pv 1) rfl) az (fun _ _=>rfl)))
   (ae (aK (aA (E:=E) GS hr rfl T.bc FS.kp bS .nil ax.passes (aa (pv 0) (aa (pv 2) ai))))
   (ae (aK (aA (E:=E) GN hr4 rfl T.jV FN.kp bN .nil ax.passes (aa (pv 0) (aa (pv 2) ai))))
   (ak (aF (bQ (aa (aO (Hd rfl) (by rfl) T.uY (by kernel_rfl) (aa (aA (E:=E) GC hr3 rfl T.lW FC.kp bC .nil ax.passes (aa (pv 0) (aa (pv 2) ai))) ai)) ai)))))),?_⟩
  refine zV rfl (zF c1 T.aZ T.aM rfl (zI (SqL.of c2) (at_of (j:=0) rfl rfl) ?_))
  refine zV rfl (zV rfl (zE3 h g x ⟨rfl,hv.tL,fun q1=>?_,fun q1=>kref (-3) (dq q1)⟩))
  obtain⟨y,rfl⟩:=Int.eq_ofNat_of_zero_le q1.1
  rw [aX q1,Int.toNat_natCast] at kret
  refine zV rfl (zV rfl (zE4 h g r y ⟨rfl,hv,by omega,fun q2=>?_,fun q2=>kref (-6) (by rw [aX q1,Int.toNat_natCast,if_neg (by rw [q2]; decide)]; rfl)⟩))
  rw [if_pos q2] at kret
  refine zV rfl (zV rfl (zE4 h g r y ⟨rfl,hv,by omega,fun H2 l fl hl s2=>?_⟩))
  refine zE2 l ((Vbecag.good g r (Vbecag.safe g r) y).map (fun x:Nat=>(x:Int))) ⟨rfl,by rw [Cd]; exact SqL.of hl,by rw [List.length_map]; exact List.length_pos_iff.mpr (wY q2),fun m hm hmax=>?_⟩
  refine⟨by show 1≤sizeLine; decide,fun l2 hl2=>?_⟩
  have s3:=s2.trans (aE.upd (o:=HO.lst [V.int m]) hl2)
  refine kret _ l2 (s2.free hl2) ?_ (hv.same s3) (.of s3)
  rw [af]
  obtain⟨m',hm',rfl⟩:=List.mem_map.mp hm
  rw [n9 hm' fun y hy=>by have:=hmax (y:Int) (List.mem_map.mpr ⟨y,hy,rfl⟩); omega]
  rfl
theorem qJ:ay ["harvest","call","stock"] ["harvest","call"] (au ni):=⟨rfl,rfl,rfl,by decide +kernel,rfl,by decide +kernel,by decide +kernel⟩
theorem D0 (g:Vbecag.Growth) (r:Vbecag.Rule) (a:Int):Vbecag.step ⟨some g,some r⟩ [[8,a]]=Vbecag.withNum ⟨some g,some r⟩ a 0 (g.n:Int) fun x=>match Vbecag.years g r x with
  | none=>(⟨some g,some r⟩,[0])
  | some k=>(⟨some g,some r⟩,[1,(k:Int)]):=rfl
theorem xI (T:Txt K mg A):Fok P w K mg base 6 A.ft ["harvest","call"] (spA K A 8 1 0 true true):=by
 obtain⟨fd,F⟩:=T.ib
 obtain⟨fdS,GS,bS⟩:=bP (P:=P) (w:=w) (base:=base) T
 obtain⟨_,FS⟩:=T.ba
 refine⟨fd,?_,F.b2 fun _ _ _ _ _ _ _ _=>rfl⟩
 refine F.okX qJ (fun vs H Q E h=>?_) (fun cdv A' outer s H vs Q E hr h=>?_)
 ·exact zL5 (fun _ _ _ _ _=>rfl) h
 ·revert h; refine zG5 fun h c st ws xs zz=>?_; obtain⟨rfl,hv,⟨dc,lw,lr,rs,c1,c2,c3,c4⟩,hws,hxs,hg,hru,kret,kref⟩:=zz
  have nd:=qJ.nd
  obtain⟨g,r,rfl⟩:=oB (hg rfl) (hru rfl)
  obtain⟨x,rfl⟩:=iO hws
  rw [len0 hxs,D0] at kret kref
  have kref0:=kref
  have kref:=fun e he=>(kref0 e he).ref hv (.of fun _ _ e=>e)
  obtain⟨dx,ag,lo,ar,ly,ls,dm,sl,ml,B⟩:=hv.both
  refine⟨_,ae (aD (i:=2) nd rfl (Or.inl rfl) (aS aG (aw (pv 1) rfl) az (fun _ _=>rfl)))
   (ae (aK (aA (E:=E) GS hr rfl T.bc FS.kp bS .nil ax.passes (aa (pv 0) (aa (pv 2) ai))))
   (ae (iC (gc (aS aG (aw (pv 0) rfl) (pv 2) (fun _ _=>rfl))) (ak (aF (bQ (aa az ai)))) cu)
   (ak (aF (bQ (aa az (aa (aS aG (aw (pv 0) rfl) (pv 2) (fun _ _=>rfl)) ai))))))),?_⟩
  refine zV rfl (zF c1 T.aZ T.aM rfl (zI (SqL.of c2) (at_of (j:=0) rfl rfl) ?_))
  refine zV rfl (zV rfl (zE3 h g x ⟨rfl,hv.tL,fun q1=>?_,fun q1=>kref (-3) (dq q1)⟩))
  obtain⟨y,rfl⟩:=Int.eq_ofNat_of_zero_le q1.1
  rw [aX q1,Int.toNat_natCast] at kret
  refine zX rfl (zF B.at_ T.ao T.bu rfl (zX rfl (zI (SqL.of B.sf) (bg (vP (by omega))) (zX rfl ?_))))
  refine ko (fun c=>?_) fun c=>?_
  ·rw [VM.uR c] at kret
   refine⟨by show 1≤sizeLine; decide,fun l hl=>?_⟩
   have s1:=aE.upd (o:=HO.lst [V.int 0]) hl
   exact kret _ l hl af (hv.same s1) (.of s1)
  ·cases e:Vbecag.years g r y with
   | none=>exact absurd (VM.kH.mp e) c
   | some k =>
    rw [e] at kret
    have hat:=bg (En (g:=g) (r:=r) (x:=y) (by omega))
    rw [e] at hat
    refine zV rfl (zF B.at_ T.ao T.cH rfl (zV rfl (zI (SqL.of B.ys) hat ⟨by show 2≤sizeLine; decide,fun l hl=>?_⟩)))
    have s1:=aE.upd (o:=HO.lst [V.int 1,V.int (k:Int)]) hl
    exact kret _ l hl af (hv.same s1) (.of s1)
theorem sv:ay ["harvest","call","stock","catch"] ["harvest","call"] (au oK):=⟨rfl,rfl,rfl,by decide +kernel,rfl,by decide +kernel,by decide +kernel⟩
theorem Gm (g:Vbecag.Growth) (r:Vbecag.Rule) (a b:Int):Vbecag.step ⟨some g,some r⟩ [[9,a,b]]=Vbecag.withNum ⟨some g,some r⟩ a 0 (g.n:Int) fun x=>Vbecag.withNum ⟨some g,some r⟩ b 0 (x:Int) fun q =>
  if Vbecag.isIn (Vbecag.safe g r) x=true∨x < r.low∨(Vbecag.catches r x).contains q=false then Vbecag.bad ⟨some g,some r⟩ (-6) else (⟨some g,some r⟩,[(Vbecag.harm g r x q:Int)]):=rfl
theorem yU (T:Txt K mg A):Fok P w K mg base 6 A.gA ["harvest","call"] (spA K A 9 2 0 true true):=by
 obtain⟨fd,F⟩:=T.i7
 obtain⟨fdS,GS,bS⟩:=bP (P:=P) (w:=w) (base:=base) T
 obtain⟨fdR,GR,bR⟩:=eM (P:=P) (w:=w) (base:=base) T
 obtain⟨fdM,GM,bM⟩:=i5 (P:=P) (w:=w) (base:=base) T
 obtain⟨fdH,GH,bH⟩:=ou (P:=P) (w:=w) (base:=base) T
 obtain⟨fdN,GN,bN⟩:=fZ (P:=P) (w:=w) (base:=base) T
 obtain⟨_,FS⟩:=T.ba
 obtain⟨_,FR⟩:=T.cg
 obtain⟨_,FH⟩:=T.dv
 refine⟨fd,?_,F.b2 fun _ _ _ _ _ _ _ _=>rfl⟩
 refine F.okX sv (fun vs H Q E h=>?_) (fun cdv A' outer s H vs Q E hr h=>?_)
 ·exact zL5 (fun _ _ _ _ _=>rfl) h
 ·revert h; refine zG5 fun h c st ws xs zz=>?_; obtain⟨rfl,hv,⟨dc,lw,lr,rs,c1,c2,c3,c4⟩,hws,hxs,hg,hru,kret,kref⟩:=zz
  have nd:=sv.nd
  have hr1:cf 1 _:=hr.mono (by decide)
  have hr2:cf 2 _:=hr.mono (by decide)
  have hr3:cf 3 _:=hr.mono (by decide)
  have hr4:cf 4 _:=hr.mono (by decide)
  obtain⟨g,r,rfl⟩:=oB (hg rfl) (hru rfl)
  obtain⟨x,y,rfl⟩:=zK hws
  rw [len0 hxs,Gm] at kret kref
  have kref0:=kref
  have kref:=fun e he=>(kref0 e he).ref hv (.of fun _ _ e=>e)
  obtain⟨dx,ag,lo,ar,ly,ls,dm,sl,ml,B⟩:=hv.both
  obtain⟨dr,r1⟩:=id B.ru
  refine⟨_,ae (aD (i:=2) nd rfl (Or.inl rfl) (aS aG (aw (pv 1) rfl) az (fun _ _=>rfl)))
   (ae (aD (i:=3) nd rfl (Or.inl rfl) (aS aG (aw (pv 1) rfl) az (fun _ _=>rfl)))
   (ae (aK (aA (E:=E) GS hr rfl T.bc FS.kp bS .nil ax.passes (aa (pv 0) (aa (pv 2) ai))))
   (ae (aK (aA (E:=E) GR hr4 rfl T.ck FR.kp bR .nil ax.passes (aa (pv 3) (aa az (aa (pv 2) ai)))))
   (ae (iC (PW.pt (EX (gc (aS aG (aw (pv 0) rfl) (pv 2) (fun _ _=>rfl))) (Bi (bx (pz (pv 2) (aw (aw (pv 0) rfl) rfl)))))) (ak (fG (dC T.jt GN hr3 rfl T.eA bN .nil ax.passes) ax rfl)) cu)
   (ae (iC (wW (gc (bz (E:=E) (aw (pv 0) rfl) T.bh T.i4 GM hr1 bM .nil ax.passes (aa (pv 2) (aa (pv 3) ai))))) (ak (fG (dC T.jt GN hr3 rfl T.eA bN .nil ax.passes) ax rfl)) cu)
   (ak (aF (bQ (aa (aA (E:=E) GH hr2 rfl T.fC FH.kp bH .nil ax.passes (aa (aw (pv 0) rfl) (aa (aw (pv 0) rfl) (aa (pv 2) (aa (pv 3) ai))))) ai))))))))),?_⟩
  refine zV rfl (zF c1 T.aZ T.aM rfl (zI (SqL.of c2) (at_of (j:=0) rfl rfl) ?_))
  refine zV rfl (zF c1 T.aZ T.aM rfl (zI (SqL.of c2) (at_of (j:=1) rfl rfl) ?_))
  refine zV rfl (zV rfl (zE3 h g x ⟨rfl,hv.tL,fun q=>?_,fun q=>kref (-3) (dq q)⟩))
  obtain⟨x,rfl⟩:=Int.eq_ofNat_of_zero_le q.1
  refine zV rfl (zV rfl (zE3 y 0 x ⟨rfl,fun q2=>?_,fun q2=>kref (-3) (by rw [aX q,Int.toNat_natCast,dq q2]; rfl)⟩))
  obtain⟨y,rfl⟩:=Int.eq_ofNat_of_zero_le q2.1
  rw [aX q,Int.toNat_natCast,aX q2,Int.toNat_natCast] at kret
  have R6:(Vbecag.isIn (Vbecag.safe g r) x=true∨x < r.low∨may r x y=false)→Ref K A (-6) H E:=fun z=>kref (-6) (by rw [aX q,Int.toNat_natCast,aX q2,Int.toNat_natCast,mK,if_pos z]; rfl)
  have hxn:x≤g.n:=by omega
  refine zX rfl (zF B.at_ T.ao T.bu rfl (zX rfl (zI (SqL.of B.sf) (bg (vP hxn)) (zX rfl ?_))))
  refine ko (fun a1=>?_) fun a1=>?_
  ·exact nP (eI T.gR T.bJ T.cb (R6 (.inl a1)))
  refine zX rfl (zX rfl (zF B.at_ T.ao T.aP rfl (zF r1 T.bh T.cP rfl (zO (zX rfl ?_)))))
  refine ko (fun a2=>?_) fun a2=>?_
  ·have a2:x < r.low:=by have:=of_decide_eq_true a2; omega
   exact eI T.gR T.bJ T.cb (R6 (.inr (.inl a2)))
  have a2:¬ x < r.low:=fun z=>a2 (decide_eq_true (show (x:Int) < (r.low:Int) by omega))
  refine zX rfl (zF B.at_ T.ao T.aP rfl (zM r1 rfl (zX rfl (zX rfl ⟨ar,r,x,y,rfl,B.ru,zX rfl ?_⟩))))
  cases e:may r x y with
  | false=>exact eI (D:={ nx:=fun _ H1=>Q .non H1,rt:=Q }) T.gR T.bJ T.cb (R6 (.inr (.inr e)))
  | true =>
   have hm:r.least≤y∧y≤r.most∧y≤x:=of_decide_eq_true e
   cases e2:Vbecag.years g r x with
   | none=>exact absurd (VM.kH.mp e2) a1
   | some k =>
    rw [mK,if_neg (fun z=>?_)] at kret
    ·refine zV rfl (zF B.at_ T.ao T.aB rfl (zV rfl (zF B.at_ T.ao T.cH rfl (zV rfl (zV rfl (zE8 ag ly lo g r x y k ⟨rfl,B.gr,B.wg,B.ys,hxn,e2,by omega,hm,fun H2 s2=>⟨by show 1≤sizeLine; decide,fun l hl=>?_⟩⟩))))))
     have s3:=s2.trans (aE.upd (o:=HO.lst [V.int (Vbecag.harm g r x y:Nat)]) hl)
     exact kret _ l (s2.free hl) af (hv.same s3) (.of s3)
    ·rcases z with z | z | z
     ·exact a1 z
     ·omega
     ·rw [e] at z; cases z
end HG
end
section
namespace HG
open PySem PySem.Spec PyProof.Rows L2
open PySem.W (Frag)
variable {P:Program} {w:World} {K:Frag} {mg:Str→Option Value} {base:Heap} {A:Ad}
theorem um {l:List Int} {n:Nat} (h:∀ x∈l,0≤x∧x≤(n:Int)):∀ x∈l.map Int.toNat,x≤n:=fun x hx=>by
 obtain⟨z,hz,rfl⟩:=List.mem_map.mp hx
 have:=h z hz
 omega
theorem jq {h:Addr} {H:Hp}:Own h H H:=.of fun _ _ e=>e
theorem qG:ay ["harvest","call","stocks"] ["harvest","call"] (au m8):=⟨rfl,rfl,rfl,by decide +kernel,rfl,by decide +kernel,by decide +kernel⟩
theorem DY (g:Vbecag.Growth) (r:Vbecag.Rule) (l:List Int):Vbecag.step ⟨some g,some r⟩ [[10],l]=Vbecag.withList ⟨some g,some r⟩ 0 51 0 (g.n:Int) l fun l=>(⟨some g,some r⟩,[Vbecag.flag (Vbecag.closed g r (Vbecag.setOf g l))]):=rfl
theorem xF (T:Txt K mg A):Fok P w K mg base 6 A.fj ["harvest","call"] (spA K A 10 0 1 true true):=by
 obtain⟨fd,F⟩:=T.hZ
 obtain⟨fdS,GS,bS⟩:=jL (P:=P) (w:=w) (base:=base) T
 obtain⟨_,FS⟩:=T.cj
 obtain⟨fdC,GC,bC⟩:=tQ (P:=P) (w:=w) (base:=base) T
 obtain⟨_,FC⟩:=T.dD
 obtain⟨fdY,GY,bY⟩:=mT (P:=P) (w:=w) (base:=base) T
 obtain⟨_,FY⟩:=T.fJ
 refine⟨fd,?_,F.b2 fun _ _ _ _ _ _ _ _=>rfl⟩
 refine F.okX qG (fun vs H Q E h=>?_) (fun cdv A' outer s H vs Q E hr h=>?_)
 ·exact zL5 (fun _ _ _ _ _=>rfl) h
 ·revert h; refine zG5 fun h c st ws xs zz=>?_; obtain⟨rfl,hv,⟨dc,lw,lr,rs,c1,c2,c3,c4⟩,hws,hxs,hg,hru,kret,kref⟩:=zz
  have nd:=qG.nd
  obtain⟨g,r,rfl⟩:=oB (hg rfl) (hru rfl)
  obtain rfl:=len0 hws
  obtain⟨l,rfl⟩:=iO hxs
  rw [DY] at kret kref
  have kref0:=kref
  have kref:=fun e he=>(kref0 e he).ref hv jq
  cases c4 with
  | @cons a1 _ _ _ r1 c5 =>
  cases c5
  obtain⟨dx,ag,lo,ar,ly,ls,dm,sl,ml,B⟩:=hv.both
  obtain⟨⟨dg,lgw,lgt,g1,g2,g3⟩,_⟩:=id B.gr
  have n50:=B.wg.n50
  refine⟨_,ae (aD (i:=2) nd rfl (Or.inl rfl) (aS aG (aw (pv 1) rfl) az (fun _ _=>rfl)))
   (ae (aK (aA (E:=E) GS (hr.mono (by decide)) rfl T.cX FS.kp bS .nil ax.passes (aa (pv 0) (aa (pv 2) (aa az (aa az ai))))))
   (ak (aF (bQ (aa (aA (E:=E) GY (hr.mono (by decide)) rfl T.iy FY.kp bY .nil ax.passes (aa (aA (E:=E) GC (hr.mono (by decide)) rfl T.fW FC.kp bC .nil ax.passes (aa (aw (pv 0) rfl) (aa (aw (pv 0) rfl) (aa (pv 2) ai)))) ai)) ai))))),?_⟩
  refine zV rfl (zF c1 T.aZ T.eE rfl (zI (SqL.of c3) (at_of (j:=0) rfl rfl) ?_))
  refine zV rfl (zV rfl (zE6 h a1 g l 0 51 ⟨rfl,hv.tL,SqL.of r1,fun q=>?_,fun q=>kref (-4) (nz fun z=>q ⟨⟨by omega,by omega⟩,z.2⟩)⟩))
  rw [ku ⟨⟨by omega,by omega⟩,q.2⟩] at kret
  have hl:H a1=some (.lst (nv (l.map Int.toNat))):=by rw [nD fun y hy=>(q.2 y hy).1]; exact r1
  refine zV rfl (zF B.at_ T.ao T.aB rfl (zV rfl (zF B.at_ T.ao T.aP rfl (zV rfl (zE7 ag ar a1 lo g r (l.map Int.toNat) ⟨rfl,B.gr,B.wg,B.ru,hl,um q.2,by rw [List.length_map]; omega,fun H2 s2=>?_⟩)))))
  refine zX rfl ⟨by show 1≤sizeLine; decide,fun l2 hl2=>?_⟩
  have s3:=s2.trans (aE.upd (o:=HO.lst [V.int (Vbecag.flag (Vbecag.closed g r (Vbecag.setOf g (l.map Int.toNat))))]) hl2)
  exact kret _ l2 (s2.free hl2) af (hv.same s3) (.of s3)
theorem pG:ay ["harvest","call","ranks","size"] ["harvest","call"] (au mv):=⟨rfl,rfl,rfl,by decide +kernel,rfl,by decide +kernel,by decide +kernel⟩
theorem CL (g:Vbecag.Growth) (r:Vbecag.Rule) (l:List Int):Vbecag.step ⟨some g,some r⟩ [[11],l]=Vbecag.withList ⟨some g,some r⟩ (g.n + 1) (g.n + 1) 0 1000 l fun l=>(⟨some g,some r⟩,[Vbecag.flag (Vbecag.refutes g r l)]):=rfl
theorem wM (T:Txt K mg A):Fok P w K mg base 6 A.dS ["harvest","call"] (spA K A 11 0 1 true true):=by
 obtain⟨fd,F⟩:=T.gj
 obtain⟨fdS,GS,bS⟩:=mS (P:=P) (w:=w) (base:=base) T
 obtain⟨_,FS⟩:=T.fI
 obtain⟨fdC,GC,bC⟩:=zT (P:=P) (w:=w) (base:=base) T
 obtain⟨_,FC⟩:=T.j7
 obtain⟨fdY,GY,bY⟩:=mT (P:=P) (w:=w) (base:=base) T
 obtain⟨_,FY⟩:=T.fJ
 refine⟨fd,?_,F.b2 fun _ _ _ _ _ _ _ _=>rfl⟩
 refine F.okX pG (fun vs H Q E h=>?_) (fun cdv A' outer s H vs Q E hr h=>?_)
 ·exact zL5 (fun _ _ _ _ _=>rfl) h
 ·revert h; refine zG5 fun h c st ws xs zz=>?_; obtain⟨rfl,hv,⟨dc,lw,lr,rs,c1,c2,c3,c4⟩,hws,hxs,hg,hru,kret,kref⟩:=zz
  have nd:=pG.nd
  obtain⟨g,r,rfl⟩:=oB (hg rfl) (hru rfl)
  obtain rfl:=len0 hws
  obtain⟨l,rfl⟩:=iO hxs
  rw [CL] at kret kref
  have kref0:=kref
  have kref:=fun e he=>(kref0 e he).ref hv jq
  cases c4 with
  | @cons a1 _ _ _ r1 c5 =>
  cases c5
  obtain⟨dx,ag,lo,ar,ly,ls,dm,sl,ml,B⟩:=hv.both
  obtain⟨⟨dg,lgw,lgt,g1,g2,g3⟩,_⟩:=id B.gr
  have n50:=B.wg.n50
  refine⟨_,ae (aD (i:=2) nd rfl (Or.inl rfl) (aS aG (aw (pv 1) rfl) az (fun _ _=>rfl)))
   (ae (aD (i:=3) nd rfl (Or.inl rfl) (bj iz (aw (aw (pv 0) rfl) rfl) az))
   (ae (aK (aA (E:=E) GS (hr.mono (by decide)) rfl T.fN FS.kp bS .nil ax.passes (aa (pv 2) (aa (pv 3) (aa (pv 3) (aa az (aa az ai)))))))
   (ak (aF (bQ (aa (aA (E:=E) GY (hr.mono (by decide)) rfl T.iy FY.kp bY .nil ax.passes (aa (aA (E:=E) GC (hr.mono (by decide)) rfl T.mQ FC.kp bC .nil ax.passes (aa (aw (pv 0) rfl) (aa (aw (pv 0) rfl) (aa (pv 2) ai)))) ai)) ai)))))),?_⟩
  refine zV rfl (zF c1 T.aZ T.eE rfl (zI (SqL.of c3) (at_of (j:=0) rfl rfl) ?_))
  refine zV rfl (zF B.at_ T.ao T.aB rfl (zF g1 T.aH T.aW rfl (zO ?_)))
  refine zV rfl (zV rfl (zV rfl (zE6 a1 l ((g.n:Int) + 1) ((g.n:Int) + 1) 0 1000 ⟨rfl,SqL.of r1,fun q=>?_,fun q=>kref (-4) (nz fun z=>q ⟨⟨by omega,by omega⟩,z.2⟩)⟩)))
  have hl:H a1=some (.lst (nv (l.map Int.toNat))):=by rw [nD fun y hy=>(q.2 y hy).1]; exact r1
  have hlen:l.length=g.n + 1:=by omega
  rw [ku ⟨⟨by omega,by omega⟩,q.2⟩] at kret
  refine zV rfl (zF B.at_ T.ao T.aB rfl (zV rfl (zF B.at_ T.ao T.aP rfl (zV rfl (zE7 ag ar a1 lo g r (l.map Int.toNat) ⟨rfl,B.gr,B.wg,B.ru,hl,by rw [List.length_map]; exact hlen,um (n:=1000) q.2,fun H2 s2=>?_⟩)))))
  refine zX rfl ⟨by show 1≤sizeLine; decide,fun l2 hl2=>?_⟩
  have s3:=s2.trans (aE.upd (o:=HO.lst [V.int (Vbecag.flag (Vbecag.refutes g r (l.map Int.toNat)))]) hl2)
  exact kret _ l2 (s2.free hl2) af (hv.same s3) (.of s3)
theorem sD:ay ["harvest","call","stock","seasons"] ["harvest","call"] (au oP):=⟨rfl,rfl,rfl,by decide +kernel,rfl,by decide +kernel,by decide +kernel⟩
theorem Gs (g:Vbecag.Growth) (r:Vbecag.Rule) (x:Int) (l:List Int):Vbecag.step ⟨some g,some r⟩ [[12,x],l]=Vbecag.withNum ⟨some g,some r⟩ x 0 (g.n:Int) fun x=>Vbecag.withList ⟨some g,some r⟩ 0 200 0 ((g.seasons:Int) - 1) l fun l =>
  if Vbecag.isIn (Vbecag.safe g r) x=true then (⟨some g,some r⟩,0 :: Vbecag.ints ((Vbecag.played g r (Vbecag.safe g r) l x).1 ++ [(Vbecag.played g r (Vbecag.safe g r) l x).2])) else Vbecag.bad ⟨some g,some r⟩ (-6):=rfl
theorem uH {g:Vbecag.Growth} {r:Vbecag.Rule} {s:Vbecag.Stocks}:∀ (l:List Nat) (x:Nat),(Vbecag.played g r s l x).1.length=l.length
 | [],_=>rfl
 | c :: l,x=>by
  unfold Vbecag.played
  show (_ :: _).length=_
  rw [List.length_cons,List.length_cons,uH l]
theorem yZ (T:Txt K mg A):Fok P w K mg base 6 A.gE ["harvest","call"] (spA K A 12 1 1 true true):=by
 obtain⟨fd,F⟩:=T.jb
 obtain⟨fdS,GS,bS⟩:=bP (P:=P) (w:=w) (base:=base) T
 obtain⟨_,FS⟩:=T.ba
 obtain⟨fdL,GL,bL⟩:=mS (P:=P) (w:=w) (base:=base) T
 obtain⟨_,FL⟩:=T.fI
 obtain⟨fdN,GN,bN⟩:=qm (P:=P) (w:=w) (base:=base) T
 obtain⟨_,FN⟩:=T.ie
 obtain⟨fdK,GK,bK⟩:=cp (P:=P) (w:=w) (base:=base) T
 obtain⟨fdC,GC,bC⟩:=vL (P:=P) (w:=w) (base:=base) T
 obtain⟨_,FC⟩:=T.eY
 refine⟨fd,?_,F.b2 fun _ _ _ _ _ _ _ _=>rfl⟩
 refine F.okX sD (fun vs H Q E h=>?_) (fun cdv A' outer s H vs Q E hr h=>?_)
 ·exact zL5 (fun _ _ _ _ _=>rfl) h
 ·revert h; refine zG5 fun h c st ws xs zz=>?_; obtain⟨rfl,hv,⟨dc,lw,lr,rs,c1,c2,c3,c4⟩,hws,hxs,hg,hru,kret,kref⟩:=zz
  have nd:=sD.nd
  obtain⟨g,r,rfl⟩:=oB (hg rfl) (hru rfl)
  obtain⟨x,rfl⟩:=iO hws
  obtain⟨l,rfl⟩:=iO hxs
  rw [Gs] at kret kref
  have kref0:=kref
  have kref:=fun e he=>(kref0 e he).ref hv jq
  cases c4 with
  | @cons a1 _ _ _ r1 c5 =>
  cases c5
  obtain⟨dx,ag,lo,ar,ly,ls,dm,sl,ml,B⟩:=hv.both
  obtain⟨⟨dg,lgw,lgt,g1,g2,g3⟩,_⟩:=id B.gr
  have n50:=B.wg.n50
  refine⟨_,ae (aD (i:=2) nd rfl (Or.inl rfl) (aS aG (aw (pv 1) rfl) az (fun _ _=>rfl)))
   (ae (aD (i:=3) nd rfl (Or.inl rfl) (aS aG (aw (pv 1) rfl) az (fun _ _=>rfl)))
   (ae (aK (aA (E:=E) GS (hr.mono (by decide)) rfl T.bc FS.kp bS .nil ax.passes (aa (pv 0) (aa (pv 2) ai))))
   (ae (aK (aA (E:=E) GL (hr.mono (by decide)) rfl T.fN FL.kp bL .nil ax.passes (aa (pv 3) (aa az (aa az (aa az (aa (bj mz (cq (E:=E) (aw (pv 0) rfl) T.aH T.cn GK (hr.mono (by decide)) bK .nil ax.passes) az) ai)))))))
   (ae (aK (aA (E:=E) GN (hr.mono (by decide)) rfl T.jV FN.kp bN .nil ax.passes (aa (pv 0) (aa (pv 2) ai))))
   (ak (aF (bj uF (bQ (aa az ai)) (aA (E:=E) GC (hr.mono (by decide)) rfl T.iR FC.kp bC .nil ax.passes (aa (aw (pv 0) rfl) (aa (aw (pv 0) rfl) (aa (aw (pv 0) rfl) (aa (pv 2) (aa (pv 3) ai))))))))))))),?_⟩
  refine zV rfl (zF c1 T.aZ T.aM rfl (zI (SqL.of c2) (at_of (j:=0) rfl rfl) ?_))
  refine zV rfl (zF c1 T.aZ T.eE rfl (zI (SqL.of c3) (at_of (j:=0) rfl rfl) ?_))
  refine zV rfl (zV rfl (zE3 h g x ⟨rfl,hv.tL,fun q1=>?_,fun q1=>kref (-3) (dq q1)⟩))
  obtain⟨x,rfl⟩:=Int.eq_ofNat_of_zero_le q1.1
  refine zV rfl (zV rfl (zF B.at_ T.ao T.aB rfl (zM g1 rfl (zE2 ag g ⟨rfl,B.gr.gr,zO ⟨a1,l,0,200,0,(g.seasons:Int) - 1,rfl,SqL.of r1,fun q=>?_,fun q=>kref (-4) (by rw [aX q1,nz fun z=>q ⟨⟨by omega,by omega⟩,z.2⟩]; rfl)⟩⟩))))
  have hl:H a1=some (.lst (nv (l.map Int.toNat))):=by rw [nD fun y hy=>(q.2 y hy).1]; exact r1
  rw [aX q1,ku ⟨⟨by omega,by omega⟩,q.2⟩,Int.toNat_natCast] at kret
  refine zV rfl (zV rfl (zE4 h g r x ⟨rfl,hv,by omega,fun q2=>?_,fun q2=>kref (-6) (by rw [aX q1,ku ⟨⟨by omega,by omega⟩,q.2⟩,Int.toNat_natCast,if_neg (by rw [q2]; decide)]; rfl)⟩))
  rw [if_pos q2] at kret
  refine⟨by show 1≤sizeLine; decide,fun p1 hp1=>?_⟩
  have s1:=aE.upd (o:=HO.lst [V.int 0]) hp1
  refine zV rfl (zF (s1 _ _ B.at_) T.ao T.aB rfl (zV rfl (zF (s1 _ _ B.at_) T.ao T.aP rfl (zV rfl (zF (s1 _ _ B.at_) T.ao T.bu rfl (zV rfl (zV rfl (zE9 ag ar ls a1 lo g r x (l.map Int.toNat) ⟨rfl,B.gr.keep s1,B.wg,B.ru.keep s1,s1 _ _ B.sf,q2,s1 _ _ hl,?_,by rw [List.length_map]; omega,fun H2 l2 f2 hl2 s2=>?_⟩))))))))
  ·intro y hy
   obtain⟨z,hz,rfl⟩:=List.mem_map.mp hy
   have:=q.2 z hz
   omega
  refine zE4 p1 l2 _ _ ⟨rfl,rfl,s2 _ _ af,hl2,?_,fun l3 hl3=>?_⟩
  ·rw [aQ,List.length_append,uH,List.length_map,sizeLine_eq]
   show 1 + (l.length + 1)≤_
   omega
  have s3:=(s1.trans s2).trans (aE.upd (o:=HO.lst ([V.int 0] ++ nv ((Vbecag.played g r (Vbecag.safe g r) (l.map Int.toNat) x).1 ++ [(Vbecag.played g r (Vbecag.safe g r) (l.map Int.toNat) x).2]))) hl3)
  refine kret _ l3 ((s1.trans s2).free hl3) ?_ (hv.same s3) (.of s3)
  rw [af]
  show _=some (HO.lst ((0 :: Vbecag.ints _).map V.int))
  rw [List.map_cons,vC]
  rfl
theorem qH:ay ["harvest","call","stock","catches"] ["harvest","call"] (au m9):=⟨rfl,rfl,rfl,by decide +kernel,rfl,by decide +kernel,by decide +kernel⟩
theorem DZ (g:Vbecag.Growth) (r:Vbecag.Rule) (x:Int) (l:List Int):Vbecag.step ⟨some g,some r⟩ [[13,x],l]=Vbecag.withNum ⟨some g,some r⟩ x 0 (g.n:Int) fun x=>Vbecag.withList ⟨some g,some r⟩ 0 200 0 (g.n:Int) l fun l =>
  if Vbecag.isIn (Vbecag.safe g r) x=true then Vbecag.bad ⟨some g,some r⟩ (-6) else match Vbecag.forced g r l x with
   | none=>Vbecag.bad ⟨some g,some r⟩ (-7)
   | some m=>(⟨some g,some r⟩,0 :: Vbecag.ints m):=rfl
theorem ui {g:Vbecag.Growth} {r:Vbecag.Rule}:∀ {l:List Nat} {x:Nat} {m:List Nat},Vbecag.forced g r l x=some m→m.length≤l.length
 | [],x,m,h=>by
  unfold Vbecag.forced at h
  split at h
  ·cases h; exact Nat.le_refl _
  ·cases h
 | q :: t,x,m,h=>by
  unfold Vbecag.forced at h
  split at h
  ·cases h; exact Nat.zero_le _
  ·split at h
   ·cases h
   ·rw [Option.map_eq_some_iff] at h
    obtain⟨m',h1,rfl⟩:=h
    have:=ui h1
    rw [List.length_cons,List.length_cons]
    omega
theorem xG (T:Txt K mg A):Fok P w K mg base 6 A.fk ["harvest","call"] (spA K A 13 1 1 true true):=by
 obtain⟨fd,F⟩:=T.h9
 obtain⟨fdS,GS,bS⟩:=bP (P:=P) (w:=w) (base:=base) T
 obtain⟨_,FS⟩:=T.ba
 obtain⟨fdL,GL,bL⟩:=jL (P:=P) (w:=w) (base:=base) T
 obtain⟨_,FL⟩:=T.cj
 obtain⟨fdN,GN,bN⟩:=fZ (P:=P) (w:=w) (base:=base) T
 obtain⟨fdC,GC,bC⟩:=vK (P:=P) (w:=w) (base:=base) T
 obtain⟨_,FC⟩:=T.eX
 refine⟨fd,?_,F.b2 fun _ _ _ _ _ _ _ _=>rfl⟩
 refine F.okX qH (fun vs H Q E h=>?_) (fun cdv A' outer s H vs Q E hr h=>?_)
 ·exact zL5 (fun _ _ _ _ _=>rfl) h
 ·revert h; refine zG5 fun h c st ws xs zz=>?_; obtain⟨rfl,hv,⟨dc,lw,lr,rs,c1,c2,c3,c4⟩,hws,hxs,hg,hru,kret,kref⟩:=zz
  have nd:=qH.nd
  obtain⟨g,r,rfl⟩:=oB (hg rfl) (hru rfl)
  obtain⟨x,rfl⟩:=iO hws
  obtain⟨l,rfl⟩:=iO hxs
  rw [DZ] at kret kref
  have kref0:=kref
  have kref:=fun e he=>(kref0 e he).ref hv jq
  cases c4 with
  | @cons a1 _ _ _ r1 c5 =>
  cases c5
  obtain⟨dx,ag,lo,ar,ly,ls,dm,sl,ml,B⟩:=hv.both
  obtain⟨⟨dg,lgw,lgt,g1,g2,g3⟩,_⟩:=id B.gr
  have n50:=B.wg.n50
  refine⟨_,ae (aD (i:=2) nd rfl (Or.inl rfl) (aS aG (aw (pv 1) rfl) az (fun _ _=>rfl)))
   (ae (aD (i:=3) nd rfl (Or.inl rfl) (aS aG (aw (pv 1) rfl) az (fun _ _=>rfl)))
   (ae (aK (aA (E:=E) GS (hr.mono (by decide)) rfl T.bc FS.kp bS .nil ax.passes (aa (pv 0) (aa (pv 2) ai))))
   (ae (aK (aA (E:=E) GL (hr.mono (by decide)) rfl T.cX FL.kp bL .nil ax.passes (aa (pv 0) (aa (pv 3) (aa az (aa az ai))))))
   (ae (iC (gc (aS aG (aw (pv 0) rfl) (pv 2) (fun _ _=>rfl))) (ak (fG (dC T.jt GN (hr.mono (by decide)) rfl T.eA bN .nil ax.passes) ax rfl)) cu)
   (ak (aF (bj uF (bQ (aa az ai)) (aA (E:=E) GC (hr.mono (by decide)) rfl T.iQ FC.kp bC .nil ax.passes (aa (aw (pv 0) rfl) (aa (aw (pv 0) rfl) (aa (aw (pv 0) rfl) (aa (pv 2) (aa (pv 3) ai))))))))))))),?_⟩
  refine zV rfl (zF c1 T.aZ T.aM rfl (zI (SqL.of c2) (at_of (j:=0) rfl rfl) ?_))
  refine zV rfl (zF c1 T.aZ T.eE rfl (zI (SqL.of c3) (at_of (j:=0) rfl rfl) ?_))
  refine zV rfl (zV rfl (zE3 h g x ⟨rfl,hv.tL,fun q1=>?_,fun q1=>kref (-3) (dq q1)⟩))
  obtain⟨x,rfl⟩:=Int.eq_ofNat_of_zero_le q1.1
  refine zV rfl (zV rfl (zE6 h a1 g l 0 200 ⟨rfl,hv.tL,SqL.of r1,fun q=>?_,fun q=>kref (-4) (by rw [aX q1,nz fun z=>q ⟨⟨by omega,by omega⟩,z.2⟩]; rfl)⟩))
  have hl:H a1=some (.lst (nv (l.map Int.toNat))):=by rw [nD fun y hy=>(q.2 y hy).1]; exact r1
  have hxn:x≤g.n:=by omega
  rw [aX q1,ku ⟨⟨by omega,by omega⟩,q.2⟩,Int.toNat_natCast] at kret
  rw [aX q1,ku ⟨⟨by omega,by omega⟩,q.2⟩,Int.toNat_natCast] at kref
  refine zX rfl (zF B.at_ T.ao T.bu rfl (zX rfl (zI (SqL.of B.sf) (bg (vP hxn)) (zX rfl ?_))))
  refine ko (fun a1'=>?_) fun a1'=>?_
  ·exact eI T.gR T.bJ T.cb (kref (-6) (by rw [if_pos a1']; rfl))
  rw [if_neg a1'] at kret
  rw [if_neg a1'] at kref
  cases e2:Vbecag.years g r x with
  | none=>exact absurd (VM.kH.mp e2) a1'
  | some j =>
   refine⟨by show 1≤sizeLine; decide,fun p1 hp1=>?_⟩
   have s1:=aE.upd (o:=HO.lst [V.int 0]) hp1
   refine zV rfl (zF (s1 _ _ B.at_) T.ao T.aB rfl (zV rfl (zF (s1 _ _ B.at_) T.ao T.aP rfl (zV rfl (zF (s1 _ _ B.at_) T.ao T.cH rfl (zV rfl (zV rfl (L5 ag ar ly a1 lo g r x j (l.map Int.toNat) ⟨rfl,B.gr.keep s1,B.wg,B.ru.keep s1,B.wr,s1 _ _ B.ys,hxn,e2,s1 _ _ hl,by rw [List.length_map]; omega,fun m hm H2 l2 f2 hl2 s2=>?_,fun hn=>(kref (-7) (by rw [hn]; rfl)).same s1⟩))))))))
   rw [hm] at kret
   refine zE4 p1 l2 _ _ ⟨rfl,rfl,s2 _ _ af,hl2,?_,fun l3 hl3=>?_⟩
   ·have:=ui hm
    rw [List.length_map] at this
    rw [aQ,sizeLine_eq]
    show 1 + m.length≤_
    omega
   have s3:=(s1.trans s2).trans (aE.upd (o:=HO.lst ([V.int 0] ++ nv m)) hl3)
   refine kret _ l3 ((s1.trans s2).free hl3) ?_ (hv.same s3) (.of s3)
   rw [af]
   show _=some (HO.lst ((0 :: Vbecag.ints m).map V.int))
   rw [List.map_cons,vC]
   rfl
theorem pD:ay ["harvest","call","stock"] ["harvest","call"] (au mn):=⟨rfl,rfl,rfl,by decide +kernel,rfl,by decide +kernel,by decide +kernel⟩
theorem CI (g:Vbecag.Growth) (r:Vbecag.Rule) (x:Int):Vbecag.step ⟨some g,some r⟩ [[14,x]]=Vbecag.withNum ⟨some g,some r⟩ x 0 (g.n:Int) fun x=>match Vbecag.demand g r x with
  | none=>Vbecag.bad ⟨some g,some r⟩ (-6)
  | some d=>(⟨some g,some r⟩,[(d:Int)]):=rfl
theorem wJ (T:Txt K mg A):Fok P w K mg base 6 A.dP ["harvest","call"] (spA K A 14 1 0 true true):=by
 obtain⟨fd,F⟩:=T.gg
 obtain⟨fdS,GS,bS⟩:=bP (P:=P) (w:=w) (base:=base) T
 obtain⟨_,FS⟩:=T.ba
 obtain⟨fdD,GD,bD⟩:=vD (P:=P) (w:=w) (base:=base) T
 obtain⟨fdY,GY,bY⟩:=zc (P:=P) (w:=w) (base:=base) T
 obtain⟨_,FY⟩:=T.pM
 refine⟨fd,?_,F.b2 fun _ _ _ _ _ _ _ _=>rfl⟩
 refine F.okX pD (fun vs H Q E h=>?_) (fun cdv A' outer s H vs Q E hr h=>?_)
 ·exact zL5 (fun _ _ _ _ _=>rfl) h
 ·revert h; refine zG5 fun h c st ws xs zz=>?_; obtain⟨rfl,hv,⟨dc,lw,lr,rs,c1,c2,c3,c4⟩,hws,hxs,hg,hru,kret,kref⟩:=zz
  have nd:=pD.nd
  obtain⟨g,r,rfl⟩:=oB (hg rfl) (hru rfl)
  obtain⟨x,rfl⟩:=iO hws
  obtain rfl:=len0 hxs
  rw [CI] at kret kref
  have kref0:=kref
  have kref:=fun e he=>(kref0 e he).ref hv jq
  obtain⟨dx,ag,lo,ar,ly,ls,dm,sl,ml,B⟩:=hv.both
  obtain⟨⟨dg,lgw,lgt,g1,g2,g3⟩,_⟩:=id B.gr
  have n50:=B.wg.n50
  refine⟨_,ae (aD (i:=2) nd rfl (Or.inl rfl) (aS aG (aw (pv 1) rfl) az (fun _ _=>rfl)))
   (ae (aK (aA (E:=E) GS (hr.mono (by decide)) rfl T.bc FS.kp bS .nil ax.passes (aa (pv 0) (aa (pv 2) ai))))
   (ak (aF (bQ (aa (aA (E:=E) GY (hr.mono (by decide)) rfl T.tw FY.kp bY .nil ax.passes (aa (bz (E:=E) (pv 0) T.ao T.vx GD (hr.mono (by decide)) bD .nil ax.passes (aa (pv 2) ai)) ai)) ai))))),?_⟩
  refine zV rfl (zF c1 T.aZ T.aM rfl (zI (SqL.of c2) (at_of (j:=0) rfl rfl) ?_))
  refine zV rfl (zV rfl (zE3 h g x ⟨rfl,hv.tL,fun q1=>?_,fun q1=>kref (-3) (dq q1)⟩))
  obtain⟨x,rfl⟩:=Int.eq_ofNat_of_zero_le q1.1
  rw [aX q1,Int.toNat_natCast] at kret
  refine zV rfl (zM B.at_ rfl (zV rfl (zE4 h g r x ⟨rfl,hv,by omega,fun H2 hv2 O2=>?_⟩)))
  refine⟨Vbecag.demand g r x,rfl,fun k e=>?_,fun e=>(kref0 (-6) (by rw [aX q1,Int.toNat_natCast,e]; rfl)).ref hv2 O2⟩
  rw [e] at kret
  refine⟨by show 1≤sizeLine; decide,fun l hl=>?_⟩
  have s3:=aE.upd (o:=HO.lst [V.int (k:Int)]) hl
  exact kret _ l (O2.free hl) af (hv2.same s3) (O2.trans (.of s3))
theorem sI:ay ["harvest","call","stock","years"] ["harvest","call"] (au oS):=⟨rfl,rfl,rfl,by decide +kernel,rfl,by decide +kernel,by decide +kernel⟩
theorem Gu (g:Vbecag.Growth) (r:Vbecag.Rule) (x t:Int):Vbecag.step ⟨some g,some r⟩ [[15,x,t]]=Vbecag.withNum ⟨some g,some r⟩ x 0 (g.n:Int) fun x=>Vbecag.withNum ⟨some g,some r⟩ t 0 100 fun t =>
  if Vbecag.isIn (Vbecag.sure g r t).1 x=true then (⟨some g,some r⟩,[(((Vbecag.sure g r t).2.getD x 0:Nat):Int)]) else Vbecag.bad ⟨some g,some r⟩ (-6):=rfl
theorem Gn (g:Vbecag.Growth) (r:Vbecag.Rule) (x t:Int):Vbecag.step ⟨some g,some r⟩ [[16,x,t]]=Vbecag.withNum ⟨some g,some r⟩ x 0 (g.n:Int) fun x=>Vbecag.withNum ⟨some g,some r⟩ t 0 9 fun t =>
  if Vbecag.isIn (Vbecag.mean g r t).1 x=true then (⟨some g,some r⟩,[(((Vbecag.mean g r t).2.getD x 0:Nat):Int),((Vbecag.weight g ^ t:Nat):Int)]) else Vbecag.bad ⟨some g,some r⟩ (-6):=rfl
theorem za (T:Txt K mg A):Fok P w K mg base 6 A.gH ["harvest","call"] (spA K A 15 2 0 true true):=by
 obtain⟨fd,F⟩:=T.je
 obtain⟨fdS,GS,bS⟩:=bP (P:=P) (w:=w) (base:=base) T
 obtain⟨_,FS⟩:=T.ba
 obtain⟨fdR,GR,bR⟩:=eM (P:=P) (w:=w) (base:=base) T
 obtain⟨_,FR⟩:=T.cg
 obtain⟨fdD,GD,bD⟩:=qU (P:=P) (w:=w) (base:=base) T
 obtain⟨fdY,GY,bY⟩:=zc (P:=P) (w:=w) (base:=base) T
 obtain⟨_,FY⟩:=T.pM
 refine⟨fd,?_,F.b2 fun _ _ _ _ _ _ _ _=>rfl⟩
 refine F.okX sI (fun vs H Q E h=>?_) (fun cdv A' outer s H vs Q E hr h=>?_)
 ·exact zL5 (fun _ _ _ _ _=>rfl) h
 ·revert h; refine zG5 fun h c st ws xs zz=>?_; obtain⟨rfl,hv,⟨dc,lw,lr,rs,c1,c2,c3,c4⟩,hws,hxs,hg,hru,kret,kref⟩:=zz
  have nd:=sI.nd
  obtain⟨g,r,rfl⟩:=oB (hg rfl) (hru rfl)
  obtain⟨x,t,rfl⟩:=zK hws
  obtain rfl:=len0 hxs
  rw [Gu] at kret kref
  have kref0:=kref
  have kref:=fun e he=>(kref0 e he).ref hv jq
  obtain⟨dx,ag,lo,ar,ly,ls,dm,sl,ml,B⟩:=hv.both
  obtain⟨⟨dg,lgw,lgt,g1,g2,g3⟩,_⟩:=id B.gr
  have n50:=B.wg.n50
  refine⟨_,ae (aD (i:=2) nd rfl (Or.inl rfl) (aS aG (aw (pv 1) rfl) az (fun _ _=>rfl)))
   (ae (aD (i:=3) nd rfl (Or.inl rfl) (aS aG (aw (pv 1) rfl) az (fun _ _=>rfl)))
   (ae (aK (aA (E:=E) GS (hr.mono (by decide)) rfl T.bc FS.kp bS .nil ax.passes (aa (pv 0) (aa (pv 2) ai))))
   (ae (aK (aA (E:=E) GR (hr.mono (by decide)) rfl T.ck FR.kp bR .nil ax.passes (aa (pv 3) (aa az (aa az ai)))))
   (ak (aF (bQ (aa (aA (E:=E) GY (hr.mono (by decide)) rfl T.tw FY.kp bY .nil ax.passes (aa (bz (E:=E) (pv 0) T.ao T.qQ GD (hr.mono (by decide)) bD .nil ax.passes (aa (pv 2) (aa (pv 3) ai))) ai)) ai))))))),?_⟩
  refine zV rfl (zF c1 T.aZ T.aM rfl (zI (SqL.of c2) (at_of (j:=0) rfl rfl) ?_))
  refine zV rfl (zF c1 T.aZ T.aM rfl (zI (SqL.of c2) (at_of (j:=1) rfl rfl) ?_))
  refine zV rfl (zV rfl (zE3 h g x ⟨rfl,hv.tL,fun q1=>?_,fun q1=>kref (-3) (dq q1)⟩))
  obtain⟨x,rfl⟩:=Int.eq_ofNat_of_zero_le q1.1
  refine zV rfl (zE3 t 0 100 ⟨rfl,fun q2=>?_,fun q2=>kref (-3) (by rw [aX q1,dq q2]; rfl)⟩)
  obtain⟨t,rfl⟩:=Int.eq_ofNat_of_zero_le q2.1
  rw [aX q1,aX q2,Int.toNat_natCast,Int.toNat_natCast,VM.yg] at kret
  have kref0:=fun e he=>kref0 e (by rw [aX q1,aX q2,Int.toNat_natCast,Int.toNat_natCast,VM.yg]; exact he)
  have er:(eJ g r t).getD x none=if Vbecag.isIn (VM.sk g r t) x=true then some ((Vbecag.sure g r t).2.getD x 0) else none:=pA (by omega)
  refine zV rfl (zM B.at_ rfl (zV rfl (zV rfl (zE5 h g r x t ⟨rfl,hv,by omega,by omega,fun H2 hv2 O2=>?_⟩))))
  refine⟨_,rfl,fun k e=>?_,fun e=>(kref0 (-6) (by
   rw [er] at e
   rw [if_neg fun z=>by rw [if_pos z] at e; cases e]; rfl)).ref hv2 O2⟩
  rw [er] at e
  by_cases cc:Vbecag.isIn (VM.sk g r t) x=true
  ·rw [if_pos cc] at e kret
   cases e
   refine⟨by show 1≤sizeLine; decide,fun l hl=>?_⟩
   have s3:=aE.upd (o:=HO.lst [V.int (((Vbecag.sure g r t).2.getD x 0:Nat):Int)]) hl
   exact kret _ l (O2.free hl) af (hv2.same s3) (O2.trans (.of s3))
  ·rw [if_neg cc] at e; cases e
theorem sy:ay ["harvest","call","stock","years"] ["harvest","call"] (au oM):=⟨rfl,rfl,rfl,by decide +kernel,rfl,by decide +kernel,by decide +kernel⟩
theorem yW (T:Txt K mg A):Fok P w K mg base 6 A.gB ["harvest","call"] (spA K A 16 2 0 true true):=by
 obtain⟨fd,F⟩:=T.i8
 obtain⟨fdS,GS,bS⟩:=bP (P:=P) (w:=w) (base:=base) T
 obtain⟨_,FS⟩:=T.ba
 obtain⟨fdR,GR,bR⟩:=eM (P:=P) (w:=w) (base:=base) T
 obtain⟨_,FR⟩:=T.cg
 obtain⟨fdD,GD,bD⟩:=qT (P:=P) (w:=w) (base:=base) T
 obtain⟨fdZ,GZ,bZ⟩:=px (P:=P) (w:=w) (base:=base) T
 obtain⟨fdY,GY,bY⟩:=zc (P:=P) (w:=w) (base:=base) T
 obtain⟨_,FY⟩:=T.pM
 refine⟨fd,?_,F.b2 fun _ _ _ _ _ _ _ _=>rfl⟩
 refine F.okX sy (fun vs H Q E h=>?_) (fun cdv A' outer s H vs Q E hr h=>?_)
 ·exact zL5 (fun _ _ _ _ _=>rfl) h
 ·revert h; refine zG5 fun h c st ws xs zz=>?_; obtain⟨rfl,hv,⟨dc,lw,lr,rs,c1,c2,c3,c4⟩,hws,hxs,hg,hru,kret,kref⟩:=zz
  have nd:=sy.nd
  obtain⟨g,r,rfl⟩:=oB (hg rfl) (hru rfl)
  obtain⟨x,t,rfl⟩:=zK hws
  obtain rfl:=len0 hxs
  rw [Gn] at kret kref
  have kref0:=kref
  have kref:=fun e he=>(kref0 e he).ref hv jq
  obtain⟨dx,ag,lo,ar,ly,ls,dm,sl,ml,B⟩:=hv.both
  obtain⟨⟨dg,lgw,lgt,g1,g2,g3⟩,_⟩:=id B.gr
  have n50:=B.wg.n50
  refine⟨_,ae (aD (i:=2) nd rfl (Or.inl rfl) (aS aG (aw (pv 1) rfl) az (fun _ _=>rfl)))
   (ae (aD (i:=3) nd rfl (Or.inl rfl) (aS aG (aw (pv 1) rfl) az (fun _ _=>rfl)))
   (ae (aK (aA (E:=E) GS (hr.mono (by decide)) rfl T.bc FS.kp bS .nil ax.passes (aa (pv 0) (aa (pv 2) ai))))
   (ae (aK (aA (E:=E) GR (hr.mono (by decide)) rfl T.ck FR.kp bR .nil ax.passes (aa (pv 3) (aa az (aa az ai)))))
   (ak (aF (bQ (aa (aA (E:=E) GY (hr.mono (by decide)) rfl T.tw FY.kp bY .nil ax.passes (aa (bz (E:=E) (pv 0) T.ao T.qP GD (hr.mono (by decide)) bD .nil ax.passes (aa (pv 2) (aa (pv 3) ai))) ai)) (aa (bz (E:=E) (pv 0) T.ao T.pw GZ (hr.mono (by decide)) bZ .nil ax.passes (aa (pv 3) ai)) ai)))))))),?_⟩
  refine zV rfl (zF c1 T.aZ T.aM rfl (zI (SqL.of c2) (at_of (j:=0) rfl rfl) ?_))
  refine zV rfl (zF c1 T.aZ T.aM rfl (zI (SqL.of c2) (at_of (j:=1) rfl rfl) ?_))
  refine zV rfl (zV rfl (zE3 h g x ⟨rfl,hv.tL,fun q1=>?_,fun q1=>kref (-3) (dq q1)⟩))
  obtain⟨x,rfl⟩:=Int.eq_ofNat_of_zero_le q1.1
  refine zV rfl (zE3 t 0 9 ⟨rfl,fun q2=>?_,fun q2=>kref (-3) (by rw [aX q1,dq q2]; rfl)⟩)
  obtain⟨t,rfl⟩:=Int.eq_ofNat_of_zero_le q2.1
  rw [aX q1,aX q2,Int.toNat_natCast,Int.toNat_natCast,VM.xX] at kret
  have kref0:=fun e he=>kref0 e (by rw [aX q1,aX q2,Int.toNat_natCast,Int.toNat_natCast,VM.xX]; exact he)
  have er:(eD g r t).getD x none=if Vbecag.isIn (VM.sk g r t) x=true then some ((Vbecag.mean g r t).2.getD x 0) else none:=pA (by omega)
  refine zV rfl (zM B.at_ rfl (zV rfl (zV rfl (zE5 h g r x t ⟨rfl,hv,by omega,by omega,fun H2 hv2 O2=>?_⟩))))
  refine⟨_,rfl,fun k e=>?_,fun e=>(kref0 (-6) (by
   rw [er] at e
   rw [if_neg fun z=>by rw [if_pos z] at e; cases e]; rfl)).ref hv2 O2⟩
  rw [er] at e
  by_cases cc:Vbecag.isIn (VM.sk g r t) x=true
  ·rw [if_pos cc] at e kret
   cases e
   obtain⟨dx2,_,_,_,_,_,_,_,_,B2⟩:=hv2.both
   refine zV rfl (zM B2.at_ rfl (zV rfl (zE4 h g r t ⟨rfl,hv2,by omega,by show 2≤sizeLine; decide,fun l hl=>?_⟩)))
   have s3:=aE.upd (o:=HO.lst [V.int (((Vbecag.mean g r t).2.getD x 0:Nat):Int),V.int ((Vbecag.weight g ^ t:Nat):Int)]) hl
   exact kret _ l (O2.free hl) af (hv2.same s3) (O2.trans (.of s3))
  ·rw [if_neg cc] at e; cases e
theorem qF:ay ["harvest","call","stocks"] ["harvest","call"] (au m7):=⟨rfl,rfl,rfl,by decide +kernel,rfl,by decide +kernel,by decide +kernel⟩
theorem DX (g:Vbecag.Growth) (r:Vbecag.Rule) (l:List Int):Vbecag.step ⟨some g,some r⟩ [[17],l]=Vbecag.withList ⟨some g,some r⟩ 1 51 0 (g.n:Int) l fun l=>match Vbecag.blind g r (Vbecag.setOf g l) with
  | none=>Vbecag.bad ⟨some g,some r⟩ (-8)
  | some b=>(⟨some g,some r⟩,[Vbecag.flag b]):=rfl
theorem xE (T:Txt K mg A):Fok P w K mg base 6 A.fh ["harvest","call"] (spA K A 17 0 1 true true):=by
 obtain⟨fd,F⟩:=T.hX
 obtain⟨fdS,GS,bS⟩:=jL (P:=P) (w:=w) (base:=base) T
 obtain⟨_,FS⟩:=T.cj
 obtain⟨fdC,GC,bC⟩:=xJ (P:=P) (w:=w) (base:=base) T
 obtain⟨_,FC⟩:=T.ic
 obtain⟨fdY,GY,bY⟩:=mT (P:=P) (w:=w) (base:=base) T
 obtain⟨_,FY⟩:=T.fJ
 refine⟨fd,?_,F.b2 fun _ _ _ _ _ _ _ _=>rfl⟩
 refine F.okX qF (fun vs H Q E h=>?_) (fun cdv A' outer s H vs Q E hr h=>?_)
 ·exact zL5 (fun _ _ _ _ _=>rfl) h
 ·revert h; refine zG5 fun h c st ws xs zz=>?_; obtain⟨rfl,hv,⟨dc,lw,lr,rs,c1,c2,c3,c4⟩,hws,hxs,hg,hru,kret,kref⟩:=zz
  have nd:=qF.nd
  obtain⟨g,r,rfl⟩:=oB (hg rfl) (hru rfl)
  obtain rfl:=len0 hws
  obtain⟨l,rfl⟩:=iO hxs
  rw [DX] at kret kref
  have kref0:=kref
  have kref:=fun e he=>(kref0 e he).ref hv jq
  cases c4 with
  | @cons a1 _ _ _ r1 c5 =>
  cases c5
  obtain⟨dx,ag,lo,ar,ly,ls,dm,sl,ml,B⟩:=hv.both
  obtain⟨⟨dg,lgw,lgt,g1,g2,g3⟩,_⟩:=id B.gr
  have n50:=B.wg.n50
  refine⟨_,ae (aD (i:=2) nd rfl (Or.inl rfl) (aS aG (aw (pv 1) rfl) az (fun _ _=>rfl)))
   (ae (aK (aA (E:=E) GS (hr.mono (by decide)) rfl T.cX FS.kp bS .nil ax.passes (aa (pv 0) (aa (pv 2) (aa az (aa az ai))))))
   (ak (aF (bQ (aa (aA (E:=E) GY (hr.mono (by decide)) rfl T.iy FY.kp bY .nil ax.passes (aa (aA (E:=E) GC (hr.mono (by decide)) rfl T.kz FC.kp bC .nil ax.passes (aa (aw (pv 0) rfl) (aa (aw (pv 0) rfl) (aa (pv 2) ai)))) ai)) ai))))),?_⟩
  refine zV rfl (zF c1 T.aZ T.eE rfl (zI (SqL.of c3) (at_of (j:=0) rfl rfl) ?_))
  refine zV rfl (zV rfl (zE6 h a1 g l 1 51 ⟨rfl,hv.tL,SqL.of r1,fun q=>?_,fun q=>kref (-4) (nz fun z=>q ⟨⟨by omega,by omega⟩,z.2⟩)⟩))
  rw [ku ⟨⟨by omega,by omega⟩,q.2⟩] at kret
  rw [ku ⟨⟨by omega,by omega⟩,q.2⟩] at kref
  have hl:H a1=some (.lst (nv (l.map Int.toNat))):=by rw [nD fun y hy=>(q.2 y hy).1]; exact r1
  refine zV rfl (zF B.at_ T.ao T.aB rfl (zV rfl (zF B.at_ T.ao T.aP rfl (zV rfl (zE7 ag ar a1 lo g r (l.map Int.toNat) ⟨rfl,B.gr,B.wg,B.ru,B.wr,hl,um q.2,?_,fun b hb H2 s2=>?_,fun hn=>kref (-8) (by rw [hn]; rfl)⟩)))))
  ·intro e
   have:=congrArg List.length e
   rw [List.length_map] at this
   simp only [List.length_nil] at this
   omega
  rw [hb] at kret
  refine zX rfl ⟨by show 1≤sizeLine; decide,fun l2 hl2=>?_⟩
  have s3:=s2.trans (aE.upd (o:=HO.lst [V.int (Vbecag.flag b)]) hl2)
  exact kret _ l2 (s2.free hl2) af (hv.same s3) (.of s3)
theorem pH:ay ["harvest","call"] ["harvest","call"] (au mw):=⟨rfl,rfl,rfl,by decide +kernel,rfl,by decide +kernel,by decide +kernel⟩
theorem CM (g:Vbecag.Growth) (ro:Option Vbecag.Rule):Vbecag.step ⟨some g,ro⟩ [[18]]=(⟨some g,ro⟩,[Vbecag.flag (Vbecag.rising g)]):=rfl
theorem wN (T:Txt K mg A):Fok P w K mg base 6 A.dU ["harvest","call"] (spA K A 18 0 0 true false):=by
 obtain⟨fd,F⟩:=T.gm
 obtain⟨fdC,GC,bC⟩:=Be (P:=P) (w:=w) (base:=base) T
 obtain⟨_,FC⟩:=T.lO
 obtain⟨fdY,GY,bY⟩:=mT (P:=P) (w:=w) (base:=base) T
 obtain⟨_,FY⟩:=T.fJ
 refine⟨fd,?_,F.b2 fun _ _ _ _ _ _ _ _=>rfl⟩
 refine F.okX pH (fun vs H Q E h=>?_) (fun cdv A' outer s H vs Q E hr h=>?_)
 ·exact zL5 (fun _ _ _ _ _=>rfl) h
 ·revert h; refine zG5 fun h c st ws xs zz=>?_; obtain⟨rfl,hv,⟨dc,lw,lr,rs,c1,c2,c3,c4⟩,hws,hxs,hg,hru,kret,kref⟩:=zz
  have nd:=pH.nd
  obtain⟨g,ro,rfl⟩:=Iy (hg rfl)
  obtain rfl:=len0 hws
  obtain rfl:=len0 hxs
  rw [CM] at kret kref
  have kref0:=kref
  have kref:=fun e he=>(kref0 e he).ref hv jq
  obtain⟨dx,ag,lo,b,c',d',e',f',m',h1,G,W⟩:=hv.tL
  refine⟨_,ak (aF (bQ (aa (aA (E:=E) GY (hr.mono (by decide)) rfl T.iy FY.kp bY .nil ax.passes (aa (aA (E:=E) GC (hr.mono (by decide)) rfl T.oo FC.kp bC .nil ax.passes (aa (aw (pv 0) rfl) ai)) ai)) ai))),?_⟩
  refine zV rfl (zF h1 T.ao T.aB rfl (zE2 ag g ⟨rfl,G.gr,W,fun H2 s2=>?_⟩))
  refine zX rfl ⟨by show 1≤sizeLine; decide,fun l2 hl2=>?_⟩
  have s3:=s2.trans (aE.upd (o:=HO.lst [V.int (Vbecag.flag (Vbecag.rising g))]) hl2)
  exact kret _ l2 (s2.free hl2) af (hv.same s3) (.of s3)
end HG
end
section
namespace HG
open PySem PySem.Spec PyProof.Rows L2
open PySem.W (Frag)
variable {P:Program} {w:World} {K:Frag} {mg:Str→Option Value} {base:Heap} {A:Ad}
theorem IA {ro:Option Vbecag.Rule} {p:Int} {ws:List Int} {xs:List (List Int)} (h:PyVbecag.shape p=some (ws.length,xs.length)) (h0:p≠0):Vbecag.step ⟨none,ro⟩ ((p :: ws) :: xs)=(⟨none,ro⟩,[-1]):=by
 unfold PyVbecag.shape at h
 rw [if_neg h0] at h
 by_cases e1:p=1
 ·rw [if_pos e1] at h
  injection h with h
  injection h with hn hm
  have hn:=hn.symm
  have hm:=hm.symm
  subst e1
  rw [len0 hn]; rw [len0 hm]; rfl
 rw [if_neg e1] at h
 by_cases e2:p=2
 ·rw [if_pos e2] at h
  injection h with h
  injection h with hn hm
  have hn:=hn.symm
  have hm:=hm.symm
  subst e2
  obtain⟨a,b,c,rfl⟩:=Jf hn; rw [len0 hm]; rfl
 rw [if_neg e2] at h
 by_cases e3:p=3
 ·rw [if_pos e3] at h
  injection h with h
  injection h with hn hm
  have hn:=hn.symm
  have hm:=hm.symm
  subst e3
  rw [len0 hn]; rw [len0 hm]; rfl
 rw [if_neg e3] at h
 by_cases e4:p=4
 ·rw [if_pos e4] at h
  injection h with h
  injection h with hn hm
  have hn:=hn.symm
  have hm:=hm.symm
  subst e4
  obtain⟨a,b,c,rfl⟩:=Jf hn; rw [len0 hm]; rfl
 rw [if_neg e4] at h
 by_cases e5:p=5
 ·rw [if_pos e5] at h
  injection h with h
  injection h with hn hm
  have hn:=hn.symm
  have hm:=hm.symm
  subst e5
  rw [len0 hn]; rw [len0 hm]; rfl
 rw [if_neg e5] at h
 by_cases e6:p=6
 ·rw [if_pos e6] at h
  injection h with h
  injection h with hn hm
  have hn:=hn.symm
  have hm:=hm.symm
  subst e6
  obtain⟨a,rfl⟩:=iO hn; rw [len0 hm]; rfl
 rw [if_neg e6] at h
 by_cases e7:p=7
 ·rw [if_pos e7] at h
  injection h with h
  injection h with hn hm
  have hn:=hn.symm
  have hm:=hm.symm
  subst e7
  obtain⟨a,rfl⟩:=iO hn; rw [len0 hm]; rfl
 rw [if_neg e7] at h
 by_cases e8:p=8
 ·rw [if_pos e8] at h
  injection h with h
  injection h with hn hm
  have hn:=hn.symm
  have hm:=hm.symm
  subst e8
  obtain⟨a,rfl⟩:=iO hn; rw [len0 hm]; rfl
 rw [if_neg e8] at h
 by_cases e9:p=9
 ·rw [if_pos e9] at h
  injection h with h
  injection h with hn hm
  have hn:=hn.symm
  have hm:=hm.symm
  subst e9
  obtain⟨a,b,rfl⟩:=zK hn; rw [len0 hm]; rfl
 rw [if_neg e9] at h
 by_cases e10:p=10
 ·rw [if_pos e10] at h
  injection h with h
  injection h with hn hm
  have hn:=hn.symm
  have hm:=hm.symm
  subst e10
  rw [len0 hn]; obtain⟨d,rfl⟩:=iO hm; rfl
 rw [if_neg e10] at h
 by_cases e11:p=11
 ·rw [if_pos e11] at h
  injection h with h
  injection h with hn hm
  have hn:=hn.symm
  have hm:=hm.symm
  subst e11
  rw [len0 hn]; obtain⟨d,rfl⟩:=iO hm; rfl
 rw [if_neg e11] at h
 by_cases e12:p=12
 ·rw [if_pos e12] at h
  injection h with h
  injection h with hn hm
  have hn:=hn.symm
  have hm:=hm.symm
  subst e12
  obtain⟨a,rfl⟩:=iO hn; obtain⟨d,rfl⟩:=iO hm; rfl
 rw [if_neg e12] at h
 by_cases e13:p=13
 ·rw [if_pos e13] at h
  injection h with h
  injection h with hn hm
  have hn:=hn.symm
  have hm:=hm.symm
  subst e13
  obtain⟨a,rfl⟩:=iO hn; obtain⟨d,rfl⟩:=iO hm; rfl
 rw [if_neg e13] at h
 by_cases e14:p=14
 ·rw [if_pos e14] at h
  injection h with h
  injection h with hn hm
  have hn:=hn.symm
  have hm:=hm.symm
  subst e14
  obtain⟨a,rfl⟩:=iO hn; rw [len0 hm]; rfl
 rw [if_neg e14] at h
 by_cases e15:p=15
 ·rw [if_pos e15] at h
  injection h with h
  injection h with hn hm
  have hn:=hn.symm
  have hm:=hm.symm
  subst e15
  obtain⟨a,b,rfl⟩:=zK hn; rw [len0 hm]; rfl
 rw [if_neg e15] at h
 by_cases e16:p=16
 ·rw [if_pos e16] at h
  injection h with h
  injection h with hn hm
  have hn:=hn.symm
  have hm:=hm.symm
  subst e16
  obtain⟨a,b,rfl⟩:=zK hn; rw [len0 hm]; rfl
 rw [if_neg e16] at h
 by_cases e17:p=17
 ·rw [if_pos e17] at h
  injection h with h
  injection h with hn hm
  have hn:=hn.symm
  have hm:=hm.symm
  subst e17
  rw [len0 hn]; obtain⟨d,rfl⟩:=iO hm; rfl
 rw [if_neg e17] at h
 by_cases e18:p=18
 ·rw [if_pos e18] at h
  injection h with h
  injection h with hn hm
  have hn:=hn.symm
  have hm:=hm.symm
  subst e18
  rw [len0 hn]; rw [len0 hm]; rfl
 rw [if_neg e18] at h
 cases h
def yO (p:Int):Bool:=!(p == 0 || p == 1 || p == 2 || p == 4 || p == 18)
theorem IB {g:Vbecag.Growth} {p:Int} {ws:List Int} {xs:List (List Int)} (h:PyVbecag.shape p=some (ws.length,xs.length)) (h0:yO p=true):Vbecag.step ⟨some g,none⟩ ((p :: ws) :: xs)=(⟨some g,none⟩,[-2]):=by
 unfold PyVbecag.shape at h
 by_cases e0:p=0
 ·rw [if_pos e0] at h
  injection h with h
  injection h with hn hm
  have hn:=hn.symm
  have hm:=hm.symm
  subst e0
  cases h0
 rw [if_neg e0] at h
 by_cases e1:p=1
 ·rw [if_pos e1] at h
  injection h with h
  injection h with hn hm
  have hn:=hn.symm
  have hm:=hm.symm
  subst e1
  cases h0
 rw [if_neg e1] at h
 by_cases e2:p=2
 ·rw [if_pos e2] at h
  injection h with h
  injection h with hn hm
  have hn:=hn.symm
  have hm:=hm.symm
  subst e2
  cases h0
 rw [if_neg e2] at h
 by_cases e3:p=3
 ·rw [if_pos e3] at h
  injection h with h
  injection h with hn hm
  have hn:=hn.symm
  have hm:=hm.symm
  subst e3
  rw [len0 hn]; rw [len0 hm]; rfl
 rw [if_neg e3] at h
 by_cases e4:p=4
 ·rw [if_pos e4] at h
  injection h with h
  injection h with hn hm
  have hn:=hn.symm
  have hm:=hm.symm
  subst e4
  cases h0
 rw [if_neg e4] at h
 by_cases e5:p=5
 ·rw [if_pos e5] at h
  injection h with h
  injection h with hn hm
  have hn:=hn.symm
  have hm:=hm.symm
  subst e5
  rw [len0 hn]; rw [len0 hm]; rfl
 rw [if_neg e5] at h
 by_cases e6:p=6
 ·rw [if_pos e6] at h
  injection h with h
  injection h with hn hm
  have hn:=hn.symm
  have hm:=hm.symm
  subst e6
  obtain⟨a,rfl⟩:=iO hn; rw [len0 hm]; rfl
 rw [if_neg e6] at h
 by_cases e7:p=7
 ·rw [if_pos e7] at h
  injection h with h
  injection h with hn hm
  have hn:=hn.symm
  have hm:=hm.symm
  subst e7
  obtain⟨a,rfl⟩:=iO hn; rw [len0 hm]; rfl
 rw [if_neg e7] at h
 by_cases e8:p=8
 ·rw [if_pos e8] at h
  injection h with h
  injection h with hn hm
  have hn:=hn.symm
  have hm:=hm.symm
  subst e8
  obtain⟨a,rfl⟩:=iO hn; rw [len0 hm]; rfl
 rw [if_neg e8] at h
 by_cases e9:p=9
 ·rw [if_pos e9] at h
  injection h with h
  injection h with hn hm
  have hn:=hn.symm
  have hm:=hm.symm
  subst e9
  obtain⟨a,b,rfl⟩:=zK hn; rw [len0 hm]; rfl
 rw [if_neg e9] at h
 by_cases e10:p=10
 ·rw [if_pos e10] at h
  injection h with h
  injection h with hn hm
  have hn:=hn.symm
  have hm:=hm.symm
  subst e10
  rw [len0 hn]; obtain⟨d,rfl⟩:=iO hm; rfl
 rw [if_neg e10] at h
 by_cases e11:p=11
 ·rw [if_pos e11] at h
  injection h with h
  injection h with hn hm
  have hn:=hn.symm
  have hm:=hm.symm
  subst e11
  rw [len0 hn]; obtain⟨d,rfl⟩:=iO hm; rfl
 rw [if_neg e11] at h
 by_cases e12:p=12
 ·rw [if_pos e12] at h
  injection h with h
  injection h with hn hm
  have hn:=hn.symm
  have hm:=hm.symm
  subst e12
  obtain⟨a,rfl⟩:=iO hn; obtain⟨d,rfl⟩:=iO hm; rfl
 rw [if_neg e12] at h
 by_cases e13:p=13
 ·rw [if_pos e13] at h
  injection h with h
  injection h with hn hm
  have hn:=hn.symm
  have hm:=hm.symm
  subst e13
  obtain⟨a,rfl⟩:=iO hn; obtain⟨d,rfl⟩:=iO hm; rfl
 rw [if_neg e13] at h
 by_cases e14:p=14
 ·rw [if_pos e14] at h
  injection h with h
  injection h with hn hm
  have hn:=hn.symm
  have hm:=hm.symm
  subst e14
  obtain⟨a,rfl⟩:=iO hn; rw [len0 hm]; rfl
 rw [if_neg e14] at h
 by_cases e15:p=15
 ·rw [if_pos e15] at h
  injection h with h
  injection h with hn hm
  have hn:=hn.symm
  have hm:=hm.symm
  subst e15
  obtain⟨a,b,rfl⟩:=zK hn; rw [len0 hm]; rfl
 rw [if_neg e15] at h
 by_cases e16:p=16
 ·rw [if_pos e16] at h
  injection h with h
  injection h with hn hm
  have hn:=hn.symm
  have hm:=hm.symm
  subst e16
  obtain⟨a,b,rfl⟩:=zK hn; rw [len0 hm]; rfl
 rw [if_neg e16] at h
 by_cases e17:p=17
 ·rw [if_pos e17] at h
  injection h with h
  injection h with hn hm
  have hn:=hn.symm
  have hm:=hm.symm
  subst e17
  rw [len0 hn]; obtain⟨d,rfl⟩:=iO hm; rfl
 rw [if_neg e17] at h
 by_cases e18:p=18
 ·rw [if_pos e18] at h
  injection h with h
  injection h with hn hm
  have hn:=hn.symm
  have hm:=hm.symm
  subst e18
  cases h0
 rw [if_neg e18] at h
 cases h
def z7 (A:Ad):List (Int×Value):=[(0,.ref A.dQ),(1,.ref A.gI),(2,.ref A.gF),(3,.ref A.fo),(4,.ref A.gD),(5,.ref A.gG),(6,.ref A.dR),(7,.ref A.gC),(8,.ref A.ft),(9,.ref A.gA),(10,.ref A.fj),(11,.ref A.dS),(12,.ref A.gE),(13,.ref A.fk),(14,.ref A.dP),(15,.ref A.gH),(16,.ref A.gB),(17,.ref A.fh),(18,.ref A.dU)]
theorem Hi (T:Txt K mg A) {p:Int} {n m:Nat} (h:PyVbecag.shape p=some (n,m)):∃ f,look (z7 A) p=some (.ref f)∧PySem.W.keepIn K (.ref f)=true∧Fok P w K mg base 7 f ["harvest","call"] (spA K A p n m (!(p == 0)) (yO p)):=by
 have up:∀ {k:Nat} {f:Addr} {sp:Sp},k≤7→Fok P w K mg base k f ["harvest","call"] sp→Fok P w K mg base 7 f ["harvest","call"] sp:=fun hk ⟨fd,G,b⟩=>⟨fd,G.mono hk,b⟩
 unfold PyVbecag.shape at h
 by_cases e0:p=0
 ·rw [if_pos e0] at h
  cases h
  subst e0
  obtain⟨_,F⟩:=T.gh
  exact zX rfl ⟨F.kp,up (by decide) (wK T)⟩
 rw [if_neg e0] at h
 by_cases e1:p=1
 ·rw [if_pos e1] at h
  cases h
  subst e1
  obtain⟨_,F⟩:=T.jf
  exact zX rfl ⟨F.kp,up (by decide) (zb T)⟩
 rw [if_neg e1] at h
 by_cases e2:p=2
 ·rw [if_pos e2] at h
  cases h
  subst e2
  obtain⟨_,F⟩:=T.jc
  exact zX rfl ⟨F.kp,up (by decide) (y8 T)⟩
 rw [if_neg e2] at h
 by_cases e3:p=3
 ·rw [if_pos e3] at h
  cases h
  subst e3
  obtain⟨_,F⟩:=T.ia
  exact zX rfl ⟨F.kp,up (by decide) (xH T)⟩
 rw [if_neg e3] at h
 by_cases e4:p=4
 ·rw [if_pos e4] at h
  cases h
  subst e4
  obtain⟨_,F⟩:=T.ja
  exact zX rfl ⟨F.kp,up (by decide) (yY T)⟩
 rw [if_neg e4] at h
 by_cases e5:p=5
 ·rw [if_pos e5] at h
  cases h
  subst e5
  obtain⟨_,F⟩:=T.jd
  exact zX rfl ⟨F.kp,up (by decide) (y9 T)⟩
 rw [if_neg e5] at h
 by_cases e6:p=6
 ·rw [if_pos e6] at h
  cases h
  subst e6
  obtain⟨_,F⟩:=T.gi
  exact zX rfl ⟨F.kp,up (by decide) (wL T)⟩
 rw [if_neg e6] at h
 by_cases e7:p=7
 ·rw [if_pos e7] at h
  cases h
  subst e7
  obtain⟨_,F⟩:=T.i9
  exact zX rfl ⟨F.kp,up (by decide) (yX T)⟩
 rw [if_neg e7] at h
 by_cases e8:p=8
 ·rw [if_pos e8] at h
  cases h
  subst e8
  obtain⟨_,F⟩:=T.ib
  exact zX rfl ⟨F.kp,up (by decide) (xI T)⟩
 rw [if_neg e8] at h
 by_cases e9:p=9
 ·rw [if_pos e9] at h
  cases h
  subst e9
  obtain⟨_,F⟩:=T.i7
  exact zX rfl ⟨F.kp,up (by decide) (yU T)⟩
 rw [if_neg e9] at h
 by_cases e10:p=10
 ·rw [if_pos e10] at h
  cases h
  subst e10
  obtain⟨_,F⟩:=T.hZ
  exact zX rfl ⟨F.kp,up (by decide) (xF T)⟩
 rw [if_neg e10] at h
 by_cases e11:p=11
 ·rw [if_pos e11] at h
  cases h
  subst e11
  obtain⟨_,F⟩:=T.gj
  exact zX rfl ⟨F.kp,up (by decide) (wM T)⟩
 rw [if_neg e11] at h
 by_cases e12:p=12
 ·rw [if_pos e12] at h
  cases h
  subst e12
  obtain⟨_,F⟩:=T.jb
  exact zX rfl ⟨F.kp,up (by decide) (yZ T)⟩
 rw [if_neg e12] at h
 by_cases e13:p=13
 ·rw [if_pos e13] at h
  cases h
  subst e13
  obtain⟨_,F⟩:=T.h9
  exact zX rfl ⟨F.kp,up (by decide) (xG T)⟩
 rw [if_neg e13] at h
 by_cases e14:p=14
 ·rw [if_pos e14] at h
  cases h
  subst e14
  obtain⟨_,F⟩:=T.gg
  exact zX rfl ⟨F.kp,up (by decide) (wJ T)⟩
 rw [if_neg e14] at h
 by_cases e15:p=15
 ·rw [if_pos e15] at h
  cases h
  subst e15
  obtain⟨_,F⟩:=T.je
  exact zX rfl ⟨F.kp,up (by decide) (za T)⟩
 rw [if_neg e15] at h
 by_cases e16:p=16
 ·rw [if_pos e16] at h
  cases h
  subst e16
  obtain⟨_,F⟩:=T.i8
  exact zX rfl ⟨F.kp,up (by decide) (yW T)⟩
 rw [if_neg e16] at h
 by_cases e17:p=17
 ·rw [if_pos e17] at h
  cases h
  subst e17
  obtain⟨_,F⟩:=T.hX
  exact zX rfl ⟨F.kp,up (by decide) (xE T)⟩
 rw [if_neg e17] at h
 by_cases e18:p=18
 ·rw [if_pos e18] at h
  cases h
  subst e18
  obtain⟨_,F⟩:=T.gm
  exact zX rfl ⟨F.kp,up (by decide) (wN T)⟩
 rw [if_neg e18] at h
 cases h
end HG
end
section
namespace HG
open PySem PySem.Spec PyProof.Rows L2
open PySem.W (Frag)
variable {P:Program} {w:World} {K:Frag} {mg:Str→Option Value} {base:Heap} {A:Ad}
theorem sr:ay ["harvest","call","answerer"] ["harvest","call"] (au oJ):=⟨rfl,rfl,rfl,by decide +kernel,rfl,by decide +kernel,by decide +kernel⟩
def JE (K:Frag) (A:Ad):Sp:=fun vs H Q E=>∃ (h c:Addr) (st:Vbecag.State) (p:Int) (ws:List Int) (xs:List (List Int)),vs=[.ref h,.ref c]∧gT A H h st∧AK A H c p ws xs∧PyVbecag.shape p=some (ws.length,xs.length) ∧
 (∀ H' l,H l=none→H' l=some (.lst ((Vbecag.step st ((p :: ws) :: xs)).2.map V.int))→gT A H' h (Vbecag.step st ((p :: ws) :: xs)).1→Own h H H'→Q (.ref l) H')∧∀ e,Vbecag.step st ((p :: ws) :: xs)=(st,[e])→IL K A e h st H E
theorem Holds.gN {H:Hp} {a b c d e f m:V} {st:Vbecag.State} (h:Holds A H a b c d e f m st):decide (a=V.non)=st.growth.isNone∧decide (b=V.non)=st.rule.isNone∧(st.rule.isSome=true→st.growth.isSome=true):=by
 cases h with
 | none=>exact⟨rfl,rfl,fun h=>by cases h⟩
 | growth _ _=>exact⟨rfl,rfl,fun h=>by cases h⟩
 | both _ _ _ _ _ _ _ _ _ _ _ _=>exact⟨rfl,rfl,fun _=>rfl⟩
def xg (t:TT) (σ:L2.St) (H:Hp) (b:Bool):Prop:=∀ Q:Bool→Hp→Prop,Q b H→t σ H Q
theorem xg.and {t u:TT} {σ:L2.St} {H:Hp} {a b:Bool} (h1:xg t σ H a) (h2:a=true→xg u σ H b):xg (LM t u) σ H (a && b):=fun Q q=>h1 _ (by
 cases a with
 | true=>exact nP (h2 rfl Q q)
 | false=>exact qN q)
theorem LG {c:TT} {t u:TS} {D:Ends} {σ:L2.St} {H:Hp} {b:Bool} (h:xg c σ H b) (ht:b=true→t D σ H) (hf:b=false→u D σ H):K9 c t u D σ H:=h _ (by
 cases b with
 | true=>exact nP (ht rfl)
 | false=>exact qN (hf rfl))
theorem HZ {c:TT} {t r:TS} {D:Ends} {σ:L2.St} {H:Hp} {b:Bool} (h:xg c σ H b) (ht:b=true→t { D with nx:=fun σ H=>r D σ H } σ H) (hf:b=false→r D σ H):LV (K9 c t Ka) r D σ H:=LG h ht hf
theorem BZ (p:Int):∀ l:List Int,inV (.int p) (l.map V.int)=l.any fun y=>decide (y=p)
 | []=>rfl
 | y :: l=>by
  have ih:=BZ p l
  unfold inV at ih ⊢
  rw [List.map_cons,List.any_cons,List.any_cons,ih]
  congr 1
theorem yT (T:Txt K mg A):Fok P w K mg base 8 A.gz ["harvest","call"] (JE K A):=by
 obtain⟨fd,F⟩:=T.i6
 obtain⟨fd2,G2,b2⟩:=wI (P:=P) (w:=w) (base:=base) T
 obtain⟨fd3,G3,b3⟩:=yR (P:=P) (w:=w) (base:=base) T
 refine⟨fd,?_,F.b2 fun _ _ _ _ _ _ _ _=>rfl⟩
 refine F.okX sr (fun vs H Q E h=>?_) (fun cdv A' outer s H vs Q E hr h=>?_)
 ·exact zL6 (fun _ _ _ _ _ _=>rfl) h
 ·revert h; refine zG6 fun h c st p ws xs zz=>?_; obtain⟨rfl,hv,hcall,hsh,kret,kref⟩:=zz
  have kref0:=kref
  have kref:=fun e he=>(kref0 e he).ref hv jq
  have nd:=sr.nd
  have hr3:cf 3 _:=hr.mono (by decide)
  obtain⟨dc,lw,lr,rs,c1,c2,c3,c4⟩:=id hcall
  obtain⟨dx,va,vb,vc,vd,ve,vf,vm,h1,h2⟩:=id hv
  obtain⟨n1,n2,n3⟩:=h2.gN
  obtain⟨f,hf,kf,fdf,Gf,bf⟩:=Hi (P:=P) (w:=w) (base:=base) T hsh
  refine⟨_,ae (iC (PW.pt (HY (bx (uG (aw (pv 0) rfl))) (EW (bx (KN (aw (pv 1) rfl) az))))) (ak (fG (dC T.C3 G2 hr3 rfl T.qg b2 .nil ax.passes) ax rfl)) cu)
   (ae (iC (PW.pt (HY (bx (uG (aw (pv 0) rfl))) (EW (yc vM (aw (pv 1) rfl) (vO (v:=.ref A.fz) rfl T.kx rfl) (by rfl))))) (ak (fG (dC T.GU G3 hr3 rfl T.vt b3 .nil ax.passes) ax rfl)) cu)
   (ae (aD (i:=2) nd rfl (Or.inl rfl) (HS (l:=z7 A) T.CO (vO (v:=.ref A.lS) rfl T.og rfl) (aw (pv 1) rfl) (fun _ _=>rfl)))
   (ak (aF (HP (i:=2) (CX:=CXr P w) (E:=E) rfl (Or.inl rfl) ax.passes (aa (pv 0) (aa (pv 1) ai))))))),?_⟩
  refine HZ (b:=st.growth.isNone && !decide (p=0)) (xg.and (fun Q q=>zX rfl (zF h1 T.ao T.aB rfl (zX rfl (by rw [n1]; exact q)))) fun _ Q q=>zX rfl (zF c1 T.aZ T.kD rfl (zO (zX rfl q)))) (fun z=>?_) fun z=>?_
  ·rw [Bool.and_eq_true,Option.isNone_iff_eq_none] at z
   have hp0:p≠0:=by simpa using z.2
   refine eI T.C2 T.tX T.uw (kref (-1) ?_)
   obtain⟨go,ro⟩:=st
   obtain rfl:go=none:=z.1
   exact IA hsh hp0
  refine HZ (b:=st.rule.isNone && yO p) (xg.and (fun Q q=>zX rfl (zF h1 T.ao T.aP rfl (zX rfl (by rw [n2]; exact q)))) fun _ Q q=>zX rfl (zF c1 T.aZ T.kD rfl ⟨A.fz,zX rfl ⟨.inr (zx T.zw),rfl,rfl,zX rfl ?_⟩⟩)) (fun z2=>?_) fun z2=>?_
  ·have e:inV (.int p) [.int 0,.int 1,.int 2,.int 4,.int 18] = !yO p:=by
    have:=BZ p [0,1,2,4,18]
    rw [show ([.int 0,.int 1,.int 2,.int 4,.int 18]:List V)=([0,1,2,4,18]:List Int).map V.int from rfl,this]
    unfold yO
    simp only [List.any_cons,List.any_nil,Bool.not_not,Bool.or_false,Bool.beq_eq_decide_eq,Bool.or_assoc]
    simp only [eq_comm]
   rw [if_pos rfl,e,Bool.not_not]
   exact q
  ·rw [Bool.and_eq_true,Option.isNone_iff_eq_none] at z2
   have hg:st.growth≠none:=fun e=>by
    rw [e] at z
    simp only [Option.isNone_none,Bool.true_and,Bool.not_eq_false',decide_eq_true_eq] at z
    subst z
    cases z2.2
   refine eI T.GQ T.vX T.wF (kref (-2) ?_)
   obtain⟨g,ro,rfl⟩:=Iy hg
   obtain rfl:ro=none:=z2.1
   exact IB hsh z2.2
  refine zV rfl (zF c1 T.aZ T.kD rfl ⟨p,_,.ref f,rfl,rfl,hf,rfl,?_⟩)
  refine zE5 7 f fdf _ _ ⟨rfl,kf,Gf,hr,bf,zV rfl (zV rfl (zE5 h c st ws xs ⟨rfl,hv,hcall,rfl,rfl,fun y e=>?_,fun y e=>?_,kret,kref0⟩))⟩
  ·rw [e] at z
   simp only [Option.isNone_none,Bool.true_and,Bool.not_eq_false',decide_eq_true_eq] at z
   subst z
   cases y
  ·rw [e,y] at z2
   cases z2
theorem l9:ay ["harvest","call","e"] ["harvest","call"] (au i0):=⟨rfl,rfl,rfl,by decide +kernel,rfl,by decide +kernel,by decide +kernel⟩
def Mv (K:Frag) (A:Ad):Sp:=fun vs H Q _=>∃ (h c:Addr) (st:Vbecag.State) (p:Int) (ws:List Int) (xs:List (List Int)),vs=[.ref h,.ref c]∧gT A H h st∧AK A H c p ws xs∧PyVbecag.shape p=some (ws.length,xs.length) ∧
 ∀ H' l,H l=none→H' l=some (.lst ((Vbecag.step st ((p :: ws) :: xs)).2.map V.int))→gT A H' h (Vbecag.step st ((p :: ws) :: xs)).1→Own h H H'→Q (.ref l) H'
theorem rX (T:Txt K mg A):Fok P w K mg base 9 A.cx ["harvest","call"] (Mv K A):=by
 obtain⟨fd,F⟩:=T.cZ
 obtain⟨fdC,GC,bC⟩:=yT (P:=P) (w:=w) (base:=base) T
 obtain⟨_,FC⟩:=T.i6
 refine⟨fd,?_,F.b2 fun _ _ _ _ _ _ _ _=>rfl⟩
 refine F.okX l9 (fun vs H Q E h=>?_) (fun cdv A' outer s H vs Q E hr h=>?_)
 ·exact zL6 (fun _ _ _ _ _ _=>rfl) h
 ·revert h; refine zG6 fun h c st p ws xs zz=>?_; obtain⟨rfl,hv,hcall,hsh,kret⟩:=zz
  have nd:=l9.nd
  refine⟨_,ak (HX (i:=2) rfl rfl nd rfl rfl rfl T.fB T.Em.xin
   (fun pn xe EH th=>ak (aF (aA (E:=EH) GC hr rfl T.lG FC.kp bC .nil th.passes (aa (pv 0) (aa (pv 1) ai)))))
   (fun A''=>ak (aF (bQ (aa (show PE _ _ (J7 K (tY 2) (Str.ofString "number")) from Jq (pv 2) rfl) ai))))),?_⟩
  refine zV rfl (zV rfl (zE6 h c st p ws xs ⟨rfl,hv,hcall,hsh,kret,fun e he=>?_⟩))
  intro C dx H' xc sx na hdx hv' om
  refine zE2 C dx ⟨rfl,rfl,xc.xin,sx,fun σ' e' hl hn=>?_⟩
  have hne:dx≠e':=aq hdx hn
  refine⟨_,?_,e',C,dx,Jj e,.int e,rfl,af,by rw [aj hne]; exact hdx,xc,na,rfl,by show 1≤sizeLine; decide,fun l hl2=>?_⟩
  ·rw [List.getElem?_set_self (by rw [hl]; exact (by decide:2 < 3))]
  have s2:aE H' (upd (upd H' e' (.ext (xh e' C dx))) l (.lst [V.int e])):=(aE.upd hn).trans (aE.upd hl2)
  rw [he] at kret
  exact kret _ l ((om.trans (Own.of (aE.upd hn))).free hl2) af (hv'.same s2) (om.trans (.of s2))
end HG
end
section
namespace HG
open PySem PySem.Spec PyProof.Rows L2
open PySem.W (Frag)
variable {P:Program} {w:World} {K:Frag} {mg:Str→Option Value} {base:Heap} {A:Ad}
theorem Lp {α:Type} {c:Prop} [Decidable c] {x:α} {f:c→α} {g:¬c→α} (hf:∀ e,f e=x) (hg:∀ e,g e=x):dite c f g=x:=by
 by_cases h:c
 ·rw [dif_pos h]; exact hf h
 ·rw [dif_neg h]; exact hg h
theorem IH (c:List (List Int)):PyVbecag.whole c=c:=by
 rcases c with _ | ⟨_ | ⟨a,r⟩,t⟩
 ·rfl
 ·rfl
 unfold PyVbecag.whole PyVbecag.whole.match_1
 show dite _ _ _=_
 iterate 19
  refine Lp (fun e=>?_) (fun _=>?_)
  ·subst e
   rcases r with _ | ⟨_,_ | ⟨_,_ | ⟨_,_ | ⟨_,_⟩⟩⟩⟩<;>first | rfl | (rcases t with _ | ⟨_,_ | ⟨_,_ | ⟨_,_⟩⟩⟩<;>rfl)
 rfl
theorem AI (cs:List (List (List Int))):cs.map PyVbecag.whole=cs:=by
 induction cs with
 | nil=>rfl
 | cons c cs ih=>rw [List.map_cons,IH,ih]
theorem Cs:∀ {k:Nat} {l:List Int} {xs:List (List Int)} {t:List Int},PyFlat.rows k l=some (xs,t)→xs.length=k
 | 0,l,xs,t,h=>by unfold PyFlat.rows at h; cases h; rfl
 | k + 1,l,xs,t,h=>by
  unfold PyFlat.rows at h
  cases h1:PyFlat.row l with
  | none=>rw [h1] at h; cases h
  | some xt =>
   obtain⟨x,s⟩:=xt
   rw [h1] at h
   dsimp only at h
   cases h2:PyFlat.rows k s with
   | none=>rw [h2] at h; cases h
   | some yt =>
    obtain⟨ys,u⟩:=yt
    rw [h2] at h
    cases h
    rw [List.length_cons,Cs h2]
theorem Fm {sh:Int→Option (Nat×Nat)} {f:Nat} {cs:List (List (List Int))} (h:PyFlat.calls sh f []=some cs):cs=[]:=by
 unfold PyFlat.calls at h
 cases h; rfl
theorem Dh {sh:Int→Option (Nat×Nat)} {f:Nat} {p:Int} {r:List Int} {cs:List (List (List Int))} (h:PyFlat.calls sh f (p :: r)=some cs) :
  ∃ f' n k xs t cs',sh p=some (n,k)∧n≤r.length∧PyFlat.rows k (r.drop n)=some (xs,t)∧PyFlat.calls sh f' t=some cs'∧cs=((p :: r.take n) :: xs) :: cs':=by
 cases f with
 | zero=>unfold PyFlat.calls at h; cases h
 | succ f =>
  unfold PyFlat.calls PyFlat.call at h
  dsimp only at h
  cases h1:sh p with
  | none=>rw [h1] at h; cases h
  | some nk =>
   obtain⟨n,k⟩:=nk
   rw [h1] at h
   dsimp only at h
   by_cases c:r.length < n
   ·rw [if_pos c] at h; cases h
   rw [if_neg c] at h
   cases h2:PyFlat.rows k (r.drop n) with
   | none=>rw [h2] at h; cases h
   | some xt =>
    obtain⟨xs,t⟩:=xt
    rw [h2] at h
    dsimp only at h
    cases h3:PyFlat.calls sh f t with
    | none=>rw [h3] at h; cases h
    | some cs' =>
     rw [h3] at h
     cases h
     exact zE6 f n k xs t cs' ⟨rfl,by omega,h2,h3,rfl⟩
theorem g7 (s:Vbecag.State) (e:Int):(Vbecag.bad s e).2.length≤315:=by show 1≤315; decide
theorem zA {s:Vbecag.State} {k:Vbecag.Growth→Vbecag.Out} (h:∀ g,s.growth=some g→(k g).2.length≤315):(Vbecag.withGrowth s k).2.length≤315:=by
 unfold Vbecag.withGrowth
 cases e:s.growth with
 | none=>exact g7 _ _
 | some g=>exact h g e
theorem kG {s:Vbecag.State} {k:Vbecag.Growth→Vbecag.Rule→Vbecag.Out} (h:∀ g r,s.growth=some g→(k g r).2.length≤315):(Vbecag.withBoth s k).2.length≤315:=by
 unfold Vbecag.withBoth
 refine zA fun g hg=>?_
 cases s.rule with
 | none=>exact g7 _ _
 | some r=>exact h g r hg
theorem gf {s:Vbecag.State} {n lo hi:Int} {k:Nat→Vbecag.Out} (h:lo≤n→n≤hi→(k n.toNat).2.length≤315):(Vbecag.withNum s n lo hi k).2.length≤315:=by
 unfold Vbecag.withNum
 split
 ·rename_i c; exact h c.1 c.2
 ·exact g7 _ _
theorem uQ {s:Vbecag.State} {lo hi:Nat} {low high:Int} {l:List Int} {k:List Nat→Vbecag.Out} (h:l.length≤hi→(k (l.map Int.toNat)).2.length≤315):(Vbecag.withList s lo hi low high l k).2.length≤315:=by
 unfold Vbecag.withList
 split
 ·rename_i c; exact h c.1.2
 ·exact g7 _ _
theorem rE (l:List Nat):(Vbecag.ints l).length=l.length:=by unfold Vbecag.ints; rw [List.length_map]
theorem Iz {st:Vbecag.State} (hw:∀ g,st.growth=some g→WfG g) (c:List (List Int)):(Vbecag.step st c).2.length≤315:=by
 unfold Vbecag.step
 cases Vbecag.decode c with
 | none=>show 1≤315; decide
 | some c =>
  cases c with
  | growth n wl t=>exact gf fun _ _=>uQ fun _=>uQ fun _=>by show 1≤315; decide
  | told =>
   refine zA fun g hg=>?_
   have W:=hw g hg
   have:=E3 W
   have:=W.s6
   show ([0,(g.n:Int),(g.seasons:Int)] ++ Vbecag.ints (g.weights ++ g.table.flatten)).length≤315
   rw [List.length_append,rE,List.length_append]
   show 3 + _≤315
   omega
  | rule l d q=>exact zA fun g hg=>gf fun _ _=>gf fun _ _=>gf fun _ _=>by show 1≤315; decide
  | ruled=>exact kG fun g r hg=>by show 4≤315; decide
  | next x q c=>exact zA fun g hg=>gf fun _ _=>gf fun _ _=>gf fun _ _=>by show 1≤315; decide
  | safe =>
   refine kG fun g r hg=>?_
   have W:=hw g hg
   have h1:=List.length_filter_le (Vbecag.isIn (Vbecag.safe g r)) (Vbecag.stocks g)
   rw [show (Vbecag.stocks g).length=g.n + 1 from by simp [Vbecag.stocks]] at h1
   have:=W.n50
   show (0 :: Vbecag.ints (Vbecag.members g (Vbecag.safe g r))).length≤315
   rw [List.length_cons,rE]
   unfold Vbecag.members
   omega
  | quotas x =>
   refine kG fun g r hg=>gf fun a b=>?_
   split
   ·have:=EF (g:=g) (r:=r) (s:=Vbecag.safe g r) (x:=x.toNat)
    have:=(hw g hg).n50
    show (0 :: Vbecag.ints _).length≤315
    rw [List.length_cons,rE]
    omega
   ·exact g7 _ _
  | most x =>
   refine kG fun g r hg=>gf fun a b=>?_
   split
   ·show 1≤315; decide
   ·exact g7 _ _
  | years x =>
   refine kG fun g r hg=>gf fun a b=>?_
   split
   ·show 1≤315; decide
   ·show 2≤315; decide
  | harm x q =>
   refine kG fun g r hg=>gf fun a b=>gf fun _ _=>?_
   split
   ·exact g7 _ _
   ·show 1≤315; decide
  | check l=>exact kG fun g r hg=>uQ fun _=>by show 1≤315; decide
  | refute l=>exact kG fun g r hg=>uQ fun _=>by show 1≤315; decide
  | play x l =>
   refine kG fun g r hg=>gf fun a b=>uQ fun h=>?_
   split
   ·show (0 :: Vbecag.ints _).length≤315
    rw [List.length_cons,rE,List.length_append,uH,List.length_map]
    show l.length + 1 + 1≤315
    omega
   ·exact g7 _ _
  | force x l =>
   refine kG fun g r hg=>gf fun a b=>uQ fun h=>?_
   split
   ·exact g7 _ _
   ·split
    ·exact g7 _ _
    ·rename_i m hm
     have:=ui hm
     rw [List.length_map] at this
     show (0 :: Vbecag.ints _).length≤315
     rw [List.length_cons,rE]
     omega
  | demand x =>
   refine kG fun g r hg=>gf fun a b=>?_
   split
   ·exact g7 _ _
   ·show 1≤315; decide
  | sure x t =>
   refine kG fun g r hg=>gf fun a b=>gf fun _ _=>?_
   dsimp only
   split
   ·show 1≤315; decide
   ·exact g7 _ _
  | mean x t =>
   refine kG fun g r hg=>gf fun a b=>gf fun _ _=>?_
   dsimp only
   split
   ·show 2≤315; decide
   ·exact g7 _ _
  | blind l =>
   refine kG fun g r hg=>uQ fun h=>?_
   split
   ·exact g7 _ _
   ·show 1≤315; decide
  | rising=>exact zA fun g hg=>by show 1≤315; decide
theorem gT.wf {H:Hp} {h:Addr} {st:Vbecag.State} (x:gT A H h st):∀ g,st.growth=some g→WfG g:=by
 obtain⟨dx,a,b,c,d,e,f,m,_,h2⟩:=x
 cases h2 with
 | none=>intro g e; cases e
 | growth _ W=>intro g e; cases e; exact W
 | both _ W _ _ _ _ _ _ _ _ _ _=>intro g e; cases e; exact W
end HG
end
section
namespace HG
open PySem PySem.Spec PyProof.Rows L2
open PySem.W (Frag)
variable {P:Program} {w:World} {K:Frag} {mg:Str→Option Value} {base:Heap} {A:Ad}
theorem gT.Dc {H H':Hp} {h x dx C:Addr} {fs:List (Str×V)} {st:Vbecag.State} (v:gT A H h st) (hx:H x=some (.ins C dx fs)) (c1:A.aC≠C) (c2:A.aU≠C) (c3:A.gU≠C) (s:But x H H'):gT A H' h st:=by
 obtain⟨dh,a,b,c,d,e,f,m,h1,h2⟩:=v
 have nl:∀ {b:Addr} {l:List V},H b=some (.lst l)→b≠x:=fun e=>hW e hx (by intro z; cases z)
 have nc:∀ {b C' d':Addr} {f':List (Str×V)},C'≠C→H b=some (.ins C' d' f')→b≠x:=fun n e=>hW e hx (by intro z; injection z with z1; exact n z1)
 have gk:∀ {ag lo:Addr} {g:Vbecag.Growth},GrA A H ag g lo→GrA A H' ag g lo:=fun G=>by
  obtain⟨⟨_,_,_,q,_⟩,_⟩:=id G
  exact G.Ki hx (nc c2 q) s
 have rk:∀ {ar:Addr} {r:Vbecag.Rule},iU A H ar r→iU A H' ar r:=fun ⟨dx',q⟩=>⟨dx',s _ _ (nc c3 q) q⟩
 refine⟨dh,a,b,c,d,e,f,m,s _ _ (nc c1 h1) h1,?_⟩
 cases h2 with
 | none=>exact .none
 | growth g1 w1=>exact .growth (gk g1) w1
 | both g1 w1 r1 w2 y1 l1 d1 s1 m1 n1 n2 n3=>exact .both (gk g1) w1 (rk r1) w2 (s _ _ (nl y1) y1) (s _ _ (nl l1) l1) (d1.imp_right fun ⟨ld,e,q⟩=>⟨ld,e,s _ _ (nl q) q⟩) (s1.but hx s) (m1.but hx s) n1 n2 n3
theorem jX.Dc {H H':Hp} {p a h dx:Addr} {ns:List Int} {i:Nat} {fs:List (Str×V)} (r:jX K A H p a ns i) (hh:H h=some (.ins A.aC dx fs)) (c:A.aC≠A.bp) (s:Own h H H'):jX K A H' p a ns i:=by
 obtain⟨d,h1,h2,h3⟩:=r
 refine⟨d,s.keep _ _ (hW h1 hh (by intro z; injection z with z1; exact c z1.symm)) sY h1,?_,h3⟩
 rcases h2 with (h2 | ⟨o,h2⟩) | h2
 ·exact .inl (.inl (s.keep _ _ (hW h2 hh (by intro z; cases z)) Hr h2))
 ·exact .inl (.inr ⟨o,s.keep _ _ (hW h2 hh (by intro z; cases z)) (fun _ _ z=>by cases z) h2⟩)
 ·exact .inr h2
theorem zt:ay ["calls","harvest","reader","given","answer"] ["calls"] (au sU):=⟨rfl,rfl,rfl,by decide +kernel,rfl,by decide +kernel,by decide +kernel⟩
def Ig (K:Frag):Sp:=fun vs H Q _=>∃ (a:Addr) (ns:List Int) (cs:List (List (List Int))),vs=[.ref a]∧SqL K H a (ns.map V.int)∧PyFlat.calls PyVbecag.shape ns.length ns=some cs∧cs.length≤400 ∧
 ∀ H' p,H' p=some (.lst ((PyVbecag.answers ns).map V.int))→Q (.ref p) H'
theorem C9 {ns:List Int} {cs:List (List (List Int))} (h:PyFlat.calls PyVbecag.shape ns.length ns=some cs):PyVbecag.answers ns=PyFlat.told (PyFlat.played Vbecag.step Vbecag.start cs):=by
 unfold PyVbecag.answers PyVbecag.calls
 rw [h]
 dsimp only
 rw [AI]
 rfl
theorem Gx (a:List Int) (l:List (List Int)):PyFlat.told (a :: l)=((a.length:Int) :: a) ++ PyFlat.told l:=by
 unfold PyFlat.told
 rw [List.flatMap_cons]
theorem bne {a b:Addr} (h:(a == b)=false):a≠b:=fun e=>by rw [e] at h; simp at h
theorem DI (T:Txt K mg A) {fd:FuncData} (F:Fun K "answers" "answers" sU A.k6 fd):oE P w K mg base (CXr P w) 10 A.k6 fd ["calls"] (Ig K):=by
 obtain⟨fdO,GO,bO⟩:=rX (P:=P) (w:=w) (base:=base) T
 obtain⟨_,FO⟩:=T.cZ
 obtain⟨fdH,GH,bH⟩:=xC (P:=P) (w:=w) (base:=base) T
 obtain⟨fdR,GR,bR⟩:=yS (P:=P) (w:=w) (base:=base) T
 obtain⟨fdD,GD,bD⟩:=vE (P:=P) (w:=w) (base:=base) T
 obtain⟨fdT,GT,bT⟩:=tO (P:=P) (w:=w) (base:=base) T
 refine F.okX zt (fun vs H Q E h=>?_) (fun cdv A' outer s H vs Q E hr h=>?_)
 ·exact zL3 (fun _ _ _=>rfl) h
 ·revert h; refine zG3 fun a ns cs0 zz=>?_; obtain⟨rfl,hS,hcs,hfew,k⟩:=zz
  have nd:=zt.nd
  have hr1:cf 1 _:=hr.mono (by decide)
  have hr2:cf 2 _:=hr.mono (by decide)
  have hr3:cf 3 _:=hr.mono (by decide)
  refine⟨_,ae (aD (i:=1) nd rfl (Or.inl rfl) (HR T.DF GH hr3 rfl T.tj bH .nil ax.passes))
   (ae (aD (i:=2) nd rfl (Or.inl rfl) (tD T.FZ GR hr2 rfl T.vv bR .nil ax.passes (aa (pv 0) ai)))
   (ae (aD (i:=3) nd rfl (Or.inl rfl) (bQ ai))
   (ae (js PassesOwn.leaving (wW (gc (cq (E:=E) (pv 2) T.bw T.vy GD hr1 bD .nil ax.passes)))
    (ae (aD (i:=4) nd rfl (Or.inl rfl) (HM (aA (E:=E) GO hr rfl T.eU FO.kp bO .nil ax.passes (aa (pv 1) (aa (cq (pv 2) T.bw T.tM GT hr3 bT .nil ax.passes) ai)))))
    (ae (aK (qE PySem.F.plainAttrs_list PySem.F.slot_list_append PySem.F.type_list_append fE (pv 3) (aa (aO aN (by rfl) T.eO PySem.boot_len (aa (pv 4) ai)) ai)))
    (ak (aK (qE PySem.F.plainAttrs_list PySem.F.slot_list_extend PySem.F.type_list_extend F0 (pv 3) (aa (pv 4) ai)))))))
   (ak (aF (pv 3)))))),?_⟩
  refine fun h dh hh hdh hne=>zE2 h dh ⟨rfl,af,⟨rfl,?_⟩⟩
  rw [bo]
  have s1:aE H (upd (upd H dh (.own h)) h (.ins A.aC dh (hvF .non .non .non .non .non .non .non))):=fun b o e=>by rw [aj (aq e hh),aj (aq e hdh)]; exact e
  have v1:gT A (upd (upd H dh (.own h)) h (.ins A.aC dh (hvF .non .non .non .non .non .non .non))) h Vbecag.start:=⟨dh,.non,.non,.non,.non,.non,.non,.non,af,.none⟩
  generalize (upd (upd H dh (.own h)) h (.ins A.aC dh (hvF .non .non .non .non .non .non .non)))=H1 at s1 v1
  refine zV rfl (fun pt dp hp hdp hne2=>⟨pt,dp,a,rfl,af,⟨rfl,?_⟩⟩)
  rw [bo]
  have s2:aE H1 (upd (upd H1 dp (.own pt)) pt (.ins A.bp dp (rdF a 0))):=fun b o e=>by rw [aj (aq e hp),aj (aq e hdp)]; exact e
  have r2:jX K A (upd (upd H1 dp (.own pt)) pt (.ins A.bp dp (rdF a 0))) pt a ns 0:=⟨dp,af,(s1.trans s2).seq hS,by
   rcases hS with h1 | h1
   ·refine .inl ?_
    rcases h1 with h1 | ⟨o,h1⟩
    ·exact aq (s1 _ _ h1) hp
    ·exact aq (s1 _ _ h1) hp
   ·exact .inr fun _=>.inr h1⟩
  have v2:=v1.same s2
  generalize (upd (upd H1 dp (.own pt)) pt (.ins A.bp dp (rdF a 0)))=H2 at s2 v2 r2
  refine⟨Nat.zero_le _,fun l hl=>?_⟩
  refine⟨fun m σ H'=>∃ (st:Vbecag.State) (j f:Nat) (done:List Int) (cs:List (List (List Int))) (v4:Option V),m=cs.length∧σ=[some (.ref a),some (.ref h),some (.ref pt),some (.ref l),v4]∧H' l=some (.lst (done.map V.int)) ∧
   jX K A (hide H' l) pt a ns j∧gT A (hide H' l) h st∧PyFlat.calls PyVbecag.shape f (ns.drop j)=some cs∧PyVbecag.answers ns=done ++ PyFlat.told (PyFlat.played Vbecag.step st cs)∧done.length + 316 * cs.length≤126400,
   ⟨cs0.length,Vbecag.start,0,ns.length,[],cs0,none,rfl,rfl,af,by rw [vn hl]; exact r2,by rw [vn hl]; exact v2,hcs,C9 hcs,by show 0 + _≤_; omega⟩,?_⟩
  rintro m σ H' ⟨st,j,f,done,cs,v4,rfl,rfl,hd,rj,vj,hc,hans,hsz⟩
  obtain⟨dj,hj,_,_⟩:=id rj
  refine zX rfl (zM (yB _ _ hj) rfl ⟨pt,a,ns,j,rfl,?_,zX rfl ?_⟩)
  ·obtain⟨d',x1,x2,x3⟩:=rj
   exact⟨d',yB _ _ x1,yB.seq x2,x3⟩
  refine ko (fun z=>?_) fun z=>?_
  ·have z:j < ns.length:=by simpa using z
   obtain⟨p,r,hpr⟩:∃ p r,ns.drop j=p :: r:=by
    cases e:ns.drop j with
    | nil=>have:=congrArg List.length e; rw [List.length_drop] at this; simp only [List.length_nil] at this; omega
    | cons p r=>exact⟨p,r,rfl⟩
   obtain⟨hp0,hr0⟩:=drop_cons hpr
   rw [hpr] at hc
   obtain⟨f',n,kk,xs,t,cs',hsh,hn,hrows,hc',rfl⟩:=Dh hc
   rw [hr0] at hn hrows hans hsz
   rw [List.drop_drop] at hrows
   refine⟨fun σ' H''=>∃ m',m' < (((p :: (ns.drop (j + 1)).take n) :: xs) :: cs').length∧∃ (st:Vbecag.State) (j f:Nat) (done:List Int) (cs:List (List (List Int))) (v4:Option V),m'=cs.length∧σ'=[some (.ref a),some (.ref h),some (.ref pt),some (.ref l),v4]∧H'' l=some (.lst (done.map V.int)) ∧
    jX K A (hide H'' l) pt a ns j∧gT A (hide H'' l) h st∧PyFlat.calls PyVbecag.shape f (ns.drop j)=some cs∧PyVbecag.answers ns=done ++ PyFlat.told (PyFlat.played Vbecag.step st cs)∧done.length + 316 * cs.length≤126400,fun _ _ q=>q,?_⟩
   refine⟨l,_,hd,zV rfl (zV rfl (zM hj rfl ⟨pt,a,ns,j,p,n,kk,xs,t,rfl,rj,hp0,hsh,hrows,fun H3 c j' r3 hdr hjj hca b3=>?_⟩))⟩
   have v3:gT A H3 h st:=vj.Dc hj (Ne.symm (bne T.ot)) (Ne.symm (bne T.wG)) (Ne.symm (bne T.yN)) b3
   obtain⟨d3,_,_,_,_,_,_,_,h3,_⟩:=id v3
   refine zE6 h c st p ((ns.drop (j + 1)).take n) xs ⟨rfl,v3,hca,by rw [hsh,Cs hrows,List.length_take,Nat.min_eq_left hn],fun H4 la fla hla v4' b4 hn4=>?_⟩
   have r4:jX K A H4 pt a ns j':=r3.Dc h3 (Ne.symm (bne T.ot)) b4
   have hlen:=Iz v3.wf ((p :: (ns.drop (j + 1)).take n) :: xs)
   have hlla:la≠l:=aq hla hn4
   rw [List.length_cons] at hsz
   refine⟨_,rfl,.inl ⟨rfl,_,SqL.of af⟩,_,rfl,la,_,rfl,.inl (SqL.of (by rw [aj hlla]; exact hla)),l,_,_,rfl,rfl,af,?_,?_⟩
   ·rw [List.length_map,sizeLine_eq]; omega
   rw [bo]
   refine zV rfl ⟨.inl ⟨rfl,_,SqL.of af⟩,zV rfl (zE4 l la _ _ ⟨rfl,rfl,af,by rw [aj hlla]; exact hla,?_,?_⟩)⟩
   ·rw [List.length_append,List.length_map,List.length_map,sizeLine_eq]; show done.length + 1 + _≤_; omega
   rw [bo]
   refine⟨cs'.length,by rw [List.length_cons]; omega,(Vbecag.step st ((p :: (ns.drop (j + 1)).take n) :: xs)).1,j',f',done ++ (((Vbecag.step st ((p :: (ns.drop (j + 1)).take n) :: xs)).2.length:Int) :: (Vbecag.step st ((p :: (ns.drop (j + 1)).take n) :: xs)).2),cs',zX rfl ⟨rfl,?_,?_,?_,?_,?_,?_⟩⟩
   ·rw [af,List.map_append,List.map_cons,List.append_assoc,List.length_map]; rfl
   ·rw [vn hn4]; exact r4
   ·rw [vn hn4]; exact v4'
   ·rw [hdr]; exact hc'
   ·rw [hans]
    show done ++ PyFlat.told ((Vbecag.step st _).2 :: PyFlat.played Vbecag.step (Vbecag.step st _).1 cs')=_
    rw [Gx,List.append_assoc]
   ·rw [List.length_append,List.length_cons]; omega
  ·have z:ns.length≤j:=by simpa using z
   rw [List.drop_of_length_le z] at hc
   obtain rfl:=Fm hc
   rw [show PyFlat.told (PyFlat.played Vbecag.step st [])=[] from rfl,List.append_nil] at hans
   refine zV rfl ?_
   refine k H' l ?_
   rw [hans]
   exact hd
end HG
end
section
namespace HG
open PySem PySem.Spec PyProof.Rows L2
open PySem.W (Frag)
theorem all_mk {P:Program} {w:World} {K:Frag} {h:Heap} {mg:Str→Option Value} {fa:Addr} (R:Raw K) (X:K.In h) (G:h.Ns mainGlobals mg) (hfa:mg "answers" = some (.ref fa)) :
  ∃ fd:FuncData,(∀ (s:Shared) (us:List Value),us.length=(["calls"]:List Str).length→BindsTo s fd ⟨us,[]⟩ ((["calls"]:List Str).zip us))∧∀ base:Heap,K.In base→base.Ns mainGlobals mg→oE P w K mg base (CXr P w) 10 fa fd ["calls"] (Ig K):=by
 have T:=R.txt X G
 have e:=hfa.symm.trans T.tu
 cases e
 exact⟨_,fun s us hu=>match us,hu with | [_],_=>.of_eq rfl,fun base _ _=>DI T (Hm R.mW.at_ R.mW.cd R.mW.kp)⟩
theorem BE {ns:List Int} (h:PyVbecag.answers_asked ns=true):∃ cs,PyFlat.calls PyVbecag.shape ns.length ns=some cs∧cs.length≤400:=by
 unfold PyVbecag.answers_asked PyVbecag.calls at h
 cases e:PyFlat.calls PyVbecag.shape ns.length ns with
 | none=>rw [e] at h; cases h
 | some cs =>
  rw [e] at h
  dsimp only at h
  rw [AI,Bool.and_eq_true] at h
  exact⟨cs,rfl,of_decide_eq_true h.1⟩
theorem Kl {P:Program} {w:World} {H:Hp} {s:Shared} {e:Value} {s':Shared} (h:CXr P w [] H s (fun _ _ _=>False) e s'):False:=by
 obtain⟨_,_,_,_,_,_,_,_,_,_,z⟩:=h
 exact z
end HG
end
structure PySem.W.Fast:Prop where(tw8729633090402746807 tw12606628009476502914 tw1120238051878088214 tw18376948446099848538 tw11471852762802804333 tw1486619738986756365 tw14595836736724729794 tw10506728135723480004 tw6651693511184955678 tw6479296623002495086 tw2462001333803516803 tw17187156711629295929 tw12313019151780404297 tw3659376193622005988 tw15592851040304437811 tw5334335750929626523 tw2504989833656971419 tw14385510169522430028 tw12768072126258930277 tw878327810425230565 tw6801068556348942295 tw15799715121705311866 tw6582745395754847829 tw8334553823827554885 tw18154004714912724847 tw1705787973540165136 tw1356928634278708919 tw15148174617544577980 tw289801287606453625 tw13849460283891226108 tw9086426089170385545 tw5849602069509675353 tw3554618113719303695 tw305910568069982142 tw341228002326456296 tw16367632430078795866 tw14949470616264154162 tw15245994288101647992 tw6350843287811055847 tw13603848932987790688 tw12632353514977221541 tw8711540763185493580 tw4957775865799456883 tw2570496224000116616 tw10959096177460187423 tw6127348467092324544 tw6246479280457280144 tw11508727642070319248 tw13889769297135561799 tw4210684347747256824 tw18038679461780889873 tw112495818219735708 tw4961892407500070209 tw17418859718207500324 tw2251522453601103493 tw4107689970587051332 tw1935515595971980371 tw5978215855555779589 tw9918424042969996265 tw7242853885850437766 tw4129700820860978852 tw1576750405460336308 tw11023848626575272379 tw3095430154828509824 tw3550713853828408045 tw4230946978648252222 tw4703577017843102960 tw7315657798279362925 tw12017834115936110725 tw10677550708788500544 tw10562947345222300480 tw782502729619745194 tw7232230710268803427 tw10801200409992303964 tw1831048631563063926 tw5492092557117140335 tw15574998232210065298 tw7845590020832807210 tw1556606381265775120 tw13791557060185920350 tw13452986222479283079 tw5239367736907308139 tw17440387109114405800 tw3782476811257712036 tw2578660777047429168 tw5670881768167466687 tw109357840231145084 tw8258497340108602883 tw8198171816096004953 tw483152849964114519 tw7963844055159358018 tw6898256021931708836 tw16992167933191927240 tw17654790158352580499 tw11527658263188650346 tw8304446899017992545 tw12761042999298658744 tw17366353552183743764 tw11943252580733306608 tw4811851541327756432 tw9986783064172518252 tw16889994018078524759 tw17043286407913961276 tw7868337476977433008 tw8297865656951428333 tw12775533034727442802 tw10174337882403025111 tw1019768877426919801 tw12442607898183388602 tw5006649703209683652 tw570648655217814956 tw6169641123536578888 tw773644666972787791 tw7618435040982571696 tw6883672713677714427 tw6479225133816250099 tw15217911231612657270 tw11825020580699354087 tw690770402865912113 tw15448211911780442034 tw9025705643787099121 tw5528079259021706928 tw14744848071350899230 tw9771973151423879552 tw6510599465294393492 tw645716647780777542 tw14774364135805354751 tw1630587327781492142 tw7512772713305774991 tw1109811637334865687 tw4136538407659121535 tw16213739422616494905 tw7002485901274826038 tw931742608364161791 tw18034982514503675407 tw15531322162754512684 tw13259944282996130152 tw4002327806061615530 tw4866200115788416149 tw18227332129030332231 tw16188604291987794810 tw11287944218159945837 tw15611789697685797490 tw2490040137886052766 tw17170684822983679263 tw17178851027561837522 tw5072394341804033099 tw11897530647139009664 tw15455406122136882564 tw1336547522466609374 tw17975945090943960871 tw12041345238643068656 tw7662152013902416459 tw9132653528934935327 tw13678830689766730572 tw5352814261197925739 tw11693768177951950227 tw4097674985073832832 tw10187218861908593123 tw5267308226807871469 tw10842436427621001779 tw12160413822702579568 tw5747727899655322023 tw4371516753478802460 tw12092187752488719870 tw4777171636690578420 tw6723522691668566802 tw3132798365273462259 tw11580320864282082941 tw6766660716144303397 tw15091707958236091889 tw9087568593344347837 tw16792531457083133680 tw3047629316961007224 tw15948620768196050409 tw673188445187070934 tw5844946481919403310 tw12787658582666628969 tw8391727463072015895 tw10538973348939090325 tw15050593418793104983 tw3279515723884951164 tw5065526477591898485 tw2733878345951845721 tw18009984271355303306 tw18136989324943093555 tw11753503798085639420 tw7284838734216757977 tw14135337740505831688 tw1940385777034602773 tw18381659342591651312 tw2345195032420022666 tw3464796368404366669 tw15146531929824622753 tw14643964059857695997 tw16098815719359948176 tw5118666377157600210 tw9491021783796649106 tw17787085480949060240 tw15747873175691988222 tw14117076664128458043 tw18350781254841803761 tw9949225217519478736 tw13379643743155208181 tw15676389151894932858 tw3208520232713001287 tw7133739148870535535 tw11650770712161956300 tw18037750715884121894 tw8595739189831295931 tw1184298582814960100 tw7403426036182422469 tw4358780199571087312 tw14030131264461201112 tw18288502949547762647 tw1525034779207086505 tw9374875532170330762 tw2255716091551011150 tw11796483808812724512 tw5660693696325084882 tw5296937307008500210 tw70543680458327920 tw4561262512858964905 tw11782491894271720053 tw4808374119014775720 tw8637282661104751564 tw9087370917500070432 tw14396673815875291288 tw1751453018271262041 tw4912486207699922094 tw8812753709007014555 tw8140992298478310120 tw14938125693631774802 tw17748462586961140466 tw17444249931496579518 tw10894623345420656126 tw2563266569921904907 tw8664143751345571196 tw974008855513684191 tw363622249474655039 tw11011356832372401403 tw3225491818682714157 tw7553387829088402810 tw17825083508485024553 tw2942857845303427493 tw13291757710240178849 tw16442194666267310937 tw13709756543952230075 tw16720558639442531379 tw2068941722102356825 tw16050276555921110291 tw7602908275545176535 tw857673222206494605 tw11640126276380499203 tw332922002169815815 tw10928076111633074547 tw13471966713052283561 tw11785748837269746693 tw10268354711596062260 tw2488811987152265970 tw15558818664006566031 tw5316094890590842092 tw12855034973410090833 tw16784632266716460120 tw12016208764907178941 tw13084713145614746107 tw5892770636037783740 tw13307401632503187018 tw3385376292408332868 tw13100977699984418951 tw5086083296911567636 tw6423750414663748949 tw10612926110233259784 tw5261700729932228089 tw10820564228479250820 tw10068876560365628440 tw10432520300758907065 tw17349399287201499780 tw12340986124054273640 tw1390332095620969925 tw18441477388628721708 tw8270224408712881465 tw16352669491104078317 tw14970324011296918607 tw11394709216202833860 tw941045725822072649 tw9980368637235070515 tw3528720884814388846 tw2354082918000286155 tw12487510992083549116 tw11746676057596782525 tw3110191096773813841 tw14001894445858402082 tw512794281411550283 tw1249341604737887412 tw17932837721791100169 tw8739989742702910143 tw1399797293065779638 tw904323470245604454 tw8970774852166696737 tw13840727826094322619 tw16768703190545092597 tw473022737820326360 tw2720433817015217683 tw6361560196039187568 tw6569358226726460304 tw16556609118105029136 tw3575887075741813142 tw10390125291765432974 tw3235997905129920596 tw16829962247573343074 tw16101524884016582782 tw2009412351665217589 tw7713264956579083720 tw9982532521088285374 tw9128115494007638112 tw8508017309386312887 tw11491377364059822396 tw13750500486235452558 tw15505244192542251316 tw11963717557318684127 tw8819976794352148741 tw18388500855573523911 tw6513325427084128956 tw17604543151260189477 tw17269090103881638133 tw10283634968401201777 tw14849688394537509714 tw1655675346240118803 tw15931363109065322145 tw12858815544795783317 tw7832624885465413339 tw3117655117204046482 tw10789363384471958182 tw14344047974118923772 tw11664621906562490821 tw10601452583824945321 tw12348915318788716844 tw17733049157067706697 tw15919298172840742362 tw3974325539491138486 tw13059348468986665145 tw1398277025201954499 tw18135985344293093634 tw5424250137278430745 tw5964631247824091750 tw9640655543200565784 tw6995900017222507811 tw15714352154724799477 tw15270790490119251071 tw9352416507152640099 tw935568354243529132 tw2051430654635749856 tw4708539676943844294 tw1609791574317580253 tw9472424413180400281 tw6929163985433469453 tw1788581041687147248 tw14361007724660488025 tw14067060037582468955 tw663943594208144705 tw12164656204020903405 tw10544779899324155498 tw2480875105401530360 tw6674364994706467849 tw9692441489311306964 tw8979631381202323534 tw5635734918094629463 tw10799876695963119423 tw3871046096768354050 tw13623082667888904057 tw10455489118545698927 tw16324260547964417197 tw8728899720835266964 tw14025767895783382136 tw18033475075865941210 tw1344857150374827607 tw4538183339151687093 tw17051203019015607115 tw3402272877245011677 tw16411234741466797599 tw262066374377875032 tw12337113235571467553 tw1788517164542240868 tw2787501340405749400 tw15083997585036418891 tw4305981471286222587 tw5510506277760622085 tw14613197354562388777 tw17587772804588981073 tw2939715985435296767 tw11115257639542127687 tw61201681593739995 tw1276813119868897937 tw9726636802086982950 tw1005542836775398727 tw14594176851935292660 tw9152702045954443533 tw2642754181269662969 tw7102902012180836826 tw5016436934768306344 tw17095140945987844956 tw14179018910419666582 tw17213890660509506052 tw12653649915948372580 tw12913369890671411587 tw4712080755745938950 tw10368959163558985407 tw4542194665368369673 tw8944694459522996018 tw13781013048422286611 tw5152511595369665781 tw11572182160864421304 tw998139785523368043 tw4856172449820723058 tw2843108028530915465 tw17980410573241121309 tw8727699649117749973 tw17645202945904804536 tw14607098912883686821 tw15037866803173831281 tw8755400704764297952 tw16951404811462675248 tw13332622180544247470 tw15171134196251014828 tw14769042000239152742 tw3560472439621275130 tw8769127173228659753 tw2999669010702499027 tw13386045619761301820 tw4410503703174734088 tw3292867954861392774 tw15712737884862282999 tw16204840955827563850 tw2475314514300689705 tw667081815652950392 tw16313451232330064985 tw16466108842647448655 tw8449498786581911979 tw10913135590807507247 tw5164506344133361680 tw14117094703284054546 tw2367334381345750673 tw11117556025961364651 tw9795056958275843108 tw2595448063227215207 tw13661886394952242709 tw13980554740054281463 tw2385976865008414332 tw5981721480464817193 tw1767185310196189991 tw15116055566392085368 tw2002008403393589482 tw2014509876854563413 tw11300163917290727202 tw11684231303758076506 tw10266901743084177676 tw15116642808457256315 tw1749471536441040254 tw4696609994664766120 tw3930828871063376223 tw409815685018555520 tw13102917313455732033 tw4064146043964806060 tw5069587250619598526 tw10957804552576717 tw296533820099168279 tw12022515128797543357 tw2078330150865729133 tw11199991920508934235 tw8171527773726424347 tw6409454729153804019 tw18259915703876657055 tw3399620294126255625 tw135795261144787197 tw361811108201720096 tw16897025942110411924 tw16720917521216516202 tw13631944532008276157 tw10879284537219874490 tw9276216682583381717 tw12357527945607574679 tw5055661469101571841 tw3988678114118515335 tw78064125921972398 tw15101109444025301314 tw7655885044072672337 tw14252078634966104304 tw5952544767714752855 tw17739515396784965385 tw11743080553987557921 tw12209988479342531064 tw8338417411340697286 tw11771782878345887194 tw6575275641984718045 tw17678513523748042198 tw7794541287582183333 tw12399555868823863818 tw7460024908004641957 tw7776521836472103417 tw12084937695628667325 tw4479559841391871681 tw11947666055128209808 tw1542632563376590146 tw6419850458024131568 tw3853349578439710205 tw4136127140823841013 tw7545035222932559959 tw9673023586967748385 tw16744989905192929635 tw9821747025887618084 tw5084064935182464241 tw1353257640454889216 tw8995854386427006263 tw12501647881050904656 tw17827759756130095589 tw2970724322177557826 tw4963199749164270526 tw4132688411490312401 tw6726388897349839317 tw253522092091850724 tw11226966891446652877 tw7257722819436085361 tw3759973258468407921 tw11232439004727407780 tw7548222126002467891 tw5945959571108090256 tw16496753169761022194 tw14587139421596240565 tw12907450860372409104 tw3593635191402052963 tw12648392388131324178 tw1499532734664276334 tw14772190998804470054 tw292929209188421351 tw7476069749577244686 tw7689147961650873701 tw4304231856159804666 tw15541610126218031613 tw11423847293938218842 tw14820527027128103317 tw3100778123129162552 tw14573614189387848801 tw17772334710883128472 tw1345518211282977215 tw17179500789305807758 tw1486789129353412677 tw332798349284499565 tw3259014968384254224 tw5238535737281808374 tw14531766434753217654 tw280254643251467283 tw1813346525097161417 tw3901786817505119000 tw9601952137769613011 tw6590286879334696166 tw3516393419528213907 tw8525970739472900763 tw4786484124805387943 tw3711096199167386947 tw7735908728666536465 tw11730103373464805209 tw10857278750020179451 tw6418165055568777422 tw5428886254324349538 tw14523363981770991774 tw16669773702721828254 tw3499866452140411837 tw15687774760847869889 tw7692611636159264289 tw5722934107078463971 tw6541375213884304156 tw10192599976711723165 tw12349559645162052162 tw13158036465598546191 tw7071302164699546416 tw10211891882837885386 tw7351262228766583261 tw12841184948060352779 tw5332387968892940336 tw1818560196678373940 tw18089689549130298422 tw17210749607439020275 tw17317159972640862996 tw79202691874055165 tw15514018758808295571 tw9978970346753303424 tw15153725367648610701 tw11615434455640255118 tw18209484024189558769 tw5321694395698081700 tw13035553483177920098 tw8939072113723950920 tw9008080884472560679 tw3577762126739778145 tw5066450540150707225 tw1797536225421263748 tw6284620119483243094 tw13158799170044295227 tw12846842560539028580 tw12117747366934323114 tw10327900763100150042 tw12935036971591727800 tw15606539869006075122 tw2213180880089300206 tw15634605569553108046 tw9879552653847825522 tw7954355808532640876 tw15069169840604524814 tw12168256062378780865 tw2415727345764706065 tw2700248971437051095 tw14007720907072983888 tw10114664597810033596 tw14673108740920693723 tw15007544528966953827 tw13414829268713663217 tw16295814032516628990 tw14240972745023820166 tw11984554147098783417 tw13081702239257683816 tw8598203631738490516 tw1327517822335319038 tw8894033876904446295 tw15017434262872108793 tw7274793814691940566 tw18255842272040611721 tw4176309975047888607 tw4436139840764743406 tw1116744119915309655 tw6426301256863454774 tw7193921386454776551 tw10200732413843438450 tw6152946594603154128 tw6858864031746562751 tw12411471195342627789 tw7461273800890207091 tw17555148970029378024 tw9020079684435716492 tw3029312376939288752 tw15589879788243491030 tw9172993290600554033 tw5632792084398702952 tw2803002383434402368 tw3439319519703863567 tw11992224860873984096 tw4236303870040999876 tw7137275752562774940 tw531324988671878940 tw806664375599725695 tw18421416240200353671 tw4272937787168602569 tw2385642952436149716 tw16182249807818858428 tw13124385321225777463 tw2574885503900450060 tw14995404904780566370 tw10159008062284051603 tw12604450997820241586 tw8414494916111263007 tw3355134244229194055 tw3583055867943724224 tw4254977374143491651 tw10248058947713825697 tw15952321826094063592 tw7813595752641019813 tw3089978867268589394 tw10625396657034195156 tw13310235396078814986 tw6284467261988395740 tw6479691702732582933 tw6682718356848090102 tw12514117713939205185 tw15487878607608360741 tw7882282257849005733 tw4750785682441391262 tw11185937294836893945 tw7185515008835738545 tw11458290560844508272 tw17482184898806631236 tw11481137814615752310 tw6364083225148687941 tw5388302970088206591 tw7717642850070403771 tw15993812820986713756 tw7907624814279036360 tw629628379813544814 tw14952627000188158911 tw5768660108657386229 tw12874009341866809254 tw7817932231452375921 tw13436543850864157749 tw5787145401470134967 tw8525527492374539532 tw729080229246815133 tw2073787453598489581 tw16522620995520721978 tw17462058175893822560 tw6775884887567482914 tw18259336582771897473 tw4217260124660845538 tw8355250050849132690 tw16373589677161326535 tw18402576347433755388 tw16495035966768275117 tw9103104108157851809 tw5361990903630936067 tw12928625832771176510 tw7965703762288628367 tw17212249274790647572 tw14216822628034979707 tw16250177528393567660 tw12431327027322941653 tw11902250587114058085 tw10690921527099678739 tw10276559721775642814 tw10031135811823239803 tw12407929593561279419 tw8901736744532450420 tw17159678161681785759 tw282056875069374810 tw14932715441759092244 tw1891269997962287690 tw1007032346830335836 tw15682189560620979086 tw5207966775807685003 tw1669955875072185354 tw17643242314449578457 tw12580932089190636508 tw4758381386359759432 tw4921323828524872713 tw11412837848142767130 tw12250686211501246107 tw16063084180476528489 tw17963230413896923253 tw237113508021361666 tw7190933993771931781 tw8554430763754475703 tw9014242006375879306 tw4116885404678545565 tw3084113819285123717 tw14099548771023443386 tw7240444781171049279 tw3381274553020680227 tw9406955212244156615 tw18271837179187251340 tw2467338964455851077 tw15753764452742292335 tw8926801906628921954 tw4959886354821241884 tw2330853352920371591 tw15548992675349393631 tw5436726798627546977 tw17826245354374253235 tw17267641150045579623 tw9295123024002731940 tw5475261575853680479 tw8961751934803272118 tw2666012765035143077 tw1512067096760125580 tw6613707976360557198 tw6831351699324835250 tw408513184254456181 tw5199957980999934433 tw7628806968551191504 tw13965618088872889631 tw2612913563209988563 tw18083114328721330752 tw5394939768179827680 tw4886296509013432136 tw17518655772783996101 tw16241574751768634919 tw12281738450024889391 tw10795534509225838490 tw12917598034331346521 tw1803107201426879651 tw2553873112978238823 tw1336396522758889943 tw14157722503060039456 tw16865618095063918180 tw13699640363650872685 tw8830634633493760232 tw12542482412055190631 tw3659246641992728968 tw17855820096698572117 tw3461512752581835329 tw8445274594179040676 tw10755442542639474386 tw16356125060165720438 tw5225562332687870694 tw2214913795257002137 tw6430969503487972548 tw12687917470731742658 tw8891875009398114205 tw73756376084014335 tw14655599699392895614 tw5867304452334425645 tw9671926536429406825 tw10783088559178660830 tw7502469810813583130 tw4281868196347797505 tw7938573122482698252 tw9248873741868314155 tw8361516738779609734 tw154344901245030057 tw11770344739973042473 tw13838702631844228034 tw13385674181693839083 tw2881698625043869743:True)
section
open PySem PySem.W PyProof.Rows
set_option maxRecDepth 100000 in
set_option maxHeartbeats 0 in
theorem PySem.Challenge.cw_harvestgame_s01_answers_holds : PySem.Challenge.rw_harvestgame_s01_answers.Holds := by
  w_on; k_headS; (case hw => exact ⟨[.list [.int 1]], by decide +kernel, by decide +kernel⟩)
  k_fillS
  refine L2.GP (r := PySem.Challenge.rw_harvestgame_s01_answers) (k := 10) (CX := fun w => L2.CXr PySem.Challenge.rw_harvestgame_s01_answers.prog w) (ps := ["calls"]) (sp := fun w => HG.Ig (PySem.Challenge.cw_harvestgame_s01_answers_holds.heap_1 w.params)) (by decide +kernel) rfl rfl ⟨rfl, by decide, by decide⟩ (fun w h Y => PySem.W.kIn_of Y) ?F ?S (fun _ _ _ _ _ z => HG.Kl z)
  case F =>
    intro w mg fa h Y KX G hmg
    refine HG.all_mk ?R KX G hmg
    case R =>
      constructor
      · constructor <;> first | kernel_rfl | (show PySem.W.findIn _ _ _ = _; kernel_rfl) | (constructor <;> kernel_rfl)
      all_goals first | kernel_rfl | (constructor <;> kernel_rfl)
  case S =>
    intro w H xs a hO hwi hask hx
    cases hx with
    | cons h1 h2 =>
      cases h2
      cases h1 with
      | lst hs ha =>
        have e := L2.EI a.1 _ ha
        subst e
        obtain ⟨cs, hcs, hfew⟩ := HG.BE (ns := a.1) hask
        exact ⟨_, a.1, cs, rfl, hs, hcs, hfew, fun H' p hp => .lst (L2.SqL.of hp) (L2.EC _)⟩
end
