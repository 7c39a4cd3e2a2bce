import PyProof.Rows.All
import Wide.All
import OpenK.AllK
import Wide.FinOn
import PyProof.EqAt
import PyProof.EqKinds
import PyProof.TupleCall
import KE.BitLaws
import Open.SpecLaws
import KE.OsHead
import KE.OsGo
import KE.KSortTupG
import KE.KSortKey
import PyProof.Rows.CallKwBuiltin
import KE.KMinKey
import PyProof.Draws
import PyProof.ZipIter
import PyProof.Rows.InDataRows
import PyProof.EqLayable
import PySem.Challenge.RW_nighthands_s01_answers
set_option Elab.async false
set_option linter.all false
set_option maxRecDepth 100000
set_option maxHeartbeats 4000000
namespace L2
open PySem PySem.Spec PyProof.Rows
abbrev Key:=Sum Int Str
def fJ:Key->Value->Bool
 | .inl k,v=>Value.isInt k v
 | .inr x,v=>Value.isStrOf x v
def qD (w:World):Key->Int
 | .inl k=>hashInt k
 | .inr x=>hashStr w x
theorem cq:∀ {k:Key} {v:Value},fJ k v=true->(∃ i t,k=Sum.inl i/\v=Value.int i t)\/(∃ x t,k=Sum.inr x/\v=Value.str x t)
 | .inl i,v,h=>by
  obtain ⟨t,e⟩:=Value.isInt_shape (k:=i) (v:=v) h
  exact .inl ⟨i,t,rfl,e⟩
 | .inr x,v,h=>by
  obtain ⟨t,e⟩:=Value.isStrOf_shape (x:=x) (v:=v) h
  exact .inr ⟨x,t,rfl,e⟩
theorem uc (i:Int) (t:Tok):fJ (.inl i) (.int i t)=true:=by simp [fJ,Value.isInt]
theorem um (x:Str) (t:Tok):fJ (.inr x) (.str x t)=true:=by simp [fJ,Value.isStrOf]
theorem AS (a b:Int):decide ((Sum.inl a:Key)=Sum.inl b)=(a == b):=by
 by_cases e:a=b
 ·subst e;simp
 ·have h:¬ (Sum.inl a:Key)=Sum.inl b:=fun q=>e (Sum.inl.inj q)
  rw [decide_eq_false h]
  exact (beq_eq_false_iff_ne.mpr e).symm
theorem Ax (a b:Str):decide ((Sum.inr a:Key)=Sum.inr b)=decide (a=b):=by
 by_cases e:a=b
 ·subst e;simp
 ·have h:¬ (Sum.inr a:Key)=Sum.inr b:=fun q=>e (Sum.inr.inj q)
  rw [decide_eq_false h,decide_eq_false e]
theorem Al (a:Int) (b:Str):decide ((Sum.inl a:Key)=Sum.inr b)=false:=decide_eq_false (fun q=>nomatch q)
theorem zZ (a:Str) (b:Int):decide ((Sum.inr a:Key)=Sum.inl b)=false:=decide_eq_false (fun q=>nomatch q)
def cn (prog:Program) (w:World):PySem.KeyKind prog w Key where
 is:=fJ
 hash:=qD w
 inj:=fun v a b ha hb=>by
  rcases cq ha with ⟨i,t,rfl,rfl⟩ | ⟨x,t,rfl,rfl⟩
  ·rcases cq hb with ⟨j,u,rfl,e⟩ | ⟨y,u,rfl,e⟩
   ·injection e with e1 _;rw [e1]
   ·exact nomatch e
  ·rcases cq hb with ⟨j,u,rfl,e⟩ | ⟨y,u,rfl,e⟩
   ·exact nomatch e
   ·injection e with e1 _;rw [e1]
 byValue:=fun k v h=>by
  rcases cq h with ⟨i,t,rfl,rfl⟩ | ⟨x,t,rfl,rfl⟩ <;> rfl
 pyHash:=fun hv h=>by
  rcases cq hv with ⟨i,t,rfl,rfl⟩ | ⟨x,t,rfl,rfl⟩
  ·exact wpAny_pyHash_int h
  ·exact wpAny_pyHash_str h
 eqBool:=fun hu hv h=>by
  rcases cq hu with ⟨i,t,rfl,rfl⟩ | ⟨x,t,rfl,rfl⟩
  ·rcases cq hv with ⟨j,u,rfl,rfl⟩ | ⟨y,u,rfl,rfl⟩
   ·rw [AS] at h;exact wpAny_eqBool_int h
   ·rw [Al] at h;exact SeqAt.EqAt.int_str i t y u _ _ _ _ h
  ·rcases cq hv with ⟨j,u,rfl,rfl⟩ | ⟨y,u,rfl,rfl⟩
   ·rw [zZ] at h;exact SeqAt.EqAt.str_int x t j u _ _ _ _ h
   ·rw [Ax] at h;exact wpAny_eqBool_str h
 «strs»:=fun k x t v h=>by
  rcases cq h with ⟨i,u,rfl,e⟩ | ⟨y,u,rfl,e⟩
  ·exact nomatch e
  ·injection e with e1 _
   subst e1
   cases v <;> rfl
theorem qa (prog:Program) (w:World) (i:Int) (t:Tok):(cn prog w).is (.inl i) (.int i t)=true:=uc i t
theorem oY (prog:Program) (w:World) (x:Str) (t:Tok):(cn prog w).is (.inr x) (.str x t)=true:=um x t
end L2
namespace L2
open PySem PySem.Spec PyProof.Rows
inductive V where
 | non | bl (b:Bool) | int (i:Int) | str (x:Str) | byt (b:Array UInt8) | flt (b:UInt64) | ref (a:Addr) | ty (n:String)
 deriving DecidableEq
def aW:V->Value->Prop
 | .non,u=>u=Value.none
 | .bl b,u=>u=Value.bool b
 | .int i,u=>∃ t,u=Value.int i t
 | .str x,u=>∃ t,u=Value.str x t
 | .byt b,u=>∃ t,u=Value.bytes b t
 | .flt b,u=>∃ t,u=Value.float b t
 | .ref a,u=>u=Value.ref a
 | .ty n,u=>u=Value.type n
abbrev aI:List V->List Value->Prop:=Paired aW
theorem aI.length {xs:List V} {us:List Value} (r:aI xs us):xs.length=us.length:=Paired.length r
theorem aI.get:∀ {xs:List V} {us:List Value} {i:Nat} {x:V},aI xs us->xs[i]?=some x->∃ u,us[i]?=some u/\aW x u
 | _,_,_,_,.nil,e=>by simp at e
 | _,_,0,_,.cons r _,e=>by simp at e;subst e;exact ⟨_,rfl,r⟩
 | _,_,i+1,x,.cons _ t,e=>by
  obtain ⟨u,h1,h2⟩:=aI.get (i:=i) (x:=x) t (by simpa using e)
  exact ⟨u,by simpa using h1,h2⟩
theorem aI.set {x:V} {u:Value} (r:aW x u):∀ {xs:List V} {us:List Value} (i:Nat),aI xs us->aI (xs.set i x) (us.set i u)
 | _,_,_,.nil=> .nil
 | _,_,0,.cons _ t=> .cons r t
 | _,_,i+1,.cons q t=> .cons q (aI.set r i t)
theorem aI.append:∀ {xs ys:List V} {us ws:List Value},aI xs us->aI ys ws->aI (xs++ys) (us++ws)
 | _,_,_,_,.nil,s=>s
 | _,_,_,_,.cons r t,s=> .cons r (aI.append t s)
theorem aI.take:∀ {xs:List V} {us:List Value} (n:Nat),aI xs us->aI (xs.take n) (us.take n)
 | _,_,0,_=> .nil
 | _,_,_+1,.nil=> .nil
 | _,_,n+1,.cons r t=> .cons r (aI.take n t)
theorem aI.drop:∀ {xs:List V} {us:List Value} (n:Nat),aI xs us->aI (xs.drop n) (us.drop n)
 | _,_,0,r=>r
 | _,_,_+1,.nil=> .nil
 | _,_,n+1,.cons _ t=>aI.drop n t
def gt:Option V->Option Value->Prop
 | some v,some u=>aW v u
 | none,none=>True
 | _,_=>False
def KV {κ:Type}:List (κ×V)->List (κ×Value)->Prop:=Paired fun (p:κ×V) (q:κ×Value)=>p.1=q.1/\aW p.2 q.2
def kV:Key->V
 | .inl i=> .int i
 | .inr x=> .str x
inductive HO where
 | lst (xs:List V)
 | tup (xs:List V)
 | dK (kvs:List (Key×V)) | dT (kvs:List (List Key×V))
 | set (S:Int->Bool) (n:Nat)
 | ins (C dx:Addr) (fs:List (Str×V))
 | own (x:Addr)
 | xd (fs:List (Str×V))
 | met (f x:Addr)
 | rng (lo hi:Int)
 | frz (o:Obj) (u:HO)
 | tbl (ps:Array Value)
 | ext (φ:Heap->Prop)
abbrev Hp:=Addr->Option HO
def upd (H:Hp) (a:Addr) (o:HO):Hp:=fun b=>if b=a then some o else H b
theorem ab {H:Hp} {a:Addr} {o:HO}:upd H a o a=some o:=by unfold upd;rw [if_pos rfl]
theorem ah {H:Hp} {a b:Addr} {o:HO} (h:b≠a):upd H a o b=H b:=by unfold upd;rw [if_neg h]
theorem bS {H:Hp} {a b:Addr} {o u:HO} (h:H a=some o) (h':H b=some u) (d:o≠u):a≠b:=by
 intro e;subst e;rw [h] at h';exact d (Option.some.inj h')
theorem ai {H:Hp} {a b:Addr} {o:HO} (h:H a=some o) (h':H b=none):a≠b:=by
 intro e;subst e;rw [h] at h';cases h'
section
variable (P:Program) (w:World)
def cz (H:Hp) (h:Heap) (a:Addr):HO->Prop
 | .lst xs=>xs.length<=sizeLine/\∃ (its:List Value) (n:Nat),aI xs its/\h.get? a=some { cls:= .type "list",data:= .seq its.toArray n }
 | .tup xs=>xs.length<=sizeLine/\∃ its:List Value,aI xs its/\IsTup h a its.toArray
 | .dK kvs=>kvs.length<=sizeLine/\(a == sysModules)=false/\∃ vs,KV kvs vs/\h.DictOf (cn P w) a vs
 | .dT kvs=>kvs.length<=sizeLine/\(a == sysModules)=false/\∃ xs:List (List Key×Addr×Value),
   Paired (fun (p:List Key×V) (q:List Key×Addr×Value)=>p.1=q.1/\H q.2.1=some (.tup (p.1.map kV))/\aW p.2 q.2.2) kvs xs/\
   ∃ o es ep,h.get? a=some o/\o.ExactDict/\o.data = .dict es ep/\es.toList=xs.map (entryOfKey (tupleKind (cn P w)))/\(xs.map (·.1)).Nodup
 | .set S n=>h.SetOf (intKind P w) a S n
 | .ins C dx fs=>H dx=some (.own a)/\fs.length<=1000/\dx≠a/\h.get? a=some (PySem.W.instObj C dx)/\
   ∃ mA,h.Ns1 dx mA/\(∀ f,gt (fs.lookup f) (mA f))/\PySem.Within mA (fs.map (·.1))
 | .own _=>∃ o,h.get? a=some o
 | .xd fs=>∃ mA,h.Ns1 a mA/\∀ f,gt (fs.lookup f) (mA f)
 | .rng lo hi=>∃ t u v,h.get? a=some { cls:= .type "range",data:= .fields #[.int lo t,.int hi u,.int 1 v] }
 | .frz o u=>h.get? a=some o/\cz H h a u
 | .tbl ps=>h.get? a=some { cls:= .none,data:= .fields ps }
 | .met f x=>h.get? a=some (PySem.W.methodObj (.ref f) (.ref x))
 | .ext φ=>φ h/\(∃ o,h.get? a=some o)/\∀ h1 h2:Heap,φ h1->(∀ o,h1.get? a=some o->h2.get? a=some o)->φ h2
def HOk (H:Hp) (h:Heap):Prop:=∀ a o,H a=some o->cz P w H h a o
end
section
variable {P:Program} {w:World} {H H':Hp} {h h':Heap} {a:Addr} {o:HO}
theorem cz.lt (x:cz P w H h a o):a < h.objs.size:=by
 cases o with
 | lst xs=>obtain ⟨_,_,_,_,e⟩:=x;exact Heap.lt_size e
 | tup xs=>obtain ⟨_,_,_,p⟩:=x;exact p.lt
 | dK kvs=>obtain ⟨_,_,_,_,o,_,_,e,_⟩:=x;exact Heap.lt_size e
 | dT kvs=>obtain ⟨_,_,_,_,o,_,_,e,_⟩:=x;exact Heap.lt_size e
 | set S n=>obtain ⟨o,_,_,_,e,_⟩:=x;exact Heap.lt_size e
 | ins C dx fs=>obtain ⟨_,_,_,e,_⟩:=x;exact Heap.lt_size e
 | own y=>obtain ⟨_,e⟩:=x;exact Heap.lt_size e
 | xd fs=>obtain ⟨_,⟨_,_,_,e,_⟩,_⟩:=x;exact Heap.lt_size e
 | rng lo hi=>obtain ⟨_,_,_,e⟩:=x;exact Heap.lt_size e
 | frz ob u=>obtain ⟨e,_⟩:=x;exact Heap.lt_size e
 | tbl ps=>exact Heap.lt_size (show h.get? a=some _ from x)
 | met f y=>exact Heap.lt_size (show h.get? a=some _ from x)
 | ext φ=>obtain ⟨_,⟨_,e⟩,_⟩:=x;exact Heap.lt_size e
theorem Paired.mapP {α β:Type} {F G:α->β->Prop}:∀ {l₁:List α} {l₂:List β},Paired F l₁ l₂->(∀ a b,F a b->G a b)->Paired G l₁ l₂
 | _,_,.nil,_=> .nil
 | _,_,.cons r t,f=> .cons (f _ _ r) (Paired.mapP t f)
theorem cz.stay (x:cz P w H h a o) (k:∀ b u,(b=a\/H b=some (.own a))->h.get? b=some u->h'.get? b=some u)
  (ho:∀ b,H b=some (.own a)->H' b=some (.own a)) (ht:∀ b xs,H b=some (.tup xs)->H' b=some (.tup xs)):cz P w H' h' a o:=by
 induction o with
 | lst xs=>obtain ⟨z,its,n,r,e⟩:=x;exact ⟨z,its,n,r,k _ _ (.inl rfl) e⟩
 | tup xs=>obtain ⟨z,its,r,ob,e,c⟩:=x;exact ⟨z,its,r,ob,k _ _ (.inl rfl) e,c⟩
 | dK kvs=>obtain ⟨z,y,vs,r,ob,es,ep,e,c⟩:=x;exact ⟨z,y,vs,r,ob,es,ep,k _ _ (.inl rfl) e,c⟩
 | dT kvs=>
  obtain ⟨z,y,xs,r,ob,es,ep,e,c⟩:=x
  exact ⟨z,y,xs,Paired.mapP r fun p q z=>⟨z.1,ht _ _ z.2.1,z.2.2⟩,ob,es,ep,k _ _ (.inl rfl) e,c⟩
 | set S n=>obtain ⟨ob,es,ep,t,e,c⟩:=x;exact ⟨ob,es,ep,t,k _ _ (.inl rfl) e,c⟩
 | ins C dx fs=>
  obtain ⟨d,z,ne,e,mA,⟨od,es,ep,e2,c⟩,r⟩:=x
  exact ⟨ho _ d,z,ne,k _ _ (.inl rfl) e,mA,⟨od,es,ep,k _ _ (.inr d) e2,c⟩,r⟩
 | own y=>obtain ⟨ob,e⟩:=x;exact ⟨ob,k _ _ (.inl rfl) e⟩
 | xd fs=>obtain ⟨mA,⟨od,es,ep,e,c⟩,r⟩:=x;exact ⟨mA,⟨od,es,ep,k _ _ (.inl rfl) e,c⟩,r⟩
 | rng lo hi=>obtain ⟨t,u,v,e⟩:=x;exact ⟨t,u,v,k _ _ (.inl rfl) e⟩
 | frz ob u ih=>obtain ⟨e,q⟩:=x;exact ⟨k _ _ (.inl rfl) e,ih q⟩
 | tbl ps=>
  have e:h.get? a=some { cls:= .none,data:= .fields ps }:=x
  show h'.get? a=some { cls:= .none,data:= .fields ps }
  exact k a _ (.inl rfl) e
 | met f y=>
  have e:h.get? a=some (PySem.W.methodObj (.ref f) (.ref y)):=x
  show h'.get? a=some (PySem.W.methodObj (.ref f) (.ref y))
  exact k a _ (.inl rfl) e
 | ext φ=>obtain ⟨p,⟨o,e⟩,st⟩:=x;exact ⟨st _ _ p fun o q=>k _ _ (.inl rfl) q,⟨o,k _ _ (.inl rfl) e⟩,st⟩
theorem HOk.lt (x:HOk P w H h) (e:H a=some o):a < h.objs.size:=(x a o e).lt
theorem HOk.fresh (x:HOk P w H h) (e:h.objs.size<=a):H a=none:=by
 cases q:H a with
 | none=>rfl
 | some u=>exact absurd (Nat.lt_of_lt_of_le (x.lt q) e) (Nat.lt_irrefl _)
theorem HOk.kept (x:HOk P w H h) (k:∀ b u,h.get? b=some u->h'.get? b=some u):HOk P w H h':=fun a o e=>
 (x a o e).stay (fun b u _ q=>k b u q) (fun _ q=>q) fun _ _ q=>q
theorem HOk.laid (x:HOk P w H h) (k:∀ b u,h.get? b=some u->h'.get? b=some u) (hp:h.objs.size<=a) (new:cz P w (upd H a o) h' a o):HOk P w (upd H a o) h':=fun b u e=>by
 have hn:=x.fresh hp
 by_cases hb:b=a
 ·subst hb;rw [ab] at e;cases e;exact new
 ·rw [ah hb] at e
  exact (x b u e).stay (fun c v _ q=>k c v q) (fun c q=>by rw [ah (ai q hn)];exact q) fun c xs q=>by rw [ah (ai q hn)];exact q
end
def Rd (H:Hp) (a:Addr) (u:HO):Prop:=H a=some u\/∃ o,H a=some (.frz o u)
theorem Rd.ok {P:Program} {w:World} {H:Hp} {h:Heap} {a:Addr} {u:HO} (r:Rd H a u) (x:HOk P w H h):cz P w H h a u:=by
 rcases r with r | ⟨o,r⟩
 ·exact x a u r
 ·obtain ⟨_,q⟩:=x a _ r
  exact q
def Mut:Option HO->Prop
 | some (.lst _)=>True
 | some (.dK _)=>True
 | some (.dT _)=>True
 | some (.set _ _)=>True
 | some (.ins _ _ _)=>True
 | some (.ext _)=>True
 | _=>False
section
variable {P:Program} {w:World} {H:Hp} {h h':Heap} {x e:Addr} {o':HO}
theorem HOk.write (ok:HOk P w H h) (mu:Mut (H x)) (he:e=x\/H e=some (.own x)) (k:∀ b u,b≠e->h.get? b=some u->h'.get? b=some u) (heo:∃ u,h'.get? e=some u)
  (new:cz P w (upd H x o') h' x o'):HOk P w (upd H x o') h':=fun b u q=>by
 have nown:∀ c y,H c=some (.own y)->c≠x:=fun c y r z=>by subst z;rw [r] at mu;exact mu
 have ntup:∀ c xs,H c=some (.tup xs)->c≠x:=fun c xs r z=>by subst z;rw [r] at mu;exact mu
 by_cases hb:b=x
 ·subst hb;rw [ab] at q;cases q;exact new
 ·rw [ah hb] at q
  by_cases hbe:b=e
  ·have q':H b=some (.own x):=by
    rcases he with z | z
    ·exact absurd (hbe.trans z) hb
    ·rw [hbe];exact z
   rw [q] at q';cases q'
   obtain ⟨v,hv⟩:=heo
   exact ⟨v,by rw [hbe];exact hv⟩
  ·refine (ok b u q).stay (fun c v hc r=>k c v ?_ r) (fun c r=>by rw [ah (nown c b r)];exact r) fun c xs r=>by rw [ah (ntup c xs r)];exact r
   rcases hc with rfl | hc
   ·exact hbe
   ·rintro rfl
    rcases he with z | z
    ·exact nown c b hc z
    ·rw [hc] at z;cases z;exact hb rfl
end
structure Un (fs ex:List Addr) (H H':Hp) (h h':Heap):Prop where
 keep:∀ b o,h.get? b=some o->H b=none->b∉fs->b∉ex->h'.get? b=some o
 slot:∀ b o,h.get? b=some o->H b=none->b∈fs->b∉ex->∃ sl,h'.get? b=some { o with slots:=sl }
 free:∀ b o,h.get? b=some o->H b=none->b∉ex->H' b=none
 there:∀ b o,h.get? b=some o->b∉ex->∃ o',h'.get? b=some o'
 tups:∀ b xs,H b=some (.tup xs)->H' b=some (.tup xs)
 frzs:∀ b o u,H b=some (.frz o u)->H' b=some (.frz o u)
 tbls:∀ b ps,H b=some (.tbl ps)->∃ more,H' b=some (.tbl (ps++more))
section
variable {fs fs' ex ex':List Addr} {H H1 H2:Hp} {h h1 h2 h':Heap} {a x e:Addr} {o:HO}
theorem Un.any (u:Un fs ex H H1 h h1) {b:Addr} {ob:Obj} (q:h.get? b=some ob) (n:H b=none) (hx:b∉ex):∃ sl,h1.get? b=some { ob with slots:=sl }:=by
 by_cases hb:b∈fs
 ·exact u.slot b ob q n hb hx
 ·exact ⟨ob.slots,u.keep b ob q n hb hx⟩
theorem Un.kept (k:∀ b u,h.get? b=some u->h'.get? b=some u):Un fs ex H H h h':=
 ⟨fun b ob q _ _ _=>k b ob q,fun b ob q _ _ _=>⟨ob.slots,k b ob q⟩,fun _ _ _ n _=>n,fun b ob q _=>⟨ob,k b ob q⟩,fun _ _ q=>q,fun _ _ _ q=>q,fun _ ps q=>⟨#[],by rw [q];simp⟩⟩
theorem Un.refl:Un fs ex H H h h:=Un.kept fun _ _ q=>q
theorem Un.laid (k:∀ b u,h.get? b=some u->h'.get? b=some u) (hp:h.objs.size<=a) (hn:H a=none):Un fs ex H (upd H a o) h h' where
 keep:=fun b u q _ _ _=>k b u q
 slot:=fun b u q _ _ _=>⟨u.slots,k b u q⟩
 free:=fun b u q n _=>by rw [ah (Nat.ne_of_lt (Nat.lt_of_lt_of_le (Heap.lt_size q) hp))];exact n
 there:=fun b u q _=>⟨u,k b u q⟩
 tups:=fun b xs q=>by rw [ah (ai q hn)];exact q
 frzs:=fun b u xs q=>by rw [ah (ai q hn)];exact q
 tbls:=fun b ps q=>⟨#[],by rw [ah (ai q hn),q];simp⟩
theorem Un.write (mu:Mut (H x)) (he:e=x\/H e=some (.own x)) (k:∀ b u,b≠e->h.get? b=some u->h'.get? b=some u) (heo:∃ u,h'.get? e=some u):Un fs ex H (upd H x o) h h':=by
 have hx:∀ b,H b=none->b≠x:=fun b n z=>by subst z;rw [n] at mu;exact mu
 have hb:∀ b,H b=none->b≠e:=fun b n z=>by
  subst z
  rcases he with r | r
  ·exact hx b n r
  ·rw [n] at r;cases r
 have hm:∀ b u,H b=some u->¬ Mut (some u)->b≠x:=fun b u q nm z=>by subst z;rw [q] at mu;exact nm mu
 refine ⟨fun b u q n _ _=>k b u (hb b n) q,fun b u q n _ _=>⟨u.slots,k b u (hb b n) q⟩,fun b u q n _=>by rw [ah (hx b n)];exact n,fun b u q _=>?_,
  fun b xs q=>by rw [ah (hm b _ q fun z=>z)];exact q,fun b u xs q=>by rw [ah (hm b _ q fun z=>z)];exact q,fun b ps q=>⟨#[],by rw [ah (hm b _ q fun z=>z),q];simp⟩⟩
 by_cases hbe:b=e
 ·subst hbe;exact heo
 ·exact ⟨u,k b u hbe q⟩
end
def trk (h:Heap) (H:Hp):List Addr:=(List.range h.objs.size).filter fun a=>(H a).isSome
def ow (h:Heap) (H:Hp):Heap:=PySem.W.hideAll h (trk h H)
theorem tW (h:Heap) (H:Hp):(ow h H).objs.size=h.objs.size:=PySem.W.hideAll_size _ _
theorem u1 {h:Heap} {H:Hp} {b:Addr} {o:Obj} (e:h.get? b=some o) (n:H b=none):(ow h H).get? b=some o:=
 PySem.W.hideAll_get _ e fun hm=>by
  have q:(H b).isSome=true:=(List.mem_filter.mp hm).2
  rw [n] at q;simp at q
theorem ya {h:Heap} {H:Hp} {b:Addr} {o:Obj} (e:(ow h H).get? b=some o):h.get? b=some o/\H b=none:=by
 have e':h.get? b=some o:=PySem.W.of_hideAll (trk h H) e
 refine ⟨e',?_⟩
 cases q:H b with
 | none=>rfl
 | some x=>
  have hm:b∈trk h H:=List.mem_filter.mpr ⟨List.mem_range.mpr (Heap.lt_size e'),by simp [q]⟩
  have z:(ow h H).get? b=none:=PySem.W.hideAll_none (trk h H) hm
  rw [z] at e;cases e
end L2
namespace L2
open PySem PySem.Spec PyProof.Rows
structure Mod (K:PySem.W.Frag) (mg:Str->Option Value) (base:Heap):Prop where
 kin:K.In base
 glob:base.Ns mainGlobals mg
 blt:∃ mb,base.Ns builtinsNs mb/\∀ x:Str,x≠ "__name__"->mb x=bootBuiltins x
 nolimit:base.NoLimit
structure Cx where
 prog:Program
 w:World
 K:PySem.W.Frag
 mg:Str->Option Value
 base:Heap
 A:Around
 N:List Str
 s_0:Shared
 H_0:Hp
 env:Env
 outer:List Env
 stack:List Env
 ex:List Addr
 fn:Str->Bool
 calm:Bool
 pn:List (Addr×Obj)
 xe:Value->Shared->Prop
def frs (l:List Env):List Addr:=l.filterMap (·.frame)
abbrev Cx.fs (X:Cx):List Addr:=frs X.outer
def Vis (sc:Scope) (x:Str):Prop:=sc.names.lookup x=some .local\/sc.names.lookup x=some .cell\/sc.names.lookup x=some .free
def Loc (sc:Scope) (x:Str):Prop:=sc.names.lookup x=some .local\/sc.names.lookup x=some .cell
def DP (env:Env) (h:Heap) (m:Str->Option Value) (x:Str) (u:Value):Prop:=
 (env.kindOf x=some .local/\m x=some u)\/((env.kindOf x=some .cell\/env.kindOf x=some .free)/\∃ c,env.cells.lookup x=some c/\h.IsCell c (some u))
structure Cx.Ok (X:Cx):Prop where
 mod:Mod X.K X.mg X.base
 kind:X.env.scope.kind = .function
 glob:X.env.globals=mainGlobals
 blt:X.env.builtins=builtinsNs
 above:X.s_0.heap.objs.size<=X.env.locals
 inj:∀ x y c,X.env.cells.lookup x=some c->X.env.cells.lookup y=some c->x=y
 has:∀ x,(X.env.kindOf x=some .cell\/X.env.kindOf x=some .free)->∃ c,X.env.cells.lookup x=some c
 cab:∀ x c,X.fn x=true->X.env.cells.lookup x=some c->X.s_0.heap.objs.size<=c
 hd:X.calm=true->X.A.handled=none
 frames:X.A.frames=some X.stack
 stk:X.stack=X.outer\/(X.stack=X.env::X.outer/\X.env.frame=some X.env.locals)
 exf:∀ b∈X.ex,b≠X.env.locals/\∀ x c,X.env.cells.lookup x=some c->c≠b
 bs:∀ b o,X.base.get? b=some o->X.s_0.heap.get? b=some o/\X.H_0 b=none
 bsz:X.base.objs.size<=X.s_0.heap.objs.size
 noex:∀ b o,X.base.get? b=some o->b∉X.ex
 exfs:∀ b∈X.ex,b∉X.fs
 funs:X.s_0.heap.FunFrames X.base X.outer
 frf:∀ b∈X.fs,X.H_0 b=none
structure Inv (X:Cx) (pins:List (Addr×Obj)) (σ:List (Option V)) (H:Hp) (s:Shared):Prop where
 ok:X.Ok
 os:s.os=X.s_0.os
 bare:AllBare s.gens
 base:Un X.fs X.ex X.H_0 H X.s_0.heap s.heap
 loc:∃ m,s.heap.Ns X.env.locals m/\∀ (i:Nat) (x:Str) (v:V),X.N[i]?=some x->σ[i]?=some (some v)->Vis X.env.scope x->∃ u,aW v u/\DP X.env s.heap m x u
 cell:∀ x c,X.env.cells.lookup x=some c->∃ v,s.heap.IsCell c v
 free:H X.env.locals=none
 freeC:∀ x c,X.env.cells.lookup x=some c->H c=none
 pin:∀ p∈X.pn++pins,s.heap.get? p.1=some p.2/\H p.1=none/\p.1≠X.env.locals/\p.1∉X.fs/\∀ v,p.2.data≠ .cell v
 hok:HOk X.prog X.w H s.heap
 len:σ.length=X.N.length
section
variable {X:Cx} {pins:List (Addr×Obj)} {σ:List (Option V)} {H H':Hp} {s:Shared} {h':Heap}
theorem Cx.Ok.nofr (ok:X.Ok) {b:Addr} {o:Obj} (e:X.base.get? b=some o):b∉X.fs:=fun hb=>by
 have:=(ok.funs.mem hb).1
 rw [e] at this;cases this
theorem Inv.bs (I:Inv X pins σ H s):∀ b o,X.base.get? b=some o->s.heap.get? b=some o/\H b=none:=fun b o e=>
 ⟨I.base.keep b o (I.ok.bs b o e).1 (I.ok.bs b o e).2 (I.ok.nofr e) (I.ok.noex b o e),I.base.free b o (I.ok.bs b o e).1 (I.ok.bs b o e).2 (I.ok.noex b o e)⟩
theorem Inv.bk (I:Inv X pins σ H s):∀ b o,X.base.get? b=some o->s.heap.get? b=some o:=fun b o e=>(I.bs b o e).1
theorem Inv.mod (I:Inv X pins σ H s):Mod X.K X.mg X.base:=I.ok.mod
theorem Inv.kIn (I:Inv X pins σ H s):X.K.In s.heap:=I.ok.mod.kin.keeps I.bk
theorem Inv.fr (I:Inv X pins σ H s):∃ m,Fr X.base X.env.locals s.heap m:=
 let ⟨m,hn,_⟩:=I.loc
 ⟨m,hn,I.bk,Nat.le_trans I.ok.bsz I.ok.above⟩
theorem Inv.lt (I:Inv X pins σ H s):X.env.locals < s.heap.objs.size:=let ⟨_,hn,_⟩:=I.loc;hn.lt
theorem Inv.sz (I:Inv X pins σ H s):X.s_0.heap.objs.size<=s.heap.objs.size:=Nat.le_trans I.ok.above (Nat.le_of_lt I.lt)
theorem Inv.nofs (I:Inv X pins σ H s) {a:Addr} (h:s.heap.objs.size<=a):a∉X.fs:=fun hb=>by
 obtain ⟨_,o,ho,_⟩:=I.ok.funs.mem hb
 exact absurd (Nat.lt_of_lt_of_le (Heap.lt_size ho) (Nat.le_trans I.sz h)) (Nat.lt_irrefl _)
theorem Inv.cne (I:Inv X pins σ H s):∀ x c,X.env.cells.lookup x=some c->c≠X.env.locals:=fun x c e z=>by
 obtain ⟨v,o,ho,hd⟩:=I.cell x c e
 obtain ⟨m,⟨o',es,ep,ho',hd',_⟩,_⟩:=I.loc
 rw [z,ho'] at ho;cases ho;rw [hd'] at hd;cases hd
theorem Inv.funs (I:Inv X pins σ H s):s.heap.FunFrames X.base X.outer:=by
 have all:∀ (l:List Env),(∀ b∈frs l,b∈X.fs)->X.s_0.heap.FunFrames X.base l->s.heap.FunFrames X.base l:=by
  intro l
  induction l with
  | nil=>intro _ _;trivial
  | cons env r ih=>
   intro hs hl
   obtain ⟨hk,⟨L,o,hf,hn,ho,hd⟩,hr⟩:=hl
   have hL:L∈X.fs:=hs L (by unfold frs;rw [List.filterMap_cons,hf];exact List.mem_cons_self)
   obtain ⟨sl,e⟩:=I.base.slot L o ho (I.ok.frf L hL) hL fun z=>I.ok.exfs L z hL
   exact ⟨hk,⟨L,_,hf,hn,e,hd⟩,ih (fun b hb=>hs b (by unfold frs;rw [List.filterMap_cons,hf];exact List.mem_cons_of_mem _ hb)) hr⟩
 exact all X.outer (fun _ hb=>hb) I.ok.funs
theorem Inv.stack (I:Inv X pins σ H s):s.heap.FunFrames X.base X.stack:=by
 rcases I.ok.stk with e | ⟨e,hf⟩
 ·rw [e];exact I.funs
 ·rw [e]
  obtain ⟨m,hn,_⟩:=I.loc
  refine .cons (by rw [I.ok.kind];decide) hf hn ?_ I.funs
  exact Heap.get?_none_of_le (Nat.le_trans I.ok.bsz I.ok.above)
theorem Inv.stkSub (I:Inv X pins σ H s):∀ b∈frs X.stack,b∈X.env.locals::X.fs:=fun b hb=>by
 rcases I.ok.stk with e | ⟨e,hf⟩
 ·rw [e] at hb;exact List.mem_cons_of_mem _ hb
 ·rw [e] at hb
  unfold frs at hb
  rw [List.filterMap_cons,hf] at hb
  exact hb
theorem Inv.stkFree (I:Inv X pins σ H s):∀ b∈frs X.stack,H b=none:=fun b hb=>by
 rcases List.mem_cons.mp (I.stkSub b hb) with e | hb
 ·rw [e];exact I.free
 ·obtain ⟨_,o,ho,_⟩:=I.ok.funs.mem hb
  exact I.base.free b o ho (I.ok.frf b hb) fun z=>I.ok.exfs b z hb
theorem Inv.step {g':Array GenState} {t':Nat} {d':Drawn} {ch:List Addr} (I:Inv X pins σ H s)
  (hch:∀ b∈ch,(b∈X.ex\/X.s_0.heap.objs.size<=b)/\b≠X.env.locals/\(∀ x c,X.env.cells.lookup x=some c->c≠b)/\∀ p∈X.pn++pins,p.1≠b)
  (keep:∀ b o,b≠X.env.locals->b∉X.fs->b∉ch->s.heap.get? b=some o->H b=none->h'.get? b=some o)
  (slot:∀ b o,b≠X.env.locals->b∈X.fs->b∉ch->s.heap.get? b=some o->H b=none->∃ sl,h'.get? b=some { o with slots:=sl }) (free:∀ b o,b∉ch->s.heap.get? b=some o->H b=none->H' b=none)
  (there:∀ b o,b∉ch->s.heap.get? b=some o->∃ o',h'.get? b=some o')
  (tups:∀ b xs,H b=some (.tup xs)->H' b=some (.tup xs)) (frzs:∀ b o u,H b=some (.frz o u)->H' b=some (.frz o u)) (tbls:∀ b ps,H b=some (.tbl ps)->∃ more,H' b=some (.tbl (ps++more)))
  (ns:∀ m,s.heap.Ns X.env.locals m->h'.Ns X.env.locals m) (hok:HOk X.prog X.w H' h') (hg:AllBare g') :
  Inv X pins σ H' { s with heap:=h',gens:=g',drawn:=d',toks:=t' }:=by
 have neL:∀ b o,X.s_0.heap.get? b=some o->b≠X.env.locals:=fun b o e=>Nat.ne_of_lt (Nat.lt_of_lt_of_le (Heap.lt_size e) I.ok.above)
 have neC:∀ b o,X.s_0.heap.get? b=some o->b∉X.ex->b∉ch:=fun b o e hx hb=>by
  rcases (hch b hb).1 with z | z
  ·exact hx z
  ·exact absurd (Nat.lt_of_lt_of_le (Heap.lt_size e) z) (Nat.lt_irrefl _)
 have cellK:∀ x c,X.env.cells.lookup x=some c->∀ v,s.heap.IsCell c v->h'.IsCell c v:=fun x c e v ⟨o,ho,hd⟩=>by
  have nch:c∉ch:=fun z=>(hch c z).2.2.1 x c e rfl
  by_cases hc:c∈X.fs
  ·obtain ⟨sl,q⟩:=slot c o (I.cne x c e) hc nch ho (I.freeC x c e)
   exact ⟨_,q,hd⟩
  ·exact ⟨o,keep c o (I.cne x c e) hc nch ho (I.freeC x c e),hd⟩
 refine ⟨I.ok,I.os,hg,⟨fun b o e n hb hx=>?_,fun b o e n hb hx=>?_,fun b o e n hx=>?_,fun b o e hx=>?_,fun b xs e=>tups b xs (I.base.tups b xs e),fun b o xs e=>frzs b o xs (I.base.frzs b o xs e),fun b ps e=>?_⟩,?_,fun x c e=>?_,?_,fun x c e=>?_,fun p hp=>?_,hok,I.len⟩
 ·exact keep b o (neL b o e) hb (neC b o e hx) (I.base.keep b o e n hb hx) (I.base.free b o e n hx)
 ·obtain ⟨sl,e1⟩:=I.base.slot b o e n hb hx
  obtain ⟨sl',e2⟩:=slot b _ (neL b o e) hb (neC b o e hx) e1 (I.base.free b o e n hx)
  exact ⟨sl',e2⟩
 ·obtain ⟨o',e1⟩:=I.base.there b o e hx
  exact free b o' (neC b o e hx) e1 (I.base.free b o e n hx)
 ·obtain ⟨o',e1⟩:=I.base.there b o e hx
  exact there b o' (neC b o e hx) e1
 ·obtain ⟨m1,e1⟩:=I.base.tbls b ps e
  obtain ⟨m2,e2⟩:=tbls b _ e1
  exact ⟨m1++m2,by rw [e2,Array.append_assoc]⟩
 ·obtain ⟨m,hn,hl⟩:=I.loc
  refine ⟨m,ns m hn,fun i x v e1 e2 e3=>?_⟩
  obtain ⟨u,r,l⟩:=hl i x v e1 e2 e3
  refine ⟨u,r,?_⟩
  rcases l with l | ⟨k,c,e,z⟩
  ·exact .inl l
  ·exact .inr ⟨k,c,e,cellK x c e _ z⟩
 ·obtain ⟨v,z⟩:=I.cell x c e
  exact ⟨v,cellK x c e v z⟩
 ·obtain ⟨m,⟨o,_,_,ho,_⟩,_⟩:=I.loc
  exact free _ o (fun z=>(hch _ z).2.1 rfl) ho I.free
 ·obtain ⟨v,o,ho,hd⟩:=I.cell x c e
  exact free c o (fun z=>(hch c z).2.2.1 x c e rfl) ho (I.freeC x c e)
 ·obtain ⟨e,n,ne,nf,d⟩:=I.pin p hp
  have nch:p.1∉ch:=fun z=>(hch p.1 z).2.2.2 p hp rfl
  exact ⟨keep p.1 p.2 ne nf nch e n,free p.1 p.2 nch e n,ne,nf,d⟩
theorem Inv.un {t':Nat} (I:Inv X pins σ H s) (u:Un X.fs [] H H' s.heap h') (hok:HOk X.prog X.w H' h'):Inv X pins σ H' { s with heap:=h',toks:=t' }:=by
 obtain ⟨m,⟨o,es,ep,ho,r⟩,_⟩:=id I.loc
 obtain ⟨sl,hL⟩:=u.any ho I.free (by simp)
 exact I.step (g':=s.gens) (d':=s.drawn) (ch:=[]) (fun _ z=>nomatch z) (fun b o _ hb _ e n=>u.keep b o e n hb (by simp)) (fun b o _ hb _ e n=>u.slot b o e n hb (by simp)) (fun b o _ e n=>u.free b o e n (by simp)) (fun b o _ e=>u.there b o e (by simp)) u.tups u.frzs u.tbls (fun m' hm=>by
  obtain ⟨o',es',ep',ho',r'⟩:=hm
  rw [ho] at ho';cases ho'
  exact ⟨_,es',ep',hL,r'⟩) hok I.bare
theorem Inv.call {g':Array GenState} {t':Nat} {d':Drawn} {ch:List Addr} (I:Inv X pins σ H s) (u:Un (frs X.stack) ch H H' s.heap h') (hok:HOk X.prog X.w H' h') (hg:AllBare g')
  (hch:∀ b∈ch,(b∈X.ex\/X.s_0.heap.objs.size<=b)/\b≠X.env.locals/\(∀ x c,X.env.cells.lookup x=some c->c≠b)/\∀ p∈X.pn++pins,p.1≠b) :
  Inv X pins σ H' { s with heap:=h',gens:=g',drawn:=d',toks:=t' }:=by
 obtain ⟨m,⟨o,es,ep,ho,r⟩,_⟩:=id I.loc
 obtain ⟨sl,hL⟩:=u.any ho I.free fun z=>(hch _ z).2.1 rfl
 exact I.step (ch:=ch) hch (fun b o hL hb hc e n=>u.keep b o e n (fun z=>(List.mem_cons.mp (I.stkSub b z)).elim hL hb) hc) (fun b o _ _ hc e n=>u.any e n hc) (fun b o hc e n=>u.free b o e n hc) (fun b o hc e=>u.there b o e hc) u.tups u.frzs u.tbls (fun m' hm=>by
  obtain ⟨o',es',ep',ho',r'⟩:=hm
  rw [ho] at ho';cases ho'
  exact ⟨_,es',ep',hL,r'⟩) hok hg
theorem Inv.turned {t':Nat} {it:Addr} (I:Inv X pins σ H s) (k:∀ b o,b≠it->s.heap.get? b=some o->h'.get? b=some o) (hn:H it=none) (hL:it≠X.env.locals)
  (h1:it∈X.ex\/X.s_0.heap.objs.size<=it) (h2:∀ x c,X.env.cells.lookup x=some c->c≠it) (h3:∀ p∈X.pn++pins,p.1≠it):Inv X pins σ H { s with heap:=h',toks:=t' }:=by
 have nit:∀ b u,H b=some u->b≠it:=fun b u e z=>by rw [z,hn] at e;cases e
 refine I.step (g':=s.gens) (d':=s.drawn) (ch:=[it]) (fun b hb=>?_) (fun b o _ _ hc e _=>k b o (fun z=>hc (by simp [z])) e) (fun b o _ _ hc e _=>⟨o.slots,k b o (fun z=>hc (by simp [z])) e⟩) (fun _ _ _ _ n=>n)
  (fun b o hc e=>⟨o,k b o (fun z=>hc (by simp [z])) e⟩) (fun _ _ e=>e) (fun _ _ _ e=>e) (fun b ps e=>⟨#[],by rw [e];simp⟩) (fun m hm=>?_) (fun b u e=>?_) I.bare
 ·have e:b=it:=by simpa using hb
  subst e
  exact ⟨h1,hL,h2,h3⟩
 ·obtain ⟨o,es,ep,ho,r⟩:=hm
  exact ⟨o,es,ep,k _ o (Ne.symm hL) ho,r⟩
 ·refine (I.hok b u e).stay (fun c v hc q=>k c v ?_ q) (fun _ q=>q) fun _ _ q=>q
  rcases hc with z | z
  ·rw [z];exact nit b u e
  ·exact nit c _ z
theorem Inv.tok (I:Inv X pins σ H s) (t:Nat):Inv X pins σ H { s with toks:=t }:=I.un (h':=s.heap) (t':=t) Un.refl I.hok
theorem Inv.kept {t':Nat} (I:Inv X pins σ H s) (k:∀ b u,s.heap.get? b=some u->h'.get? b=some u):Inv X pins σ H { s with heap:=h',toks:=t' }:=I.un (Un.kept k) (I.hok.kept k)
theorem Inv.laid {a:Addr} {o:HO} {t':Nat} (I:Inv X pins σ H s) (k:∀ b u,s.heap.get? b=some u->h'.get? b=some u) (hp:s.heap.objs.size<=a) (new:cz X.prog X.w (upd H a o) h' a o) :
  Inv X pins σ (upd H a o) { s with heap:=h',toks:=t' }:=I.un (Un.laid k hp (I.hok.fresh hp)) (I.hok.laid k hp new)
theorem Inv.write {x e:Addr} {o:HO} {t':Nat} (I:Inv X pins σ H s) (mu:Mut (H x)) (he:e=x\/H e=some (.own x)) (k:∀ b u,b≠e->s.heap.get? b=some u->h'.get? b=some u) (heo:∃ u,h'.get? e=some u)
  (new:cz X.prog X.w (upd H x o) h' x o):Inv X pins σ (upd H x o) { s with heap:=h',toks:=t' }:=I.un (Un.write mu he k heo) (I.hok.write mu he k heo new)
theorem Inv.weak {σ':List (Option V)} (I:Inv X pins σ H s) (hl:σ'.length=σ.length) (w:∀ (i:Nat) v,σ'[i]?=some (some v)->σ[i]?=some (some v)):Inv X pins σ' H s:=
 ⟨I.ok,I.os,I.bare,I.base,let ⟨m,hn,hl'⟩:=I.loc;⟨m,hn,fun i x v e1 e2 e3=>hl' i x v e1 (w i v e2) e3⟩,I.cell,I.free,I.freeC,I.pin,I.hok,hl.trans I.len⟩
theorem Inv.pins_of {pins':List (Addr×Obj)} (I:Inv X pins σ H s) (h:∀ p∈pins',s.heap.get? p.1=some p.2/\H p.1=none/\p.1≠X.env.locals/\p.1∉X.fs/\∀ v,p.2.data≠ .cell v):Inv X pins' σ H s:=
 ⟨I.ok,I.os,I.bare,I.base,I.loc,I.cell,I.free,I.freeC,fun p hp=>(List.mem_append.mp hp).elim (fun z=>I.pin p (List.mem_append_left _ z)) (h p),I.hok,I.len⟩
theorem lw {N:List Str} (hN:N.Nodup) {i j:Nat} {x:Str} (a:N[i]?=some x) (b:N[j]?=some x):i=j:=by
 obtain ⟨h1,e1⟩:=List.getElem?_eq_some_iff.mp a
 obtain ⟨h2,e2⟩:=List.getElem?_eq_some_iff.mp b
 exact (List.getElem_inj hN).mp (e1.trans e2.symm)
theorem mj {M:Model} {A:Around} {E:Value->Shared->Prop} {i:Nat} {x:Str} {v:V} {u:Value} {Q:Unit->Shared->Prop} (I:Inv X pins σ H s) (hN:X.N.Nodup) (hi:X.N[i]?=some x) (hx:Loc X.env.scope x) (r:aW v u)
  (h:∀ s',Inv X pins (σ.set i (some v)) H s'->(∃ a,Heap.SameBut a s.heap s'.heap/\(a=X.env.locals\/X.env.cells.lookup x=some a))->Q () s') (hf:X.fn x=true\/X.env.scope.names.lookup x=some .local:=by first | exact .inl rfl | exact .inr rfl | assumption):wpAny M A (storeName X.env x u) Q E s:=by
 obtain ⟨m,hn,hl⟩:=id I.loc
 have hcls:(X.env.scope.kind == .class || (X.env.scope.kind == .module && X.env.locals != X.env.globals))=false:=by rw [I.ok.kind];rfl
 have hiσ:i < σ.length:=by rw [I.len];exact (List.getElem?_eq_some_iff.mp hi).1
 have cne:=I.cne
 have tracked:∀ {a:Addr} {h':Heap},(∃ o,s.heap.get? a=some o/\H a=none)->Heap.SameBut a s.heap h'->HOk X.prog X.w H h':=fun {a h'} ha hs b ob e=>by
  obtain ⟨_,_,hfree⟩:=ha
  refine (I.hok b ob e).stay (fun c w' hc q=>(hs.2 c ?_).trans q) (fun _ q=>q) fun _ _ q=>q
  rintro rfl
  rcases hc with rfl | hc
  ·rw [hfree] at e;cases e
  ·rw [hfree] at hc;cases hc
 rcases hx with hk | hk
 ·refine wpAny_storeName_local hk hn (fun h' hn' hs=>?_) hcls
  obtain ⟨oL,_,_,hoL,_⟩:=id hn
  refine h _ ⟨I.ok,I.os,I.bare,⟨fun b o e n hb hx=>?_,fun b o e n hb hx=>?_,I.base.free,fun b o e hx=>?_,I.base.tups,I.base.frzs,I.base.tbls⟩,⟨_,hn',fun j y v' e1 e2 e3=>?_⟩,fun y c e=>?_,I.free,I.freeC,fun p hp=>?_,tracked ⟨oL,hoL,I.free⟩ hs,by simpa using I.len⟩ ⟨_,hs,.inl rfl⟩
  ·exact (hs.2 b (Nat.ne_of_lt (Nat.lt_of_lt_of_le (Heap.lt_size e) I.ok.above))).trans (I.base.keep b o e n hb hx)
  ·obtain ⟨sl,e1⟩:=I.base.slot b o e n hb hx
   exact ⟨sl,(hs.2 b (Nat.ne_of_lt (Nat.lt_of_lt_of_le (Heap.lt_size e) I.ok.above))).trans e1⟩
  ·obtain ⟨o',e1⟩:=I.base.there b o e hx
   exact ⟨o',(hs.2 b (Nat.ne_of_lt (Nat.lt_of_lt_of_le (Heap.lt_size e) I.ok.above))).trans e1⟩
  ·by_cases hj:j=i
   ·subst hj
    rw [hi] at e1;cases e1
    rw [List.getElem?_set_self hiσ] at e2
    cases e2
    exact ⟨u,r,.inl ⟨hk,by simp⟩⟩
   ·rw [List.getElem?_set_ne (Ne.symm hj)] at e2
    obtain ⟨u',r',q⟩:=hl j y v' e1 e2 e3
    refine ⟨u',r',?_⟩
    rcases q with ⟨k,e⟩ | ⟨k,c,e,z⟩
    ·refine .inl ⟨k,?_⟩
     have:y≠x:=fun e=>hj (lw hN e1 (e ▸ hi))
     simp [this,e]
    ·exact .inr ⟨k,c,e,z.sameBut hs (cne y c e)⟩
  ·obtain ⟨w',z⟩:=I.cell y c e
   exact ⟨w',z.sameBut hs (cne y c e)⟩
  ·obtain ⟨e,n,ne,nf,d⟩:=I.pin p hp
   exact ⟨(hs.2 p.1 ne).trans e,n,ne,nf,d⟩
 ·have hfn:X.fn x=true:=by
   rcases hf with z | z
   ·exact z
   ·rw [z] at hk;cases hk
  obtain ⟨c,hc⟩:=I.ok.has x (.inl hk)
  obtain ⟨w',z⟩:=I.cell x c hc
  refine wpAny_storeName_cell I.ok.kind hk hc z (fun h' hc' hs=>?_)
  obtain ⟨oc,hoc,hocd⟩:=id z
  refine h { s with heap:=h' } ⟨I.ok,I.os,I.bare,⟨fun b o e n hb hx=>?_,fun b o e n hb hx=>?_,I.base.free,fun b o e hx=>?_,I.base.tups,I.base.frzs,I.base.tbls⟩,⟨m,hn.sameBut hs (Ne.symm (cne x c hc)),fun j y v' e1 e2 e3=>?_⟩,fun y c' e=>?_,I.free,I.freeC,fun p hp=>?_,tracked ⟨oc,hoc,I.freeC x c hc⟩ hs,by simpa using I.len⟩ ⟨c,hs,.inr hc⟩
  ·exact (hs.2 b (Nat.ne_of_lt (Nat.lt_of_lt_of_le (Heap.lt_size e) (I.ok.cab x c hfn hc)))).trans (I.base.keep b o e n hb hx)
  ·obtain ⟨sl,e1⟩:=I.base.slot b o e n hb hx
   exact ⟨sl,(hs.2 b (Nat.ne_of_lt (Nat.lt_of_lt_of_le (Heap.lt_size e) (I.ok.cab x c hfn hc)))).trans e1⟩
  ·obtain ⟨o',e1⟩:=I.base.there b o e hx
   exact ⟨o',(hs.2 b (Nat.ne_of_lt (Nat.lt_of_lt_of_le (Heap.lt_size e) (I.ok.cab x c hfn hc)))).trans e1⟩
  ·by_cases hj:j=i
   ·subst hj
    rw [hi] at e1;cases e1
    rw [List.getElem?_set_self hiσ] at e2
    cases e2
    exact ⟨u,r,.inr ⟨.inl hk,c,hc,hc'⟩⟩
   ·rw [List.getElem?_set_ne (Ne.symm hj)] at e2
    obtain ⟨u',r',q⟩:=hl j y v' e1 e2 e3
    refine ⟨u',r',?_⟩
    rcases q with q | ⟨k,c',e,z'⟩
    ·exact .inl q
    ·refine .inr ⟨k,c',e,z'.sameBut hs ?_⟩
     rintro rfl
     exact hj (lw hN e1 (I.ok.inj _ _ _ e hc ▸ hi))
  ·by_cases hcc:c'=c
   ·subst hcc;exact ⟨_,hc'⟩
   ·obtain ⟨w2,z2⟩:=I.cell y c' e
    exact ⟨w2,z2.sameBut hs hcc⟩
  ·obtain ⟨e,n,ne,nf,d⟩:=I.pin p hp
   refine ⟨(hs.2 p.1 ?_).trans e,n,ne,nf,d⟩
   intro q
   rw [q,hoc] at e
   have q':oc=p.2:=Option.some.inj e
   exact d w' (by rw [<- q'];exact hocd)
theorem kI {M:Model} {A:Around} {E:Value->Shared->Prop} {i:Nat} {x:Str} {v:V} {u:Value} {Q:Unit->Shared->Prop} (I:Inv X pins σ H s) (hN:X.N.Nodup) (hi:X.N[i]?=some x) (hx:Loc X.env.scope x) (r:aW v u)
  (h:∀ s',Inv X pins (σ.set i (some v)) H s'->Q () s') (hf:X.fn x=true\/X.env.scope.names.lookup x=some .local:=by first | exact .inl rfl | exact .inr rfl | assumption):wpAny M A (storeName X.env x u) Q E s:=
 mj I hN hi hx r (fun s' I' _=>h s' I') hf
theorem Inv.call' {s':Shared} {ch:List Addr} (I:Inv X pins σ H s) (ho:s'.os=s.os) (u:Un (frs X.stack) ch H H' s.heap s'.heap) (hok:HOk X.prog X.w H' s'.heap) (hg:AllBare s'.gens)
  (hch:∀ b∈ch,(b∈X.ex\/X.s_0.heap.objs.size<=b)/\b≠X.env.locals/\(∀ x c,X.env.cells.lookup x=some c->c≠b)/\∀ p∈X.pn++pins,p.1≠b):Inv X pins σ H' s':=by
 obtain ⟨h',g',d',t',o'⟩:=s'
 have e:o'=s.os:=ho
 subst e
 exact I.call (g':=g') (t':=t') (d':=d') u hok hg hch
end
abbrev XK:=Value->Option Addr->Hp->Prop
abbrev St:=List (Option V)
abbrev VK:=V->Hp->Prop
abbrev TE:=St->Hp->VK->Prop
abbrev TT:=St->Hp->(Bool->Hp->Prop)->Prop
abbrev TA:=St->Hp->(List V->Hp->Prop)->Prop
structure lV where
 nx:St->Hp->Prop
 rt:VK
 bk:St->Hp->Prop:=fun _ _=>False
 ct:St->Hp->Prop:=fun _ _=>False
abbrev TS:=lV->St->Hp->Prop
def EP (X:Cx) (pins:List (Addr×Obj)) (σ:St) (Q:VK) (u:Value) (s':Shared):Prop:=∃ v H',Inv X pins σ H' s'/\aW v u/\Q v H'
def TP (X:Cx) (pins:List (Addr×Obj)) (σ:St) (Q:Bool->Hp->Prop) (b:Bool) (s':Shared):Prop:=∃ H',Inv X pins σ H' s'/\Q b H'
def AP (X:Cx) (pins:List (Addr×Obj)) (σ:St) (Q:List V->Hp->Prop) (us:List Value) (s':Shared):Prop:=∃ vs H',Inv X pins σ H' s'/\aI vs us/\Q vs H'
def SP (X:Cx) (pins:List (Addr×Obj)) (D:lV) (f:Flow) (s':Shared):Prop:=
 match f with
 | .next=>∃ σ' H',Inv X pins σ' H' s'/\D.nx σ' H'
 | .brk=>∃ σ' H',Inv X pins σ' H' s'/\D.bk σ' H'
 | .cont=>∃ σ' H',Inv X pins σ' H' s'/\D.ct σ' H'
 | .ret u=>∃ v σ' H',Inv X pins σ' H' s'/\aW v u/\D.rt v H'
def PE (X:Cx) (e:Expr) (t:TE):Prop:=
 ∀ (pins:List (Addr×Obj)) (s:Shared) (σ:St) (H:Hp) (Q:VK),Inv X pins σ H s->t σ H Q->wpAny (model X.prog X.w) X.A (eval e X.env) (EP X pins σ Q) X.xe s
def PT (X:Cx) (e:Expr) (t:TT):Prop:=
 ∀ (pins:List (Addr×Obj)) (s:Shared) (σ:St) (H:Hp) (Q:Bool->Hp->Prop),Inv X pins σ H s->t σ H Q->wpAny (model X.prog X.w) X.A (isTrue e X.env (eval e X.env)) (TP X pins σ Q) X.xe s
def PW (X:Cx) (e:Expr) (t:TT):Prop:=
 ∀ (whole:Sem Value) (pins:List (Addr×Obj)) (s:Shared) (σ:St) (H:Hp) (Q:Bool->Hp->Prop),Inv X pins σ H s->t σ H Q->wpAny (model X.prog X.w) X.A (isTrue e X.env whole) (TP X pins σ Q) X.xe s
theorem PW.pt {X:Cx} {e:Expr} {t:TT} (h:PW X e t):PT X e t:=h _
def PA (X:Cx) (es:List Expr) (t:TA):Prop:=
 ∀ (pos:Pos) (pins:List (Addr×Obj)) (s:Shared) (σ:St) (H:Hp) (Q:List V->Hp->Prop),Inv X pins σ H s->t σ H Q->wpAny (model X.prog X.w) X.A (spliced (backTo pos (starEach es X.env))) (AP X pins σ Q) X.xe s
def PS (X:Cx) (st:Stmt) (t:TS):Prop:=
 ∀ (pins:List (Addr×Obj)) (s:Shared) (σ:St) (H:Hp) (D:lV),Inv X pins σ H s->t D σ H->wpAny (model X.prog X.w) X.A (exec st X.env) (SP X pins D) X.xe s
def PSs (X:Cx) (st:List Stmt) (t:TS):Prop:=
 ∀ (pins:List (Addr×Obj)) (s:Shared) (σ:St) (H:Hp) (D:lV),Inv X pins σ H s->t D σ H->wpAny (model X.prog X.w) X.A (execs st X.env) (SP X pins D) X.xe s
theorem thn {α:Type} {t:Sem α} {Q Q':α->Shared->Prop} {M:Model} {A:Around} {E:Value->Shared->Prop} {s:Shared} (h:wpAny M A t Q E s) (hQ:∀ a s,Q a s->Q' a s):wpAny M A t Q' E s:=wpAny_mono h hQ fun _ _ x=>x
end L2
namespace L2
open PySem PySem.Spec PyProof.Rows
section
variable {X:Cx}
theorem bin {a b:Expr} {ta tb:TE} (ha:PE X a ta) (hb:PE X b tb) {pins:List (Addr×Obj)} {s:Shared} {σ:St} {H:Hp} {R:V->V->Hp->Prop} (I:Inv X pins σ H s) (h:ta σ H fun x H1=>tb σ H1 fun y H2=>R x y H2)
  {α:Type} {Q:α->Shared->Prop} {f:Value->Value->Sem α}
  (hf:∀ v u s2 x y H2,Inv X pins σ H2 s2->aW x v->aW y u->R x y H2->wpAny (model X.prog X.w) X.A (f v u) Q X.xe s2) :
  wpAny (model X.prog X.w) X.A (eval a X.env) (fun v s₁=>wpAny (model X.prog X.w) X.A (eval b X.env) (fun u s₂=>wpAny (model X.prog X.w) X.A (f v u) Q X.xe s₂) X.xe s₁) X.xe s:=by
 refine thn (ha pins s σ H _ I h) fun v s1 ⟨x,H1,I1,r1,q1⟩=>?_
 refine thn (hb pins s1 σ H1 _ I1 q1) fun u s2 ⟨y,H2,I2,r2,q2⟩=>?_
 exact hf v u s2 x y H2 I2 r1 r2 q2
def aV (i:Nat):TE:=fun σ H Q=>∃ v,σ[i]?=some (some v)/\Q v H
def tC (v:V):TE:=fun _ H Q=>Q v H
theorem AI {i:Nat} {x:Str} {pos:Pos} (hN:X.N[i]?=some x) (hv:Vis X.env.scope x) (hd:(x == ("__debug__" : Str))=false:=by decide) (hcd:(x == ("__classdict__" : Str))=false:=by decide):PE X (.Name x pos) (aV i):=by
 intro pins s σ H Q I h
 obtain ⟨v,e,h⟩:=h
 obtain ⟨m,hn,hl⟩:=I.loc
 obtain ⟨u,r,l⟩:=hl i x v hN e hv
 have fin:EP X pins σ Q u s:=⟨v,H,I,r,h⟩
 rcases l with ⟨hk,hm⟩ | ⟨hk,c,hc,hcell⟩
 ·exact wpAny_Name (wpAny_loadName_local I.ok.kind hk hn hm fin) hd
 ·rcases hk with hk | hk
  ·exact wpAny_Name (wpAny_loadName_cell I.ok.kind hk hc hcell fin) hd
  ·exact wpAny_Name (wpAny_loadName_free I.ok.kind hk hc hcell fin hcd) hd
theorem am {i j pos}:PE X (.Constant (.int i) j pos) (tC (.int i)):=fun _ _ _ H _ I h=>wpAny_Constant_int ⟨.int i,H,I.tok _,⟨_,rfl⟩,h⟩
theorem lH {b j pos}:PE X (.Constant (.bool b) j pos) (tC (.bl b)):=fun _ _ _ H _ I h=>Constant_bool ⟨.bl b,H,I,rfl,h⟩
theorem gK {j pos}:PE X (.Constant .none j pos) (tC .non):=fun _ _ _ H _ I h=>Constant_none ⟨.non,H,I,rfl,h⟩
theorem jG {x j pos}:PE X (.Constant (.str x) j pos) (tC (.str x)):=fun _ _ _ H _ I h=>Calls.Constant_str ⟨.str x,H,I.tok _,⟨_,rfl⟩,h⟩
def Gl (X:Cx) (x:Str):Prop:=X.env.kindOf x=some .globalImplicit
theorem jp {E:Value->Shared->Prop} {pins:List (Addr×Obj)} {s:Shared} {σ:St} {H:Hp} {x:Str} {u:Value} {pos:Pos} {Q:Value->Shared->Prop} (I:Inv X pins σ H s) (hg:Gl X x) (hm:X.mg x=some u) (h:Q u s)
  (hd:(x == ("__debug__" : Str))=false:=by decide):wpAny (model X.prog X.w) X.A (eval (.Name x pos) X.env) Q E s:=
 Calls.Name_function_global I.ok.kind hg (Calls.loadGlobal_global (by rw [I.ok.glob];exact I.mod.glob.keeps I.bk) hm h) hd
theorem gn {E:Value->Shared->Prop} {pins:List (Addr×Obj)} {s:Shared} {σ:St} {H:Hp} {x:Str} {u:Value} {pos:Pos} {Q:Value->Shared->Prop} (I:Inv X pins σ H s) (hg:Gl X x) (hm:X.mg x=none) (hv:bootBuiltins x=some u) (h:Q u s)
  (hn:x≠ "__name__":=by decide) (hd:(x == ("__debug__" : Str))=false:=by decide):wpAny (model X.prog X.w) X.A (eval (.Name x pos) X.env) Q E s:=by
 obtain ⟨mb,h1,h2⟩:=I.mod.blt
 exact Calls.Name_function_global I.ok.kind hg (Calls.loadGlobal_builtin (by rw [I.ok.glob];exact I.mod.glob.keeps I.bk) hm (by rw [I.ok.blt];exact h1.keeps I.bk) ((h2 x hn).trans hv) h) hd
theorem gq {x:Str} {v:V} {u:Value} {pos:Pos} (hg:Gl X x) (hm:X.mg x=some u) (r:aW v u) (hd:(x == ("__debug__" : Str))=false:=by decide):PE X (.Name x pos) (tC v):=
 fun _ _ _ H _ I h=>jp I hg hm ⟨v,H,I,r,h⟩ hd
variable {a b:Expr} {ta tb:TE} {pos:Pos}
def PC (X:Cx) (op:CmpOp) (a b:Expr) (t:TE):Prop:=
 ∀ (pins:List (Addr×Obj)) (s:Shared) (σ:St) (H:Hp) (Q:VK),Inv X pins σ H s->t σ H Q->
  wpAny (model X.prog X.w) X.A (eval a X.env) (fun v s₁=>wpAny (model X.prog X.w) X.A (eval b X.env) (fun u s₂=>wpAny (model X.prog X.w) X.A (compareOp op v u) (EP X pins σ Q) X.xe s₂) X.xe s₁) X.xe s
def tB (t:TE):TT:=fun σ H Q=>t σ H fun x H1=>∃ c,x = .bl c/\Q c H1
theorem Ap {op:CmpOp} {t:TE} (h:PC X op a b t) (h1:behindInMarks op b=false:=by first | exact BI _ (by decide) (by decide) | rfl):PT X (.Compare a [op] [b] pos) (tB t):=by
 intro pins s σ H Q I hw
 refine wpAny_isTrue_Compare1 (thn (h pins s σ H _ I hw) fun v s1 h1=>thn h1 fun u s2 h2=>thn h2 fun c s3 ⟨x,H1,I1,r1,q1⟩=>?_) h1
 obtain ⟨d,rfl,q⟩:=q1
 cases r1
 exact wpAny_truthy_bool ⟨H1,I1,q⟩
theorem cU {e:Expr} {t:TE} (h:PE X e t) (he:∀ whole,isTrue e X.env whole=(do let v <- whole;standAt e.pos;holding [v] (truthy v)):=by intro _;rfl):PT X e (tB t):=by
 intro pins s σ H Q I hw
 refine isTrue_plain (thn (h pins s σ H _ I hw) fun v s1 ⟨x,H1,I1,r1,q1⟩=>?_) (he _)
 obtain ⟨d,rfl,q⟩:=q1
 cases r1
 exact wpAny_truthy_bool ⟨H1,I1,q⟩
variable {tA tB':TT} {f6:List Expr}
def DJ (t u:TT):TT:=fun σ H Q=>t σ H fun c H1=>if c=true then u σ H1 Q else Q false H1
def tOr (t u:TT):TT:=fun σ H Q=>t σ H fun c H1=>if c=true then Q true H1 else u σ H1 Q
def Af (t:TT):TT:=fun σ H Q=>t σ H fun c H1=>Q (!c) H1
theorem oa (ha:PT X a tA):PW X (.BoolOp .And [a] pos) tA:=by
 intro wh pins s σ H Q I h
 refine isTrue_and (thn (ha pins s σ H Q I h) fun c s1 e=>?_)
 cases c with
 | true=>exact isTrue_and_nil e
 | false=>exact e
theorem uN (ha:PT X a tA):PW X (.BoolOp .Or [a] pos) tA:=by
 intro wh pins s σ H Q I h
 refine isTrue_or (thn (ha pins s σ H Q I h) fun c s1 e=>?_)
 cases c with
 | false=>exact isTrue_or_nil e
 | true=>exact e
theorem qQ (ha:PT X a tA) (hb:PW X (.BoolOp .And (b::f6) pos) tB'):PW X (.BoolOp .And (a::b::f6) pos) (DJ tA tB'):=by
 intro wh pins s σ H Q I h
 refine isTrue_and (thn (ha pins s σ H _ I h) fun c s1 ⟨H1,I1,q1⟩=>?_)
 cases c with
 | true=>exact hb wh pins s1 σ H1 Q I1 q1
 | false=>exact ⟨H1,I1,q1⟩
theorem y6 (ha:PT X a tA) (hb:PW X (.BoolOp .Or (b::f6) pos) tB'):PW X (.BoolOp .Or (a::b::f6) pos) (tOr tA tB'):=by
 intro wh pins s σ H Q I h
 refine isTrue_or (thn (ha pins s σ H _ I h) fun c s1 ⟨H1,I1,q1⟩=>?_)
 cases c with
 | true=>exact ⟨H1,I1,q1⟩
 | false=>exact hb wh pins s1 σ H1 Q I1 q1
theorem fV (ha:PT X a tA):PT X (.UnaryOp .Not a pos) (Af tA):=by
 intro pins s σ H Q I h
 exact isTrue_not (ha pins s σ H (fun c H1=>Q (!c) H1) I h)
def Cc (ta tb:TE):TE:=fun σ H Q=>ta σ H fun x H1=>∃ c,x = .bl c/\if c=true then tb σ H1 Q else Q (.bl false) H1
theorem wc {op} {t:TE} (h:PE X a t):PE X (.BoolOp op [a] pos) t:=fun pins s σ H Q I hw=>BoolOp_one (h pins s σ H Q I hw)
theorem vJ (ha:PE X a ta) (hb:PE X (.BoolOp .And (b::f6) pos) tb):PE X (.BoolOp .And (a::b::f6) pos) (Cc ta tb):=by
 intro pins s σ H Q I h
 refine BoolOp_and (thn (ha pins s σ H _ I h) fun v s1 ⟨x,H1,I1,r1,q1⟩=>?_)
 obtain ⟨c,rfl,q1⟩:=q1
 cases r1
 refine wpAny_truthy_bool ?_
 cases c with
 | true=>exact hb pins s1 σ H1 Q I1 q1
 | false=>exact ⟨.bl false,H1,I1,rfl,q1⟩
def tIf (t:TT) (ta tb:TE):TE:=fun σ H Q=>t σ H fun c H1=>if c=true then ta σ H1 Q else tb σ H1 Q
theorem jg {c:Expr} (hc:PT X c tA) (ha:PE X a ta) (hb:PE X b tb):PE X (.IfExp c a b pos) (tIf tA ta tb):=by
 intro pins s σ H Q I h
 refine wpAny_IfExp (thn (hc pins s σ H _ I h) fun d s1 ⟨H1,I1,q1⟩=>?_)
 cases d with
 | true=>exact ha pins s1 σ H1 Q I1 q1
 | false=>exact hb pins s1 σ H1 Q I1 q1
end
end L2
namespace L2
open PySem PySem.Spec PyProof.Rows
def SqL (K:PySem.W.Frag) (H:Hp) (a:Addr) (xs:List V):Prop:=
 Rd H a (.lst xs)\/
  ∃ (o:Obj) (its:Array Value) (n:Nat),K.lookup a=some o/\o.cls = .type "list"/\o.dict=none/\o.data = .seq its n/\its.size<=sizeLine/\aI xs its.toList
def SqT (K:PySem.W.Frag) (H:Hp) (a:Addr) (xs:List V):Prop:=
 Rd H a (.tup xs)\/
  ∃ (o:Obj) (its:Array Value) (n:Nat),K.lookup a=some o/\o.cls = .type "tuple"/\o.data = .seq its n/\its.size<=sizeLine/\aI xs its.toList
def DM:Value->Option V
 | .none=>some .non
 | .bool b=>some (.bl b)
 | .int i _=>some (.int i)
 | .str x _=>some (.str x)
 | .bytes b _=>some (.byt b)
 | .float b _=>some (.flt b)
 | .ref a=>some (.ref a)
 | .type n=>some (.ty n)
 | _=>none
theorem aW.abs {x:V} {u:Value} (r:aW x u):DM u=some x:=by
 cases x with
 | non=>cases r;rfl
 | bl _=>cases r;rfl
 | int _=>obtain ⟨t,rfl⟩:=r;rfl
 | str _=>obtain ⟨t,rfl⟩:=r;rfl
 | byt _=>obtain ⟨t,rfl⟩:=r;rfl
 | flt _=>obtain ⟨t,rfl⟩:=r;rfl
 | ref _=>cases r;rfl
 | ty _=>cases r;rfl
theorem aW.inj {x y:V} {u:Value} (r:aW x u) (q:aW y u):x=y:=Option.some.inj (r.abs.symm.trans q.abs)
theorem aI.inj:∀ {xs ys:List V} {us:List Value},aI xs us->aI ys us->xs=ys
 | _,_,_,.nil,.nil=>rfl
 | _,_,_,.cons r t,.cons r' t'=>by rw [r.inj r',aI.inj t t']
section
variable {X:Cx} {pins:List (Addr×Obj)} {σ:St} {H:Hp} {s:Shared} {a:Addr} {xs ys:List V}
theorem SqL.of {K:PySem.W.Frag} (h:H a=some (.lst xs)):SqL K H a xs:= .inl (.inl h)
theorem SqT.of {K:PySem.W.Frag} (h:H a=some (.tup xs)):SqT K H a xs:= .inl (.inl h)
theorem Inv.list (I:Inv X pins σ H s) (h:SqL X.K H a xs):∃ its:List Value,aI xs its/\PlainL s.heap a its.toArray/\xs.length<=sizeLine:=by
 rcases h with h | ⟨o,its,n,hk,hc,hd,hs,hz,r⟩
 ·obtain ⟨z,its,n,r,e⟩:=h.ok I.hok
  exact ⟨its,r,⟨_,n,e,rfl,rfl,rfl⟩,z⟩
 ·refine ⟨its.toList,r,⟨o,n,I.kIn a o hk,hc,hd,by simpa using hs⟩,?_⟩
  have e:=r.length
  simp only [Array.length_toList] at e
  omega
theorem Inv.tuple (I:Inv X pins σ H s) (h:SqT X.K H a xs):∃ its:List Value,aI xs its/\IsTup s.heap a its.toArray/\xs.length<=sizeLine:=by
 rcases h with h | ⟨o,its,n,hk,hc,hs,hz,r⟩
 ·obtain ⟨z,its,r,p⟩:=h.ok I.hok
  exact ⟨its,r,p,z⟩
 ·refine ⟨its.toList,r,⟨o,I.kIn a o hk,hc,n,by simpa using hs⟩,?_⟩
  have e:=r.length
  simp only [Array.length_toList] at e
  omega
theorem Inv.list_inj (I:Inv X pins σ H s) (h:SqL X.K H a xs) (h':SqL X.K H a ys):xs=ys:=by
 obtain ⟨its,r,⟨o,n,e,_,_,d⟩,_⟩:=I.list h
 obtain ⟨its',r',⟨o',n',e',_,_,d'⟩,_⟩:=I.list h'
 rw [e] at e';cases e'
 rw [d] at d'
 injection d' with d1 _
 have:its=its':=by simpa using congrArg Array.toList d1
 subst this
 exact r.inj r'
theorem Inv.tuple_inj (I:Inv X pins σ H s) (h:SqT X.K H a xs) (h':SqT X.K H a ys):xs=ys:=by
 obtain ⟨its,r,⟨o,e,_,n,d⟩,_⟩:=I.tuple h
 obtain ⟨its',r',⟨o',e',_,n',d'⟩,_⟩:=I.tuple h'
 rw [e] at e';cases e'
 rw [d] at d'
 injection d' with d1 _
 have:its=its':=by simpa using congrArg Array.toList d1
 subst this
 exact r.inj r'
end
abbrev Cx.wish (X:Cx) (E:Value->Shared->Prop):Cx:={ X with xe:=E }
abbrev Cx.nox (X:Cx):Cx:=X.wish fun _ _=>False
theorem Cx.Ok.wish {X:Cx} (ok:X.Ok) (E:Value->Shared->Prop):(X.wish E).Ok:=
 ⟨ok.mod,ok.kind,ok.glob,ok.blt,ok.above,ok.inj,ok.has,ok.cab,ok.hd,ok.frames,ok.stk,ok.exf,ok.bs,ok.bsz,ok.noex,ok.exfs,ok.funs,ok.frf⟩
theorem Cx.Ok.unwish {X:Cx} {E:Value->Shared->Prop} (ok:(X.wish E).Ok):X.Ok:=
 ⟨ok.mod,ok.kind,ok.glob,ok.blt,ok.above,ok.inj,ok.has,ok.cab,ok.hd,ok.frames,ok.stk,ok.exf,ok.bs,ok.bsz,ok.noex,ok.exfs,ok.funs,ok.frf⟩
section
variable {X:Cx} {pins:List (Addr×Obj)} {σ:St} {H:Hp} {s:Shared} {E:Value->Shared->Prop}
theorem Inv.wish (I:Inv X pins σ H s) (E:Value->Shared->Prop):Inv (X.wish E) pins σ H s:=⟨I.ok.wish E,I.os,I.bare,I.base,I.loc,I.cell,I.free,I.freeC,I.pin,I.hok,I.len⟩
theorem Inv.unwish (I:Inv (X.wish E) pins σ H s):Inv X pins σ H s:=⟨I.ok.unwish,I.os,I.bare,I.base,I.loc,I.cell,I.free,I.freeC,I.pin,I.hok,I.len⟩
theorem SP.unwish {D:lV} {f:Flow} {s':Shared} (h:SP (X.wish E) pins D f s'):SP X pins D f s':=by
 cases f with
 | next=>obtain ⟨σ',H',I,q⟩:=h;exact ⟨σ',H',I.unwish,q⟩
 | brk=>obtain ⟨σ',H',I,q⟩:=h;exact ⟨σ',H',I.unwish,q⟩
 | cont=>obtain ⟨σ',H',I,q⟩:=h;exact ⟨σ',H',I.unwish,q⟩
 | ret u=>obtain ⟨v,σ',H',I,r,q⟩:=h;exact ⟨v,σ',H',I.unwish,r,q⟩
theorem PSs.nox {st:List Stmt} {t:TS} (h:PSs X.nox st t):PSs X st t:=fun pins s σ H D I hw=>
 wpAny_mono (h pins s σ H D (I.wish _) hw) (fun _ _ q=>q.unwish) fun _ _ z=>False.elim z
end
section
variable {X:Cx} {st:Stmt} {f6:List Stmt} {t u:TS} {e:Expr} {te:TE} {pos:Pos}
def vy:TS:=fun D σ H=>D.nx σ H
def vI (t u:TS):TS:=fun D σ H=>t { D with nx:=u D } σ H
theorem aZ:PSs X [] vy:=fun _ _ σ H _ I h=>wpAny_execs_nil ⟨σ,H,I,h⟩
theorem ag (h1:PS X st t) (h2:PSs X f6 u):PSs X (st::f6) (vI t u):=by
 intro pins s σ H D I h
 refine wpAny_execs_cons (thn (h1 pins s σ H { D with nx:=u D } I h) fun f s1 q=>?_)
 cases f with
 | next=>
  obtain ⟨σ',H',I',q⟩:=q
  exact h2 pins s1 σ' H' D I' q
 | ret v=>exact q
 | brk=>exact q
 | cont=>exact q
theorem aj (h1:PS X st t):PSs X [st] t:=by
 intro pins s σ H D I h
 refine wpAny_execs_cons (thn (h1 pins s σ H D I h) fun f s1 q=>?_)
 cases f with
 | next=>exact wpAny_execs_nil q
 | ret v=>exact q
 | brk=>exact q
 | cont=>exact q
theorem Inv.quiet {pins:List (Addr×Obj)} {σ:St} {H:Hp} {s:Shared} (I:Inv X pins σ H s):interactive X.env=false:=by simp [interactive,I.ok.kind]
def Cb (te:TE):TS:=fun D σ H=>te σ H fun _ H1=>D.nx σ H1
theorem cB (he:PE X e te) (hs:swapsWith e none pos.line X.env=pure false:=by rfl):PS X (.Expr e pos) (Cb te):=by
 intro pins s σ H D I h
 exact wpAny_Expr_any (thn (he pins s σ H _ I h) fun v s1 ⟨x,H1,I1,r1,q1⟩=>⟨σ,H1,I1,q1⟩) I.quiet hs
def rF (te:TE):TS:=fun D σ H=>te σ H D.rt
theorem ap (he:PE X e te):PS X (.Return (some e) pos) (rF te):=by
 intro pins s σ H D I h
 exact wpAny_Return_some (thn (he pins s σ H _ I h) fun v s1 ⟨x,H1,I1,r1,q1⟩=>⟨x,σ,H1,I1,r1,q1⟩)
def AJ (c:TT) (t u:TS):TS:=fun D σ H=>c σ H fun b H1=>if b=true then t D σ H1 else u D σ H1
theorem cc {c:Expr} {a b:List Stmt} {tc:TT} (hc:PT X c tc) (ha:PSs X a t) (hb:PSs X b u):PS X (.If c a b pos) (AJ tc t u):=by
 intro pins s σ H D I h
 refine wpAny_If (thn (hc pins s σ H _ I h) fun d s1 ⟨H1,I1,q1⟩=>?_)
 cases d with
 | true=>exact ha pins s1 σ H1 D I1 q1
 | false=>exact hb pins s1 σ H1 D I1 q1
end
abbrev TG:=V->St->Hp->(St->Hp->Prop)->Prop
abbrev TGs:=List V->St->Hp->(St->Hp->Prop)->Prop
def PG (X:Cx) (target:Expr) (t:TG):Prop:=
 ∀ (pins:List (Addr×Obj)) (s:Shared) (σ:St) (H:Hp) (v:V) (u:Value) (Q:St->Hp->Prop),Inv X pins σ H s->aW v u->t v σ H Q->
  wpAny (model X.prog X.w) X.A (assign target X.env u) (fun _ s'=>∃ σ' H',Inv X pins σ' H' s'/\Q σ' H') X.xe s
def PGs (X:Cx) (ts:List Expr) (t:TGs):Prop:=
 ∀ (pins:List (Addr×Obj)) (s:Shared) (σ:St) (H:Hp) (vs:List V) (us:List Value) (Q:St->Hp->Prop),Inv X pins σ H s->aI vs us->t vs σ H Q->
  wpAny (model X.prog X.w) X.A (assignInOrder ((assignEach ts X.env).map (·.2)) us) (fun _ s'=>∃ σ' H',Inv X pins σ' H' s'/\Q σ' H') X.xe s
abbrev wQ:=V->V->V->Hp->(Hp->Prop)->Prop
def zu (X:Cx) (t:wQ):Prop:=
 ∀ (pins:List (Addr×Obj)) (s:Shared) (σ:St) (H:Hp) (o i v:V) (ov iv u:Value) (Q:Hp->Prop),Inv X pins σ H s->aW o ov->aW i iv->aW v u->t o i v H Q->
  wpAny (model X.prog X.w) X.A (setItem ov iv u) (fun _ s'=>∃ H',Inv X pins σ H' s'/\Q H') X.xe s
abbrev TIp:=V->V->Hp->VK->Prop
def PIp (X:Cx) (op:Operator) (t:TIp):Prop:=
 ∀ (pins:List (Addr×Obj)) (s:Shared) (σ:St) (H:Hp) (x y:V) (v u:Value) (Q:VK),Inv X pins σ H s->aW x v->aW y u->t x y H Q->
  wpAny (model X.prog X.w) X.A (inplaceOp op v u) (EP X pins σ Q) X.xe s
section
variable {X:Cx} {pos:Pos}
def g0 (i:Nat):TG:=fun v σ H Q=>Q (σ.set i (some v)) H
theorem aK {i:Nat} {x:Str} (hN:X.N.Nodup) (hi:X.N[i]?=some x) (hx:Loc X.env.scope x) (hf:X.fn x=true\/X.env.scope.names.lookup x=some .local:=by first | exact .inl rfl | exact .inr rfl | assumption):PG X (.Name x pos) (g0 i):=by
 intro pins s σ H v u Q I r h
 exact wpAny_assign_Name (kI I hN hi hx r (fun s' I'=>⟨_,H,I',h⟩) hf)
def zw:TGs:=fun vs σ H Q=>vs=[]/\Q σ H
def pz (t:TG) (u:TGs):TGs:=fun vs σ H Q=>∃ v r,vs=v::r/\t v σ H fun σ' H'=>u r σ' H' Q
theorem fC:PGs X [] zw:=by
 intro pins s σ H vs us Q I r h
 obtain ⟨e,h⟩:=h
 subst e
 cases r
 exact assignInOrder_nil ⟨σ,H,I,h⟩
theorem b9 {e:Expr} {es:List Expr} {t:TG} {u:TGs} (h1:PG X e t) (h2:PGs X es u)
  (hs:(assignEach (e::es) X.env).map (·.2)=assign e X.env::(assignEach es X.env).map (·.2):=by rfl):PGs X (e::es) (pz t u):=by
 intro pins s σ H vs us Q I r h
 obtain ⟨v,vr,e1,h⟩:=h
 subst e1
 cases r with
 | cons r rr=>
  rw [hs]
  refine assignInOrder_cons (thn (h1 pins s σ H _ _ _ I r h) fun _ s1 ⟨σ1,H1,I1,q1⟩=>?_)
  exact h2 pins s1 σ1 H1 _ _ Q I1 rr q1
def Aa (K:PySem.W.Frag) (n:Nat) (t:TGs):TG:=fun v σ H Q=>∃ a xs,v = .ref a/\SqT K H a xs/\xs.length=n/\t xs σ H Q
theorem gU {es:List Expr} {k:Nat} {t:TGs} {n:Nat} (hc:X.calm=true) (h:PGs X es t)
  (hn:(assignEach es X.env).length=n:=by rfl) (hst:(assignEach es X.env).findIdx? (·.1)=none:=by rfl):PG X (.Tuple es k pos) (Aa X.K n t):=by
 intro pins s σ H v u Q I r hw
 obtain ⟨a,xs,e1,hq,hl,hw⟩:=hw
 subst e1
 cases r
 obtain ⟨its,rv,ht,hz⟩:=I.tuple hq
 refine assign_Tuple_tuple (I.ok.hd hc) ht (by simp [hn,<- hl,rv.length]) hst fun h' hx=>?_
 have I1:Inv X pins σ H { s with heap:=h' }:=I.kept (t':=s.toks) fun b o e=>hx b o (Nat.ne_of_lt (Heap.lt_size e)) e
 exact h pins _ σ H xs _ Q I1 (by simpa using rv) hw
def D6 (to ti:TE) (t:wQ):TG:=fun v σ H Q=>to σ H fun o H1=>ti σ H1 fun i H2=>t o i v H2 fun H3=>Q σ H3
theorem qY {o i:Expr} {to ti:TE} {t:wQ} (ho:PE X o to) (hi:PE X i ti) (hs:zu X t)
  (ha:∀ v,assign (.Subscript o i pos) X.env v=(do
   let ov <- holding [v] (eval o X.env)
   let iv <- holding [v,ov] (eval i X.env)
   standAt pos
   holding [v,ov,iv] (setItem ov iv v)
   release [v,ov,iv] []):=by intro _;rfl):PG X (.Subscript o i pos) (D6 to ti t):=by
 intro pins s σ H v u Q I r h
 rw [ha]
 refine wpAny_bind (wpAny_holding (thn (ho pins s σ H _ I h) fun ov s1 ⟨x,H1,I1,r1,q1⟩=>?_))
 refine wpAny_bind (wpAny_holding (thn (hi pins s1 σ H1 _ I1 q1) fun iv s2 ⟨y,H2,I2,r2,q2⟩=>?_))
 refine wpAny_bind (wpAny_standAt (wpAny_bind (wpAny_holding (thn (hs pins s2 σ H2 x y v ov iv u _ I2 r1 r2 r q2) fun _ s3 ⟨H3,I3,q3⟩=>?_))))
 exact wpAny_release ⟨σ,H3,I3,q3⟩
def yo (te:TE) (g:TG):TS:=fun D σ H=>te σ H fun x H1=>g x σ H1 D.nx
theorem rq {tg e:Expr} {te:TE} {g:TG} (he:PE X e te) (hg:PG X tg g) (hs:swapsWithSole [tg] e pos.line X.env=pure false:=by rfl) (hw:swappedStores [tg] e X.env=pure none:=by rfl)
  (h1:(assignEach [tg] X.env).map (·.2)=[assign tg X.env]:=by rfl):PS X (.Assign [tg] e pos) (yo te g):=by
 intro pins s σ H D I h
 refine wpAny_Assign_stores (thn (he pins s σ H _ I h) fun v s1 ⟨x,H1,I1,r1,q1⟩=>?_) hs hw
 rw [h1]
 exact thn (hg pins s1 σ H1 x v _ I1 r1 q1) fun _ s2 q=>q
theorem aB {i:Nat} {x:Str} {e:Expr} {te:TE} {pos':Pos} (hN:X.N.Nodup) (hi:X.N[i]?=some x) (hx:Loc X.env.scope x) (he:PE X e te) (hs:swapsWith e (some (.Name x pos')) pos.line X.env=pure false:=by rfl) (hf:X.fn x=true\/X.env.scope.names.lookup x=some .local:=by first | exact .inl rfl | exact .inr rfl | assumption) :
  PS X (.Assign [.Name x pos'] e pos) (yo te (g0 i)):=by
 intro pins s σ H D I h
 refine wpAny_Assign_Name (thn (he pins s σ H _ I h) fun v s1 ⟨y,H1,I1,r1,q1⟩=>?_) hs
 exact kI I1 hN hi hx r1 (fun s2 I2=>⟨_,H1,I2,q1⟩) hf
def D9 (i:Nat) (te:TE) (ti:TIp):TS:=fun D σ H=>∃ x,σ[i]?=some (some x)/\te σ H fun y H1=>ti x y H1 fun z H2=>D.nx (σ.set i (some z)) H2
theorem Ay {i:Nat} {x:Str} {e:Expr} {te:TE} {op:Operator} {ti:TIp} {pos':Pos} (hN:X.N.Nodup) (hi:X.N[i]?=some x) (hx:Loc X.env.scope x) (he:PE X e te) (ho:PIp X op ti) (hf:X.fn x=true\/X.env.scope.names.lookup x=some .local:=by first | exact .inl rfl | exact .inr rfl | assumption) :
  PS X (.AugAssign (.Name x pos') op e pos) (D9 i te ti):=by
 intro pins s σ H D I h
 obtain ⟨v,e1,h⟩:=h
 obtain ⟨m,hn,hl⟩:=I.loc
 have vis:Vis X.env.scope x:=by rcases hx with k | k;exact .inl k;exact .inr (.inl k)
 obtain ⟨u,r,l⟩:=hl i x v hi e1 vis
 refine wpAny_AugAssign_Name ?_
 have go:wpAny (model X.prog X.w) X.A (eval e X.env) (fun w s₂=>wpAny (model X.prog X.w) X.A (inplaceOp op u w) (fun r s₃=>wpAny (model X.prog X.w) X.A (storeName X.env x r) (fun _=>SP X pins D .next) X.xe s₃) X.xe s₂) X.xe s:=by
  refine thn (he pins s σ H _ I h) fun w s1 ⟨y,H1,I1,r1,q1⟩=>?_
  refine thn (ho pins s1 σ H1 v y u w _ I1 r r1 q1) fun z s2 ⟨zv,H2,I2,r2,q2⟩=>?_
  exact kI I2 hN hi hx r2 (fun s3 I3=>⟨_,H2,I3,q2⟩) hf
 rcases l with ⟨hk,hm⟩ | ⟨hk,c,hc,hcell⟩
 ·exact wpAny_loadName_local I.ok.kind hk hn hm go
 ·rcases hk with hk | hk
  ·exact wpAny_loadName_cell I.ok.kind hk hc hcell go
  ·rcases hx with k | k
   ·have:X.env.scope.names.lookup x=some .free:=hk
    rw [k] at this;cases this
   ·have:X.env.scope.names.lookup x=some .free:=hk
    rw [k] at this;cases this
def B5 (to ti te:TE) (tget:V->V->Hp->VK->Prop) (tip:TIp) (tset:wQ):TS:=fun D σ H=>to σ H fun o H1=>ti σ H1 fun i H2=>tget o i H2 fun x H3=>te σ H3 fun y H4=>tip x y H4 fun z H5=>tset o i z H5 fun H6=>D.nx σ H6
def Da (X:Cx) (t:V->V->Hp->VK->Prop):Prop:=
 ∀ (pins:List (Addr×Obj)) (s:Shared) (σ:St) (H:Hp) (o i:V) (ov iv:Value) (Q:VK),Inv X pins σ H s->aW o ov->aW i iv->t o i H Q->
  wpAny (model X.prog X.w) X.A (getItem ov iv) (EP X pins σ Q) X.xe s
theorem yr {o i e:Expr} {to ti te:TE} {tget:V->V->Hp->VK->Prop} {tip:TIp} {tset:wQ} {op:Operator} {tpos:Pos} (ho:PE X o to) (hi:PE X i ti) (hg:Da X tget) (he:PE X e te) (hp:PIp X op tip) (hs:zu X tset)
  (ha:∀ ov iv new,augStore i ov iv new=(do holding [new,ov,iv] (setItem ov iv new);release [new,ov,iv] [];pure .next):=by intros;rfl):PS X (.AugAssign (.Subscript o i tpos) op e pos) (B5 to ti te tget tip tset):=by
 intro pins s σ H D I h
 refine wpAny_AugAssign_SubscriptAny (thn (ho pins s σ H _ I h) fun ov s1 ⟨x1,H1,I1,r1,q1⟩=>?_) ha
 refine thn (hi pins s1 σ H1 _ I1 q1) fun iv s2 ⟨x2,H2,I2,r2,q2⟩=>?_
 refine thn (hg pins s2 σ H2 x1 x2 ov iv _ I2 r1 r2 q2) fun old s3 ⟨x3,H3,I3,r3,q3⟩=>?_
 refine thn (he pins s3 σ H3 _ I3 q3) fun v s4 ⟨x4,H4,I4,r4,q4⟩=>?_
 refine thn (hp pins s4 σ H4 x3 x4 old v _ I4 r3 r4 q4) fun new s5 ⟨x5,H5,I5,r5,q5⟩=>?_
 exact thn (hs pins s5 σ H5 x1 x2 x5 ov iv new _ I5 r1 r2 r5 q5) fun _ s6 ⟨H6,I6,q6⟩=>⟨σ,H6,I6,q6⟩
def ipI (f:Int->Int->Int):TIp:=fun x y H Q=>∃ i j,x = .int i/\y = .int j/\Q (.int (f i j)) H
theorem vM:PIp X .Add (ipI fun i j=>i+j):=by
 intro pins s σ H x y v u Q I r1 r2 h
 obtain ⟨i,j,e1,e2,q⟩:=h
 subst e1;subst e2
 obtain ⟨t,rfl⟩:=r1
 obtain ⟨t',rfl⟩:=r2
 exact iadd_int ⟨.int _,H,I.tok _,⟨_,rfl⟩,q⟩
end
section
variable {X:Cx} {pos:Pos}
def zE (c:TT) (tb:TS):TS:=fun D σ H=>∃ W:Nat->St->Hp->Prop,(∃ m,W m σ H)/\∀ m σ H,W m σ H->
 c σ H fun b H1=>if b=true then ∃ N:St->Hp->Prop,(∀ σ' H',N σ' H'->∃ m',m' < m/\W m' σ' H')/\tb { D with nx:=N,ct:=N,bk:=D.nx } σ H1 else D.nx σ H1
theorem p6 {c:Expr} {body:List Stmt} {tc:TT} {tb:TS} (hp:PassesOwn (model X.prog X.w) X.A X.env X.xe) (hc:PT X c tc) (hb:PSs X body tb):PS X (.While c body [] pos) (zE tc tb):=by
 intro pins s σ H D I h
 obtain ⟨W,⟨m0,w0⟩,turn⟩:=h
 refine wpAny_While (codeAny_whileLoop (fun n s'=>∃ σ' H',Inv X pins σ' H' s'/\W n σ' H') ?_ m0 ⟨σ,H,I,w0⟩)
 rintro n s1 ⟨σ1,H1,I1,w1⟩
 refine wpAny_passesOwn hp (thn (hc pins s1 σ1 H1 _ I1 (turn n σ1 H1 w1)) fun b s2 ⟨H2,I2,q2⟩=>?_)
 cases b with
 | true=>
  obtain ⟨N,hN,q2⟩:=q2
  rw [if_pos rfl]
  refine wpAny_passesOwn hp (thn (hb pins s2 σ1 H2 _ I2 q2) fun f s3 q3=>?_)
  cases f with
  | next=>
   obtain ⟨σ3,H3,I3,n3⟩:=q3
   obtain ⟨m',hm,w3⟩:=hN σ3 H3 n3
   exact ⟨m',hm,σ3,H3,I3,w3⟩
  | cont=>
   obtain ⟨σ3,H3,I3,n3⟩:=q3
   obtain ⟨m',hm,w3⟩:=hN σ3 H3 n3
   exact ⟨m',hm,σ3,H3,I3,w3⟩
  | brk=>exact q3
  | ret v=>exact q3
 | false=>
  rw [if_neg Bool.false_ne_true]
  exact wpAny_execs_nil ⟨σ1,H2,I2,q2⟩
end
structure It where
 go:Nat->Hp->Prop
 yld:Nat->Hp->V->Hp->Prop
 stop:Nat->Hp->Prop
def fT (X:Cx) (pins:List (Addr×Obj)) (H:Hp) (b:Addr):Prop:=
 H b=none/\b≠X.env.locals/\b∉X.fs/\(b∈X.ex\/X.s_0.heap.objs.size<=b)/\(∀ x c,X.env.cells.lookup x=some c->c≠b)/\∀ p∈X.pn++pins,p.1≠b
theorem Inv.fpOk {X:Cx} {pins:List (Addr×Obj)} {σ:St} {H H':Hp} {s:Shared} {b:Addr} (I:Inv X pins σ H s) (hb:s.heap.objs.size<=b) (hn:H' b=none):fT X pins H' b:=by
 refine ⟨hn,Nat.ne_of_gt (Nat.lt_of_lt_of_le I.lt hb),I.nofs hb,.inr (Nat.le_trans I.sz hb),fun x c e z=>?_,fun p hp z=>?_⟩
 ·obtain ⟨v,q⟩:=I.cell x c e
  exact absurd (Nat.lt_of_lt_of_le q.lt (by rw [z];exact hb)) (Nat.lt_irrefl _)
 ·exact absurd (Nat.lt_of_lt_of_le (Heap.lt_size (I.pin p hp).1) (by rw [z];exact hb)) (Nat.lt_irrefl _)
structure oK (P:Program) (w:World) (K:PySem.W.Frag) (tg:Expr) (J:It) (fp:List Addr) (it:Addr) (tn:Nat->Heap->Prop):Prop where
 mem:it∈fp
 obj:∀ i h,tn i h->∀ b∈fp,∃ o,h.get? b=some o/\∀ v,o.data≠ .cell v
 keep:∀ i h h',tn i h->(∀ b∈fp,∀ o,h.get? b=some o->h'.get? b=some o)->tn i h'
 item:∀ (X:Cx),X.prog=P->X.w=w->X.K=K->X.calm=true->∀ (i:Nat) (pins:List (Addr×Obj)) (s:Shared) (σ:St) (H:Hp) (E:Value->Shared->Prop),Inv X pins σ H s->(∀ b∈fp,fT X pins H b)->tn i s.heap->J.go i H->
  wpAny (model P w) X.A (pyNext (.ref it)) (fun r s1=>∃ u,r=some u/\
   wpAny (model P w) X.A (letOwnedTupleGo tg (.ref it) u) (fun _ s2=>∃ x H',Inv X pins σ H' s2/\aW x u/\J.yld i H x H'/\tn (i+1) s2.heap/\∀ b∈fp,H' b=none) E s1) E s
 done:∀ (X:Cx),X.prog=P->X.w=w->X.K=K->X.calm=true->∀ (i:Nat) (pins:List (Addr×Obj)) (s:Shared) (σ:St) (H:Hp) (E:Value->Shared->Prop),Inv X pins σ H s->(∀ b∈fp,fT X pins H b)->tn i s.heap->J.stop i H->
  wpAny (model P w) X.A (pyNext (.ref it)) (fun r s1=>r=none/\Inv X pins σ H s1) E s
 self:∀ (A:Around) (i:Nat) (s:Shared) (Q:Value->Shared->Prop) (E:Value->Shared->Prop),tn i s.heap->Q (.ref it) s->wpAny (model P w) A (pyIter (.ref it)) Q E s
abbrev TI:=St->Hp->(It->Hp->Prop)->Prop
def PIE (X:Cx) (pins:List (Addr×Obj)) (σ:St) (tg:Expr) (R:It->Hp->Prop) (itv:Value) (s2:Shared):Prop:=
 ∃ (it:Addr) (fp:List Addr) (tn:Nat->Heap->Prop) (J:It) (H':Hp),itv = .ref it/\Inv X pins σ H' s2/\oK X.prog X.w X.K tg J fp it tn/\tn 0 s2.heap/\(∀ b∈fp,fT X pins H' b)/\R J H'
def PI (X:Cx) (tg iter:Expr) (wi:TI):Prop:=
 ∀ (pins:List (Addr×Obj)) (s:Shared) (σ:St) (H:Hp) (R:It->Hp->Prop),Inv X pins σ H s->wi σ H R->
  wpAny (model X.prog X.w) X.A (eval iter X.env) (fun v s1=>wpAny (model X.prog X.w) X.A (pyIter v) (PIE X pins σ tg R) X.xe s1) X.xe s
theorem rQ {M:Model} {A:Around} {E:Value->Shared->Prop} {s:Shared} {tg:Expr} {it:Addr} {u:Value} {o:Obj} {n:String} {vs:Array Value} {Q:Unit->Shared->Prop} (ho:s.heap.get? it=some o) (hc:o.cls = .type n) (hd:o.data = .fields vs)
  (hn:["enumerate","zip","dict_itemiterator","dict_reverseitemiterator","odict_iterator","itertools.zip_longest","itertools.pairwise"].contains n=false) (hQ:Q () s):wpAny M A (letOwnedTupleGo tg (.ref it) u) Q E s:=by
 unfold letOwnedTupleGo
 cases tg <;> first
  | exact wpAny_pure hQ
  | (cases u <;> first
    | exact wpAny_pure hQ
    | (
      refine wpAny_bind (wpAny_load ho ?_)
      rw [hc,hd]
      show wpAny M A (if (["enumerate","zip","dict_itemiterator","dict_reverseitemiterator","odict_iterator","itertools.zip_longest","itertools.pairwise"].contains n && vs[0]? == some (rawInt _))=true then _ else _) Q E s
      rw [if_neg (by intro h;rw [hn,Bool.false_and] at h;cases h)]
      exact wpAny_pure hQ))
def Itl (K:PySem.W.Frag) (a:Addr):It:=
 ⟨fun i H=>∃ xs x,SqL K H a xs/\xs[i]?=some x,fun i H x H'=>H'=H/\∀ xs,SqL K H a xs->xs[i]?=some x,fun i H=>∃ xs,SqL K H a xs/\xs.length<=i⟩
def Itt (K:PySem.W.Frag) (a:Addr):It:=
 ⟨fun i H=>∃ xs x,SqT K H a xs/\xs[i]?=some x,fun i H x H'=>H'=H/\∀ xs,SqT K H a xs->xs[i]?=some x,fun i H=>∃ xs,SqT K H a xs/\xs.length<=i⟩
def Itr (lo:Int) (n:Nat):It:=⟨fun i _=>i < n,fun i H x H'=>H'=H/\x = .int (lo+i),fun i _=>n<=i⟩
theorem t9 {P:Program} {w:World} {K:PySem.W.Frag} {tg:Expr} (a it:Addr):oK P w K tg (Itl K a) [it] it (fun i h=>h.IsListIter it a i) where
 mem:=by simp
 obj:=fun i h st b hb=>by
  have e:b=it:=by simpa using hb
  subst e
  obtain ⟨o,e,c,d⟩:=st
  exact ⟨o,e,fun v z=>by rw [d] at z;cases z⟩
 keep:=fun i h h' st k=>st.at fun o e=>k it (by simp) o e
 item:=by
  intro X hP hw hK hc i pins s σ H E I hf st hg
  subst hP hw hK
  obtain ⟨xs,x,hq,hx⟩:=hg
  obtain ⟨its,rv,p,hz⟩:=I.list hq
  obtain ⟨u,hu,ru⟩:=rv.get hx
  obtain ⟨f0,f1,f2,f3,f4,f5⟩:=hf it (by simp)
  refine wpAny_pyNext_list_item st p.isList (x:=u) (by simpa using hu) fun h' st' sb=>?_
  have I1:Inv X pins σ H { s with heap:=h' }:=I.turned (t':=s.toks) (fun b o hb e=>(sb.2 b hb).trans e) f0 f1 f3 f4 f5
  obtain ⟨o,e,c,d⟩:=id st'
  exact ⟨u,rfl,rQ (s:={ s with heap:=h' }) e c d (by decide) ⟨x,H,I1,ru,⟨rfl,fun ys hy=>by rw [I.list_inj hy hq];exact hx⟩,st',fun b hb=>(hf b hb).1⟩⟩
 done:=by
  intro X hP hw hK hc i pins s σ H E I hf st hg
  subst hP hw hK
  obtain ⟨xs,hq,hx⟩:=hg
  obtain ⟨its,rv,p,hz⟩:=I.list hq
  obtain ⟨f0,f1,f2,f3,f4,f5⟩:=hf it (by simp)
  have hl:=rv.length
  exact wpAny_pyNext_list_end (I.ok.hd hc) st p.isList (by simp;omega) fun h' eb=>⟨rfl,I.turned (t':=s.toks) (fun b o hb e=>eb b o hb e) f0 f1 f3 f4 f5⟩
 self:=fun _ _ _ _ _ st h=>wpAny_pyIter_listiter st h
theorem qR {P:Program} {w:World} {K:PySem.W.Frag} {tg:Expr} (a it:Addr):oK P w K tg (Itt K a) [it] it (fun i h=>h.IsTupleIter it a i) where
 mem:=by simp
 obj:=fun i h st b hb=>by
  have e:b=it:=by simpa using hb
  subst e
  obtain ⟨o,e,c,d⟩:=st
  exact ⟨o,e,fun v z=>by rw [d] at z;cases z⟩
 keep:=fun i h h' st k=>st.at fun o e=>k it (by simp) o e
 item:=by
  intro X hP hw hK hc i pins s σ H E I hf st hg
  subst hP hw hK
  obtain ⟨xs,x,hq,hx⟩:=hg
  obtain ⟨its,rv,p,hz⟩:=I.tuple hq
  obtain ⟨u,hu,ru⟩:=rv.get hx
  obtain ⟨f0,f1,f2,f3,f4,f5⟩:=hf it (by simp)
  refine wpAny_pyNext_tuple_item st (show s.heap.IsTuple a its.toArray from p) (x:=u) (by simpa using hu) fun h' st' sb=>?_
  have I1:Inv X pins σ H { s with heap:=h' }:=I.turned (t':=s.toks) (fun b o hb e=>(sb.2 b hb).trans e) f0 f1 f3 f4 f5
  obtain ⟨o,e,c,d⟩:=id st'
  exact ⟨u,rfl,rQ (s:={ s with heap:=h' }) e c d (by decide) ⟨x,H,I1,ru,⟨rfl,fun ys hy=>by rw [I.tuple_inj hy hq];exact hx⟩,st',fun b hb=>(hf b hb).1⟩⟩
 done:=by
  intro X hP hw hK hc i pins s σ H E I hf st hg
  subst hP hw hK
  obtain ⟨xs,hq,hx⟩:=hg
  obtain ⟨its,rv,p,hz⟩:=I.tuple hq
  obtain ⟨f0,f1,f2,f3,f4,f5⟩:=hf it (by simp)
  have hl:=rv.length
  exact wpAny_pyNext_tuple_end (I.ok.hd hc) st (show s.heap.IsTuple a its.toArray from p) (by simp;omega) fun h' eb=>⟨rfl,I.turned (t':=s.toks) (fun b o hb e=>eb b o hb e) f0 f1 f3 f4 f5⟩
 self:=fun _ _ _ _ _ st h=>wpAny_pyIter_tupleiter st h
theorem qT {P:Program} {w:World} {K:PySem.W.Frag} {tg:Expr} (it:Addr) (lo:Int) (n:Nat):oK P w K tg (Itr lo n) [it] it (fun i h=>IsRangeIter h it (lo+(i:Nat) * 1) ((n:Int) - (i:Nat)) 1) where
 mem:=by simp
 obj:=fun i h st b hb=>by
  have e:b=it:=by simpa using hb
  subst e
  exact ⟨_,st,fun v z=>by
   have z':Data.fields _=Data.cell v:=z
   cases z'⟩
 keep:=fun i h h' st k=>k it (by simp) _ st
 item:=by
  intro X hP hw hK hc i pins s σ H E I hf st hg
  subst hP hw hK
  obtain ⟨f0,f1,f2,f3,f4,f5⟩:=hf it (by simp)
  have W:=Walks.range (prog:=X.prog) (w:=X.w) (I.ok.hd hc) it lo 1 n
  refine W.item i s _ _ hg st fun v h' tk hv st' kk=>?_
  obtain ⟨t,rfl⟩:=hv
  have I1:Inv X pins σ H { s with heap:=h',toks:=tk }:=I.turned (fun b o hb e=>kk b o (by simpa using hb) e) f0 f1 f3 f4 f5
  refine ⟨_,rfl,rQ (s:={ s with heap:=h',toks:=tk }) (n:= "range_iterator") st' rfl rfl (by decide) ⟨.int (lo+i),H,I1,⟨t,?_⟩,⟨rfl,rfl⟩,st',fun b hb=>(hf b hb).1⟩⟩
  rw [Int.mul_one]
 done:=by
  intro X hP hw hK hc i pins s σ H E I hf st hg
  subst hP hw hK
  obtain ⟨f0,f1,f2,f3,f4,f5⟩:=hf it (by simp)
  exact wpAny_pyNext_range_end (I.ok.hd hc) st (by have:n<=i:=hg;omega) fun h' eb=>⟨rfl,I.turned (t':=s.toks) (fun b o hb e=>eb b o hb e) f0 f1 f3 f4 f5⟩
 self:=fun _ _ _ _ _ st h=>wpAny_pyIter_rangeiter st h
end L2
namespace L2
open PySem PySem.Spec PyProof.Rows
section
variable {X:Cx} {tg:Expr}
def yY (K:PySem.W.Frag) (tl:TE):TI:=fun σ H R=>tl σ H fun x H1=>∃ a,x = .ref a/\(∃ xs,SqL K H1 a xs)/\R (Itl K a) H1
def DA (K:PySem.W.Frag) (tl:TE):TI:=fun σ H R=>tl σ H fun x H1=>∃ a,x = .ref a/\(∃ xs,SqT K H1 a xs)/\R (Itt K a) H1
theorem c5 {l:Expr} {tl:TE} (hl:PE X l tl):PI X tg l (yY X.K tl):=by
 intro pins s σ H R I h
 refine thn (hl pins s σ H _ I h) fun v s1 ⟨x,H1,I1,r1,q1⟩=>?_
 obtain ⟨a,e,⟨xs,hq⟩,q⟩:=q1
 subst e
 cases r1
 obtain ⟨its,rv,p,hz⟩:=I1.list hq
 refine wpAny_pyIter_list p.isList ?_
 refine ⟨s1.heap.objs.size,[s1.heap.objs.size],_,_,H1,rfl,I1.kept (t':=s1.toks) fun b o e=>Heap.get?_push_of_some _ e,t9 a _,⟨_,Heap.get?_push_size _ rfl,rfl,rfl⟩,fun b hb=>?_,q⟩
 have e:b=s1.heap.objs.size:=by simpa using hb
 subst e
 exact I1.fpOk (Nat.le_refl _) (I1.hok.fresh (Nat.le_refl _))
theorem vR {l:Expr} {tl:TE} (hl:PE X l tl):PI X tg l (DA X.K tl):=by
 intro pins s σ H R I h
 refine thn (hl pins s σ H _ I h) fun v s1 ⟨x,H1,I1,r1,q1⟩=>?_
 obtain ⟨a,e,⟨xs,hq⟩,q⟩:=q1
 subst e
 cases r1
 obtain ⟨its,rv,p,hz⟩:=I1.tuple hq
 refine wpAny_pyIter_tuple (show s1.heap.IsTuple a its.toArray from p) ?_
 refine ⟨s1.heap.objs.size,[s1.heap.objs.size],_,_,H1,rfl,I1.kept (t':=s1.toks) fun b o e=>Heap.get?_push_of_some _ e,qR a _,⟨_,Heap.get?_push_size _ rfl,rfl,rfl⟩,fun b hb=>?_,q⟩
 have e:b=s1.heap.objs.size:=by simpa using hb
 subst e
 exact I1.fpOk (Nat.le_refl _) (I1.hok.fresh (Nat.le_refl _))
theorem pW {pins:List (Addr×Obj)} {σ:St} {H:Hp} {s:Shared} {R:It->Hp->Prop} {E:Value->Shared->Prop} {lo hi:Int} {t u v:Tok} {tk:Nat} (I:Inv X pins σ H s) (h1:-(2 ^ 62)<=lo) (h2:lo < 2 ^ 62) (h3:-(2 ^ 62)<=hi) (h4:hi < 2 ^ 62)
  (q:R (Itr lo (hi - lo).toNat) H):wpAny (model X.prog X.w) X.A (pyIter (.ref s.heap.objs.size)) (PIE X pins σ tg R) E { s with heap:=s.heap.push { cls:= .type "range",data:= .fields #[.int lo t,.int hi u,.int 1 v] },toks:=tk }:=by
 refine wpAny_pyIter_range (IsRange.new ..) (small_one h1 h2 h3 h4) ?_
 have I1:Inv X pins σ H { s with heap:=s.heap.push { cls:= .type "range",data:= .fields #[.int lo t,.int hi u,.int 1 v] },toks:=tk }:=I.kept fun b o e=>Heap.get?_push_of_some _ e
 refine ⟨(s.heap.push { cls:= .type "range",data:= .fields #[.int lo t,.int hi u,.int 1 v] }).objs.size,[(s.heap.push { cls:= .type "range",data:= .fields #[.int lo t,.int hi u,.int 1 v] }).objs.size],_,_,H,rfl,
  I1.kept (t':=tk) fun b o e=>Heap.get?_push_of_some _ e,qT _ lo (hi - lo).toNat,?_,fun b hb=>?_,q⟩
 ·have e1:lo+((0:Nat):Int) * 1=lo:=by simp
  have e2:(((hi - lo).toNat:Nat):Int) - ((0:Nat):Int)=Builtin.Range.rangeSize lo hi 1:=by rw [rangeSize_one];split <;> omega
  show IsRangeIter _ _ (lo+((0:Nat):Int) * 1) ((((hi - lo).toNat:Nat):Int) - ((0:Nat):Int)) 1
  rw [e1,e2]
  exact Heap.get?_push_size _ rfl
 ·have e:b=(s.heap.push { cls:= .type "range",data:= .fields #[.int lo t,.int hi u,.int 1 v] }).objs.size:=by simpa using hb
  subst e
  exact I1.fpOk (Nat.le_refl _) (I1.hok.fresh (Nat.le_refl _))
def Cp (ta:TA):TI:=fun σ H R=>ta σ H fun vs H1=>∃ j:Int,vs=[.int j]/\ -(2 ^ 62)<=j/\j < 2 ^ 62/\R (Itr 0 j.toNat) H1
def BT (ta:TA):TI:=fun σ H R=>ta σ H fun vs H1=>∃ i j:Int,vs=[.int i,.int j]/\(-(2 ^ 62)<=i/\i < 2 ^ 62/\ -(2 ^ 62)<=j/\j < 2 ^ 62)/\R (Itr i (j - i).toNat) H1
theorem dQ {a:Expr} {ta:TA} {p pos:Pos} (hg:Gl X "range") (hm:X.mg "range" = none) (ha:PA X [a] ta) (hs:starEach [a] X.env=[(false,eval a X.env)]:=by rfl):PI X tg (.Call (.Name "range" p) [a] [] pos) (Cp ta):=by
 intro pins s σ H R I h
 refine Call_ (gn I hg hm boot_range (PyProof.Rows.callWith_type1 (thn (ha pos pins s σ H _ I h) fun us s1 ⟨vs,H1,I1,r1,q1⟩=>?_) hs rfl))
 obtain ⟨j,e,q1,q2,q⟩:=q1
 subst e
 cases r1 with
 | cons r rr=>
  cases rr
  obtain ⟨t,rfl⟩:=r
  exact call_range_1 (pW I1 (by omega) (by omega) q1 q2 (by simpa using q))
theorem tE {a b:Expr} {ta:TA} {p pos:Pos} (hg:Gl X "range") (hm:X.mg "range" = none) (ha:PA X [a,b] ta) (hs:starEach [a,b] X.env=[(false,eval a X.env),(false,eval b X.env)]:=by rfl) (hs2:starEach [b] X.env=[(false,eval b X.env)]:=by rfl) :
  PI X tg (.Call (.Name "range" p) [a,b] [] pos) (BT ta):=by
 intro pins s σ H R I h
 refine Call_ (gn I hg hm boot_range (PyProof.Rows.callWith_type1 (thn (ha pos pins s σ H _ I h) fun us s1 ⟨vs,H1,I1,r1,q1⟩=>?_) (by rw [hs,hs2]) (by rw [hs2];rfl)))
 obtain ⟨i,j,e,⟨q1,q2,q3,q4⟩,q⟩:=q1
 subst e
 cases r1 with
 | cons r rr=>
  cases rr with
  | cons r' rr=>
   cases rr
   obtain ⟨t,rfl⟩:=r
   obtain ⟨t',rfl⟩:=r'
   exact call_range_2 (pW I1 q1 q2 q3 q4 q)
def Dt (wi:TI) (g:TG) (tb:TS):TS:=fun D σ H=>wi σ H fun J H1=>∃ W:Nat->Nat->St->Hp->Prop,(∃ m,W 0 m σ H1)/\∀ i m σ H,W i m σ H->
 (J.stop i H/\D.nx σ H)\/(J.go i H/\∃ N:St->Hp->Prop,(∀ σ' H',N σ' H'->∃ m',m' < m/\W (i+1) m' σ' H')/\∀ x H',J.yld i H x H'->g x σ H' fun σ2 H2=>tb { D with nx:=N,ct:=N,bk:=D.nx } σ2 H2)
def lz (fp:List Addr) (h:Heap):List (Addr×Obj):=fp.filterMap fun b=>(h.get? b).map fun o=>(b,o)
theorem iN {fp:List Addr} {h:Heap} {b:Addr} {o:Obj} (hb:b∈fp) (e:h.get? b=some o):(b,o)∈lz fp h:=List.mem_filterMap.mpr ⟨b,hb,by rw [e];rfl⟩
theorem ug {fp:List Addr} {h:Heap} {p:Addr×Obj} (hp:p∈lz fp h):p.1∈fp/\h.get? p.1=some p.2:=by
 obtain ⟨b,hb,e⟩:=List.mem_filterMap.mp hp
 cases q:h.get? b with
 | none=>rw [q] at e;cases e
 | some o=>
  rw [q] at e
  have e':(b,o)=p:=Option.some.inj e
  subst e'
  exact ⟨hb,q⟩
theorem Inv.pinned {pins:List (Addr×Obj)} {σ:St} {H:Hp} {s:Shared} {fp:List Addr} (I:Inv X pins σ H s) (hf:∀ b∈fp,fT X pins H b) (ho:∀ b∈fp,∃ o,s.heap.get? b=some o/\∀ v,o.data≠ .cell v):Inv X (pins++lz fp s.heap) σ H s:=
 I.pins_of fun p hp=>(List.mem_append.mp hp).elim (fun z=>I.pin p (List.mem_append_right _ z)) fun z=>by
  obtain ⟨hb,e⟩:=ug z
  obtain ⟨f0,f1,f2,_⟩:=hf p.1 hb
  obtain ⟨o,e',d⟩:=ho p.1 hb
  rw [e] at e';cases e'
  exact ⟨e,f0,f1,f2,d⟩
theorem Inv.unpinned {pins pl:List (Addr×Obj)} {σ:St} {H:Hp} {s:Shared} (I:Inv X (pins++pl) σ H s):Inv X pins σ H s:=I.pins_of fun p hp=>I.pin p (List.mem_append_right _ (List.mem_append_left _ hp))
theorem eZ {iter:Expr} {body:List Stmt} {wi:TI} {g:TG} {tb:TS} {pos:Pos} (hp:PassesOwn (model X.prog X.w) X.A X.env X.xe) (hc:X.calm=true) (hi:PI X tg iter wi) (hg:PG X tg g) (hb:PSs X body tb)
  (hs:∀ x,foldedSetIterable iter X.env x=pure x:=by intro _;rfl):PS X (.For tg iter body [] pos) (Dt wi g tb):=by
 intro pins s σ H D I h
 refine wpAny_For (thn (hi pins s σ H _ I h) fun v s1 h1=>thn h1 fun itv s2 h2=>?_) hs
 obtain ⟨it,fp,tn,J,H2,e,I2,T,st2,f2,W,⟨m0,w0⟩,turn⟩:=h2
 subst e
 have stat:∀ {H':Hp},(∀ b∈fp,H' b=none)->∀ b∈fp,fT X pins H' b:=fun hn b hb=>⟨hn b hb,(f2 b hb).2⟩
 refine codeAny_forLoop_any (fun n s'=>∃ i σ' H',Inv X pins σ' H' s'/\tn i s'.heap/\(∀ b∈fp,H' b=none)/\W i n σ' H') ?_ m0 ⟨0,σ,H2,I2,st2,fun b hb=>(f2 b hb).1,w0⟩
 rintro n s3 ⟨i,σ3,H3,I3,st3,fr3,w3⟩
 rcases turn i n σ3 H3 w3 with ⟨stop,qn⟩ | ⟨go,N,hN,step⟩
 ·refine wpAny_passesOwn hp (thn (T.done X rfl rfl rfl hc i pins s3 σ3 H3 X.xe I3 (stat fr3) st3 stop) fun r s4 ⟨hr,I4⟩=>?_)
  subst hr
  exact wpAny_execs_nil ⟨σ3,H3,I4,qn⟩
 ·refine wpAny_passesOwn hp (thn (T.item X rfl rfl rfl hc i pins s3 σ3 H3 X.xe I3 (stat fr3) st3 go) fun r s4 ⟨u,hr,h4⟩=>?_)
  subst hr
  refine wpAny_passesOwn hp (thn h4 fun _ s5 ⟨x,H5,I5,r5,y5,st5,fr5⟩=>?_)
  have I5':=I5.pinned (stat fr5) (T.obj _ _ st5)
  refine wpAny_passesOwn hp (thn (hg _ s5 σ3 H5 x u _ I5' r5 (step x H5 y5)) fun _ s6 ⟨σ6,H6,I6,q6⟩=>?_)
  refine wpAny_passesOwn hp (thn (hb _ s6 σ6 H6 _ I6 q6) fun f s7 q7=>?_)
  have again:∀ {σ7:St} {H7:Hp},Inv X (pins++lz fp s5.heap) σ7 H7 s7->N σ7 H7->∃ m,m < n/\∃ i σ' H',Inv X pins σ' H' s7/\tn i s7.heap/\(∀ b∈fp,H' b=none)/\W i m σ' H':=fun {σ7 H7} I7 n7=>by
   obtain ⟨m',hm,w7⟩:=hN σ7 H7 n7
   refine ⟨m',hm,i+1,σ7,H7,I7.unpinned,T.keep _ _ _ st5 fun b hb o e=>(I7.pin (b,o) (List.mem_append_right _ (List.mem_append_right _ (iN hb e)))).1,fun b hb=>?_,w7⟩
   obtain ⟨o,e,d⟩:=T.obj _ _ st5 b hb
   exact (I7.pin (b,o) (List.mem_append_right _ (List.mem_append_right _ (iN hb e)))).2.1
  cases f with
  | next=>obtain ⟨σ7,H7,I7,n7⟩:=q7;exact again I7 n7
  | cont=>obtain ⟨σ7,H7,I7,n7⟩:=q7;exact again I7 n7
  | brk=>obtain ⟨σ7,H7,I7,q7⟩:=q7;exact ⟨σ7,H7,I7.unpinned,q7⟩
  | ret v=>obtain ⟨x7,σ7,H7,I7,r7,q7⟩:=q7;exact ⟨x7,σ7,H7,I7.unpinned,r7,q7⟩
end
theorem kC {K:PySem.W.Frag} {a:Addr} {xs:List V} {g:TG} {tb:TS} {D:lV} {σ:St} {H:Hp} (Pv:Nat->St->Hp->Prop) (h0:Pv 0 σ H) (hl:∀ i σ H,i<=xs.length->Pv i σ H->SqL K H a xs)
  (hs:∀ i x σ H,xs[i]?=some x->Pv i σ H->g x σ H fun σ2 H2=>tb { D with nx:=Pv (i+1),ct:=Pv (i+1),bk:=D.nx } σ2 H2) (hd:∀ σ H,Pv xs.length σ H->D.nx σ H) :
  ∃ W:Nat->Nat->St->Hp->Prop,(∃ m,W 0 m σ H)/\∀ i m σ H,W i m σ H->
   ((Itl K a).stop i H/\D.nx σ H)\/((Itl K a).go i H/\∃ N:St->Hp->Prop,(∀ σ' H',N σ' H'->∃ m',m' < m/\W (i+1) m' σ' H')/\∀ x H',(Itl K a).yld i H x H'->g x σ H' fun σ2 H2=>tb { D with nx:=N,ct:=N,bk:=D.nx } σ2 H2):=by
 refine ⟨fun i m σ H=>m=xs.length - i/\i<=xs.length/\Pv i σ H,⟨xs.length,by simp,Nat.zero_le _,h0⟩,?_⟩
 rintro i m σ H ⟨rfl,hi,p⟩
 have q:=hl i σ H hi p
 by_cases hlt:i < xs.length
 ·refine .inr ⟨⟨xs,xs[i],q,by simp [hlt]⟩,Pv (i+1),fun σ' H' p'=>⟨xs.length - (i+1),by omega,rfl,hlt,p'⟩,fun x H' y=>?_⟩
  obtain ⟨e,y⟩:=y
  subst e
  exact hs i x σ _ (y xs q) p
 ·have e:i=xs.length:=by omega
  subst e
  exact .inl ⟨⟨xs,q,Nat.le_refl _⟩,hd σ H p⟩
theorem yt {K:PySem.W.Frag} {a:Addr} {xs:List V} {g:TG} {tb:TS} {D:lV} {σ:St} {H:Hp} (Pv:Nat->St->Hp->Prop) (h0:Pv 0 σ H) (hl:∀ i σ H,i<=xs.length->Pv i σ H->SqT K H a xs)
  (hs:∀ i x σ H,xs[i]?=some x->Pv i σ H->g x σ H fun σ2 H2=>tb { D with nx:=Pv (i+1),ct:=Pv (i+1),bk:=D.nx } σ2 H2) (hd:∀ σ H,Pv xs.length σ H->D.nx σ H) :
  ∃ W:Nat->Nat->St->Hp->Prop,(∃ m,W 0 m σ H)/\∀ i m σ H,W i m σ H->
   ((Itt K a).stop i H/\D.nx σ H)\/((Itt K a).go i H/\∃ N:St->Hp->Prop,(∀ σ' H',N σ' H'->∃ m',m' < m/\W (i+1) m' σ' H')/\∀ x H',(Itt K a).yld i H x H'->g x σ H' fun σ2 H2=>tb { D with nx:=N,ct:=N,bk:=D.nx } σ2 H2):=by
 refine ⟨fun i m σ H=>m=xs.length - i/\i<=xs.length/\Pv i σ H,⟨xs.length,by simp,Nat.zero_le _,h0⟩,?_⟩
 rintro i m σ H ⟨rfl,hi,p⟩
 have q:=hl i σ H hi p
 by_cases hlt:i < xs.length
 ·refine .inr ⟨⟨xs,xs[i],q,by simp [hlt]⟩,Pv (i+1),fun σ' H' p'=>⟨xs.length - (i+1),by omega,rfl,hlt,p'⟩,fun x H' y=>?_⟩
  obtain ⟨e,y⟩:=y
  subst e
  exact hs i x σ _ (y xs q) p
 ·have e:i=xs.length:=by omega
  subst e
  exact .inl ⟨⟨xs,q,Nat.le_refl _⟩,hd σ H p⟩
theorem AZ {lo:Int} {n:Nat} {g:TG} {tb:TS} {D:lV} {σ:St} {H:Hp} (Pv:Nat->St->Hp->Prop) (h0:Pv 0 σ H)
  (hs:∀ i σ H,i < n->Pv i σ H->g (.int (lo+i)) σ H fun σ2 H2=>tb { D with nx:=Pv (i+1),ct:=Pv (i+1),bk:=D.nx } σ2 H2) (hd:∀ σ H,Pv n σ H->D.nx σ H) :
  ∃ W:Nat->Nat->St->Hp->Prop,(∃ m,W 0 m σ H)/\∀ i m σ H,W i m σ H->
   ((Itr lo n).stop i H/\D.nx σ H)\/((Itr lo n).go i H/\∃ N:St->Hp->Prop,(∀ σ' H',N σ' H'->∃ m',m' < m/\W (i+1) m' σ' H')/\∀ x H',(Itr lo n).yld i H x H'->g x σ H' fun σ2 H2=>tb { D with nx:=N,ct:=N,bk:=D.nx } σ2 H2):=by
 refine ⟨fun i m σ H=>m=n - i/\i<=n/\Pv i σ H,⟨n,by simp,Nat.zero_le _,h0⟩,?_⟩
 rintro i m σ H ⟨rfl,hi,p⟩
 by_cases hlt:i < n
 ·refine .inr ⟨hlt,Pv (i+1),fun σ' H' p'=>⟨n - (i+1),by omega,rfl,hlt,p'⟩,fun x H' y=>?_⟩
  obtain ⟨e,y⟩:=y
  subst e y
  exact hs i σ _ hlt p
 ·have e:i=n:=by omega
  subst e
  exact .inl ⟨Nat.le_refl _,hd σ H p⟩
end L2
namespace L2
open PySem PySem.Spec PyProof.Rows
abbrev R2:=V->V->Hp->VK->Prop
def OpR (X:Cx) (f:Value->Value->Sem Value) (r:R2):Prop:=
 ∀ (pins:List (Addr×Obj)) (s:Shared) (σ:St) (H:Hp) (x y:V) (v u:Value) (Q:VK),Inv X pins σ H s->aW x v->aW y u->r x y H Q->
  wpAny (model X.prog X.w) X.A (f v u) (EP X pins σ Q) X.xe s
def UnR (X:Cx) (f:Value->Sem Value) (r:V->Hp->VK->Prop):Prop:=
 ∀ (pins:List (Addr×Obj)) (s:Shared) (σ:St) (H:Hp) (x:V) (v:Value) (Q:VK),Inv X pins σ H s->aW x v->r x H Q->
  wpAny (model X.prog X.w) X.A (f v) (EP X pins σ Q) X.xe s
def ip (X:Cx) (f:Value) (r:List V->Hp->VK->Prop):Prop:=
 ∀ (pins:List (Addr×Obj)) (s:Shared) (σ:St) (H:Hp) (xs:List V) (us:List Value) (Q:VK),Inv X pins σ H s->aI xs us->r xs H Q->
  wpAny (model X.prog X.w) X.A (call f us) (EP X pins σ Q) X.xe s
def tOp (r:R2) (ta tb:TE):TE:=fun σ H Q=>ta σ H fun x H1=>tb σ H1 fun y H2=>r x y H2 Q
def tUn (r:V->Hp->VK->Prop) (ta:TE):TE:=fun σ H Q=>ta σ H fun x H1=>r x H1 Q
def rI0 (g:Int->Int->V):R2:=fun x y H Q=>∃ i j,x = .int i/\y = .int j/\Q (g i j) H
def rU (g:Int->V):V->Hp->VK->Prop:=fun x H Q=>∃ i,x = .int i/\Q (g i) H
section
variable {X:Cx} {a b c:Expr} {ta tb tc:TE} {pos:Pos}
theorem AO (ha:PE X a ta) (hb:PE X b tb) {pins:List (Addr×Obj)} {s:Shared} {σ:St} {H:Hp} {R:V->V->Hp->Prop} (I:Inv X pins σ H s)
  (h:ta σ H fun x H1=>tb σ H1 fun y H2=>R x y H2) {Q:Value->Shared->Prop} {f:Value->Value->Sem Value}
  (hf:∀ v u s2 x y H2,Inv X pins σ H2 s2->aW x v->aW y u->R x y H2->wpAny (model X.prog X.w) X.A (f v u) Q X.xe s2) :
  wpAny (model X.prog X.w) X.A (eval a X.env) (fun v s₁=>wpAny (model X.prog X.w) X.A (eval b X.env) (fun u s₂=>wpAny (model X.prog X.w) X.A (f v u) Q X.xe s₂) X.xe s₁) X.xe s:=by
 refine thn (ha pins s σ H _ I h) fun v s1 ⟨x,H1,I1,r1,q1⟩=>?_
 refine thn (hb pins s1 σ H1 _ I1 q1) fun u s2 ⟨y,H2,I2,r2,q2⟩=>?_
 exact hf v u s2 x y H2 I2 r1 r2 q2
theorem bZ {op:Operator} {r:R2} (ho:OpR X (binaryOp op) r) (ha:PE X a ta) (hb:PE X b tb):PE X (.BinOp a op b pos) (tOp r ta tb):=by
 intro pins s σ H Q I h
 exact wpAny_BinOp (AO ha hb I h fun v u s2 x y H2 I2 rx ry q=>ho pins s2 σ H2 x y v u Q I2 rx ry q)
theorem ze {op:UnaryOp} {r:V->Hp->VK->Prop} (ho:UnR X (unaryOp op) r) (ha:PE X a ta):PE X (.UnaryOp op a pos) (tUn r ta):=by
 intro pins s σ H Q I h
 exact UnaryOp_ (thn (ha pins s σ H _ I h) fun v s1 ⟨x,H1,I1,r1,q1⟩=>ho pins s1 σ H1 x v Q I1 r1 q1)
theorem Dl {f:Value->Value->Sem Value} {g:Int->Int->Int}
  (rule:∀ (i j:Int) (t u:Tok) (s:Shared) (Q:Value->Shared->Prop) (E:Value->Shared->Prop),Q (.int (g i j) s.toks) { s with toks:=s.toks+1 }->wpAny (model X.prog X.w) X.A (f (.int i t) (.int j u)) Q E s) :
  OpR X f (rI0 fun i j=> .int (g i j)):=by
 intro pins s σ H x y v u Q I rx ry h
 obtain ⟨i,j,rfl,rfl,q⟩:=h
 obtain ⟨t,rfl⟩:=rx
 obtain ⟨t',rfl⟩:=ry
 exact rule i j t t' s _ _ ⟨.int (g i j),H,I.tok _,⟨_,rfl⟩,q⟩
theorem xw {f:Value->Value->Sem Value} {g:Int->Int->Bool}
  (rule:∀ (i j:Int) (t u:Tok) (s:Shared) (Q:Value->Shared->Prop) (E:Value->Shared->Prop),Q (.bool (g i j)) s->wpAny (model X.prog X.w) X.A (f (.int i t) (.int j u)) Q E s) :
  OpR X f (rI0 fun i j=> .bl (g i j)):=by
 intro pins s σ H x y v u Q I rx ry h
 obtain ⟨i,j,rfl,rfl,q⟩:=h
 obtain ⟨t,rfl⟩:=rx
 obtain ⟨t',rfl⟩:=ry
 exact rule i j t t' s _ _ ⟨.bl (g i j),H,I,rfl,q⟩
theorem iL:OpR X (binaryOp .Add) (rI0 fun i j=> .int (i+j)):=Dl fun _ _ _ _ _ _ _ q=>add_int q
theorem kQ:OpR X (binaryOp .Sub) (rI0 fun i j=> .int (i - j)):=Dl fun _ _ _ _ _ _ _ q=>sub_int q
theorem unI {f:Value->Sem Value} {g:Int->Int}
  (rule:∀ (i:Int) (t:Tok) (s:Shared) (Q:Value->Shared->Prop) (E:Value->Shared->Prop),Q (.int (g i) s.toks) { s with toks:=s.toks+1 }->wpAny (model X.prog X.w) X.A (f (.int i t)) Q E s) :
  UnR X f (rU fun i=> .int (g i)):=by
 intro pins s σ H x v Q I rx h
 obtain ⟨i,rfl,q⟩:=h
 obtain ⟨t,rfl⟩:=rx
 exact rule i t s _ _ ⟨.int (g i),H,I.tok _,⟨_,rfl⟩,q⟩
theorem wu:UnR X (unaryOp .USub) (rU fun i=> .int (-i)):=unI fun _ _ _ _ _ q=>neg_int q
end
def Bo:V->V->Bool
 | .non,.non=>true | .non,.int _=>true | .int _,.non=>true | .non,.bl _=>true | .bl _,.non=>true | .non,.str _=>true | .str _,.non=>true
 | .int _,.int _=>true | .bl _,.bl _=>true | .str _,.str _=>true | .byt _,.byt _=>true
 | .int _,.str _=>true | .str _,.int _=>true | .bl _,.str _=>true | .str _,.bl _=>true
 | _,_=>false
def rEq:R2:=fun x y H Q=>Bo x y=true/\Q (.bl (decide (x=y))) H
def rNe:R2:=fun x y H Q=>Bo x y=true/\Q (.bl (!decide (x=y))) H
theorem rY {i j:Int}:decide (V.int i=V.int j)=(i == j):=by
 rw [Bool.eq_iff_iff]
 simp
theorem vP {i j:Bool}:decide (V.bl i=V.bl j)=(i == j):=by
 rw [Bool.eq_iff_iff]
 simp
theorem sy {i j:Str}:decide (V.str i=V.str j)=(i == j):=by
 rw [Bool.eq_iff_iff]
 simp
theorem sk {i j:Array UInt8}:decide (V.byt i=V.byt j)=(i.toList == j.toList):=by
 rw [Bool.eq_iff_iff]
 cases i
 cases j
 simp
section
variable {X:Cx} {a b c:Expr} {ta tb tc:TE} {pos:Pos}
theorem bJ {pins:List (Addr×Obj)} {σ:St} {H:Hp} {s:Shared} {Q:VK} {k k':Bool} (I:Inv X pins σ H s) (q:Q (.bl k) H) (e:k=k'):EP X pins σ Q (.bool k') s:=by
 subst e
 exact ⟨.bl k,H,I,rfl,q⟩
theorem dJ:OpR X (compareOp .Eq) rEq:=by
 intro pins s σ H x y v u Q I rx ry h
 obtain ⟨hs,q⟩:=h
 cases x with
 | non=>
  cases rx
  cases y with
  | non=>cases ry;exact PySem.EqNone.eq_none_none (bJ I q (by simp))
  | bl j=>cases ry;exact PySem.EqNone.eq_none_bool (bJ I q (by simp))
  | int j=>obtain ⟨t',rfl⟩:=ry;exact PySem.EqNone.eq_none_int (bJ I q (by simp))
  | str j=>obtain ⟨t',rfl⟩:=ry;exact PySem.EqNone.eq_none_str (bJ I q (by simp))
  | _=>exact absurd (show false=true from hs) Bool.false_ne_true
 | bl i=>
  cases rx
  cases y with
  | non=>cases ry;exact PySem.EqNone.eq_bool_none (bJ I q (by simp))
  | bl j=>cases ry;exact eq_bool (bJ I q vP)
  | str j=>obtain ⟨t',rfl⟩:=ry;exact PySem.EqMixed.eq_bool_str (bJ I q (by simp))
  | _=>exact absurd (show false=true from hs) Bool.false_ne_true
 | int i=>
  obtain ⟨t,rfl⟩:=rx
  cases y with
  | non=>cases ry;exact PySem.EqNone.eq_int_none (bJ I q (by simp))
  | int j=>obtain ⟨t',rfl⟩:=ry;exact eq_int (bJ I q rY)
  | str j=>obtain ⟨t',rfl⟩:=ry;exact PySem.EqMixed.eq_int_str (bJ I q (by simp))
  | _=>exact absurd (show false=true from hs) Bool.false_ne_true
 | str i=>
  obtain ⟨t,rfl⟩:=rx
  cases y with
  | non=>cases ry;exact PySem.EqNone.eq_str_none (bJ I q (by simp))
  | bl j=>cases ry;exact PySem.EqMixed.eq_str_bool (bJ I q (by simp))
  | int j=>obtain ⟨t',rfl⟩:=ry;exact PySem.EqMixed.eq_str_int (bJ I q (by simp))
  | str j=>obtain ⟨t',rfl⟩:=ry;exact eq_str (bJ I q sy)
  | _=>exact absurd (show false=true from hs) Bool.false_ne_true
 | byt i=>
  obtain ⟨t,rfl⟩:=rx
  cases y with
  | byt j=>obtain ⟨t',rfl⟩:=ry;exact PySem.W.eq_bytes (bJ I q sk)
  | _=>exact absurd (show false=true from hs) Bool.false_ne_true
 | _=>cases y <;> exact absurd (show false=true from hs) Bool.false_ne_true
theorem sL:OpR X (compareOp .NotEq) rNe:=by
 intro pins s σ H x y v u Q I rx ry h
 obtain ⟨hs,q⟩:=h
 cases x with
 | non=>
  cases rx
  cases y with
  | non=>cases ry;exact PySem.EqNone.ne_none_none (bJ I q (by simp))
  | bl j=>cases ry;exact PySem.EqNone.ne_none_bool (bJ I q (by simp))
  | int j=>obtain ⟨t',rfl⟩:=ry;exact PySem.EqNone.ne_none_int (bJ I q (by simp))
  | str j=>obtain ⟨t',rfl⟩:=ry;exact PySem.EqNone.ne_none_str (bJ I q (by simp))
  | _=>exact absurd (show false=true from hs) Bool.false_ne_true
 | bl i=>
  cases rx
  cases y with
  | non=>cases ry;exact PySem.EqNone.ne_bool_none (bJ I q (by simp))
  | bl j=>cases ry;exact ne_bool (bJ I q (congrArg not vP))
  | str j=>obtain ⟨t',rfl⟩:=ry;exact PySem.EqMixed.ne_bool_str (bJ I q (by simp))
  | _=>exact absurd (show false=true from hs) Bool.false_ne_true
 | int i=>
  obtain ⟨t,rfl⟩:=rx
  cases y with
  | non=>cases ry;exact PySem.EqNone.ne_int_none (bJ I q (by simp))
  | int j=>obtain ⟨t',rfl⟩:=ry;exact ne_int (bJ I q (congrArg not rY))
  | str j=>obtain ⟨t',rfl⟩:=ry;exact PySem.EqMixed.ne_int_str (bJ I q (by simp))
  | _=>exact absurd (show false=true from hs) Bool.false_ne_true
 | str i=>
  obtain ⟨t,rfl⟩:=rx
  cases y with
  | non=>cases ry;exact PySem.EqNone.ne_str_none (bJ I q (by simp))
  | bl j=>cases ry;exact PySem.EqMixed.ne_str_bool (bJ I q (by simp))
  | int j=>obtain ⟨t',rfl⟩:=ry;exact PySem.EqMixed.ne_str_int (bJ I q (by simp))
  | str j=>obtain ⟨t',rfl⟩:=ry;exact ne_str (bJ I q (congrArg not sy))
  | _=>exact absurd (show false=true from hs) Bool.false_ne_true
 | byt i=>
  obtain ⟨t,rfl⟩:=rx
  cases y with
  | byt j=>obtain ⟨t',rfl⟩:=ry;exact PySem.W.ne_bytes (bJ I q (congrArg not sk))
  | _=>exact absurd (show false=true from hs) Bool.false_ne_true
 | _=>cases y <;> exact absurd (show false=true from hs) Bool.false_ne_true
theorem y9:OpR X (compareOp .Lt) (rI0 fun i j=> .bl (decide (i < j))):=xw fun _ _ _ _ _ _ _ q=>lt_int q
theorem ll:OpR X (compareOp .LtE) (rI0 fun i j=> .bl (decide (i<=j))):=xw fun _ _ _ _ _ _ _ q=>le_int q
theorem CU:OpR X (compareOp .Gt) (rI0 fun i j=> .bl (decide (j < i))):=xw fun _ _ _ _ _ _ _ q=>gt_int q
theorem yV:OpR X (compareOp .GtE) (rI0 fun i j=> .bl (decide (j<=i))):=xw fun _ _ _ _ _ _ _ q=>ge_int q
theorem oz:OpR X (compareOp .Is) (fun x y H Q=>y = .non/\Q (.bl (decide (x = .non))) H):=by
 intro pins s σ H x y v u Q I rx ry h
 obtain ⟨rfl,q⟩:=h
 cases ry
 refine is_none_gen (bJ I q ?_)
 cases x <;> first
  | (cases rx;rfl)
  | (obtain ⟨t,rfl⟩:=rx;rfl)
theorem xE:OpR X (compareOp .IsNot) (fun x y H Q=>y = .non/\Q (.bl (!decide (x = .non))) H):=by
 intro pins s σ H x y v u Q I rx ry h
 obtain ⟨rfl,q⟩:=h
 cases ry
 refine isnot_none_gen (bJ I q ?_)
 cases x <;> first
  | (cases rx;rfl)
  | (obtain ⟨t,rfl⟩:=rx;rfl)
theorem aX (b:Expr) {op:CmpOp} (h:op≠ .In:=by decide) (h2:op≠ .NotIn:=by decide):behindInMarks op b=false:=by
 have e1:(op == CmpOp.In)=false:=by cases op <;> first | rfl | exact absurd rfl h
 have e2:(op == CmpOp.NotIn)=false:=by cases op <;> first | rfl | exact absurd rfl h2
 cases b <;> simp [behindInMarks,e1,e2]
theorem fI {op:CmpOp} {r:R2} (ho:OpR X (compareOp op) r) (ha:PE X a ta) (hb:PE X b tb) (hm:behindInMarks op b=false):PE X (.Compare a [op] [b] pos) (tOp r ta tb):=by
 intro pins s σ H Q I h
 exact wpAny_Compare1 (AO ha hb I h fun v u s2 x y H2 I2 rx ry q=>ho pins s2 σ H2 x y v u Q I2 rx ry q) hm
def mK (t:TE):TT:=fun σ H Q=>t σ H fun x H'=>∃ k,x = .bl k/\Q k H'
theorem aU {op:CmpOp} {r:R2} (ho:OpR X (compareOp op) r) (ha:PE X a ta) (hb:PE X b tb) (hm:behindInMarks op b=false):PT X (.Compare a [op] [b] pos) (mK (tOp r ta tb)):=by
 intro pins s σ H Q I h
 refine wpAny_isTrue_Compare1 (thn (ha pins s σ H _ I h) fun v s1 ⟨x,H1,I1,r1,q1⟩=>thn (hb pins s1 σ H1 _ I1 q1) fun u s2 ⟨y,H2,I2,r2,q2⟩=>
  thn (ho pins s2 σ H2 x y v u _ I2 r1 r2 q2) fun c s3 ⟨z,H3,I3,r3,k,e,q3⟩=>?_) hm
 subst e
 cases r3
 exact wpAny_truthy_bool ⟨H3,I3,q3⟩
def qz (r r':R2) (ta tb tc:TE):TE:=fun σ H Q=>ta σ H fun x H1=>tb σ H1 fun y H2=>r x y H2 fun z H3=>∃ k,z = .bl k/\
 (if k=true then tc σ H3 fun w' H4=>r' y w' H4 Q else Q (.bl false) H3)
theorem pX {op op':CmpOp} {r r':R2} (ho:OpR X (compareOp op) r) (ho':OpR X (compareOp op') r') (ha:PE X a ta) (hb:PE X b tb) (hc:PE X c tc)
  (hm:lastMarks [op,op'] [b,c]=false:=by with_unfolding_all rfl):PE X (.Compare a [op,op'] [b,c] pos) (qz r r' ta tb tc):=by
 intro pins s σ H Q I h
 refine Compare_chain (thn (ha pins s σ H _ I h) fun v s1 ⟨x,H1,I1,r1,q1⟩=>chain_link (thn (hb pins s1 σ H1 _ I1 q1) fun u s2 ⟨y,H2,I2,r2,q2⟩=>
  thn (ho pins s2 σ H2 x y v u _ I2 r1 r2 q2) fun d s3 ⟨z,H3,I3,r3,k,e,q3⟩=>?_)) hm
 subst e
 cases r3
 refine wpAny_truthy_bool ?_
 cases k with
 | false=>exact ite_ff ⟨.bl false,H3,I3,rfl,q3⟩
 | true=>exact ite_tt (chain_last (thn (hc pins s3 σ H3 _ I3 q3) fun w' s4 ⟨z',H4,I4,r4,q4⟩=>ho' pins s4 σ H4 y z' u w' Q I4 r2 r4 q4))
theorem jE:(sizeLine:Nat) < 2 ^ 63:=by rw [sizeLine_eq];decide
theorem w8 {x:V} {us:List Value} (r:aI [x] us):∃ u,us=[u]/\aW x u:=by
 cases r with
 | cons r1 r2=>cases r2;exact ⟨_,rfl,r1⟩
theorem y8 {x y:V} {us:List Value} (r:aI [x,y] us):∃ u w',us=[u,w']/\aW x u/\aW y w':=by
 cases r with
 | cons r1 r2=>
  cases r2 with
  | cons r3 r4=>cases r4;exact ⟨_,_,rfl,r1,r3⟩
theorem tT (hc:X.calm=true):ip X (.builtin "max") (fun xs H Q=>∃ i j,xs=[.int i,.int j]/\Q (.int (if j > i then j else i)) H):=by
 intro pins s σ H xs us Q I r h
 obtain ⟨i,j,rfl,q⟩:=h
 obtain ⟨u,w',rfl,⟨t,rfl⟩,⟨t',rfl⟩⟩:=y8 r
 refine max_two_ints (I.ok.hd hc) fun h' tk k=>⟨_,H,I.kept k,?_,q⟩
 by_cases hj:j > i
 ·rw [if_pos hj,if_pos hj];exact ⟨_,rfl⟩
 ·rw [if_neg hj,if_neg hj];exact ⟨_,rfl⟩
theorem uk (hc:X.calm=true):ip X (.builtin "min") (fun xs H Q=>∃ i j,xs=[.int i,.int j]/\Q (.int (if j < i then j else i)) H):=by
 intro pins s σ H xs us Q I r h
 obtain ⟨i,j,rfl,q⟩:=h
 obtain ⟨u,w',rfl,⟨t,rfl⟩,⟨t',rfl⟩⟩:=y8 r
 refine min_two_ints (I.ok.hd hc) fun h' tk k=>⟨_,H,I.kept k,?_,q⟩
 by_cases hj:j < i
 ·rw [if_pos hj,if_pos hj];exact ⟨_,rfl⟩
 ·rw [if_neg hj,if_neg hj];exact ⟨_,rfl⟩
end
end L2
namespace L2
open PySem PySem.Spec PyProof.Rows
structure re (h:Heap) (x dx C:Addr) (mA:Str->Option Value):Prop where
 obj:h.get? x=some (PySem.W.instObj C dx)
 ns:h.Ns1 dx mA
 ne:dx≠x
theorem ul {h:Heap} {dx:Addr} {mA:Str->Option Value} (n:h.Ns1 dx mA):∃ od,h.get? dx=some od/\∀ name,PySem.W.lookIn name od=some (mA name):=by
 obtain ⟨o,es,ep,ho,hd,hk,_,hm⟩:=n
 refine ⟨o,ho,fun name=>?_⟩
 have e:=hm name
 unfold nsFind findBy at e
 rw [<- Array.find?_toList] at e
 unfold PySem.W.lookIn
 rw [hd]
 dsimp only
 split
 ·rename_i y q
  rw [q] at e
  exact congrArg some e
 ·rename_i q
  rw [q] at e
  have a:es.toList.any (·.refKey)=false:=by
   rw [List.any_eq_false]
   intro y hy
   obtain ⟨z,t,hkey⟩:=hk y (Array.mem_toList_iff.mp hy)
   simp [DictEntry.refKey,hkey]
  have a':¬ es.toList.any (·.refKey)=true:=by rw [a];exact Bool.false_ne_true
  rw [if_neg a']
  exact congrArg some e
theorem re.look {h:Heap} {x dx C:Addr} {mA:Str->Option Value} (I:re h x dx C mA):∃ od,PySem.W.InstAt h x (PySem.W.instObj C dx) C (some od)/\∀ name,PySem.W.lookIn name od=some (mA name):=
 let ⟨od,ho,hl⟩:=ul I.ns
 ⟨od,⟨I.obj,rfl,rfl,ho⟩,hl⟩
section
variable {prog:Program} {w:World} {A:Around} {E:Value->Shared->Prop} {s:Shared} {K:PySem.W.Frag} {x dx C f:Addr} {mA:Str->Option Value} {name:Str} {v:Value}
theorem yb {expr:Bool} {Q:Value->Shared->Prop} (X:K.In s.heap) (I:re s.heap x dx C mA) (hg:PySem.W.plainGet K C name=true) (hh:PySem.W.hasDictIn K C=true)
  (ha:PySem.W.findIn K (.ref C) name=some none) (hv:mA name=some v) (hv':PySem.W.handedIn v=true) (h:Q v { s with toks:=s.toks+1 }) :
  wpAny (model prog w) A (getAttr (.ref x) name expr) Q E s:=by
 obtain ⟨od,J,hl⟩:=I.look
 exact PySem.W.get_value X J (PySem.W.plainGet_of hg).1 (PySem.W.findObj_own hh ha rfl (by rw [hl,hv])) hv' h
theorem vK {pl:Sem Bool} {Q:Value×List Value->Shared->Prop} (X:K.In s.heap) (I:re s.heap x dx C mA) (hg:PySem.W.plainGet K C name=true)
  (hf:PySem.W.findIn K (.ref C) name=some (some (.ref f))) (ht:PySem.W.isFn K (.ref f)=true) (hv:mA name=none) (h:Q (.ref f,[.ref x]) s) :
  wpAny (model prog w) A (getMethod (.ref x) name pl) Q E s:=by
 obtain ⟨od,J,hl⟩:=I.look
 exact PySem.W.method_fn X J (PySem.W.plainGet_of hg).1 (PySem.W.plainGet_of hg).2 hf (beq_iff_eq.mp ht) (by show (PySem.W.lookIn name od).map (·.isSome)=some false;rw [hl,hv];rfl) h
theorem xT {ns:List Str} {Q:Unit->Shared->Prop} (X:K.In s.heap) (I:re s.heap x dx C mA)
  (hs:PySem.W.findIn K (.ref C) "__setattr__" = some (some (.builtin "object.__setattr__"))) (hp:PySem.W.plainOver K C=true) (ht:PySem.W.takerIn K C name=some none) (hh:PySem.W.hasDictIn K C=true)
  (hw:PySem.Within mA ns) (hsz:ns.length<=sizeLine)
  (h:∀ h',re h' x dx C (fun y=>if y=name then some v else mA y)->Heap.SameBut dx s.heap h'->Q () { s with heap:=h',toks:=s.toks+2 }) :
  wpAny (model prog w) A (setAttr (.ref x) name v) Q E s:=by
 obtain ⟨od,J,hl⟩:=I.look
 refine PySem.W.set_plain X J hs (PySem.W.osa_open (s:={ s with toks:=s.toks+1 }) (r:=none) X J hp ht fun b=>?_)
 obtain ⟨cd,hc,hd'⟩:=PySem.W.any_some hh
 have hx:s.heap.get? x=some ⟨.ref C,some dx,.plain,#[]⟩:=I.obj
 refine wpAny_bind (wpAny_pure (wpAny_bind (wpAny_bind (wpAny_loadPart hx (wpAny_bind (PySem.W.Looks.here (s:={ s with toks:=s.toks+1 }) (PySem.W.looks_clsIn X hc) ?_))))))
 rw [hd']
 refine wpAny_pure (a:=some dx) (wpAny_bind (wpAny_pure (wpAny_bind ?_)))
 refine wpAny_nsSet1 (s:={ s with toks:=s.toks+1 }) I.ns fun h' hn2 hs2=>?_
 obtain ⟨oD,esD,epD,hoD,hdD,hcD⟩:=hn2.count (PySem.Within.cons name v hw)
 refine wpAny_bind (wpAny_lookBehind hoD (by rw [hdD];exact pastItsLine_dict (Nat.le_trans hcD (by rw [List.length_cons];omega))) ?_)
 exact wpAny_pure (h _ ⟨(hs2.2 _ (Ne.symm I.ne)).trans I.obj,hn2,I.ne⟩ hs2)
theorem wB {R:Result->Shared->Prop} {vs:List Value} {kw:List (Str×Value)} (X:K.In s.heap) (hm:PySem.W.makesIn K C=true)
  (hi:PySem.W.findIn K (.ref C) "__init__" = some (some (.ref f))) (hf:PySem.W.typeIn K (.ref f)=some (.type "function"))
  (h:codeAny (model prog w) (A.under (.builtin "type.__call__" ⟨.ref C::vs,kw⟩)) (.call (.ref f) ⟨.ref (s.heap.objs.size+1)::vs,kw⟩) (PySem.W.InitBack (s.heap.objs.size+1) R)
   { s with heap:=(s.heap.push PySem.W.emptyDict).push (PySem.W.instObj C s.heap.objs.size) }) :
  codeAny (model prog w) A (.call (.ref C) ⟨vs,kw⟩) R s:=by
 obtain ⟨hh,g,d,t,os⟩:=s
 exact PySem.W.make_core (PySem.W.makes_of X hm) (PySem.W.looks_findIn X hi) (fun self=>PySem.W.bind_fn X self hf) (.inl rfl) h
end
def bX (f:Str) (v:V):List (Str×V)->List (Str×V)
 | []=>[(f,v)]
 | (g,x)::r=>if g=f then (g,v)::r else (g,x)::bX f v r
theorem jV (f g:Str) (v:V):∀ fs:List (Str×V),(bX f v fs).lookup g=if g=f then some v else fs.lookup g
 | []=>by
  show List.lookup g [(f,v)]=_
  by_cases h:g=f
  ·have hb:(g == f)=true:=beq_iff_eq.mpr h
   simp only [List.lookup,hb,if_pos h]
  ·have hb:(g == f)=false:=beq_eq_false_iff_ne.mpr h
   simp only [List.lookup,hb,if_neg h]
 | (k,x)::r=>by
  have ih:=jV f g v r
  rw [show bX f v ((k,x)::r)=(if k=f then (k,v)::r else (k,x)::bX f v r) from rfl]
  by_cases hk:k=f
  ·rw [if_pos hk]
   by_cases h:g=k
   ·have hb:(g == k)=true:=beq_iff_eq.mpr h
    simp only [List.lookup,hb,if_pos (h.trans hk)]
   ·have hb:(g == k)=false:=beq_eq_false_iff_ne.mpr h
    simp only [List.lookup,hb,if_neg (fun e:g=f=>h (e.trans hk.symm))]
  ·rw [if_neg hk]
   by_cases h:g=k
   ·have hb:(g == k)=true:=beq_iff_eq.mpr h
    simp only [List.lookup,hb,if_neg (fun e:g=f=>hk (h.symm.trans e))]
   ·have hb:(g == k)=false:=beq_eq_false_iff_ne.mpr h
    simp only [List.lookup,hb]
    exact ih
theorem jw (f:Str) (v:V):∀ fs:List (Str×V),f∈(bX f v fs).map (·.1)/\∀ g,g∈fs.map (·.1)->g∈(bX f v fs).map (·.1)
 | []=>⟨by simp [bX],fun g h=>by simp at h⟩
 | (k,x)::r=>by
  obtain ⟨i1,i2⟩:=jw f v r
  rw [show bX f v ((k,x)::r)=(if k=f then (k,v)::r else (k,x)::bX f v r) from rfl]
  by_cases hk:k=f
  ·rw [if_pos hk]
   subst hk
   exact ⟨by simp,fun g h=>by simpa using h⟩
  ·rw [if_neg hk]
   refine ⟨?_,fun g h=>?_⟩
   ·rw [List.map_cons]
    exact List.mem_cons_of_mem _ i1
   ·rw [List.map_cons] at h ⊢
    rcases List.mem_cons.mp h with e | e
    ·exact List.mem_cons.mpr (.inl e)
    ·exact List.mem_cons_of_mem _ (i2 g e)
theorem gX (f:Str) (v:V):∀ fs:List (Str×V),(bX f v fs).length<=fs.length+1
 | []=>by simp [bX]
 | (k,x)::r=>by
  have ih:=gX f v r
  rw [show bX f v ((k,x)::r)=(if k=f then (k,v)::r else (k,x)::bX f v r) from rfl]
  by_cases hk:k=f
  ·rw [if_pos hk,List.length_cons,List.length_cons];omega
  ·rw [if_neg hk,List.length_cons,List.length_cons];omega
theorem gt.some_of {v:V} {o:Option Value} (r:gt (some v) o):∃ u,o=some u/\aW v u:=by
 cases o with
 | none=>exact (show False from r).elim
 | some u=>exact ⟨u,rfl,r⟩
theorem gt.none_of {o:Option Value} (r:gt none o):o=none:=by
 cases o with
 | none=>rfl
 | some u=>exact (show False from r).elim
theorem uw {v:V} {u:Value} (r:aW v u):PySem.W.handedIn u=true:=by
 cases v with
 | non=>cases (show u=Value.none from r);rfl
 | bl b=>cases (show u=Value.bool b from r);rfl
 | int i=>obtain ⟨t,e⟩:=(show ∃ t,u=Value.int i t from r);cases e;rfl
 | str x=>obtain ⟨t,e⟩:=(show ∃ t,u=Value.str x t from r);cases e;rfl
 | byt b=>obtain ⟨t,e⟩:=(show ∃ t,u=Value.bytes b t from r);cases e;rfl
 | flt b=>obtain ⟨t,e⟩:=(show ∃ t,u=Value.float b t from r);cases e;rfl
 | ref a=>cases (show u=Value.ref a from r);rfl
 | ty n=>cases (show u=Value.type n from r);rfl
section
variable {P:Program} {w:World} {H H':Hp} {h h':Heap} {a C dx:Addr} {fs fs':List (Str×V)}
theorem oB (hok:HOk P w H h) (e:H a=some (.ins C dx fs)):∃ mA,re h a dx C mA/\(∀ f,gt (fs.lookup f) (mA f))/\PySem.Within mA (fs.map (·.1))/\fs.length<=1000/\H dx=some (.own a):=by
 obtain ⟨d,z,ne,ob,mA,n,r,q⟩:=(show cz P w H h a (.ins C dx fs) from hok a _ e)
 exact ⟨mA,⟨ob,n,ne⟩,r,q,z,d⟩
end
structure Cls (K:PySem.W.Frag) (C:Addr):Prop where
 pg:PySem.W.plainGet K C Str.empty=true
 hd:PySem.W.hasDictIn K C=true
 po:PySem.W.plainOver K C=true
 sa:PySem.W.findIn K (.ref C) "__setattr__" = some (some (.builtin "object.__setattr__"))
theorem Cls.get {K:PySem.W.Frag} {C:Addr} (c:Cls K C) (f:Str):PySem.W.plainGet K C f=true:=c.pg
def cf (K:PySem.W.Frag) (C:Addr) (f:Str):Prop:=PySem.W.findIn K (.ref C) f=some none
theorem cf.taker {K:PySem.W.Frag} {C:Addr} {f:Str} (n:cf K C f):PySem.W.takerIn K C f=some none:=by
 unfold PySem.W.takerIn
 rw [show PySem.W.findIn K (.ref C) f=some none from n]
 rfl
structure jF (K:PySem.W.Frag) (C:Addr) (m:Str) (f:Addr):Prop where
 at_:PySem.W.findIn K (.ref C) m=some (some (.ref f))
 fn:PySem.W.isFn K (.ref f)=true
 kp:PySem.W.keepIn K (.ref f)=true
section
variable {X:Cx} {pins:List (Addr×Obj)} {σ:St} {H:Hp} {s:Shared} {a C dx:Addr} {fs:List (Str×V)} {f:Str} {v:V} {A:Around} {E:Value->Shared->Prop}
theorem lm {b:Bool} {Q:Value->Shared->Prop} (I:Inv X pins σ H s) (e:H a=some (.ins C dx fs)) (c:Cls X.K C) (n:cf X.K C f) (l:fs.lookup f=some v)
  (h:∀ u s',Inv X pins σ H s'->aW v u->Q u s'):wpAny (model X.prog X.w) A (getAttr (.ref a) f b) Q E s:=by
 obtain ⟨mA,O,r,_,_,_⟩:=oB I.hok e
 obtain ⟨u,hu,ru⟩:=gt.some_of (v:=v) (o:=mA f) (by rw [<- l];exact r f)
 exact yb I.kIn O (c.get f) c.hd n hu (uw ru) (h u _ (I.tok _) ru)
theorem iO {m:Str} {g:Addr} {pl:Sem Bool} {Q:Value×List Value->Shared->Prop} (I:Inv X pins σ H s) (e:H a=some (.ins C dx fs)) (c:Cls X.K C) (k:jF X.K C m g) (l:fs.lookup m=none)
  (h:Q (.ref g,[.ref a]) s):wpAny (model X.prog X.w) A (getMethod (.ref a) m pl) Q E s:=by
 obtain ⟨mA,O,r,_,_,_⟩:=oB I.hok e
 have hn:mA m=none:=gt.none_of (by rw [<- l];exact r m)
 exact vK I.kIn O (c.get m) k.at_ k.fn hn h
theorem kJ {y:V} {u:Value} {Q:Unit->Shared->Prop} (I:Inv X pins σ H s) (e:H a=some (.ins C dx fs)) (c:Cls X.K C) (n:cf X.K C f) (hl:fs.length < 1000) (ry:aW y u)
  (h:∀ s',Inv X pins σ (upd H a (.ins C dx (bX f y fs))) s'->Q () s'):wpAny (model X.prog X.w) A (setAttr (.ref a) f u) Q E s:=by
 obtain ⟨mA,O,r,wi,_,ho⟩:=oB I.hok e
 have hz:(fs.map (·.1)).length<=sizeLine:=by rw [List.length_map,sizeLine_eq];omega
 refine xT I.kIn O c.sa c.po n.taker c.hd wi hz fun h' O' sb=>h _ ?_
 have hd:∃ o,h'.get? dx=some o:=let ⟨o,_,_,e',_⟩:=O'.ns;⟨o,e'⟩
 refine I.write (x:=a) (e:=dx) (by rw [e];exact True.intro) (.inr ho) (fun b q hb z=>(sb.2 b hb).trans z) hd ?_
 refine ⟨by rw [ah O.ne];exact ho,?_,O.ne,O'.obj,_,O'.ns,fun g=>?_,fun g hg=>?_⟩
 ·have:=gX f y fs;omega
 ·show gt ((bX f y fs).lookup g) (if g=f then some u else mA g)
  rw [jV]
  by_cases q:g=f
  ·rw [if_pos q,if_pos q];exact ry
  ·rw [if_neg q,if_neg q];exact r g
 ·by_cases q:g=f
  ·rw [q];exact (jw f y fs).1
  ·refine (jw f y fs).2 g (wi g fun z=>hg ?_)
   show (if g=f then some u else mA g)=none
   rw [if_neg q];exact z
theorem Inv.made (I:Inv X pins σ H s):Inv X pins σ (upd (upd H s.heap.objs.size (.own (s.heap.objs.size+1))) (s.heap.objs.size+1) (.ins C s.heap.objs.size []))
  { s with heap:=(s.heap.push PySem.W.emptyDict).push (PySem.W.instObj C s.heap.objs.size) }:=by
 have e1:(s.heap.push PySem.W.emptyDict).get? s.heap.objs.size=some PySem.W.emptyDict:=Heap.get?_push_size s.heap rfl
 have e2:((s.heap.push PySem.W.emptyDict).push (PySem.W.instObj C s.heap.objs.size)).get? (s.heap.objs.size+1)=some (PySem.W.instObj C s.heap.objs.size):=by
  have:=Heap.get?_push_size (s.heap.push PySem.W.emptyDict) (o:=PySem.W.instObj C s.heap.objs.size) rfl
  rwa [Heap.size_push] at this
 have e3:(s.heap.push PySem.W.emptyDict).Ns s.heap.objs.size (fun _=>none):=⟨PySem.W.emptyDict,#[],_,e1,rfl,(fun e he=>absurd he (by simp)),fun _=>rfl⟩
 have I1:=I.laid (a:=s.heap.objs.size) (o:= .own (s.heap.objs.size+1)) (h':=s.heap.push PySem.W.emptyDict) (t':=s.toks) (fun b u q=>Heap.get?_push_of_some _ q) (Nat.le_refl _) ⟨_,e1⟩
 refine I1.laid (a:=s.heap.objs.size+1) (o:= .ins C s.heap.objs.size []) (t':=s.toks) (fun b u q=>Heap.get?_push_of_some _ q) (Nat.le_of_eq (Heap.size_push _ _)) ?_
 have ne:s.heap.objs.size≠s.heap.objs.size+1:=Nat.ne_of_lt (Nat.lt_succ_self _)
 refine ⟨by rw [ah ne,ab],Nat.zero_le _,ne,e2,fun _=>none,(Heap.Ns1.of_empty e3).at fun o q=>Heap.get?_push_of_some _ q,fun _=>True.intro,fun y hy=>absurd rfl hy⟩
theorem xC {prog:Program} {w:World} {env:Env} {e:Expr} {f:Str} {pos:Pos} {s:Shared} {Q:Value->Shared->Prop} (hb:attributeBase e f env (eval e env)=eval e env)
  (h:wpAny (model prog w) A (eval e env) (fun o s₁=>wpAny (model prog w) A (getAttr o f true) Q E s₁) E s):wpAny (model prog w) A (eval (.Attribute e f pos) env) Q E s:=
 Attribute_any_ h (by rw [arm_eval_Attribute,hb])
end
def j9 (K:PySem.W.Frag) (ta:TE) (f:Str):TE:=fun σ H Q=>ta σ H fun x H1=>∃ a C dx fs v,x = .ref a/\H1 a=some (.ins C dx fs)/\Cls K C/\cf K C f/\fs.lookup f=some v/\Q v H1
def D7 (K:PySem.W.Frag) (ta tv:TE) (f:Str):TS:=fun D σ H=>tv σ H fun y H1=>ta σ H1 fun x H2=>∃ a C dx fs,x = .ref a/\H2 a=some (.ins C dx fs)/\Cls K C/\cf K C f/\fs.length < 1000/\
 D.nx σ (upd H2 a (.ins C dx (bX f y fs)))
def Cn (X:Cx) (op:Operator) (rd:V->V->Hp->VK->Prop):Prop:=
 ∀ (pins:List (Addr×Obj)) (s:Shared) (σ:St) (H:Hp) (x y:V) (u v:Value) (Q:VK),Inv X pins σ H s->aW x u->aW y v->rd x y H Q->wpAny (model X.prog X.w) X.A (inplaceOp op u v) (EP X pins σ Q) X.xe s
def xn (K:PySem.W.Frag) (ta tv:TE) (rd:V->V->Hp->VK->Prop) (f:Str):TS:=fun D σ H=>ta σ H fun x H1=>∃ a C dx fs v,x = .ref a/\H1 a=some (.ins C dx fs)/\Cls K C/\cf K C f/\fs.lookup f=some v/\
 tv σ H1 fun y H2=>rd v y H2 fun z H3=>∃ dx' fs',H3 a=some (.ins C dx' fs')/\fs'.length < 1000/\D.nx σ (upd H3 a (.ins C dx' (bX f z fs')))
section
variable {X:Cx} {o e value:Expr} {f:Str} {pos pos' tpos:Pos} {ta tv:TE}
theorem ao (he:PE X e ta) (hb:attributeBase e f X.env (eval e X.env)=eval e X.env):PE X (.Attribute e f pos) (j9 X.K ta f):=by
 intro pins s σ H Q I h
 refine xC hb (thn (he pins s σ H _ I h) fun u s1 ⟨x,H1,I1,rx,a,C,dx,fs,v,ex,ea,c,n,l,q⟩=>?_)
 subst ex
 obtain rfl:u=Value.ref a:=rx
 exact lm I1 ea c n l fun u' s2 I2 ru=>⟨v,H1,I2,ru,q⟩
theorem cI (ha:PE X o ta) (hv:PE X value tv) (hs:swapsWith value (some (.Attribute o f pos')) pos.line X.env=pure false):PS X (.Assign [.Attribute o f pos'] value pos) (D7 X.K ta tv f):=by
 intro pins s σ H D I h
 refine plainObj_wpAny_Assign_Attribute (thn (hv pins s σ H _ I h) fun u s1 ⟨y,H1,I1,ry,q⟩=>thn (ha pins s1 σ H1 _ I1 q) fun ov s2 ⟨x,H2,I2,rx,a,C,dx,fs,ex,ea,c,n,l,q2⟩=>?_) hs
 subst ex
 obtain rfl:ov=Value.ref a:=rx
 exact kJ I2 ea c n l ry fun s3 I3=>⟨σ,_,I3,q2⟩
theorem ur {op:Operator} {rd:V->V->Hp->VK->Prop} (ha:PE X o ta) (hv:PE X value tv) (hop:Cn X op rd):PS X (.AugAssign (.Attribute o f tpos) op value pos) (xn X.K ta tv rd f):=by
 intro pins s σ H D I h
 refine wpAny_AugAssign_AttributeAny (thn (ha pins s σ H _ I h) fun ov s1 ⟨x,H1,I1,rx,a,C,dx,fs,v,ex,ea,c,n,l,q⟩=>?_)
 subst ex
 obtain rfl:ov=Value.ref a:=rx
 refine lm I1 ea c n l fun u s2 I2 ru=>thn (hv pins s2 σ H1 _ I2 q) fun w3 s3 ⟨y,H2,I3,ry,q3⟩=>thn (hop pins s3 σ H2 v y u w3 _ I3 ru ry q3) fun w4 s4 ⟨z,H3,I4,rz,dx',fs',ea',l',q4⟩=>?_
 exact kJ I4 ea' c n l' rz fun s5 I5=>⟨σ,_,I5,q4⟩
def D5:V->V->Hp->VK->Prop:=fun x y H Q=>∃ i j,x = .int i/\y = .int j/\Q (.int (i+j)) H
theorem AM:Cn X .Add D5:=by
 rintro pins s σ H x y u v Q I rx ry ⟨i,j,rfl,rfl,q⟩
 obtain ⟨t,rfl⟩:=(show ∃ t,u=Value.int i t from rx)
 obtain ⟨t',rfl⟩:=(show ∃ t',v=Value.int j t' from ry)
 exact PyProof.Rows.iadd_int ⟨.int (i+j),H,I.tok _,⟨_,rfl⟩,q⟩
theorem zb {pl:Sem Bool} {m:Str} {apos:Pos} {args:List Expr} {pins:List (Addr×Obj)} {s:Shared} {σ:St} {H:Hp} {Q:Value->Shared->Prop} {te:TE} (he:PE X e te) (I:Inv X pins σ H s)
  (h:te σ H fun x H1=>∃ a C dx fs g,x = .ref a/\H1 a=some (.ins C dx fs)/\Cls X.K C/\jF X.K C m g/\fs.lookup m=none/\
   ∀ s1,Inv X pins σ H1 s1->wpAny (model X.prog X.w) X.A (callWith pos (.ref g) [.ref a] (backTo pos (starEach args X.env)) (backToKw pos (keywordEach [] X.env))) Q X.xe s1)
  (ht:eval (.Call (.Attribute e m apos) args [] pos) X.env=(do
   let ov <- eval e X.env
   standAt apos.atName
   let (f,first) <- holding [ov] (getMethod ov m pl)
   callWith pos f first (backTo pos (starEach args X.env)) (backToKw pos (keywordEach [] X.env)))) :
  wpAny (model X.prog X.w) X.A (eval (.Call (.Attribute e m apos) args [] pos) X.env) Q X.xe s:=by
 refine PySem.W.methodCall_KW (pl:=pl) (thn (he pins s σ H _ I h) fun u s1 ⟨x,H1,I1,rx,a,C,dx,fs,g,ex,ea,c,k,l,q⟩=>?_) ht
 subst ex
 obtain rfl:u=Value.ref a:=rx
 exact iO I1 ea c k l (q s1 I1)
end
end L2
namespace L2
open PySem PySem.Spec PyProof.Rows
structure bP (k:Nat) (A:Around):Prop where
 hd:A.handled=none
 dp:A.depth+3 * k+5 < recursionLimit
 un:A.units+16 * k+200 < cLine
theorem bP.mono {j k:Nat} {A:Around} (r:bP k A) (h:j<=k):bP j A:=⟨r.hd,by have:=r.dp;omega,by have:=r.un;omega⟩
theorem bP.deeper {k:Nat} {A:Around} (r:bP (k+1) A) (env:Env):bP k (A.deeper env):=
 ⟨r.hd,by have:=r.dp;show A.depth+1+3 * k+5 < _;omega,by have:=r.un;show A.units+3+16 * k+200 < _;omega⟩
theorem bP.in1 {k:Nat} {A:Around} (r:bP (k+1) A):bP k A.in1:=
 ⟨r.hd,by have:=r.dp;show A.depth+3 * k+5 < _;omega,by have:=r.un;show A.units+1+16 * k+200 < _;omega⟩
theorem qS {A:Around} {C:Addr} {us:List Value} {kw:List (Str×Value)}:(A.under (.builtin "type.__call__" ⟨.ref C::us,kw⟩)).depth=A.depth+1:=by
 first | rfl | simp [Around.under,Code.weight,Code.isCreation,Code.isGuard,Code.isCaller,Code.frames,Code.isFrame,guardIds]
theorem qU {A:Around} {C:Addr} {us:List Value} {kw:List (Str×Value)}:(A.under (.builtin "type.__call__" ⟨.ref C::us,kw⟩)).units=A.units+1:=by
 first | rfl | simp [Around.under,Code.cUnits,Code.frames,Code.isFrame]
theorem bP.make {k:Nat} {A:Around} (r:bP (k+1) A) (C:Addr) (us:List Value) (kw:List (Str×Value)):bP k (A.under (.builtin "type.__call__" ⟨.ref C::us,kw⟩)):=
 ⟨r.hd,by have:=r.dp;rw [qS];omega,by have:=r.un;rw [qU];omega⟩
theorem bP.depth {k:Nat} {A:Around} (r:bP k A):A.depth < recursionLimit:=by have:=r.dp;omega
theorem bP.units {k:Nat} {A:Around} (r:bP k A):A.units+64 < cLine:=by have:=r.un;omega
def cF:TA:=fun _ H Q=>Q [] H
def aY (ta:TE) (tr:TA):TA:=fun σ H Q=>ta σ H fun x H1=>tr σ H1 fun xs H2=>Q (x::xs) H2
section
variable {X:Cx} {e:Expr} {es:List Expr} {te:TE} {t:TA} {pos:Pos}
theorem ad:PA X [] cF:=fun _ _ _ _ H Q I h=>Calls.spliced_nil ⟨[],H,I,.nil,h⟩
theorem aa (ha:PE X e te) (hr:PA X es t) (hs:starEach (e::es) X.env=(false,eval e X.env)::starEach es X.env:=by rfl):PA X (e::es) (aY te t):=by
 intro pos pins s σ H Q I h
 rw [hs]
 show wpAny _ _ (spliced ((false,eval e X.env)::backTo pos (starEach es X.env))) _ _ s
 refine Calls.spliced_cons (thn (ha pins s σ H _ I h) fun u s1 ⟨x,H1,I1,r1,q1⟩=>?_)
 exact thn (hr pos pins s1 σ H1 _ I1 q1) fun us s2 ⟨xs,H2,I2,r2,q2⟩=>⟨x::xs,H2,I2,.cons r1 r2,q2⟩
def yC (t:TA):TE:=fun σ H Q=>t σ H fun xs H1=>xs.length<=sizeLine/\∀ p,H1 p=none->Q (.ref p) (upd H1 p (.tup xs))
def lT (t:TA):TE:=fun σ H Q=>t σ H fun xs H1=>xs.length<=sizeLine/\∀ p,H1 p=none->Q (.ref p) (upd H1 p (.lst xs))
theorem dz {x1} (h:PA X es t):PE X (.Tuple es x1 pos) (yC t):=by
 intro pins s σ H Q I hq
 refine wpAny_Tuple_spliced (thn (h pos pins s σ H _ I hq) fun us s1 ⟨xs,H1,I1,r,z,q⟩=>⟨by rw [<- r.length];exact z,?_⟩)
 have hf:H1 s1.heap.objs.size=none:=I1.hok.fresh (Nat.le_refl _)
 refine ⟨.ref s1.heap.objs.size,upd H1 s1.heap.objs.size (.tup xs),I1.laid (t':=s1.toks) (fun b u e=>Heap.get?_push_of_some _ e) (Nat.le_refl _) ?_,rfl,q _ hf⟩
 exact ⟨z,us,r,⟨_,Heap.get?_push_size _ rfl,rfl,_,rfl⟩⟩
theorem aJ (h:PA X es t):PE X (.List es pos) (lT t):=by
 intro pins s σ H Q I hq
 refine wpAny_List_spliced (thn (h pos pins s σ H _ I hq) fun us s1 ⟨xs,H1,I1,r,z,q⟩=>⟨by rw [<- r.length];exact z,?_⟩)
 have hf:H1 s1.heap.objs.size=none:=I1.hok.fresh (Nat.le_refl _)
 refine ⟨.ref s1.heap.objs.size,upd H1 s1.heap.objs.size (.lst xs),I1.laid (t':=s1.toks) (fun b u e=>Heap.get?_push_of_some _ e) (Nat.le_refl _) ?_,rfl,q _ hf⟩
 exact ⟨z,us,0,r,Heap.get?_push_size _ rfl⟩
end
abbrev Sp:=List V->Hp->VK->XK->Prop
abbrev CXT:=List Env->Hp->Shared->XK->Value->Shared->Prop
structure lW (P:Program) (w:World) (K:PySem.W.Frag) (mg:Str->Option Value) (base:Heap) (A:Around) (outer:List Env) (s:Shared) (H:Hp):Prop where
 frames:A.frames=some outer
 mod:Mod K mg base
 bs:∀ b o,base.get? b=some o->s.heap.get? b=some o/\H b=none
 bsz:base.objs.size<=s.heap.objs.size
 funs:s.heap.FunFrames base outer
 frf:∀ b∈frs outer,H b=none
 hok:HOk P w H s.heap
 bare:AllBare s.gens
def CE (outer:List Env) (P:Program) (w:World) (H:Hp) (s:Shared) (Q:VK) (u:Value) (s':Shared):Prop:=
 ∃ v H',s'.os=s.os/\AllBare s'.gens/\Un (frs outer) [] H H' s.heap s'.heap/\HOk P w H' s'.heap/\aW v u/\Q v H'
def CR (CX:CXT) (outer:List Env) (P:Program) (w:World) (H:Hp) (s:Shared) (Q:VK) (E:XK) (r:Result) (s':Shared):Prop:=
 match r with
 | .ok (.ret u)=>CE outer P w H s Q u s'
 | .ok _=>False
 | .error e=>CX outer H s E e s'
structure az (P:Program) (w:World) (K:PySem.W.Frag) (mg:Str->Option Value) (base:Heap) (CX:CXT) (k:Nat) (f:Addr) (fd:FuncData) (ps:List Str) (sp:Sp):Prop where
 len:∀ vs H Q E,sp vs H Q E->vs.length=ps.length
 run:∀ (A:Around) (outer:List Env) (s:Shared) (H:Hp) (args:Args) (us:List Value) (vs:List V) (Q:VK) (E:XK),bP k A->lW P w K mg base A outer s H->BindsTo s fd args (ps.zip us)->aI vs us->sp vs H Q E->
  codeAny (model P w) A (.call (.ref f) args) (CR CX outer P w H s Q E) s
theorem az.mono {P:Program} {w:World} {K:PySem.W.Frag} {mg:Str->Option Value} {base:Heap} {CX:CXT} {j k:Nat} {f:Addr} {fd:FuncData} {ps:List Str} {sp:Sp} (F:az P w K mg base CX j f fd ps sp) (h:j<=k) :
  az P w K mg base CX k f fd ps sp:=⟨F.len,fun A outer s H args us vs Q E hr=>F.run A outer s H args us vs Q E (hr.mono h)⟩
theorem az.imp {P:Program} {w:World} {K:PySem.W.Frag} {mg:Str->Option Value} {base:Heap} {CX:CXT} {k:Nat} {f:Addr} {fd:FuncData} {ps:List Str} {sp sp':Sp} (F:az P w K mg base CX k f fd ps sp)
  (h:∀ vs H Q E,sp' vs H Q E->sp vs H Q E):az P w K mg base CX k f fd ps sp':=
 ⟨fun vs H Q E q=>F.len vs H Q E (h _ _ _ _ q),fun A outer s H args us vs Q E hr he hb hv hs=>F.run A outer s H args us vs Q E hr he hb hv (h _ _ _ _ hs)⟩
theorem lW.make {P:Program} {w:World} {K:PySem.W.Frag} {mg:Str->Option Value} {base:Heap} {A:Around} {outer:List Env} {s:Shared} {H:Hp} (e:lW P w K mg base A outer s H) (C:Addr) (us:List Value) (kw:List (Str×Value)) :
  lW P w K mg base (A.under (.builtin "type.__call__" ⟨.ref C::us,kw⟩)) outer s H:=⟨by first | exact e.frames | (simpa [Around.under,Code.envs,Code.isFrame,pushEnvs] using e.frames),e.mod,e.bs,e.bsz,e.funs,e.frf,e.hok,e.bare⟩
theorem lW.in1 {P:Program} {w:World} {K:PySem.W.Frag} {mg:Str->Option Value} {base:Heap} {A:Around} {outer:List Env} {s:Shared} {H:Hp} (e:lW P w K mg base A outer s H) :
  lW P w K mg base A.in1 outer s H:=⟨e.frames,e.mod,e.bs,e.bsz,e.funs,e.frf,e.hok,e.bare⟩
section
variable {X:Cx} {pins:List (Addr×Obj)} {σ:St} {H:Hp} {s s':Shared}
theorem Inv.env0 (I:Inv X pins σ H s):lW X.prog X.w X.K X.mg X.base X.A X.stack s H:=
 ⟨I.ok.frames,I.ok.mod,I.bs,Nat.le_trans I.ok.bsz I.sz,I.stack,I.stkFree,I.hok,I.bare⟩
theorem Inv.after {Q:VK} {u:Value} (I:Inv X pins σ H s) (h:CE X.stack X.prog X.w H s Q u s'):EP X pins σ Q u s':=by
 obtain ⟨v,H',os,bare,un,hok,r,q⟩:=h
 obtain ⟨hh,g,d,t,os'⟩:=s'
 obtain rfl:os'=s.os:=os
 exact ⟨v,H',I.call (h':=hh) (g':=g) (d':=d) (t':=t) (ch:=[]) un hok bare (fun b z=>absurd z (by simp)),r,q⟩
end
def fj (sp:Sp) (dvs:List V) (E:XK) (t:TA):TE:=fun σ H Q=>t σ H fun vs H1=>sp (vs++dvs) H1 Q E
def zf (C:Addr) (m:Str) (sp:Sp) (dvs:List V) (E:XK) (ta:TE) (t:TA):TE:=fun σ H Q=>ta σ H fun x H1=>∃ a dx fs,x = .ref a/\H1 a=some (.ins C dx fs)/\fs.lookup m=none/\
 t σ H1 fun vs H2=>sp (x::(vs++dvs)) H2 Q E
def wk (C:Addr) (sp:Sp) (dvs:List V) (E:XK) (t:TA):TE:=fun σ H Q=>t σ H fun vs H1=>∀ x dx,H1 x=none->H1 dx=none->dx≠x->
 sp (.ref x::(vs++dvs)) (upd (upd H1 dx (.own x)) x (.ins C dx [])) (fun v H2=>v = .non/\Q (.ref x) H2) E
def aG (K:PySem.W.Frag) (fd:FuncData) (ps:List Str) (ds:List Value):Prop:=
 ∀ (s:Shared) (us:List Value),K.In s.heap->(us++ds).length=ps.length->BindsTo s fd ⟨us,[]⟩ (ps.zip (us++ds))
theorem aG.all {K:PySem.W.Frag} {fd:FuncData} {ps:List Str} (h:∀ us:List Value,us.length=ps.length->bindArgs fd ⟨us,[]⟩=pure (ps.zip us)):aG K fd ps []:=fun s us _ hl=>by
 rw [List.append_nil] at hl ⊢
 exact .of_eq (h us hl)
def gP (CX:CXT) (X:Cx) (E:XK):Prop:=∀ (pins:List (Addr×Obj)) (σ:St) (H:Hp) (s:Shared) (e:Value) (s':Shared),Inv X pins σ H s->CX X.stack H s E e s'->X.xe e s'
section
variable {X:Cx} {CX:CXT} {k:Nat} {f C:Addr} {fd:FuncData} {ps:List Str} {sp:Sp} {dvs:List V} {ds:List Value} {E:XK} {x m:Str} {p pos apos:Pos} {e o:Expr} {es:List Expr} {ta:TE} {t:TA}
theorem nJ {pins:List (Addr×Obj)} {σ:St} {H:Hp} {s:Shared} {Q:VK} {us:List Value} {vs:List V} (F:az X.prog X.w X.K X.mg X.base CX k f fd ps sp) (hr:bP k X.A) (hb:aG X.K fd ps ds) (hd:aI dvs ds) (hx:gP CX X E)
  (I:Inv X pins σ H s) (r:aI vs us) (h:sp (vs++dvs) H Q E):wpAny (model X.prog X.w) X.A (call (.ref f) us) (EP X pins σ Q) X.xe s:=by
 have r2:aI (vs++dvs) (us++ds):=r.append hd
 have hl:(us++ds).length=ps.length:=by rw [<- r2.length];exact F.len _ _ _ _ h
 refine wpAny_call (codeAny_mono (F.run X.A X.stack s H ⟨us,[]⟩ (us++ds) (vs++dvs) Q E hr I.env0 (hb s us I.kIn hl) r2 h) fun r s' hq=>?_)
 cases r with
 | error e=>exact hx pins σ H s e s' I hq
 | ok fl=>
  cases fl with
  | ret u=>exact I.after hq
  | next=>exact False.elim hq
  | brk=>exact False.elim hq
  | cont=>exact False.elim hq
theorem au (F:az X.prog X.w X.K X.mg X.base CX k f fd ps sp) (hr:bP k X.A) (hg:Gl X x) (hm:X.mg x=some (.ref f)) (hk:PySem.W.keepIn X.K (.ref f)=true) (hb:aG X.K fd ps ds) (hd:aI dvs ds) (hx:gP CX X E)
  (ha:PA X (e::es) t) (hdb:(x == ("__debug__" : Str))=false:=by decide) (he:starEach (e::es) X.env=(false,eval e X.env)::starEach es X.env:=by rfl) (hpl:(backTo pos (starEach es X.env)).any (·.1)=false:=by rfl) :
  PE X (.Call (.Name x p) (e::es) [] pos) (fj sp dvs E t):=by
 intro pins s σ H Q I h
 refine wpAny_Call_Name_kw (jp I hg hm ?_ hdb)
 refine PySem.W.callWith_K (h₀:=X.base) I.ok.mod.kin hk (thn (ha pos pins s σ H _ I h) fun us s1 ⟨vs,H1,I1,r,q⟩=>⟨I1.kIn,?_⟩) he hpl
 exact nJ F hr hb hd hx I1 r q
theorem ot {pl:Sem Bool} (he:PE X o ta) (c:Cls X.K C) (hm:jF X.K C m f) (F:az X.prog X.w X.K X.mg X.base CX k f fd ps sp) (hr:bP k X.A) (hb:aG X.K fd ps ds) (hd:aI dvs ds) (hx:gP CX X E) (ha:PA X (e::es) t)
  (hst:starEach (e::es) X.env=(false,eval e X.env)::starEach es X.env:=by rfl) (hpl:(backTo pos (starEach es X.env)).any (·.1)=false:=by rfl)
  (ht:eval (.Call (.Attribute o m apos) (e::es) [] pos) X.env=(do
   let ov <- eval o X.env
   standAt apos.atName
   let (f,first) <- holding [ov] (getMethod ov m pl)
   callWith pos f first (backTo pos (starEach (e::es) X.env)) (backToKw pos (keywordEach [] X.env))):=by rfl) :
  PE X (.Call (.Attribute o m apos) (e::es) [] pos) (zf C m sp dvs E ta t):=by
 intro pins s σ H Q I h
 refine PySem.W.methodCall_KW (pl:=pl) (thn (he pins s σ H _ I h) fun u s1 ⟨x,H1,I1,rx,a,dx,fs,ex,ea,l,q⟩=>?_) ht
 subst ex
 obtain rfl:u=Value.ref a:=rx
 refine iO I1 ea c hm l ?_
 refine PySem.W.callWith_K (first:=[.ref a]) (h₀:=X.base) I.ok.mod.kin hm.kp (thn (ha pos pins s1 σ H1 _ I1 q) fun us s2 ⟨vs,H2,I2,r,q2⟩=>⟨I2.kIn,?_⟩) hst hpl
 exact nJ (us:= .ref a::us) (vs:= .ref a::vs) F hr hb hd hx I2 (.cons rfl r) q2
theorem gR {pl:Sem Bool} (he:PE X o ta) (c:Cls X.K C) (hm:jF X.K C m f) (F:az X.prog X.w X.K X.mg X.base CX k f fd ps sp) (hr:bP k X.A) (hb:aG X.K fd ps ds) (hd:aI dvs ds) (hx:gP CX X E)
  (ht:eval (.Call (.Attribute o m apos) [] [] pos) X.env=(do
   let ov <- eval o X.env
   standAt apos.atName
   let (f,first) <- holding [ov] (getMethod ov m pl)
   callWith pos f first (backTo pos (starEach [] X.env)) (backToKw pos (keywordEach [] X.env))):=by rfl) :
  PE X (.Call (.Attribute o m apos) [] [] pos) (zf C m sp dvs E ta cF):=by
 intro pins s σ H Q I h
 refine PySem.W.methodCall_KW (pl:=pl) (thn (he pins s σ H _ I h) fun u s1 ⟨x,H1,I1,rx,a,dx,fs,ex,ea,l,q⟩=>?_) ht
 subst ex
 obtain rfl:u=Value.ref a:=rx
 refine iO I1 ea c hm l ?_
 exact PySem.W.callWith_K0 (first:=[.ref a]) I1.kIn hm.kp (nJ (us:=[.ref a]) (vs:=[.ref a]) F hr hb hd hx I1 (.cons rfl .nil) q)
structure Mk (K:PySem.W.Frag) (C f:Addr):Prop where
 makes:PySem.W.makesIn K C=true
 init:PySem.W.findIn K (.ref C) "__init__" = some (some (.ref f))
 fn:PySem.W.isFn K (.ref f)=true
 kp:PySem.W.keepIn K (.ref C)=true
theorem o5 {pins:List (Addr×Obj)} {σ:St} {H:Hp} {s:Shared} {Q:VK} {us:List Value} {vs:List V} (M:Mk X.K C f) (F:az X.prog X.w X.K X.mg X.base CX k f fd ps sp) (hr:bP (k+1) X.A) (hb:aG X.K fd ps ds) (hd:aI dvs ds)
  (hx:gP CX X E) (I:Inv X pins σ H s) (r:aI vs us)
  (h:∀ x dx,H x=none->H dx=none->dx≠x->sp (.ref x::(vs++dvs)) (upd (upd H dx (.own x)) x (.ins C dx [])) (fun v H2=>v = .non/\Q (.ref x) H2) E) :
  wpAny (model X.prog X.w) X.A (call (.ref C) us) (EP X pins σ Q) X.xe s:=by
 have hq:=h (s.heap.objs.size+1) s.heap.objs.size (I.hok.fresh (Nat.le_succ _)) (I.hok.fresh (Nat.le_refl _)) (Nat.ne_of_lt (Nat.lt_succ_self _))
 have I2:=Inv.made (C:=C) I
 have r2:aI (V.ref (s.heap.objs.size+1)::(vs++dvs)) (Value.ref (s.heap.objs.size+1)::(us++ds)):= .cons rfl (r.append hd)
 have hl:(Value.ref (s.heap.objs.size+1)::us++ds).length=ps.length:=by
  have e:=r2.length
  rw [F.len _ _ _ _ hq] at e
  exact e.symm
 refine wpAny_call (wB (f:=f) I.kIn M.makes M.init (beq_iff_eq.mp M.fn) (codeAny_mono (F.run _ X.stack _ _ ⟨Value.ref (s.heap.objs.size+1)::us,[]⟩ (Value.ref (s.heap.objs.size+1)::(us++ds)) _ _ E (hr.make C us [])
  (I2.env0.make C us []) (hb _ (Value.ref (s.heap.objs.size+1)::us) I2.kIn hl) r2 hq) fun r s' hq'=>?_))
 cases r with
 | error e=>exact hx pins σ _ _ e s' I2 hq'
 | ok fl=>
  cases fl with
  | ret u=>
   obtain ⟨v,H',I3,rv,ev,q3⟩:=I2.after hq'
   subst ev
   exact ⟨rv,⟨V.ref (s.heap.objs.size+1),H',I3,rfl,q3⟩⟩
  | next=>exact False.elim hq'
  | brk=>exact False.elim hq'
  | cont=>exact False.elim hq'
theorem nH (M:Mk X.K C f) (F:az X.prog X.w X.K X.mg X.base CX k f fd ps sp) (hr:bP (k+1) X.A) (hg:Gl X x) (hm:X.mg x=some (.ref C)) (hb:aG X.K fd ps ds) (hd:aI dvs ds) (hx:gP CX X E)
  (ha:PA X (e::es) t) (hdb:(x == ("__debug__" : Str))=false:=by decide) (he:starEach (e::es) X.env=(false,eval e X.env)::starEach es X.env:=by rfl) (hpl:(backTo pos (starEach es X.env)).any (·.1)=false:=by rfl) :
  PE X (.Call (.Name x p) (e::es) [] pos) (wk C sp dvs E t):=by
 intro pins s σ H Q I h
 refine wpAny_Call_Name_kw (jp I hg hm ?_ hdb)
 refine PySem.W.callWith_K (h₀:=X.base) I.ok.mod.kin M.kp (thn (ha pos pins s σ H _ I h) fun us s1 ⟨vs,H1,I1,r,q⟩=>⟨I1.kIn,?_⟩) he hpl
 exact o5 M F hr hb hd hx I1 r q
theorem uP (M:Mk X.K C f) (F:az X.prog X.w X.K X.mg X.base CX k f fd ps sp) (hr:bP (k+1) X.A) (hg:Gl X x) (hm:X.mg x=some (.ref C)) (hb:aG X.K fd ps ds) (hd:aI dvs ds) (hx:gP CX X E)
  (hdb:(x == ("__debug__" : Str))=false:=by decide):PE X (.Call (.Name x p) [] [] pos) (wk C sp dvs E cF):=by
 intro pins s σ H Q I h
 refine wpAny_Call_Name_kw (jp I hg hm ?_ hdb)
 exact PySem.W.callWith_K0 I.kIn M.kp (o5 (us:=[]) M F hr hb hd hx I .nil h)
end
structure aq (N P:List Str) (sc:Scope):Prop where
 kind:sc.kind = .function
 co:sc.isCoroutine=false
 gen:sc.isGenerator=false
 nd:N.Nodup
 pre:N.take P.length=P
 par:∀ x∈P,sc.names.lookup x=some .local\/sc.names.lookup x=some .cell
 nofree:∀ y∈sc.names,y.2≠ .free
theorem m9 {kindOf:Str->Option NameKind} {x:Str}:∀ {binds:List (Str×Value)} {m:Str->Option Value},(∀ v,(x,v)∉binds)->bindL kindOf binds m x=m x
 | [],_,_=>rfl
 | (n,v)::r,m,h=>by
  unfold bindL
  rw [m9 fun w hw=>h w (List.mem_cons_of_mem _ hw)]
  split
  ·have:x≠n:=by rintro rfl;exact h v List.mem_cons_self
   simp [this]
  ·rfl
theorem ny {kindOf:Str->Option NameKind} {x:Str}:∀ {binds:List (Str×Value)} {m:Str->Option Value},(∀ v,(x,v)∉binds)->bindC kindOf binds m x=m x
 | [],_,_=>rfl
 | (n,v)::r,m,h=>by
  unfold bindC
  rw [ny fun w hw=>h w (List.mem_cons_of_mem _ hw)]
  split
  ·rfl
  ·have:x≠n:=by rintro rfl;exact h v List.mem_cons_self
   simp [this]
theorem m8 {kindOf:Str->Option NameKind} {x:Str} {v:Value}:∀ {P:List Str} {vs:List Value} {i:Nat} {m:Str->Option Value},P.Nodup->P[i]?=some x->vs[i]?=some v->kindOf x=some .local->
  bindL kindOf (P.zip vs) m x=some v
 | [],_,_,_,_,h,_,_=>by simp at h
 | _::_,[],_,_,_,_,h,_=>by simp at h
 | p::P,w::vs,0,m,nd,h1,h2,hk=>by
  simp at h1 h2;subst h1;subst h2
  show bindL kindOf ((p,w)::P.zip vs) m p=_
  unfold bindL
  rw [m9 fun v hv=>(List.nodup_cons.mp nd).1 (List.of_mem_zip hv).1,if_pos hk]
  simp
 | p::P,w::vs,i+1,m,nd,h1,h2,hk=>by
  show bindL kindOf ((p,w)::P.zip vs) m x=_
  unfold bindL
  exact m8 (i:=i) (List.nodup_cons.mp nd).2 (by simpa using h1) (by simpa using h2) hk
theorem mO {kindOf:Str->Option NameKind} {x:Str} {v:Value}:∀ {P:List Str} {vs:List Value} {i:Nat} {m:Str->Option Value},P.Nodup->P[i]?=some x->vs[i]?=some v->kindOf x≠some .local->
  bindC kindOf (P.zip vs) m x=some v
 | [],_,_,_,_,h,_,_=>by simp at h
 | _::_,[],_,_,_,_,h,_=>by simp at h
 | p::P,w::vs,0,m,nd,h1,h2,hk=>by
  simp at h1 h2;subst h1;subst h2
  show bindC kindOf ((p,w)::P.zip vs) m p=_
  unfold bindC
  rw [ny fun v hv=>(List.nodup_cons.mp nd).1 (List.of_mem_zip hv).1,if_neg hk]
  simp
 | p::P,w::vs,i+1,m,nd,h1,h2,hk=>by
  show bindC kindOf ((p,w)::P.zip vs) m x=_
  unfold bindC
  exact mO (i:=i) (List.nodup_cons.mp nd).2 (by simpa using h1) (by simpa using h2) hk
def start (N:List Str) (vs:List V):St:=vs.map some++List.replicate (N.length - vs.length) none
def ui (CX:CXT) (P:Program) (w:World) (K:PySem.W.Frag) (mg:Str->Option Value) (base:Heap) (N:List Str) (qual:Str) (scope:Scope) (f:Addr) (cd:Value) (A:Around) (outer:List Env) (s:Shared) (H:Hp) (E:XK):Cx where
 prog:=P
 w:=w
 K:=K
 mg:=mg
 base:=base
 A:=A.deeper (envOfC qual scope s.heap.objs.size f cd)
 N:=N
 s_0:=s
 H_0:=H
 env:=envOfC qual scope s.heap.objs.size f cd
 outer:=outer
 stack:=envOfC qual scope s.heap.objs.size f cd::outer
 ex:=[]
 calm:=true
 fn:=fun _=>true
 pn:=[]
 xe:=fun e s'=>wpAny (model P w) (A.deeper (envOfC qual scope s.heap.objs.size f cd)) (leaving (envOfC qual scope s.heap.objs.size f cd) e) (fun _ s''=>CX outer H s E e s'') (fun e' s''=>CX outer H s E e' s'') s'
theorem oP {sc:Scope} {n:Nat} {x:Str} (h:sc.names.lookup x=some .cell):∃ c,(cellsFrom n sc.names []).lookup x=some c:=by
 have q:=PySem.W.cellsFrom_some sc.names n [] (.inl h)
 exact Option.isSome_iff_exists.mp q
theorem jM {CX:CXT} {P:Program} {w:World} {K:PySem.W.Frag} {mg:Str->Option Value} {base:Heap} {N ps:List Str} {qual:Str} {scope:Scope} {f:Addr} {cd:Value} {A:Around} {outer:List Env} {s s1:Shared} {H:Hp} {E:XK} {us:List Value} {vs:List V}
  (S:aq N ps scope) (hd:A.handled=none) (e0:lW P w K mg base A outer s H) (hl:vs.length=ps.length) (r:aI vs us)
  (x:InCallC s s.heap.objs.size (bindL (envOfC qual scope s.heap.objs.size f cd).kindOf (ps.zip us) fun _=>none) (cellsFrom (s.heap.objs.size+1) scope.names []) (bindC (envOfC qual scope s.heap.objs.size f cd).kindOf (ps.zip us) fun _=>none) s1) :
  Inv (ui CX P w K mg base N qual scope f cd A outer s H E) [] (start N vs) H s1:=by
 have hpl:ps.length<=N.length:=by have:=congrArg List.length S.pre;rw [List.length_take] at this;omega
 obtain ⟨h1,tk,rfl,hk⟩:=x.done
 have noA:∀ b:Addr,b∉(ui CX P w K mg base N qual scope f cd A outer s H E).ex:=fun b z=>absurd (show b∈([]:List Addr) from z) (by simp)
 refine ⟨⟨e0.mod,S.kind,rfl,rfl,Nat.le_refl _,fun y z c h1 h2=>?_,fun y hy=>?_,fun y c _ h=>?_,fun _=>hd,Around.frames_deeper e0.frames,.inr ⟨rfl,rfl⟩,fun b z=>absurd z (noA b),e0.bs,e0.bsz,fun b _ _=>noA b,fun b z=>absurd z (noA b),e0.funs,e0.frf⟩,
  rfl,e0.bare,Un.kept hk,⟨_,x.toInCall.ns,fun i y v h1 h2 h3=>?_⟩,fun y c h=>⟨_,x.cell y c h⟩,e0.hok.fresh (Nat.le_refl _),fun y c h=>?_,fun p hp=>absurd (show p∈([]:List (Addr×Obj)) from hp) (by simp),e0.hok.kept hk,?_⟩
 ·exact name_of_addr x.apart (PySem.mem_of_lookup h1) (PySem.mem_of_lookup h2)
 ·have hy:scope.names.lookup y=some .cell\/scope.names.lookup y=some .free:=hy
  rcases hy with hy | hy
  ·exact oP hy
  ·exact absurd rfl (S.nofree _ (PySem.mem_of_lookup hy))
 ·exact Nat.le_of_lt (x.above y c (PySem.mem_of_lookup h))
 ·have hi:i < vs.length:=by
   unfold start at h2
   by_cases hi:i < vs.length
   ·exact hi
   ·rw [List.getElem?_append_right (by simpa using hi)] at h2
    rw [List.getElem?_replicate] at h2
    split at h2 <;> cases h2
  have ha:vs[i]?=some v:=by
   unfold start at h2
   rw [List.getElem?_append_left (by simpa using hi),List.getElem?_map] at h2
   cases e:vs[i]? with
   | none=>rw [e] at h2;cases h2
   | some a=>rw [e] at h2;cases h2;rfl
  obtain ⟨u,hu,rv⟩:=r.get ha
  have hp:ps[i]?=some y:=by
   rw [<- S.pre,List.getElem?_take_of_lt (by omega)];exact h1
  have ndP:ps.Nodup:=by rw [<- S.pre];exact S.nd.sublist (List.take_sublist _ _)
  refine ⟨u,rv,?_⟩
  rcases S.par y (List.mem_of_getElem? hp) with k | k
  ·exact .inl ⟨k,m8 ndP hp hu k⟩
  ·obtain ⟨c,e⟩:=oP (n:=s.heap.objs.size+1) k
   refine .inr ⟨.inl k,c,e,?_⟩
   have q:=x.cell y c e
   rw [mO ndP hp hu (by show scope.names.lookup y≠_;rw [k];decide)] at q
   exact q
 ·exact e0.hok.fresh (Nat.le_of_lt (x.above y c (PySem.mem_of_lookup h)))
 ·unfold start
  show _=N.length
  rw [List.length_append,List.length_map,List.length_replicate]
  omega
theorem CN {CX:CXT} {P:Program} {w:World} {K:PySem.W.Frag} {mg:Str->Option Value} {base:Heap} {k:Nat} {f:Addr} {name qual:Str} {params:Arguments} {body:List Stmt} {scope:Scope} {dV kV doc pm cdv ct oc:Value} {an od:Option Addr}
  {osl:Array (Option Value)} {N ps:List Str} {sp:Sp} (lk:K.lookup f=some ⟨oc,od,.func (PySem.W.fnOf name qual params body scope dV kV doc pm an cdv ct),osl⟩) (hcd:PySem.W.codeIn K cdv qual=true) (S:aq N ps scope)
  (len:∀ vs H Q E,sp vs H Q E->vs.length=ps.length)
  (hbody:∀ (A:Around) (outer:List Env) (s:Shared) (H:Hp) (vs:List V) (Q:VK) (E:XK),bP k (A.deeper (envOfC qual scope s.heap.objs.size f cdv))->sp vs H Q E->
   ∃ t,PSs (ui CX P w K mg base N qual scope f cdv A outer s H E) body t/\t { nx:=fun _ H'=>Q .non H',rt:=Q } (start N vs) H) :
  az P w K mg base CX (k+1) f (PySem.W.fnOf name qual params body scope dV kV doc pm an cdv ct) ps sp:=by
 refine ⟨len,fun A outer s H args us vs Q E hr e0 hb r hsp=>?_⟩
 have hl:=len _ _ _ _ hsp
 have KX:K.In s.heap:=e0.mod.kin.keeps fun b o e=>(e0.bs b o e).1
 have lim:s.heap.NoLimit:=e0.mod.nolimit.keeps fun b o e=>(e0.bs b o e).1
 have hkind:∀ y∈ps.zip us,scope.names.lookup y.1=some .local\/(scope.names.lookup y.1=some .cell/\((cellsFrom (s.heap.objs.size+1) scope.names []).lookup y.1).isSome=true):=fun ⟨n,v⟩ hy=>by
  rcases S.par n (List.of_mem_zip hy).1 with q | q
  ·exact .inl q
  ·exact .inr ⟨q,PySem.W.cellsFrom_some _ _ _ (.inl q)⟩
 refine codeAny_call_function hr.depth (KX _ _ lk) rfl S.co S.gen rfl (PySem.W.codeRec_of KX hcd) (hb _ _ _ _ ?_)
 refine wpAny_newFunctionEnv_cells S.kind hkind fun env he s1 x=>?_
 subst he
 refine ⟨lim.keeps x.toInCall.keep,codeAny_func ?_⟩
 obtain ⟨t,ht,hq⟩:=hbody A outer s H vs Q E (hr.deeper _) hsp
 have I:Inv (ui CX P w K mg base N qual scope f cdv A outer s H E) [] (start N vs) H s1:=jM S hr.hd e0 hl r x
 refine wpAny_mono (ht [] s1 (start N vs) H _ I hq) (fun fl s' hs=>?_) fun e s' hs=>hs
 have fin:∀ {σ':St} {H':Hp} {v:V} {u:Value},Inv (ui CX P w K mg base N qual scope f cdv A outer s H E) [] σ' H' s'->aW v u->Q v H'->CE outer P w H s Q u s':=
  fun {σ' H' v u} J rv q=>⟨v,H',J.os,J.bare,J.base,J.hok,rv,q⟩
 cases fl with
 | ret u=>
  obtain ⟨v,σ',H',J,rv,q⟩:=hs
  exact fin J rv q
 | next=>
  obtain ⟨σ',H',J,q⟩:=hs
  exact fin (v:=V.non) (u:=Value.none) J rfl q
 | brk=>
  obtain ⟨_,_,_,q⟩:=hs
  exact False.elim q
 | cont=>
  obtain ⟨_,_,_,q⟩:=hs
  exact False.elim q
end L2
namespace L2
open PySem PySem.Spec PyProof.Rows
section
variable {X:Cx} {x:Str} {p pos:Pos} {e:Expr} {es:List Expr} {t:TA} {id T:String} {r:List V->Hp->VK->Prop}
def tCB (r:List V->Hp->VK->Prop) (t:TA):TE:=fun σ H Q=>t σ H fun vs H1=>r vs H1 Q
theorem bM (hc:ip X (.builtin id) r) (hg:Gl X x) (hm:X.mg x=none) (hv:bootBuiltins x=some (.builtin id)) (ha:PA X (e::es) t) (hn:x≠ "__name__":=by decide) (hdb:(x == ("__debug__" : Str))=false:=by decide)
  (he:starEach (e::es) X.env=(false,eval e X.env)::starEach es X.env:=by rfl) (hpl:(backTo pos (starEach es X.env)).any (·.1)=false:=by rfl):PE X (.Call (.Name x p) (e::es) [] pos) (tCB r t):=by
 intro pins s σ H Q I h
 refine wpAny_Call_Name_kw (gn I hg hm hv ?_ hn hdb)
 exact PyProof.Rows.callWith_builtin1 (thn (ha pos pins s σ H _ I h) fun us s1 ⟨vs,H1,I1,r1,q1⟩=>hc pins s1 σ H1 vs us Q I1 r1 q1) he hpl
theorem dZ (hc:ip X (.type T) r) (hg:Gl X x) (hm:X.mg x=none) (hv:bootBuiltins x=some (.type T)) (ha:PA X (e::es) t) (hn:x≠ "__name__":=by decide) (hdb:(x == ("__debug__" : Str))=false:=by decide)
  (he:starEach (e::es) X.env=(false,eval e X.env)::starEach es X.env:=by rfl) (hpl:(backTo pos (starEach es X.env)).any (·.1)=false:=by rfl):PE X (.Call (.Name x p) (e::es) [] pos) (tCB r t):=by
 intro pins s σ H Q I h
 refine wpAny_Call_Name_kw (gn I hg hm hv ?_ hn hdb)
 exact PyProof.Rows.callWith_type1 (thn (ha pos pins s σ H _ I h) fun us s1 ⟨vs,H1,I1,r1,q1⟩=>hc pins s1 σ H1 vs us Q I1 r1 q1) he hpl
end
end L2
namespace HT
open PySem PyProof.Rows
section
variable {prog:Program} {w:World} {A:Around} {E:Value->Shared->Prop} {s:Shared}
theorem cat_tup {t b:Addr} {vs ws:List Value} {Q:Value->Shared->Prop} (ht:IsTup s.heap t vs.toArray) (hb:IsTup s.heap b ws.toArray) (hv:vs≠[])
  (h1:ws=[]->Q (.ref t) s) (h2:ws≠[]->Q (.ref s.heap.objs.size) { s with heap:=s.heap.push { cls:= .type "tuple",data:= .seq (vs++ws).toArray } })
  (hsz:vs.length+ws.length<=sizeLine):wpAny (model prog w) A (binaryOp .Add (.ref t) (.ref b)) Q E s:=by
 obtain ⟨⟨cls,dd,data,sl⟩,ho,hc,n,hd⟩:=id ht
 obtain ⟨⟨cls2,dd2,data2,sl2⟩,ho2,hc2,n2,hd2⟩:=id hb
 simp only at hc hd hc2 hd2
 subst hc hd hc2 hd2
 have e:vs.toArray++ws.toArray=(vs++ws).toArray:=by simp
 by_cases hw:ws=[]
 ·exact concat_meets ⟨_,ho,rfl⟩ ⟨_,ho2,rfl⟩ noFill_tuple_add seq_tuple_add PySem.F.slot_tuple_add PySem.F.entry_tuple_add (PySem.F.args_tuple_add_2 _ _)
   (tuple_addW1 t b vs.toArray ws.toArray n n2 dd dd2 sl sl2 (by simpa using hv) (by simp [hw])) ⟨ho,ho2,h1 hw⟩
 ·refine concat_meets ⟨_,ho,rfl⟩ ⟨_,ho2,rfl⟩ noFill_tuple_add seq_tuple_add PySem.F.slot_tuple_add PySem.F.entry_tuple_add (PySem.F.args_tuple_add_2 _ _)
   (tuple_addW2 t b vs.toArray ws.toArray n n2 dd dd2 sl sl2 (by simpa using hv) (by simpa using hw) (by rw [List.size_toArray,List.size_toArray];exact hsz)) ⟨ho,ho2,?_⟩
  rw [e]
  exact h2 hw
def sIx (n d:Nat):Option Int->Nat
 | none=>d
 | some v=>if v < 0 then (v+(n:Int)).toNat else min v.toNat n
theorem sIx_none (n d:Nat):sIx n d none=d:=rfl
theorem sIx_nat (n d k:Nat):sIx n d (some (k:Int))=min k n:=by
 show (if (k:Int) < 0 then ((k:Int)+(n:Int)).toNat else min (k:Int).toNat n)=min k n
 rw [if_neg (by omega),Int.toNat_natCast]
theorem sIx_le (n d:Nat) (hd:d<=n) (o:Option Int):sIx n d o<=n:=by
 cases o with
 | none=>exact hd
 | some v=>
  show (if v < 0 then (v+(n:Int)).toNat else min v.toNat n)<=n
  by_cases hv:v < 0
  ·rw [if_pos hv];omega
  ·rw [if_neg hv];exact Nat.min_le_right _ _
theorem clip_eq (v:Int) (n d:Nat):(if v < 0 then max (v+(n:Int)) 0 else min v (n:Int))=((sIx n d (some v):Nat):Int):=by
 show (if v < 0 then max (v+(n:Int)) 0 else min v (n:Int))=(((if v < 0 then (v+(n:Int)).toNat else min v.toNat n):Nat):Int)
 by_cases hv:v < 0
 ·simp only [if_pos hv];omega
 ·simp only [if_neg hv];omega
theorem adjust_gen (lo hi:Option Int) (n:Nat):Builtin.Slice.sliceAdjust lo hi 1 (n:Int)=(((sIx n 0 lo:Nat):Int),((sIx n n hi:Nat):Int)):=by
 have h1:¬ ((1:Int) < 0):=by omega
 unfold Builtin.Slice.sliceAdjust
 simp only [h1,if_false]
 refine Prod.ext ?_ ?_
 ·cases lo with
  | none=>rfl
  | some v=>exact clip_eq v n 0
 ·cases hi with
  | none=>rfl
  | some v=>exact clip_eq v n n
theorem places_gen (i j:Nat):Builtin.Slice.slicePlaces (i:Int) (j:Int) 1=j - i:=by
 unfold Builtin.Slice.slicePlaces
 have h1:(1:Int) > 0:=by omega
 simp only [h1,if_true,Int.ediv_one]
 split <;> omega
theorem slicePart_ {v:Value} {o:Option Int} {Q:Option Int->Shared->Prop} (p:IsPart v o) (h:Q o s):wpAny (model prog w) A (Builtin.Slice.slicePartIndex v) Q E s:=by
 cases p with
 | none=>exact slicePart_none h
 | int i t=>exact slicePart_int h
theorem sliceApplied_gen {sl:Addr} {vl vu:Value} {lo hi:Option Int} {n:Nat} {Q:Int×Int×Nat->Shared->Prop} (hs:s.heap.IsSliceOf sl vl vu .none) (pl:IsPart vl lo) (pu:IsPart vu hi)
  (h:Q (((sIx n 0 lo:Nat):Int),1,sIx n n hi - sIx n 0 lo) s):wpAny (model prog w) A (Builtin.Slice.sliceApplied (.ref sl) (pure (n:Int))) Q E s:=by
 obtain ⟨os,hos,hcs,hds⟩:=id hs
 unfold Builtin.Slice.sliceApplied Builtin.Slice.sliceFields
 refine wpAny_bind (wpAny_bind (wpAny_field hos hds (x:=vl) rfl (wpAny_bind (wpAny_field hos hds (x:=vu) rfl (wpAny_bind (wpAny_field hos hds (x:= .none) rfl (wpAny_pure ?_)))))))
 refine wpAny_bind (slicePart_none ?_)
 show wpAny _ _ (if ((1:Int) == 0)=true then _ else _) _ _ s
 rw [if_neg (by decide)]
 refine wpAny_bind (slicePart_ pl (wpAny_bind (slicePart_ pu (wpAny_bind (wpAny_pure ?_)))))
 show wpAny _ _ (match Builtin.Slice.sliceAdjust lo hi 1 (n:Int) with | (lo,hi)=>pure (lo,(1:Int),Builtin.Slice.slicePlaces lo hi 1)) _ _ s
 rw [adjust_gen lo hi n]
 show wpAny _ _ (pure (((sIx n 0 lo:Nat):Int),(1:Int),Builtin.Slice.slicePlaces ((sIx n 0 lo:Nat):Int) ((sIx n n hi:Nat):Int) 1)) _ _ s
 rw [places_gen]
 exact wpAny_pure h
theorem pick_gen (xs:Array Value) (i k:Nat):((List.range k).filterMap fun (m:Nat)=>xs[((i:Int)+(m:Int) * 1).toNat]?).toArray=((xs.toList.drop i).take k).toArray:=by
 have e:(fun (m:Nat)=>xs[((i:Int)+(m:Int) * 1).toNat]?)=fun m=>xs[i+m]?:=by
  funext m
  have:((i:Int)+(m:Int) * 1).toNat=i+m:=by omega
  rw [this]
 rw [e]
 have:=pick_run xs i k
 rw [List.filterMap_map] at this
 have e2:((fun x=>xs[x]?) ∘ fun x=>i+x)=fun m=>xs[i+m]?:=rfl
 rw [e2] at this
 rw [this]
theorem getItem_tuple_cut {t sl:Addr} {items:Array Value} {vl vu:Value} {lo hi:Option Int} {Q:Value->Shared->Prop} (ht:IsTup s.heap t items) (hs:s.heap.IsSliceOf sl vl vu .none) (pl:IsPart vl lo) (pu:IsPart vu hi)
  (hw:¬ (sIx items.size 0 lo=0/\sIx items.size items.size hi=items.size))
  (h:Q (.ref s.heap.objs.size) { s with heap:=s.heap.push { cls:= .type "tuple",data:= .seq ((items.toList.drop (sIx items.size 0 lo)).take (sIx items.size items.size hi - sIx items.size 0 lo)).toArray } })
  (hsz:items.size<=sizeLine):wpAny (model prog w) A (getItem (.ref t) (.ref sl)) Q E s:=by
 have htake:sizeOk (.seq ((items.toList.drop (sIx items.size 0 lo)).take (sIx items.size items.size hi - sIx items.size 0 lo)).toArray):=by
  show ((items.toList.drop (sIx items.size 0 lo)).take (sIx items.size items.size hi - sIx items.size 0 lo)).toArray.size<=sizeLine
  rw [List.size_toArray,List.length_take,List.length_drop,Array.length_toList]
  omega
 have hj:sIx items.size items.size hi<=items.size:=sIx_le _ _ (Nat.le_refl _) hi
 obtain ⟨os,hos,hcs,hds⟩:=id hs
 have hTs:s.TypeIs (.ref sl) "slice":=⟨os,hos,hcs⟩
 unfold getItem
 try with_reducible refine wpAny_holding ?_
 first | refine wpAny_bind (wpAny_pure ?_) | skip
 refine wpAny_bind (wpAny_sequenceKey ht.typeIs (by decide) ?_)
 refine wpAny_bind (wpAny_callSpecial?_slot (name:=Str.ofString "__getitem__") ht.typeIs PyProof.Rows.slot_tuple_getitem
  (wpAny_call_entry PyProof.Rows.slot_tuple_getitem ht.typeIs entry_tuple_getitem ?_ (args_tuple_getitem _ _)))
 show wpAny _ _ (Builtin.Tuple.tupleItemsOf (.ref t) >>= _) _ _ s
 refine wpAny_bind (tupleItemsOf_ ht ?_)
 refine wpAny_bind (wpAny_typeOf hTs ?_)
 rw [if_pos (by decide)]
 refine wpAny_bind (sliceApplied_gen hs pl pu ?_)
 have hno:¬ ((((sIx items.size 0 lo:Nat):Int) == 0 && (1:Int) == 1 && (sIx items.size items.size hi - sIx items.size 0 lo) == items.size)=true):=by
  intro q
  rw [Bool.and_eq_true,Bool.and_eq_true] at q
  have q1:((sIx items.size 0 lo:Nat):Int)=0:=eq_of_beq q.1.1
  have q2:sIx items.size items.size hi - sIx items.size 0 lo=items.size:=eq_of_beq q.2
  exact hw ⟨by omega,by omega⟩
 show wpAny _ _ (if (((sIx items.size 0 lo:Nat):Int) == 0 && (1:Int) == 1 && (sIx items.size items.size hi - sIx items.size 0 lo) == items.size)=true then _ else _) _ _ s
 rw [if_neg hno,pick_gen]
 first
  | exact wpAny_bind (m:=Builtin.Tuple.tupleExact _) (wpAny_newObj_type (wpAny_pure ⟨_,rfl,wpAny_pure h⟩) htake)
  | exact wpAny_bind (m:=Builtin.Tuple.tupleExact _) (wpAny_newObj_type (wpAny_bind (wpAny_pure (wpAny_pure ⟨_,rfl,wpAny_pure h⟩))) htake)
  | exact wpAny_bind (wpAny_bind (m:=Builtin.Tuple.tupleExact _) (wpAny_newObj_type (wpAny_pure (wpAny_pure ⟨_,rfl,wpAny_pure h⟩)) htake))
  | exact wpAny_bind (wpAny_bind (m:=Builtin.Tuple.tupleExact _) (wpAny_newObj_type (wpAny_pure ⟨_,rfl,wpAny_pure h⟩) htake))
end
end HT
namespace L2
open PySem PySem.Spec PyProof.Rows
abbrev TO:=St->Hp->(Option Int->Hp->Prop)->Prop
def PO (X:Cx) (e:Option Expr) (t:TO):Prop:=
 ∀ (pins:List (Addr×Obj)) (s:Shared) (σ:St) (H:Hp) (Q:Option Int->Hp->Prop),Inv X pins σ H s->t σ H Q->
  wpAny (model X.prog X.w) X.A (evalPart e X.env) (fun u s'=>∃ o H',Inv X pins σ H' s'/\IsPart u o/\Q o H') X.xe s
def oj:TO:=fun _ H Q=>Q none H
def vk (t:TE):TO:=fun σ H Q=>t σ H fun x H1=>∃ i,x = .int i/\Q (some i) H1
section
variable {X:Cx} {e:Expr} {te:TE} {lo hi:Option Expr} {tl th:TO} {pos p2:Pos}
theorem cJ:PO X none oj:=by
 intro pins s σ H Q I h
 rw [evalPart_none]
 exact wpAny_pure ⟨none,H,I,.none,h⟩
theorem ck (h:PE X e te):PO X (some e) (vk te):=by
 intro pins s σ H Q I hw
 rw [evalPart_some]
 refine thn (h pins s σ H _ I hw) fun u s1 ⟨x,H1,I1,r1,q1⟩=>?_
 obtain ⟨i,rfl,q⟩:=q1
 obtain ⟨t,rfl⟩:=r1
 exact ⟨some i,H1,I1,.int i t,q⟩
def SlR (X:Cx) (r:V->Option Int->Option Int->Hp->VK->Prop):Prop:=
 ∀ (pins:List (Addr×Obj)) (s:Shared) (σ:St) (H:Hp) (x:V) (v vl vu:Value) (lo hi:Option Int) (sl:Addr) (Q:VK),Inv X pins σ H s->aW x v->s.heap.IsSliceOf sl vl vu .none->IsPart vl lo->IsPart vu hi->r x lo hi H Q->
  ∃ T id,typeLookup (.type T) "__getitem__" = pure (some (.builtin id))/\s.TypeIs v T/\wpAny (model X.prog X.w) X.A (getItem v (.ref sl)) (EP X pins σ Q) X.xe s
def tSl (r:V->Option Int->Option Int->Hp->VK->Prop) (te:TE) (tl th:TO):TE:=fun σ H Q=>te σ H fun x H1=>tl σ H1 fun l H2=>th σ H2 fun u H3=>r x l u H3 Q
theorem b8 {r:V->Option Int->Option Int->Hp->VK->Prop} (hr:SlR X r) (he:PE X e te) (hl:PO X lo tl) (hu:PO X hi th):PE X (.Subscript e (.Slice lo hi none p2) pos) (tSl r te tl th):=by
 intro pins s σ H Q I h
 refine Subscript_ (thn (he pins s σ H _ I h) fun v s1 ⟨x,H1,I1,r1,q1⟩=>?_)
 refine wpAny_Slice (thn (hl pins s1 σ H1 _ I1 q1) fun vl s2 ⟨l,H2,I2,pl,q2⟩=>thn (hu pins s2 σ H2 _ I2 q2) fun vu s3 ⟨u,H3,I3,pu,q3⟩=>?_)
 rw [evalPart_none]
 refine wpAny_pure ?_
 have I4:Inv X pins σ H3 { s3 with heap:=s3.heap.push { cls:= .type "slice",data:= .fields #[vl,vu,.none] } }:=I3.kept (t':=s3.toks) fun b ob q=>Heap.get?_push_of_some _ q
 obtain ⟨T,id,hT,ht,hg⟩:=hr pins { s3 with heap:=s3.heap.push { cls:= .type "slice",data:= .fields #[vl,vu,.none] } } σ H3 x v vl vu l u s3.heap.objs.size Q I4 r1 (Heap.IsSliceOf.new ..) pl pu q3
 show wpAny (model X.prog X.w) X.A (subscriptTail e (.Slice lo hi none p2) v (.ref s3.heap.objs.size)) (EP X pins σ Q) X.xe { s3 with heap:=s3.heap.push { cls:= .type "slice",data:= .fields #[vl,vu,.none] } }
 exact tail_any (ops:=[.ref s3.heap.objs.size,v]) ht hT hg (by with_unfolding_all rfl)
def dG (xs:List V) (lo hi:Option Int):List V:=(xs.drop (HT.sIx xs.length 0 lo)).take (HT.sIx xs.length xs.length hi - HT.sIx xs.length 0 lo)
theorem jW (xs:List V) (lo hi:Option Int):(dG xs lo hi).length<=xs.length:=by
 unfold dG
 rw [List.length_take,List.length_drop]
 omega
def Ai (K:PySem.W.Frag):V->Option Int->Option Int->Hp->VK->Prop:=fun x lo hi H Q=>∃ a xs,x = .ref a/\SqT K H a xs/\
 ¬ (HT.sIx xs.length 0 lo=0/\HT.sIx xs.length xs.length hi=xs.length)/\∀ p,H p=none->Q (.ref p) (upd H p (.tup (dG xs lo hi)))
theorem dS:SlR X (Ai X.K):=by
 intro pins s σ H x v vl vu lo hi sl Q I rx hs pl pu h
 obtain ⟨a,xs,rfl,hx,hw,q⟩:=h
 cases rx
 obtain ⟨its,r,ht,hz⟩:=I.tuple hx
 have hlen:its.toArray.size=xs.length:=by rw [List.size_toArray];exact r.length.symm
 refine ⟨"tuple",_,PyProof.Rows.slot_tuple_getitem.lookup,ht.typeIs,?_⟩
 refine HT.getItem_tuple_cut ht hs pl pu (by rw [hlen];exact hw) ?_ (by rw [hlen];exact hz)
 rw [hlen]
 refine ⟨.ref s.heap.objs.size,_,I.laid (t':=s.toks) (o:= .tup (dG xs lo hi)) (fun b ob q=>Heap.get?_push_of_some _ q) (Nat.le_refl _) ?_,rfl,q _ (I.hok.fresh (Nat.le_refl _))⟩
 exact ⟨Nat.le_trans (jW xs lo hi) hz,_,(r.drop (HT.sIx xs.length 0 lo)).take (HT.sIx xs.length xs.length hi - HT.sIx xs.length 0 lo),IsTup.new _ _⟩
def o6 (K:PySem.W.Frag):R2:=fun x y H Q=>∃ a b xs ys,x = .ref a/\y = .ref b/\SqT K H a xs/\SqT K H b ys/\xs≠[]/\xs.length+ys.length<=sizeLine/\
 (ys=[]->Q (.ref a) H)/\(ys≠[]->∀ p,H p=none->Q (.ref p) (upd H p (.tup (xs++ys))))
theorem aI.nil_iff {xs:List V} {us:List Value} (r:aI xs us):us=[]↔xs=[]:=by
 cases r with
 | nil=>simp
 | cons _ _=>simp
theorem ky:OpR X (binaryOp .Add) (o6 X.K):=by
 intro pins s σ H x y v u Q I rx ry h
 obtain ⟨a,b,xs,ys,rfl,rfl,ha,hb,hx,hz,q1,q2⟩:=h
 cases rx
 cases ry
 obtain ⟨its,r1,p1,_⟩:=I.tuple ha
 obtain ⟨its2,r2,p2,_⟩:=I.tuple hb
 refine HT.cat_tup p1 p2 (fun z=>hx (r1.nil_iff.mp z)) (fun z=>⟨.ref a,H,I,rfl,q1 (r2.nil_iff.mp z)⟩) (fun z=>?_) (by rw [<- r1.length,<- r2.length];exact hz)
 refine ⟨.ref s.heap.objs.size,_,I.laid (t':=s.toks) (o:= .tup (xs++ys)) (fun b ob q=>Heap.get?_push_of_some _ q) (Nat.le_refl _) ?_,rfl,q2 (fun w=>z (r2.nil_iff.mpr w)) _ (I.hok.fresh (Nat.le_refl _))⟩
 exact ⟨by rw [List.length_append];exact hz,_,r1.append r2,IsTup.new _ _⟩
end
end L2
namespace L2
open PySem PySem.Spec PyProof.Rows
def ixN (n:Nat) (i:Int):Option Nat:=if 0<=i then (if i < n then some i.toNat else none) else if -(n:Int)<=i then some (i+n).toNat else none
def atI {α:Type} (xs:List α) (i:Int):Option α:=(ixN xs.length i).bind fun j=>xs[j]?
theorem sI {n:Nat} {i:Int} {j:Nat} (h:ixN n i=some j):seqIndex? i n=some j/\j < n/\ -(n:Int)<=i/\i < n:=by
 unfold ixN at h
 by_cases h0:0<=i
 ·rw [if_pos h0] at h
  by_cases h1:i < n
  ·rw [if_pos h1] at h
   have e:i.toNat=j:=Option.some.inj h
   exact ⟨by rw [seqIndex_of h0 h1,e],by omega,by omega,h1⟩
  ·rw [if_neg h1] at h;cases h
 ·rw [if_neg h0] at h
  by_cases h1:-(n:Int)<=i
  ·rw [if_pos h1] at h
   have e:(i+n).toNat=j:=Option.some.inj h
   exact ⟨by rw [seqIndex_neg (by omega) h1,e],by omega,h1,by omega⟩
  ·rw [if_neg h1] at h;cases h
theorem ki {α:Type} {xs:List α} {i:Int} {v:α} (h:atI xs i=some v):∃ j,seqIndex? i xs.length=some j/\xs[j]?=some v/\j < xs.length/\ -(xs.length:Int)<=i/\i < xs.length:=by
 unfold atI at h
 cases e:ixN xs.length i with
 | none=>rw [e] at h;cases h
 | some j=>
  rw [e] at h
  obtain ⟨h1,h2,h3,h4⟩:=sI e
  exact ⟨j,h1,h,h2,h3,h4⟩
theorem sh {α:Type} {xs:List α} {j:Nat} {v:α} (h:xs[j]?=some v):atI xs (j:Int)=some v:=by
 have hj:j < xs.length:=(List.getElem?_eq_some_iff.mp h).1
 have e:ixN xs.length (j:Int)=some j:=by
  unfold ixN
  rw [if_pos (by omega),if_pos (by omega)];simp
 unfold atI;rw [e];exact h
def xG (b:Expr):Prop:=∀ o i,subscripted b false o i=operate [o,i] (getItem o i)
def IxR (X:Cx) (r:R2):Prop:=
 ∀ (value slice:Expr) (pins:List (Addr×Obj)) (s:Shared) (σ:St) (H:Hp) (x y:V) (v u:Value) (Q:VK),Inv X pins σ H s->aW x v->aW y u->r x y H Q->
  subscripted slice false v u=operate [v,u] (getItem v u)->wpAny (model X.prog X.w) X.A (subscriptTail value slice v u) (EP X pins σ Q) X.xe s
def MtR (X:Cx) (id:String) (r:V->List V->Hp->VK->Prop):Prop:=
 ∀ (pins:List (Addr×Obj)) (s:Shared) (σ:St) (H:Hp) (x:V) (xs:List V) (v:Value) (us:List Value) (Q:VK),Inv X pins σ H s->aW x v->aI xs us->r x xs H Q->
  wpAny (model X.prog X.w) X.A (call (.builtin id) (v::us)) (EP X pins σ Q) X.xe s
section
variable {X:Cx} {a b:Expr} {ta tb:TE} {pos:Pos}
theorem IxR.or {r r':R2} (h:IxR X r) (h':IxR X r'):IxR X (fun x y H Q=>r x y H Q\/r' x y H Q):=by
 intro value slice pins s σ H x y v u Q I rx ry q hs
 rcases q with q | q
 ·exact h value slice pins s σ H x y v u Q I rx ry q hs
 ·exact h' value slice pins s σ H x y v u Q I rx ry q hs
theorem ax {r:R2} (hr:IxR X r) (ha:PE X a ta) (hb:PE X b tb) (hs:xG b):PE X (.Subscript a b pos) (tOp r ta tb):=by
 intro pins s σ H Q I h
 exact Subscript_ (AO ha hb I h fun v u s2 x y H2 I2 rx ry q=>hr a b pins s2 σ H2 x y v u Q I2 rx ry q (hs _ _))
def oT (K:PySem.W.Frag):R2:=fun x y H Q=>∃ p xs i v,x = .ref p/\y = .int i/\SqL K H p xs/\atI xs i=some v/\Q v H
def wZ (K:PySem.W.Frag):R2:=fun x y H Q=>∃ p xs i v,x = .ref p/\y = .int i/\SqT K H p xs/\atI xs i=some v/\Q v H
def CZ:R2:=fun x y H Q=>∃ z i c,x = .str z/\y = .int i/\z.length<=sizeLine/\atI z.cps.toList i=some c/\Q (.str ⟨#[c]⟩) H
theorem aE:IxR X (oT X.K):=by
 intro value slice pins s σ H x y v u Q I rx ry h hs
 obtain ⟨p,xs,i,z,rfl,rfl,hq,he,q⟩:=h
 cases rx
 obtain ⟨t,rfl⟩:=ry
 obtain ⟨its,r,pl,hz⟩:=I.list hq
 obtain ⟨j,h1,h2,h3,h4,h5⟩:=ki he
 obtain ⟨w,ew,rw'⟩:=r.get h2
 have hl:=r.length
 have hn:=jE
 have fin:EP X pins σ Q w s:=⟨z,H,I,rw',q⟩
 by_cases h0:0<=i
 ·have hj:i.toNat=j:=by
   rw [seqIndex_of h0 h5] at h1
   exact Option.some.inj h1
  exact item_listR pl.isList h0 (by omega) (by rw [hj];simpa using ew) fin hs
 ·have hj:(i+(its.toArray.size:Int)).toNat=j:=by
   rw [seqIndex_neg (by omega) h4] at h1
   rw [List.size_toArray,<- hl]
   exact Option.some.inj h1
  exact subscriptTail_builtinR (x:=w) pl.isList.typeIs slot_list_getitem.lookup
   (wpAny_getItem_list_neg (Q:=fun r s'=>r=w/\EP X pins σ Q r s') pl.isList (by omega) (by rw [List.size_toArray] <;> omega) (by omega) (by rw [hj];simpa using ew) ⟨rfl,fin⟩) hs
theorem aH:IxR X (wZ X.K):=by
 intro value slice pins s σ H x y v u Q I rx ry h hs
 obtain ⟨p,xs,i,z,rfl,rfl,hq,he,q⟩:=h
 cases rx
 obtain ⟨t,rfl⟩:=ry
 obtain ⟨its,r,pl,hz⟩:=I.tuple hq
 obtain ⟨j,h1,h2,h3,h4,h5⟩:=ki he
 obtain ⟨w,ew,rw'⟩:=r.get h2
 have hl:=r.length
 have hn:=jE
 have fin:EP X pins σ Q w s:=⟨z,H,I,rw',q⟩
 exact subscriptTail_builtinR (x:=w) pl.typeIs slot_tuple_getitem.lookup
  (getItem_tuple (j:=j) (Q:=fun r s'=>r=w/\EP X pins σ Q r s') pl (by omega) (by omega) (by rw [List.size_toArray,<- hl];exact h1) (by simpa using ew) ⟨rfl,fin⟩) hs
theorem zr:IxR X CZ:=by
 intro value slice pins s σ H x y v u Q I rx ry h hs
 obtain ⟨z,i,c,rfl,rfl,hz,he,q⟩:=h
 obtain ⟨t,rfl⟩:=rx
 obtain ⟨t',rfl⟩:=ry
 obtain ⟨j,h1,h2,h3,h4,h5⟩:=ki he
 have hl:z.cps.toList.length=z.length:=by simp [Str.length]
 rw [hl] at h1 h4 h5
 have hn:=jE
 exact tail_any (typeIs_str s z t) slot_str_getitem.lookup (getItem_str (c:=c) (by
  have e1:decide (i < -(2 ^ 63:Int))=false:=decide_eq_false (by omega)
  have e2:decide (i>=2 ^ 63)=false:=decide_eq_false (by omega)
  rw [e1,e2,Bool.or_false]) (by rw [h1];simpa using h2) ⟨.str ⟨#[c]⟩,H,I.tok _,⟨_,rfl⟩,q⟩) hs
def rIx (K:PySem.W.Frag):R2:=fun x y H Q=>oT K x y H Q\/wZ K x y H Q\/CZ x y H Q
theorem AV:IxR X (rIx X.K):=aE.or (aH.or zr)
theorem qp (its:List Value) (n j:Nat) (u:Value):Obj.mapSeq (·.setIfInBounds j u) { cls:= .type "list",data:= .seq its.toArray n }={ cls:= .type "list",data:= .seq (its.set j u).toArray n }:=by
 simp [Obj.mapSeq]
theorem Inv.lst {pins:List (Addr×Obj)} {σ:St} {H:Hp} {s:Shared} {p:Addr} {xs:List V} (I:Inv X pins σ H s) (h:H p=some (.lst xs)) :
  ∃ (its:List Value) (n:Nat),aI xs its/\s.heap.get? p=some { cls:= .type "list",data:= .seq its.toArray n }/\xs.length<=sizeLine:=by
 obtain ⟨z,its,n,r,e⟩:=I.hok p _ h
 exact ⟨its,n,r,e,z⟩
theorem Inv.lstUpd {pins:List (Addr×Obj)} {σ:St} {H:Hp} {s:Shared} {p:Addr} {xs ys:List V} {its its':List Value} {n n':Nat} {f:Obj->Obj} (I:Inv X pins σ H s) (h:H p=some (.lst xs))
  (ho:s.heap.get? p=some { cls:= .type "list",data:= .seq its.toArray n }) (hf:f { cls:= .type "list",data:= .seq its.toArray n }={ cls:= .type "list",data:= .seq its'.toArray n' }) (r:aI ys its') (hz:ys.length<=sizeLine) (t:Nat) :
  Inv X pins σ (upd H p (.lst ys)) { s with heap:=s.heap.update p f,toks:=t }:=by
 have e:(s.heap.update p f).get? p=some { cls:= .type "list",data:= .seq its'.toArray n' }:=by
  rw [Heap.get?_update_self f ho (by rw [hf] <;> rfl),hf]
 refine I.write (x:=p) (e:=p) (by rw [h];trivial) (.inl rfl) (fun b u hb q=>(Heap.get?_update_other _ _ (Ne.symm hb)).trans q) ⟨_,e⟩ ?_
 exact ⟨hz,its',n',r,e⟩
def BA:V->V->V->Hp->(Hp->Prop)->Prop:=fun o i v H Q=>∃ p xs k j,o = .ref p/\i = .int k/\H p=some (.lst xs)/\ixN xs.length k=some j/\Q (upd H p (.lst (xs.set j v)))
theorem jj:zu X BA:=by
 intro pins s σ H o i v ov iv u Q I ro ri rv h
 obtain ⟨p,xs,k,j,rfl,rfl,hp,hj,q⟩:=h
 cases ro
 obtain ⟨t,rfl⟩:=ri
 obtain ⟨its,n,r,ho,hz⟩:=I.lst hp
 obtain ⟨h1,h2,h3,h4⟩:=sI hj
 have hl:=r.length
 have hn:=jE
 have I':Inv X pins σ (upd H p (.lst (xs.set j v))) { s with heap:=s.heap.update p (Obj.mapSeq (·.setIfInBounds j u)) }:=
  I.lstUpd hp ho (qp its n j u) (r.set rv j) (by rw [List.length_set];exact hz) s.toks
 by_cases h0:0<=k
 ·have hk:k.toNat=j:=by
   rw [seqIndex_of h0 h4] at h1
   exact Option.some.inj h1
  exact PySem.W.ki_setAt ho h0 (by omega) (by rw [List.size_toArray,<- hl];exact h4) (by rw [hk];exact ⟨_,I',q⟩)
 ·have hk:(k+(its.toArray.size:Int)).toNat=j:=by
   rw [seqIndex_neg (by omega) h3] at h1
   rw [List.size_toArray,<- hl]
   exact Option.some.inj h1
  exact PySem.W.ki_setBack ho (by omega) (by rw [List.size_toArray,<- hl];exact h3) (by omega) (by rw [hk];exact ⟨_,I',q⟩)
theorem oA (lo hi:Option Int) (n:Nat):(sliceBounds lo hi none n).1=((HT.sIx n 0 lo:Nat):Int)/\(sliceBounds lo hi none n).2.1=((HT.sIx n n hi:Nat):Int)/\(sliceBounds lo hi none n).2.2=1:=by
 refine ⟨?_,?_,rfl⟩
 ·cases lo with
  | none=>simp [sliceBounds,HT.sIx]
  | some i=>
   simp only [sliceBounds,HT.sIx,Option.getD_none,show (1:Int) > 0 by decide,if_true]
   by_cases h:i < 0
   ·simp only [h,if_true] <;> omega
   ·simp only [h,if_false] <;> omega
 ·cases hi with
  | none=>simp [sliceBounds,HT.sIx]
  | some i=>
   simp only [sliceBounds,HT.sIx,Option.getD_none,show (1:Int) > 0 by decide,if_true]
   by_cases h:i < 0
   ·simp only [h,if_true] <;> omega
   ·simp only [h,if_false] <;> omega
theorem lO (its:List Value) (lo hi:Option Int):slicePick its.toArray lo hi none=((its.drop (HT.sIx its.length 0 lo)).take (HT.sIx its.length its.length hi - HT.sIx its.length 0 lo)).toArray:=by
 obtain ⟨h1,h2,h3⟩:=oA lo hi its.toArray.size
 unfold slicePick
 rw [h1,h2,h3]
 simp only [sliceRange_one,pick_run,List.size_toArray] <;> rfl
def DI (K:PySem.W.Frag):V->Option Int->Option Int->Hp->VK->Prop:=fun x lo hi H Q=>∃ a xs,x = .ref a/\SqL K H a xs/\∀ p,H p=none->Q (.ref p) (upd H p (.lst (dG xs lo hi)))
theorem oh:SlR X (DI X.K):=by
 intro pins s σ H x v vl vu lo hi sl Q I rx hs pl pu h
 obtain ⟨a,xs,rfl,hx,q⟩:=h
 cases rx
 obtain ⟨its,r,ht,hz⟩:=I.list hx
 have hlen:=r.length
 refine ⟨"list",_,slot_list_getitem.lookup,ht.isList.typeIs,?_⟩
 refine wpAny_getItem_list_slice ht.isList hs pl pu .none (by simp) ?_ (by rw [List.size_toArray] <;> omega)
 rw [lO,<- hlen]
 refine ⟨.ref s.heap.objs.size,_,I.laid (t':=s.toks) (o:= .lst (dG xs lo hi)) (fun b ob q=>Heap.get?_push_of_some _ q) (Nat.le_refl _) ?_,rfl,q _ (I.hok.fresh (Nat.le_refl _))⟩
 exact ⟨Nat.le_trans (jW xs lo hi) hz,_,0,(r.drop (HT.sIx xs.length 0 lo)).take (HT.sIx xs.length xs.length hi - HT.sIx xs.length 0 lo),Heap.get?_push_size _ rfl⟩
def jS:V->Bool
 | .non=>true
 | .bl _=>true
 | .int _=>true
 | .str _=>true
 | _=>false
def eqV:V->V->Bool
 | .non,.non=>true
 | .bl a,.bl b=>a == b
 | .bl a,.int b=>(if a then 1 else 0) == b
 | .int a,.bl b=>a == (if b then 1 else 0)
 | .int a,.int b=>a == b
 | .str a,.str b=>a == b
 | _,_=>false
theorem zx {A:Around} {s:Shared} {y x:V} {u v:Value} (ry:aW y u) (rx:aW x v) (fy:jS y=true) (fx:jS x=true):SeqAt.EqAt A s u v (eqV y x):=by
 cases y with
 | non=>
  cases ry
  cases x with
  | non=>cases rx;exact SeqAt.EqAt.same _
  | bl b=>cases rx;exact SeqAt.EqAt.none_bool b
  | int b=>obtain ⟨t,rfl⟩:=rx;exact SeqAt.EqAt.none_int b t
  | str b=>obtain ⟨t,rfl⟩:=rx;exact SeqAt.EqAt.none_str b t
  | _=>exact absurd (show false=true from fx) Bool.false_ne_true
 | bl a=>
  cases ry
  cases x with
  | non=>cases rx;exact SeqAt.EqAt.bool_none a
  | bl b=>cases rx;exact SeqAt.EqAt.bool_bool a b
  | int b=>obtain ⟨t,rfl⟩:=rx;exact SeqAt.EqAt.bool_int a b t
  | str b=>obtain ⟨t,rfl⟩:=rx;exact SeqAt.EqAt.bool_str a b t
  | _=>exact absurd (show false=true from fx) Bool.false_ne_true
 | int a=>
  obtain ⟨t',rfl⟩:=ry
  cases x with
  | non=>cases rx;exact SeqAt.EqAt.int_none a t'
  | bl b=>cases rx;exact SeqAt.EqAt.int_bool a t' b
  | int b=>obtain ⟨t,rfl⟩:=rx;exact SeqAt.EqAt.int_int a t' b t
  | str b=>obtain ⟨t,rfl⟩:=rx;exact SeqAt.EqAt.int_str a t' b t
  | _=>exact absurd (show false=true from fx) Bool.false_ne_true
 | str a=>
  obtain ⟨t',rfl⟩:=ry
  cases x with
  | non=>cases rx;exact SeqAt.EqAt.str_none a t'
  | bl b=>cases rx;exact SeqAt.EqAt.str_bool a t' b
  | int b=>obtain ⟨t,rfl⟩:=rx;exact SeqAt.EqAt.str_int a t' b t
  | str b=>obtain ⟨t,rfl⟩:=rx;exact SeqAt.EqAt.str_str a t' b t
  | _=>exact absurd (show false=true from fx) Bool.false_ne_true
 | _=>exact absurd (show false=true from fy) Bool.false_ne_true
def eqU (x:V) (u:Value):Bool:=match u with
 | .none=>eqV .non x
 | .bool b=>eqV (.bl b) x
 | .int i _=>eqV (.int i) x
 | .str z _=>eqV (.str z) x
 | _=>false
theorem vX {x y:V} {u:Value} (r:aW y u) (f:jS y=true):eqU x u=eqV y x:=by
 cases y with
 | non=>cases r;rfl
 | bl b=>cases r;rfl
 | int i=>obtain ⟨t,rfl⟩:=r;rfl
 | str z=>obtain ⟨t,rfl⟩:=r;rfl
 | _=>exact absurd (show false=true from f) Bool.false_ne_true
theorem nM {x:V}:∀ {xs:List V} {us:List Value},aI xs us->xs.all jS=true->us.any (eqU x)=xs.any fun y=>eqV y x
 | _,_,.nil,_=>rfl
 | y::xs,u::us,.cons r t,f=>by
  rw [List.all_cons,Bool.and_eq_true] at f
  rw [List.any_cons,List.any_cons,vX r f.1,nM t f.2]
theorem kL {A:Around} {s:Shared} {x:V} {v:Value} (rx:aW x v) (fx:jS x=true):∀ {xs:List V} {us:List Value},aI xs us->xs.all jS=true->∀ u∈us,SeqAt.EqAt A s u v (eqU x u)
 | _,_,.nil,_=>fun u hu=>by cases hu
 | y::xs,u::us,.cons r t,f=>fun u' hu=>by
  rw [List.all_cons,Bool.and_eq_true] at f
  rcases List.mem_cons.mp hu with rfl | hu
  ·rw [vX r f.1];exact zx r rx f.1 fx
  ·exact kL rx fx t f.2 u' hu
def inV (x:V) (xs:List V):Bool:=xs.any fun y=>eqV y x
def rIn (K:PySem.W.Frag) (neg:Bool):R2:=fun x y H Q=>∃ p xs,y = .ref p/\(SqL K H p xs\/SqT K H p xs)/\jS x=true/\xs.all jS=true/\Q (.bl (if neg then !inV x xs else inV x xs)) H
theorem uv:OpR X (compareOp .In) (rIn X.K false):=by
 intro pins s σ H x y v u Q I rx ry h
 obtain ⟨p,xs,rfl,hq,fx,fs,q⟩:=h
 cases ry
 rcases hq with hq | hq
 ·obtain ⟨its,r,pl,hz⟩:=I.list hq
  refine SeqAt.in_listAt (eqU x) pl.isList (fun w hw=>kL rx fx r fs w (by simpa using hw)) ⟨.bl _,H,I,rfl,?_⟩
  rw [show its.toArray.any (eqU x)=its.any (eqU x) by simp,nM r fs]
  exact q
 ·obtain ⟨its,r,pl,hz⟩:=I.tuple hq
  refine SeqAt.in_tupleAt (eqU x) pl (fun w hw=>kL rx fx r fs w (by simpa using hw)) ⟨.bl _,H,I,rfl,?_⟩
  rw [show its.toArray.any (eqU x)=its.any (eqU x) by simp,nM r fs]
  exact q
theorem bC:ip X (.builtin "len") (fun xs H Q=>∃ p ys,xs=[.ref p]/\(SqL X.K H p ys\/SqT X.K H p ys)/\Q (.int ys.length) H):=by
 intro pins s σ H xs us Q I r h
 obtain ⟨p,ys,rfl,hq,q⟩:=h
 obtain ⟨u,rfl,rx⟩:=w8 r
 cases rx
 have hn:=jE
 rcases hq with hq | hq
 ·obtain ⟨its,r',pl,hz⟩:=I.list hq
  have hlen:=r'.length
  exact Calls.call_len_list pl.isList (by simp only [List.size_toArray] <;> omega) ⟨.int ys.length,H,I.tok _,⟨s.toks+1,by rw [List.size_toArray,hlen]⟩,q⟩
 ·obtain ⟨its,r',pl,hz⟩:=I.tuple hq
  have hlen:=r'.length
  exact len_tuple pl (by simp only [List.size_toArray] <;> omega) ⟨.int ys.length,H,I.tok _,⟨s.toks+1,by rw [List.size_toArray,hlen]⟩,q⟩
theorem eN:ip X (.type "list") (fun xs H Q=>∃ p ys,xs=[.ref p]/\(SqL X.K H p ys\/SqT X.K H p ys)/\∀ l,H l=none->Q (.ref l) (upd H l (.lst ys))):=by
 intro pins s σ H xs us Q I r h
 obtain ⟨p,ys,rfl,hq,q⟩:=h
 obtain ⟨u,rfl,rx⟩:=w8 r
 cases rx
 have fin:∀ (its:List Value),aI ys its->ys.length<=sizeLine->∀ (h':Heap) (c':Nat),(∀ b o',s.heap.get? b=some o'->h'.get? b=some o')->
   h'.get? s.heap.objs.size=some { cls:= .type "list",dict:=none,data:= .seq its.toArray c',slots:=#[] }->EP X pins σ Q (.ref s.heap.objs.size) { s with heap:=h' }:=fun its r' hz h' c' kp e=>
  ⟨.ref s.heap.objs.size,_,I.laid (t':=s.toks) kp (Nat.le_refl _) (show cz X.prog X.w _ h' _ (.lst ys) from ⟨hz,its,c',r',e⟩),rfl,q _ (I.hok.fresh (Nat.le_refl _))⟩
 rcases hq with hq | hq
 ·obtain ⟨its,r',pl,hz⟩:=I.list hq
  have hlen:=r'.length
  obtain ⟨o,ho,hc,n,hd⟩:=pl.isList
  exact call_list_seq p (.inl rfl) ho hc hd (fun h' c' kp e=>fin its r' hz h' c' kp e) (by simp only [List.size_toArray] <;> omega)
 ·obtain ⟨its,r',pl,hz⟩:=I.tuple hq
  have hlen:=r'.length
  obtain ⟨o,ho,hc,n,hd⟩:=pl
  exact call_list_seq p (.inr rfl) ho hc hd (fun h' c' kp e=>fin its r' hz h' c' kp e) (by simp only [List.size_toArray] <;> omega)
theorem fZ:ip X (.type "tuple") (fun xs H Q=>∃ p ys,xs=[.ref p]/\((SqL X.K H p ys/\∀ l,H l=none->Q (.ref l) (upd H l (.tup ys)))\/(SqT X.K H p ys/\Q (.ref p) H))):=by
 intro pins s σ H xs us Q I r h
 obtain ⟨p,ys,rfl,h⟩:=h
 obtain ⟨u,rfl,rx⟩:=w8 r
 cases rx
 rcases h with ⟨hq,q⟩ | ⟨hq,q⟩
 ·obtain ⟨its,r',pl,hz⟩:=I.list hq
  have hlen:=r'.length
  refine call_tuple_list pl.isList (fun h' kp=>?_) (by simp only [List.size_toArray] <;> omega)
  have I1:Inv X pins σ H { s with heap:=h' }:=I.kept (t':=s.toks) kp
  have I2:Inv X pins σ (upd H h'.objs.size (.tup ys)) { s with heap:=h'.push { cls:= .type "tuple",data:= .seq its.toArray } }:=
   I1.laid (t':=s.toks) (fun b o e=>Heap.get?_push_of_some _ e) (Nat.le_refl _) (show cz X.prog X.w _ _ _ (.tup ys) from ⟨hz,its,r',IsTup.new _ _⟩)
  exact ⟨.ref h'.objs.size,_,I2,rfl,q _ (I1.hok.fresh (Nat.le_refl _))⟩
 ·obtain ⟨its,r',pl,hz⟩:=I.tuple hq
  exact call_tuple_same pl ⟨.ref p,H,I,rfl,q⟩
def tyV (K:PySem.W.Frag) (T:String) (x:V) (H:Hp):Prop:=match x with
 | .str _=>T = "str"
 | .int _=>T = "int"
 | .ref p=>(T = "list"/\∃ xs,SqL K H p xs)\/(T = "tuple"/\∃ o,K.lookup p=some o/\o.cls = .type "tuple"/\o.dict=none)\/
   (T = "dict"/\((∃ kvs,H p=some (.dK kvs))\/∃ kvs,H p=some (.dT kvs)))\/(T = "set"/\∃ S n,H p=some (.set S n))
 | _=>False
theorem zB {pins:List (Addr×Obj)} {σ:St} {H:Hp} {s:Shared} {T:String} {x:V} {v:Value} (I:Inv X pins σ H s) (r:aW x v) (ty:tyV X.K T x H) :
  s.TypeIs v T/\∀ a,v = .ref a->∃ ob,s.heap.get? a=some ob/\ob.dict=none:=by
 cases x with
 | str z=>
  obtain ⟨t,rfl⟩:=r
  cases (show T = "str" from ty)
  exact ⟨typeIs_str s z t,fun _ e=>nomatch e⟩
 | int i=>
  obtain ⟨t,rfl⟩:=r
  cases (show T = "int" from ty)
  exact ⟨typeIs_int s i t,fun _ e=>nomatch e⟩
 | ref p=>
  cases r
  rcases ty with ⟨rfl,xs,hq⟩ | ⟨rfl,o,hk,hc,hd⟩ | ⟨rfl,hk⟩ | ⟨rfl,S,n,hk⟩
  ·obtain ⟨its,_,pl,_⟩:=I.list hq
   refine ⟨pl.isList.typeIs,fun a e=>?_⟩
   cases e
   obtain ⟨o,n,e,c,hd,_⟩:=pl
   exact ⟨o,e,hd⟩
  ·refine ⟨⟨o,I.kIn p o hk,hc⟩,fun a e=>?_⟩
   cases e
   exact ⟨o,I.kIn _ o hk,hd⟩
  ·have z:∃ o,s.heap.get? p=some o/\o.ExactDict:=by
    rcases hk with ⟨kvs,hk⟩ | ⟨kvs,hk⟩
    ·obtain ⟨_,_,_,_,o,_,_,e,ex,_⟩:=I.hok p _ hk
     exact ⟨o,e,ex⟩
    ·obtain ⟨_,_,_,_,o,_,_,e,ex,_⟩:=I.hok p _ hk
     exact ⟨o,e,ex⟩
   obtain ⟨o,e,ex⟩:=z
   refine ⟨⟨o,e,ex.1⟩,fun a e2=>?_⟩
   cases e2
   exact ⟨o,e,ex.2.1⟩
  ·obtain ⟨o,_,_,_,e,ex,_⟩:=I.hok p _ hk
   refine ⟨⟨o,e,ex.1⟩,fun a e2=>?_⟩
   cases e2
   exact ⟨o,e,ex.2.1⟩
 | _=>exact False.elim ty
def tBM (K:PySem.W.Frag) (T:String) (r:V->List V->Hp->VK->Prop) (to:TE) (t:TA):TE:=fun σ H Q=>to σ H fun x H1=>tyV K T x H1/\t σ H1 fun xs H2=>r x xs H2 Q
variable {o e:Expr} {es:List Expr} {to:TE} {t:TA} {name:Str} {apos cpos:Pos} {T id:String} {r:V->List V->Hp->VK->Prop}
theorem eJ (pa:PlainAttrs T) (slot:Slot T name id) (hty:typeOf (.builtin id)=pure (.type "method_descriptor")) (hm:MtR X id r) (ho:PE X o to) (ha:PA X (e::es) t)
  (hbase:attributeBase o name X.env (eval o X.env)=eval o X.env:=by rfl)
  (hfew:((backTo cpos (starEach (e::es) X.env)).all (fun x=>!x.1) && (backToKw cpos (keywordEach [] X.env)).all (fun x=>x.1.isSome)
   && decide ((e::es).length+([]:List Keyword).length+(if ([]:List Keyword).isEmpty then 0 else 1) < 30))=true:=by rfl)
  (hline:(apos.endLine == cpos.line)=true:=by rfl) (hs:starEach (e::es) X.env=(false,eval e X.env)::starEach es X.env:=by rfl) (hplain:(backTo cpos (starEach es X.env)).any (·.1)=false:=by rfl) :
  PE X (.Call (.Attribute o name apos) (e::es) [] cpos) (tBM X.K T r to t):=by
 intro pins s σ H Q I h
 refine wpAny_Call_method_late hbase hfew hline rfl (thn (ho pins s σ H _ I h) fun v s1 ⟨x,H1,I1,r1,ty,q1⟩=>?_)
 obtain ⟨h1,h2⟩:=zB I1 r1 ty
 refine ⟨T,id,pa,slot,hty,h1,h2,?_⟩
 have hA:=ha cpos pins s1 σ H1 _ I1 q1
 rw [hs] at hA ⊢
 refine Calls.callWith_builtin (by show (false || (backTo cpos (starEach es X.env)).any (·.1))=false;rw [hplain] <;> rfl) (Calls.evalArgs_plain ?_)
 exact thn hA fun us s2 ⟨vs,H2,I2,r2,q2⟩=>hm pins s2 σ H2 x vs v us Q I2 r1 r2 q2
end
end L2
namespace L2
open PySem PySem.Spec PyProof.Rows
def MtM (X:Cx) (id:String) (r:V->List V->Hp->VK->Prop):Prop:=
 ∀ (pins:List (Addr×Obj)) (s:Shared) (σ:St) (H:Hp) (x:V) (xs:List V) (v:Value) (us:List Value) (Q:VK),Inv X pins σ H s->aW x v->aI xs us->r x xs H Q->
  wpAny (model X.prog X.w) X.A (call (.builtin id) (v::us)) (EP X pins σ Q) X.xe s
theorem aI.one:∀ {x:V} {us:List Value},aI [x] us->∃ u,us=[u]/\aW x u
 | _,_,.cons r .nil=>⟨_,rfl,r⟩
theorem aI.eraseIdx:∀ {xs:List V} {us:List Value} (i:Nat),aI xs us->aI (xs.eraseIdx i) (us.eraseIdx i)
 | _,_,_,.nil=> .nil
 | _,_,0,.cons _ t=>t
 | _,_,i+1,.cons r t=> .cons r (aI.eraseIdx i t)
theorem aI.rep {xs:List V} {us:List Value} (h:aI xs us):∀ k:Nat,aI (List.replicate k xs).flatten (List.replicate k us).flatten
 | 0=> .nil
 | k+1=>by
  rw [List.replicate_succ,List.replicate_succ,List.flatten_cons,List.flatten_cons]
  exact aI.append h (aI.rep h k)
theorem lY {α:Type}:∀ (l:List α) (i:Nat),(l.eraseIdx i).length<=l.length
 | [],_=>Nat.le_refl _
 | _::_,0=>Nat.le_succ _
 | _::r,i+1=>Nat.succ_le_succ (lY r i)
theorem mI (its:List Value):∀ (k:Nat) (acc:List Value),
  List.foldl (fun x1 x2=>x1++x2) acc.toArray (List.replicate k its.toArray)=(acc++(List.replicate k its).flatten).toArray
 | 0,acc=>by simp
 | k+1,acc=>by
  have e:acc.toArray++its.toArray=(acc++its).toArray:=by simp
  have e2:(acc++its)++(List.replicate k its).flatten=acc++(List.replicate (k+1) its).flatten:=by
   rw [List.replicate_succ,List.flatten_cons,List.append_assoc]
  rw [<- e2,<- mI its k (acc++its),<- e,List.replicate_succ,List.foldl_cons]
section
variable {X:Cx} {pins:List (Addr×Obj)} {σ:St} {H:Hp} {s:Shared} {l b:Addr} {xs ys zs:List V}
theorem Inv.lset {its its':List Value} {n:Nat} {f:Array Value->Array Value} {t':Nat} (I:Inv X pins σ H s) (hH:H l=some (.lst xs))
  (e:s.heap.get? l=some { cls:= .type "list",data:= .seq its.toArray n }) (hf:f its.toArray=its'.toArray) (hv:aI ys its') (hz:ys.length<=sizeLine) :
  Inv X pins σ (upd H l (.lst ys)) { s with heap:=s.heap.update l (Obj.mapSeq f),toks:=t' }:=by
 have q:=PySem.IsL.update e f
 rw [hf] at q
 refine I.write (x:=l) (e:=l) (by rw [hH];exact trivial) (.inl rfl) (fun b' u hb hu=>(Heap.get?_update_other s.heap (Obj.mapSeq f) (Ne.symm hb)).trans hu) ⟨_,q⟩ ?_
 exact ⟨hz,its',_,hv,q⟩
theorem Inv.lnew {its:List Value} {t':Nat} (I:Inv X pins σ H s) (hv:aI ys its) (hz:ys.length<=sizeLine) :
  Inv X pins σ (upd H s.heap.objs.size (.lst ys)) { s with heap:=s.heap.push { cls:= .type "list",data:= .seq its.toArray },toks:=t' }:=
 I.laid (fun _ _ q=>Heap.get?_push_of_some _ q) (Nat.le_refl _) ⟨hz,its,0,hv,Heap.get?_push_size _ rfl⟩
theorem Inv.fresh (I:Inv X pins σ H s):H s.heap.objs.size=none:=I.hok.fresh (Nat.le_refl _)
theorem Inv.lstM (I:Inv X pins σ H s) (hH:H l=some (.lst xs)):xs.length<=sizeLine/\∃ (its:List Value) (n:Nat),aI xs its/\xs.length=its.length/\s.heap.get? l=some { cls:= .type "list",data:= .seq its.toArray n }:=by
 obtain ⟨z,its,n,r,e⟩:=I.hok l _ hH
 exact ⟨z,its,n,r,r.length,e⟩
theorem lN {n:Nat} (h:n<=sizeLine):Builtin.List.listTooLong n=false:=by
 unfold Builtin.List.listTooLong
 exact decide_eq_false (by omega)
end
section
variable {X:Cx}
def xU:V->List V->Hp->VK->Prop:=fun x vs H Q=>∃ l xs y,x = .ref l/\vs=[y]/\H l=some (.lst xs)/\xs.length < sizeLine/\Q .non (upd H l (.lst (xs++[y])))
theorem eR:MtM X "list.append" xU:=by
 intro pins s σ H x vs v us Q I rx rv h
 obtain ⟨l,xs,y,rfl,rfl,hH,hz,q⟩:=h
 cases rx
 obtain ⟨u,rfl,ru⟩:=rv.one
 obtain ⟨z,its,n,r,hl,e⟩:=I.lstM hH
 refine call_meets F.slot_list_append ⟨_,e,rfl⟩ F.entry_list_append (F.args_list_append_2 _ _) (PySem.list_append l its.toArray n u (by rw [List.size_toArray];omega)) ⟨e,?_⟩
 refine ⟨.non,_,I.lset (its':=its++[u]) hH e (by simp) (r.append (.cons ru .nil)) ?_,rfl,q⟩
 rw [List.length_append,List.length_singleton]
 omega
def xX:V->List V->Hp->VK->Prop:=fun x vs H Q=>∃ l b xs zs,x = .ref l/\vs=[.ref b]/\H l=some (.lst xs)/\H b=some (.lst zs)/\xs.length+zs.length<=sizeLine/\Q .non (upd H l (.lst (xs++zs)))
theorem dY:MtM X "list.extend" xX:=by
 intro pins s σ H x vs v us Q I rx rv h
 obtain ⟨l,b,xs,zs,rfl,rfl,hH,hB,hz,q⟩:=h
 cases rx
 obtain ⟨u,rfl,ru⟩:=rv.one
 cases ru
 obtain ⟨z,its,n,r,hl,e⟩:=I.lstM hH
 obtain ⟨z2,its2,n2,r2,hl2,e2⟩:=I.lstM hB
 have hsz:its.toArray.size+its2.toArray.size<=sizeLine:=by rw [List.size_toArray,List.size_toArray];omega
 have hlong:¬ (!its.toArray.isEmpty && Builtin.List.listTooLong (its.toArray.size+its2.toArray.size))=true:=by
  rw [lN hsz,Bool.and_false]
  exact Bool.false_ne_true
 refine call_meets F.slot_list_extend ⟨_,e,rfl⟩ F.entry_list_extend (F.args_list_extend_2 _ _)
  (AutoSeq1.list_extend_list_list_0 l its.toArray n b its2.toArray n2 hlong (by rw [List.size_toArray];omega) (by omega)) ⟨e,e2,?_⟩
 refine ⟨.non,_,I.lset (its':=its++its2) hH e (by simp) (r.append r2) ?_,rfl,q⟩
 rw [List.length_append]
 omega
def zS:V->List V->Hp->VK->Prop:=fun x vs H Q=>∃ l xs i k y,x = .ref l/\vs=[.int i]/\H l=some (.lst xs)/\ -(2 ^ 63)<=i/\i < 2 ^ 63/\seqIndex? i xs.length=some k/\xs[k]?=some y/\Q y (upd H l (.lst (xs.eraseIdx k)))
theorem lK:MtM X "list.pop" zS:=by
 intro pins s σ H x vs v us Q I rx rv h
 obtain ⟨l,xs,i,k,y,rfl,rfl,hH,h1,h2,hk,hy,q⟩:=h
 cases rx
 obtain ⟨u,rfl,ru⟩:=rv.one
 obtain ⟨t,rfl⟩:=ru
 obtain ⟨z,its,n,r,hl,e⟩:=I.lstM hH
 obtain ⟨w,hw,rw'⟩:=r.get hy
 refine call_meets F.slot_list_pop ⟨_,e,rfl⟩ F.entry_list_pop (F.args_list_pop_2 _ _)
  (MeetsSeq.list_pop_at l its.toArray n i t k w (fitsIndex_both h1 h2) (by rw [List.size_toArray,<- hl];exact hk) (by rw [<- Array.getElem?_toList];exact hw) (by rw [List.size_toArray];omega)) ⟨e,?_⟩
 refine ⟨y,_,I.lset (its':=its.eraseIdx k) hH e ?_ (r.eraseIdx k) ?_,rw',q⟩
 ·show its.toArray.eraseIdxIfInBounds k=(its.eraseIdx k).toArray
  rw [List.eraseIdxIfInBounds_toArray]
 ·have:=lY xs k
  omega
def p8:R2:=fun x y H Q=>∃ l b xs zs,x = .ref l/\y = .ref b/\H l=some (.lst xs)/\H b=some (.lst zs)/\xs.length+zs.length<=sizeLine/\∀ p,H p=none->Q (.ref p) (upd H p (.lst (xs++zs)))
theorem cH:OpR X (binaryOp .Add) p8:=by
 intro pins s σ H x y v u Q I rx ry h
 obtain ⟨l,b,xs,zs,rfl,rfl,hH,hB,hz,q⟩:=h
 cases rx
 cases ry
 obtain ⟨z,its,n,r,hl,e⟩:=I.lstM hH
 obtain ⟨z2,its2,n2,r2,hl2,e2⟩:=I.lstM hB
 refine PySem.P.add_list e e2 ?_ (by rw [List.size_toArray,List.size_toArray];omega)
 have ea:its.toArray++its2.toArray=(its++its2).toArray:=by simp
 rw [ea]
 exact ⟨.ref _,_,I.lnew (t':=s.toks) (r.append r2) (by rw [List.length_append];omega),rfl,q _ I.fresh⟩
def Co:R2:=fun x y H Q=>∃ l k xs,x = .ref l/\y = .int k/\H l=some (.lst xs)/\ -(2 ^ 63)<=k/\k < 2 ^ 63/\xs.length * k.toNat<=sizeLine/\
 ∀ p,H p=none->Q (.ref p) (upd H p (.lst (List.replicate k.toNat xs).flatten))
theorem xt {α:Type} (xs:List α) (k:Nat):(List.replicate k xs).flatten.length=k * xs.length:=by
 induction k with
 | zero=>simp
 | succ k ih=>rw [List.replicate_succ,List.flatten_cons,List.length_append,ih,Nat.succ_mul,Nat.add_comm]
theorem rn:OpR X (binaryOp .Mult) Co:=by
 intro pins s σ H x y v u Q I rx ry h
 obtain ⟨l,k,xs,rfl,rfl,hH,h1,h2,hz,q⟩:=h
 cases rx
 obtain ⟨t,rfl⟩:=ry
 obtain ⟨z,its,n,r,hl,e⟩:=I.lstM hH
 have hlen:its.toArray.size * k.toNat<=sizeLine:=by rw [List.size_toArray,<- hl];exact hz
 have hcap:¬ its.toArray.size * k.toNat > (2 ^ 63 - 1) / 8:=by
  have:(sizeLine:Nat)<=(2 ^ 63 - 1) / 8:=by decide
  omega
 have hfit:¬ (!Builtin.List.listFitsIndex k)=true:=by
  rw [fitsIndex_both h1 h2]
  exact Bool.false_ne_true
 have hlong:¬ Builtin.List.listTooLong (its.toArray.size * k.toNat)=true:=by
  rw [lN hlen]
  exact Bool.false_ne_true
 have hnew:List.foldl (fun x1 x2=>x1++x2) #[] (List.replicate (if its.toArray.isEmpty=true then 0 else k.toNat) its.toArray)=(List.replicate k.toNat its).flatten.toArray:=by
  have f0:∀ m:Nat,List.foldl (fun x1 x2=>x1++x2) #[] (List.replicate m its.toArray)=(List.replicate m its).flatten.toArray:=fun m=>by
   have:=mI its m []
   rw [List.nil_append] at this
   exact this
  rw [f0]
  cases its with
  | nil=>simp
  | cons a r'=>rw [if_neg (by simp)]
 refine wpAny_binaryOp_repeat_ref (T:= "list") (U:= "int") (by decide) ⟨_,e,rfl⟩ (fun s'=>typeIs_int s' k t) noFill_list_mul F.fills_int_mul F.slot_int_rmul repeat_list F.slot_int_index.lookup
  (call_meets F.slot_int_rmul (typeIs_int s k t) F.entry_int_rmul (F.args_int_rmul_2 _ _) (int___rmul___int_list k t l its.toArray n)
   ⟨e,rfl,⟨_,e,rfl⟩,call_meets F.slot_list_mul ⟨_,e,rfl⟩ F.entry_list_mul (F.args_list_mul_2 _ _) (AutoListH.list___mul___list_int_3 l its.toArray n k t hfit hcap hlong) ⟨e,?_⟩⟩)
 rw [hnew]
 exact ⟨.ref _,_,I.lnew (t':=s.toks) (r.rep k.toNat) (by rw [xt,Nat.mul_comm];exact hz),rfl,q _ I.fresh⟩
end
section
variable {prog:Program} {w:World} {A:Around} {E:Value->Shared->Prop} {s:Shared}
set_option maxRecDepth 100000 in
end
end L2
namespace L2
open PySem PySem.Spec PyProof.Rows
theorem aI.ints:∀ {ns:List Int} {us:List Value},aI (ns.map V.int) us->IntsAre us ns
 | [],us,h=>by
  rw [List.map_nil] at h
  cases h
  exact IntsAre.nil
 | n::ns,us,h=>by
  rw [List.map_cons] at h
  cases h with
  | cons r t=>
   obtain ⟨k,rfl⟩:=r
   exact IntsAre.cons n k (aI.ints t)
theorem aI.bls:∀ {bs:List Bool} {us:List Value},aI (bs.map V.bl) us->us=bs.map Value.bool
 | [],us,h=>by
  rw [List.map_nil] at h
  cases h
  rfl
 | b::bs,us,h=>by
  rw [List.map_cons] at h
  cases h with
  | cons r t=>
   cases r
   rw [aI.bls t,List.map_cons]
theorem aI.ref1 {a:Addr} {us:List Value} (r:aI [V.ref a] us):us=[Value.ref a]:=by
 cases r with
 | cons r t=>
  cases t
  cases r
  rfl
section
variable {prog:Program} {w:World} {A:Around} {E:Value->Shared->Prop} {s:Shared} {l:Addr} {its:List Value} {ns:List Int} {Q:Value->Shared->Prop}
theorem xI (hh:A.handled=none) (hl:s.heap.IsList l its.toArray) (hi:IntsAre its ns)
  (h:∀ h' tk t',(∀ b o,s.heap.get? b=some o->h'.get? b=some o)->Q (.int ns.sum t') { s with heap:=h',toks:=tk }):wpAny (model prog w) A (call (.builtin "sum") [.ref l]) Q E s:=by
 obtain ⟨xs,e⟩:=hi.allInts.items
 have hn:numsOf (intItems xs).toList=ns:=by rw [<- e];exact hi.numsOf
 rw [nums_intItems] at hn
 rw [e] at hl
 refine PySem.sum_intListG hh hl fun h' tk t' hk=>?_
 have:=h h' tk t' hk
 rw [preSum_eq,List.take_of_length_le (by simp),hn];exact this
theorem Dn (hh:A.handled=none) (hl:s.heap.IsList l its.toArray) (hi:IntsAre its ns) (hne:0 < ns.length)
  (h:∀ h' tk M t',(∀ b o,s.heap.get? b=some o->h'.get? b=some o)->M∈ns->(∀ a,a∈ns->a<=M)->Q (.int M t') { s with heap:=h',toks:=tk }):wpAny (model prog w) A (call (.builtin "max") [.ref l]) Q E s:=by
 obtain ⟨xs,e⟩:=hi.allInts.items
 have hn:numsOf (intItems xs).toList=ns:=by rw [<- e];exact hi.numsOf
 rw [nums_intItems] at hn
 subst hn
 rw [e] at hl
 have hsz:0 < xs.size:=by simpa using hne
 refine PySem.max_intList hh hl hsz fun v h' tk hv hk=>?_
 obtain ⟨t,rfl⟩:=intItems_at hv
 obtain ⟨h1,h2⟩:=argBest_gt (numAt xs) (xs.size - 1)
 refine h h' tk _ t hk ?_ fun a ha=>?_
 ·rw [numAt_eq];exact PySem.getD_mem (by rw [List.length_map,Array.length_toList];omega)
 ·obtain ⟨j,hj,rfl⟩:=mem_getD ha
  rw [List.length_map,Array.length_toList] at hj
  rw [<- numAt_eq];exact h2 j (by omega)
theorem yd (hh:A.handled=none) (hl:s.heap.IsList l its.toArray) (hi:IntsAre its ns) (hne:0 < ns.length)
  (h:∀ h' tk M t',(∀ b o,s.heap.get? b=some o->h'.get? b=some o)->M∈ns->(∀ a,a∈ns->M<=a)->Q (.int M t') { s with heap:=h',toks:=tk }):wpAny (model prog w) A (call (.builtin "min") [.ref l]) Q E s:=by
 obtain ⟨xs,e⟩:=hi.allInts.items
 have hn:numsOf (intItems xs).toList=ns:=by rw [<- e];exact hi.numsOf
 rw [nums_intItems] at hn
 subst hn
 rw [e] at hl
 have hsz:0 < xs.size:=by simpa using hne
 refine PySem.min_intList hh hl hsz fun v h' tk hv hk=>?_
 obtain ⟨t,rfl⟩:=intItems_at hv
 obtain ⟨h1,h2⟩:=argBest_lt (numAt xs) (xs.size - 1)
 refine h h' tk _ t hk ?_ fun a ha=>?_
 ·rw [numAt_eq];exact PySem.getD_mem (by rw [List.length_map,Array.length_toList];omega)
 ·obtain ⟨j,hj,rfl⟩:=mem_getD ha
  rw [List.length_map,Array.length_toList] at hj
  rw [<- numAt_eq];exact h2 j (by omega)
end
section
variable {X:Cx}
def D4 (K:PySem.W.Frag):List V->Hp->VK->Prop:=fun vs H Q=>∃ (a:Addr) (ns:List Int),vs=[V.ref a]/\SqL K H a (ns.map V.int)/\Q (.int ns.sum) H
def Db (K:PySem.W.Frag):List V->Hp->VK->Prop:=fun vs H Q=>∃ (a:Addr) (ns:List Int),vs=[V.ref a]/\SqL K H a (ns.map V.int)/\0 < ns.length/\∀ m,m∈ns->(∀ y,y∈ns->m<=y)->Q (.int m) H
theorem As (hc:X.calm=true):ip X (.builtin "sum") (D4 X.K):=by
 intro pins s σ H vs us Q I r h
 obtain ⟨a,ns,rfl,hs,q⟩:=h
 obtain ⟨its,rv,hl,_⟩:=I.list hs
 rw [aI.ref1 r]
 exact xI (I.ok.hd hc) hl.isList rv.ints fun h' tk t' hk=>⟨.int _,H,I.kept hk,⟨_,rfl⟩,q⟩
theorem Ae (hc:X.calm=true):ip X (.builtin "min") (Db X.K):=by
 intro pins s σ H vs us Q I r h
 obtain ⟨a,ns,rfl,hs,hne,q⟩:=h
 obtain ⟨its,rv,hl,_⟩:=I.list hs
 rw [aI.ref1 r]
 exact yd (I.ok.hd hc) hl.isList rv.ints hne fun h' tk m t' hk h1 h2=>⟨.int _,H,I.kept hk,⟨_,rfl⟩,q m h1 h2⟩
end
theorem wq {prog:Program} {w:World} {A:Around} {E:Value->Shared->Prop} {s:Shared} {l:Addr} {items:Array Value} {Q:Value->Shared->Prop} (hl:s.heap.IsList l items)
  (h:∀ s₂:Shared,s₂={ s with heap:=s.heap.push { cls:= .type "list_iterator",data:= .fields #[.ref l,.int 0 0] } }->
   (s₂.heap.IsListIter s.heap.objs.size l 0/\s₂.heap.IsList l items)->l≠s.heap.objs.size->Q (.ref s.heap.objs.size) s₂):wpAny (model prog w) A (pyIter (.ref l)) Q E s:=by
 have hlt:l < s.heap.objs.size:=by obtain ⟨_,e,_⟩:=hl;exact Heap.lt_size e
 exact wpAny_pyIter_list hl (h _ rfl ⟨⟨_,Heap.get?_push_size _ rfl,rfl,rfl⟩,hl.push _⟩ (Nat.ne_of_lt hlt))
theorem o4 {prog:Program} {w:World} {A:Around} {bs:List Bool} {its:List Value} (e:its=bs.map Value.bool) :
  TruthOf prog w A (fun i v=>its.toArray[i]?=some v) (fun i=>bs.getD i false):=fun i v s Q E hv hq=>by
 have hv':its[i]?=some v:=by simpa using hv
 rw [e,List.getElem?_map] at hv'
 obtain ⟨b,hb,rfl⟩:=Option.map_eq_some_iff.mp hv'
 have hg:bs.getD i false=b:=by rw [List.getD_eq_getElem?_getD,hb] <;> rfl
 have hq':Q (bs.getD i false) s:=hq
 rw [hg] at hq'
 exact wpAny_truthy_bool hq'
theorem sY:∀ bs:List Bool,(List.range bs.length).any (fun i=>bs.getD i false)=bs.any id
 | []=>rfl
 | b::bs=>by
  rw [List.length_cons,List.range_succ_eq_map,List.any_cons,List.any_map,List.any_cons,<- sY bs]
  all_goals rfl
theorem md:∀ bs:List Bool,(List.range bs.length).all (fun i=>bs.getD i false)=bs.all id
 | []=>rfl
 | b::bs=>by
  rw [List.length_cons,List.range_succ_eq_map,List.all_cons,List.all_map,List.all_cons,<- md bs]
  all_goals rfl
section
variable {X:Cx}
def DQ (K:PySem.W.Frag):List V->Hp->VK->Prop:=fun vs H Q=>∃ (a:Addr) (bs:List Bool),vs=[V.ref a]/\SqL K H a (bs.map V.bl)/\Q (.bl (bs.all id)) H
theorem rE (hc:X.calm=true):ip X (.builtin "all") (DQ X.K):=by
 intro pins s σ H vs us Q I r h
 obtain ⟨a,bs,rfl,hs,q⟩:=h
 obtain ⟨its,rv,hl,_⟩:=I.list hs
 rw [aI.ref1 r]
 have hb:=rv.bls
 refine call_all_walk (wq hl.isList fun s₂ e2 st hne=>?_)
 subst e2
 refine ⟨_,_,_,_,_,_,_,rfl,Walks.list (A:=X.A.in1) (I.ok.hd hc) _ a hne its.toArray,st,o4 hb,fun h' tk hk=>?_⟩
 refine ⟨.bl _,H,I.kept fun b o eo=>hk b o (fun hmem=>?_) (Heap.get?_push_of_some _ eo),?_,q⟩
 ·rcases List.mem_cons.mp hmem with e1 | hmem
  ·exact absurd (e1 ▸ Heap.lt_size eo) (Nat.lt_irrefl _)
  ·cases hmem
 ·show Value.bool _=Value.bool _
  rw [<- md,hb,List.size_toArray,List.length_map]
end
mutual
inductive Dp (K:PySem.W.Frag) (H:Hp):V->PyData->Prop
 | non:Dp K H .non .none
 | bl (b:Bool):Dp K H (.bl b) (.bool b)
 | int (i:Int):Dp K H (.int i) (.int i)
 | str (x:Str):Dp K H (.str x) (.str x)
 | lst {a:Addr} {xs:List V} {ds:List PyData}:SqL K H a xs->jX K H xs ds->Dp K H (.ref a) (.list ds)
 | tup {a:Addr} {xs:List V} {ds:List PyData}:SqT K H a xs->jX K H xs ds->Dp K H (.ref a) (.tuple ds)
inductive jX (K:PySem.W.Frag) (H:Hp):List V->List PyData->Prop
 | nil:jX K H [] []
 | cons {v:V} {vs:List V} {d:PyData} {ds:List PyData}:Dp K H v d->jX K H vs ds->jX K H (v::vs) (d::ds)
end
section
variable {X:Cx} {pins:List (Addr×Obj)} {σ:St} {H:Hp} {s:Shared}
mutual
theorem Dp.reads (I:Inv X pins σ H s):∀ (d:PyData) (v:V) (u:Value),Dp X.K H v d->aW v u->∃ as,Reads s.heap u d as
 | .none,_,_,h,r=>by
  cases h
  cases r
  exact ⟨_,Reads.none⟩
 | .bool b,_,_,h,r=>by
  cases h
  cases r
  exact ⟨_,Reads.bool b⟩
 | .int i,_,_,h,r=>by
  cases h
  obtain ⟨t,rfl⟩:=r
  exact ⟨_,Reads.int i t⟩
 | .str x,_,_,h,r=>by
  cases h
  obtain ⟨t,rfl⟩:=r
  exact ⟨_,Reads.str x t⟩
 | .list ds,_,_,h,r=>by
  cases h with
  | lst hs ha=>
   cases r
   obtain ⟨its,rv,⟨o,n,ho,hc,_,hd⟩,_⟩:=I.list hs
   obtain ⟨as,hr⟩:=Dp.readsAll I ds _ its ha rv
   exact ⟨_,Reads.list ho hc hd hr⟩
 | .tuple ds,_,_,h,r=>by
  cases h with
  | tup hs ha=>
   cases r
   obtain ⟨its,rv,⟨o,ho,hc,n,hd⟩,_⟩:=I.tuple hs
   obtain ⟨as,hr⟩:=Dp.readsAll I ds _ its ha rv
   exact ⟨_,Reads.tuple ho hc hd hr⟩
 | .dict _,_,_,h,_=>by cases h
theorem Dp.readsAll (I:Inv X pins σ H s):∀ (ds:List PyData) (vs:List V) (us:List Value),jX X.K H vs ds->aI vs us->∃ as,ReadsAll s.heap us ds as
 | [],_,_,h,r=>by
  cases h
  cases r
  exact ⟨_,ReadsAll.nil⟩
 | d::ds,_,_,h,r=>by
  cases h with
  | cons h1 h2=>
   cases r with
   | cons r1 r2=>
    obtain ⟨as,q1⟩:=Dp.reads I d _ _ h1 r1
    obtain ⟨bs,q2⟩:=Dp.readsAll I ds _ _ h2 r2
    exact ⟨_,ReadsAll.cons q1 q2⟩
end
end
section
variable {X:Cx}
def DC (K:PySem.W.Frag):R2:=fun x y H Q=>∃ d e,Dp K H x d/\Dp K H y e/\SeqAt.shaped d=true/\SeqAt.shaped e=true/\Q (.bl (PyData.eqv d e)) H
theorem xm (hu:X.A.units+64 < cLine):OpR X (compareOp .Eq) (DC X.K):=by
 intro pins s σ H x y v u Q I rx ry h
 obtain ⟨d,e,hd,he,sd,se,q⟩:=h
 obtain ⟨as,r1⟩:=Dp.reads I d x v hd rx
 obtain ⟨bs,r2⟩:=Dp.reads I e y u he ry
 exact SeqAt.compareEq_shaped r1 r2 sd se hu ⟨.bl _,H,I,rfl,q⟩
end
end L2
namespace L2
open PySem PySem.Spec PyProof.Rows
abbrev va (h:Heap) (c:Addr) (v:Option Value):Prop:=h.IsCell c v
def Du (scope sc:Scope):Scope:=
 { scope with names:=scope.names.map fun (n,k)=>if (k == .free && sc.kind == .function && sc.names.lookup n == some .cell) then (n,.cell) else (n,k) }
def b5 (cells:List (Str×Addr)):List (Str×NameKind)->List (Str×Addr)->List (Str×Addr)
 | [],acc=>acc
 | (n,k)::r,acc=>if k == .free then b5 cells r ((n,(cells.lookup n).getD 0)::acc) else b5 cells r acc
theorem iX (env:Env) (f:Str×NameKind->List (Str×Addr)->Sem (ForInStep (List (Str×Addr))))
  (hf:∀ n k c,f (n,k) c=if k == .free then (do let a <- cellOf env n;pure (.yield ((n,a)::c))) else pure (.yield c)) :
  ∀ (names:List (Str×NameKind)) (acc:List (Str×Addr)),(∀ y∈names,y.2 = .free->∃ c,env.cells.lookup y.1=some c)->forIn names acc f=pure (b5 env.cells names acc)
 | [],acc,_=>by rw [List.forIn_nil];rfl
 | (n,k)::r,acc,h=>by
  rw [List.forIn_cons,hf]
  have ih:=fun acc=>iX env f hf r acc fun y hy=>h y (List.mem_cons_of_mem _ hy)
  unfold b5
  by_cases hk:(k == NameKind.free)=true
  ·rw [if_pos hk,if_pos hk]
   obtain ⟨c,hc⟩:=h (n,k) List.mem_cons_self (by simpa using hk)
   have e:cellOf env n=pure c:=by unfold cellOf;rw [hc]
   rw [e]
   have e2:(env.cells.lookup n).getD 0=c:=by rw [hc];rfl
   rw [e2]
   exact ih _
  ·rw [if_neg hk,if_neg hk]
   exact ih _
theorem ql {scope:Scope} {env:Env} (h:∀ y∈scope.names,y.2 = .free->∃ c,env.cells.lookup y.1=some c):closureFor scope env=pure (b5 env.cells scope.names []):=by
 simp only [closureFor]
 rw [iX env _ (fun n k c=>rfl) scope.names [] h]
 rfl
theorem iI {α:Type}:∀ {l:List (Str×α)} {n:Str} {c:α},(n,c)∈l->∃ c',l.lookup n=some c'
 | (k,v)::r,n,c,h=>by
  rw [List.lookup_cons]
  cases hb:n == k with
  | true=>exact ⟨_,rfl⟩
  | false=>
   rcases List.mem_cons.mp h with e | h
   ·cases e;simp at hb
   ·exact iI h
theorem fP {cells:List (Str×Addr)}:∀ {names:List (Str×NameKind)} {acc:List (Str×Addr)} {n:Str} {c:Addr},(n,c)∈b5 cells names acc->(n,c)∈acc\/((n,.free)∈names/\c=(cells.lookup n).getD 0)
 | [],_,_,_,h=> .inl h
 | (m,k)::r,acc,n,c,h=>by
  unfold b5 at h
  split at h
  ·rename_i hk
   have hk:k = .free:=by simpa using hk
   rcases fP h with h | ⟨h1,h2⟩
   ·rcases List.mem_cons.mp h with e | h
    ·cases e;exact .inr ⟨hk ▸ List.mem_cons_self,rfl⟩
    ·exact .inl h
   ·exact .inr ⟨List.mem_cons_of_mem _ h1,h2⟩
  ·rcases fP h with h | ⟨h1,h2⟩
   ·exact .inl h
   ·exact .inr ⟨List.mem_cons_of_mem _ h1,h2⟩
theorem g6 {cells:List (Str×Addr)}:∀ {names:List (Str×NameKind)} {acc:List (Str×Addr)} {p:Str×Addr},p∈acc->p∈b5 cells names acc
 | [],_,_,h=>h
 | (m,k)::r,acc,p,h=>by
  unfold b5
  split
  ·exact g6 (List.mem_cons_of_mem _ h)
  ·exact g6 h
theorem gS {cells:List (Str×Addr)}:∀ {names:List (Str×NameKind)} {acc:List (Str×Addr)} {n:Str},(n,.free)∈names->(n,(cells.lookup n).getD 0)∈b5 cells names acc
 | (m,k)::r,acc,n,h=>by
  unfold b5
  rcases List.mem_cons.mp h with e | h
  ·cases e
   exact g6 List.mem_cons_self
  ·split
   ·exact gS h
   ·exact gS h
theorem f7:∀ {names:List (Str×NameKind)} {h:Heap} {acc:List (Str×Addr)} {x:Str} {c:Addr},(x,c)∈cellsFrom h.objs.size names acc->
  (x,c)∈acc\/((x,.cell)∈names/\h.objs.size<=c/\va (pushCells h names) c none)
 | [],_,_,_,_,h=> .inl h
 | (n,k)::r,h,acc,x,c,hm=>by
  unfold cellsFrom at hm
  unfold pushCells
  split at hm
  ·rename_i hk
   rw [if_pos hk]
   have hk:k = .cell:=by simpa using hk
   rw [<- Heap.size_push h { cls:= .type "cell",data:= .cell none }] at hm
   rcases f7 hm with hm | ⟨h1,h2,h3⟩
   ·rcases List.mem_cons.mp hm with e | hm
    ·cases e
     exact .inr ⟨hk ▸ List.mem_cons_self,Nat.le_refl _,_,pushCells_keeps r _ _ _ (Heap.get?_push_size _ rfl),rfl⟩
    ·exact .inl hm
   ·rw [Heap.size_push] at h2
    exact .inr ⟨List.mem_cons_of_mem _ h1,Nat.le_of_succ_le h2,h3⟩
  ·rename_i hk
   rw [if_neg hk]
   rcases f7 hm with hm | ⟨h1,h2,h3⟩
   ·exact .inl hm
   ·exact .inr ⟨List.mem_cons_of_mem _ h1,h2,h3⟩
theorem ib:∀ {names:List (Str×NameKind)} {n:Nat} {acc:List (Str×Addr)} {p:Str×Addr},p∈acc->p∈cellsFrom n names acc
 | [],_,_,_,h=>h
 | (m,k)::r,n,acc,p,h=>by
  unfold cellsFrom
  split
  ·exact ib (List.mem_cons_of_mem _ h)
  ·exact ib h
theorem jK:∀ {names:List (Str×NameKind)} {n:Nat} {acc:List (Str×Addr)} {x:Str},(x,.cell)∈names->∃ c,(x,c)∈cellsFrom n names acc
 | (m,k)::r,n,acc,x,h=>by
  unfold cellsFrom
  rcases List.mem_cons.mp h with e | h
  ·cases e
   exact ⟨n,ib List.mem_cons_self⟩
  ·split
   ·exact jK h
   ·exact jK h
theorem ju:∀ {names:List (Str×NameKind)} {h:Heap} {acc:List (Str×Addr)} {x y:Str} {c:Addr},(∀ p∈acc,p.2 < h.objs.size)->(∀ x y c,(x,c)∈acc->(y,c)∈acc->x=y)->
  (x,c)∈cellsFrom h.objs.size names acc->(y,c)∈cellsFrom h.objs.size names acc->x=y
 | [],_,_,_,_,_,_,hi,h1,h2=>hi _ _ _ h1 h2
 | (n,k)::r,h,acc,x,y,c,hl,hi,h1,h2=>by
  unfold cellsFrom at h1 h2
  split at h1
  ·rename_i hk
   rw [if_pos hk] at h2
   rw [<- Heap.size_push h { cls:= .type "cell",data:= .cell none }] at h1 h2
   refine ju (h:=h.push _) (fun p hp=>?_) (fun x y c a b=>?_) h1 h2
   ·rw [Heap.size_push]
    rcases List.mem_cons.mp hp with rfl | hp
    ·exact Nat.lt_succ_self _
    ·exact Nat.lt_succ_of_lt (hl p hp)
   ·rcases List.mem_cons.mp a with e | a <;> rcases List.mem_cons.mp b with e' | b
    ·cases e;cases e';rfl
    ·cases e;exact absurd (hl _ b) (Nat.lt_irrefl _)
    ·cases e';exact absurd (hl _ a) (Nat.lt_irrefl _)
    ·exact hi _ _ _ a b
  ·rename_i hk
   rw [if_neg hk] at h2
   exact ju hl hi h1 h2
theorem pF {M:Model} {A:Around} {E:Value->Shared->Prop} {s:Shared} {scope:Scope} {globals:Addr} {closure:List (Str×Addr)} {qual:Str} {func:Option Addr} {code:Value} {around:Env} {builtins:Addr} {Q:Env->Shared->Prop}
  (h:Q (newEnv scope s.heap.objs.size globals (cellsFrom (s.heap.objs.size+1) scope.names closure) qual func code (some around) builtins)
   { s with heap:=pushCells (s.heap.push { cls:= .type "dict",data:= .dict #[] }) scope.names }) :
  wpAny M A (newFunctionEnv scope globals closure [] qual func code (some around) builtins) Q E s:=by
 simp only [newFunctionEnv,Option.isSome_some,if_true]
 refine wpAny_bind (wpAny_alloc ?_)
 refine wpAny_bind (wpAny_layCells _ (fun n k c=>rfl) scope.names closure _ _ ?_)
 rw [show ({ s with heap:=s.heap.push { cls:= .type "dict",data:= .dict #[] } }:Shared).heap.objs.size=s.heap.objs.size+1 from Heap.size_push ..]
 rw [List.forIn_nil]
 exact wpAny_bind (wpAny_pure (wpAny_pure h))
theorem hZ {sc:Scope}:∀ {names:List (Str×NameKind)} {x:Str} {k:NameKind},
  (names.map fun (n,k)=>if (k == NameKind.free && sc.kind == .function && sc.names.lookup n == some .cell) then (n,NameKind.cell) else (n,k)).lookup x=some k->
  ∃ k',names.lookup x=some k'/\(k=k'\/(k' = .free/\k = .cell))
 | [],_,_,h=>by simp at h
 | (n,k₀)::r,x,k,h=>by
  have ih:=@hZ sc r x k
  have h':List.lookup x ((if (k₀ == NameKind.free && sc.kind == .function && sc.names.lookup n == some .cell)=true then (n,NameKind.cell) else (n,k₀))::(r.map _))=some k:=h
  cases hx:x == n with
  | true=>
   simp only [List.lookup_cons,hx]
   by_cases hc:(k₀ == NameKind.free && sc.kind == .function && sc.names.lookup n == some .cell)=true
   ·rw [if_pos hc] at h'
    simp only [List.lookup_cons,hx] at h'
    cases h'
    simp only [Bool.and_eq_true,beq_iff_eq] at hc
    exact ⟨k₀,rfl,.inr ⟨hc.1.1,rfl⟩⟩
   ·rw [if_neg hc] at h'
    simp only [List.lookup_cons,hx] at h'
    cases h'
    exact ⟨_,rfl,.inl rfl⟩
  | false=>
   simp only [List.lookup_cons,hx]
   by_cases hc:(k₀ == NameKind.free && sc.kind == .function && sc.names.lookup n == some .cell)=true
   ·rw [if_pos hc] at h'
    simp only [List.lookup_cons,hx] at h'
    exact ih h'
   ·rw [if_neg hc] at h'
    simp only [List.lookup_cons,hx] at h'
    exact ih h'
structure oW (N:List Str) (sc scope:Scope) (own:List (Str×Nat)):Prop where
 kind:scope.kind = .function
 uniq:∀ y∈scope.names,scope.names.lookup y.1=some y.2
 ix:∀ p∈own,N[p.2]?=some p.1
 free:∀ y∈scope.names,y.2 = .free->sc.names.lookup y.1=some .cell\/sc.names.lookup y.1=some .free
 own:∀ y∈scope.names,y.2 = .local\/y.2 = .cell->y.1∈own.map (·.1)\/y.1∉N
def cw (σ:St):List Nat->St
 | []=>σ
 | v::vs=>(cw σ vs).set v none
theorem gJ (σ:St):∀ vs:List Nat,(cw σ vs).length=σ.length
 | []=>rfl
 | v::vs=>by unfold cw;rw [List.length_set,gJ σ vs]
theorem jL {σ:St} {i:Nat} {x:V}:∀ {vs:List Nat},(cw σ vs)[i]?=some (some x)->σ[i]?=some (some x)/\i∉vs
 | [],h=>⟨h,by simp⟩
 | v::vs,h=>by
  unfold cw at h
  by_cases hi:v=i
  ·subst hi
   by_cases hv:v < (cw σ vs).length
   ·rw [List.getElem?_set_self hv] at h;cases h
   ·rw [List.getElem?_eq_none (by simpa using hv)] at h;cases h
  ·rw [List.getElem?_set_ne hi] at h
   obtain ⟨h1,h2⟩:=jL h
   exact ⟨h1,by simp only [List.mem_cons,not_or];exact ⟨fun e=>hi e.symm,h2⟩⟩
abbrev Cx.blk (X:Cx) (s:Shared) (H:Hp) (scope:Scope) (cenv:Env) (fp:List Addr):Cx:={ X with s_0:=s,H_0:=H,env:=cenv,outer:=X.stack,ex:=fp,fn:=fun x=>scope.names.lookup x == some .cell,pn:=[],xe:=fun _ _=>False }
section
variable {X:Cx} {pins:List (Addr×Obj)} {σ:St} {H:Hp} {s:Shared}
theorem px {scope:Scope} {own:List (Str×Nat)} {fp:List Addr} (I:Inv X pins σ H s) (ok:oW X.N X.env.scope scope own) (hN:X.N.Nodup) (hfp:∀ b∈fp,fT X pins H b/\b < s.heap.objs.size) :
  Inv (X.blk s H scope (compEnvC scope (cellsFrom (s.heap.objs.size+1) scope.names (b5 X.env.cells scope.names [])) s.heap.objs.size X.env) fp) [] (cw σ (own.map (·.2))) H { s with heap:=pushCells (s.heap.push { cls:= .type "dict",data:= .dict #[] }) scope.names }:=by
 have hfree:∀ y∈scope.names,y.2 = .free->∃ c,X.env.cells.lookup y.1=some c:=fun y hy e=>by
  rcases ok.free y hy e with k | k
  ·exact I.ok.has _ (.inl k)
  ·exact I.ok.has _ (.inr k)
 generalize hcenv:compEnvC scope (cellsFrom (s.heap.objs.size+1) scope.names (b5 X.env.cells scope.names [])) s.heap.objs.size X.env=cenv
 have kp:∀ b o,s.heap.get? b=some o->(pushCells (s.heap.push { cls:= .type "dict",data:= .dict #[] }) scope.names).get? b=some o:=fun b o e=>pushCells_keeps _ _ _ _ (Heap.get?_push_of_some _ e)
 have hL:cenv.locals=s.heap.objs.size:=by rw [<- hcenv];rfl
 have hcl:cenv.cells=cellsFrom (s.heap.objs.size+1) scope.names (b5 X.env.cells scope.names []):=by rw [<- hcenv];rfl
 have hsc:cenv.scope=Du scope X.env.scope:=by rw [<- hcenv];rfl
 rw [<- Heap.size_push s.heap { cls:= .type "dict",data:= .dict #[] }] at hcl
 have cm:∀ {y c},(y,c)∈b5 X.env.cells scope.names []->X.env.cells.lookup y=some c/\c < s.heap.objs.size:=fun {y c} hm=>by
  rcases fP hm with hm | ⟨h1,rfl⟩
  ·cases hm
  ·obtain ⟨c,hc⟩:=hfree _ h1 rfl
   rw [hc]
   obtain ⟨w,z⟩:=I.cell _ _ hc
   exact ⟨rfl,z.lt⟩
 have mem:∀ {y c},cenv.cells.lookup y=some c->(X.env.cells.lookup y=some c/\c < s.heap.objs.size)\/(s.heap.objs.size+1<=c/\va (pushCells (s.heap.push { cls:= .type "dict",data:= .dict #[] }) scope.names) c none):=fun {y c} e=>by
  rw [hcl] at e
  rcases f7 (PySem.mem_of_lookup e) with hm | ⟨_,h2,h3⟩
  ·exact .inl (cm hm)
  ·rw [Heap.size_push] at h2;exact .inr ⟨h2,h3⟩
 have look:∀ {y},scope.names.lookup y=some .free->∃ c,cenv.cells.lookup y=some c/\X.env.cells.lookup y=some c:=fun {y} hl=>by
  have hy:(y,NameKind.free)∈scope.names:=PySem.mem_of_lookup hl
  obtain ⟨c',e'⟩:=iI (ib (names:=scope.names) (n:=(s.heap.push { cls:= .type "dict",data:= .dict #[] }).objs.size) (gS (cells:=X.env.cells) (acc:=[]) hy))
  rw [<- hcl] at e'
  refine ⟨c',e',?_⟩
  rw [hcl] at e'
  rcases f7 (PySem.mem_of_lookup e') with hm | ⟨h1,_,_⟩
  ·exact (cm hm).1
  ·have:=ok.uniq _ h1
   rw [hl] at this;cases this
 have okB:(X.blk s H scope cenv fp).Ok:=by
  refine ⟨I.ok.mod,by show cenv.scope.kind=_;rw [hsc];exact ok.kind,by show cenv.globals=_;rw [<- hcenv];exact I.ok.glob,by show cenv.builtins=_;rw [<- hcenv];exact I.ok.blt,by show s.heap.objs.size<=cenv.locals;rw [hL];exact Nat.le_refl _,
   fun y z c e1 e2=>?_,fun y hy=>?_,fun y c z e=>?_,I.ok.hd,I.ok.frames,.inl rfl,fun b hb=>⟨?_,fun y c e z=>?_⟩,I.bs,Nat.le_trans I.ok.bsz I.sz,fun b o e hb=>?_,fun b hb z=>?_,I.stack,I.stkFree⟩
  ·have e1:cenv.cells.lookup y=some c:=e1
   have e2:cenv.cells.lookup z=some c:=e2
   rw [hcl] at e1 e2
   refine ju (fun p hp=>?_) (fun y z c a b=>I.ok.inj y z c (cm a).1 (cm b).1) (PySem.mem_of_lookup e1) (PySem.mem_of_lookup e2)
   rw [Heap.size_push]
   exact Nat.lt_succ_of_lt (cm (y:=p.1) (c:=p.2) hp).2
  ·show ∃ c,cenv.cells.lookup y=some c
   have key:∀ k,cenv.kindOf y=some k->(k = .cell\/k = .free)->∃ c,cenv.cells.lookup y=some c:=fun k hk hk'=>by
    unfold Env.kindOf at hk
    rw [hsc] at hk
    obtain ⟨k',e,r⟩:=hZ hk
    have:k' = .cell\/k' = .free:=by
     rcases r with rfl | ⟨rfl,_⟩
     ·exact hk'
     ·exact .inr rfl
    rcases this with rfl | rfl
    ·obtain ⟨c,hm⟩:=jK (n:=(s.heap.push { cls:= .type "dict",data:= .dict #[] }).objs.size) (acc:=b5 X.env.cells scope.names []) (PySem.mem_of_lookup e)
     obtain ⟨c',e'⟩:=iI hm
     exact ⟨c',by rw [hcl];exact e'⟩
    ·obtain ⟨c,h1,_⟩:=look e
     exact ⟨c,h1⟩
   rcases hy with hy | hy
   ·exact key _ hy (.inl rfl)
   ·exact key _ hy (.inr rfl)
  ·have z:(scope.names.lookup y == some NameKind.cell)=true:=z
   have z:scope.names.lookup y=some .cell:=by simpa using z
   have e:cenv.cells.lookup y=some c:=e
   rw [hcl] at e
   rcases f7 (PySem.mem_of_lookup e) with hm | ⟨_,h2,_⟩
   ·rcases fP hm with hm | ⟨h1,_⟩
    ·cases hm
    ·have q:=ok.uniq _ h1
     rw [z] at q;cases q
   ·rw [Heap.size_push] at h2
    exact Nat.le_of_succ_le h2
  ·show b≠cenv.locals
   rw [hL];exact Nat.ne_of_lt (hfp b hb).2
  ·have e:cenv.cells.lookup y=some c:=e
   rcases mem e with ⟨h1,_⟩ | ⟨h1,_⟩
   ·exact (hfp b hb).1.2.2.2.2.1 y c h1 z
   ·have h2:s.heap.objs.size+1<=b:=by rw [<- z];exact h1
    exact absurd (Nat.lt_of_lt_of_le (hfp b hb).2 (Nat.le_of_succ_le h2)) (Nat.lt_irrefl _)
  ·rcases (hfp b hb).1.2.2.2.1 with z | z
   ·exact I.ok.noex b o e z
   ·exact absurd (Nat.lt_of_lt_of_le (Heap.lt_size e) (Nat.le_trans I.ok.bsz z)) (Nat.lt_irrefl _)
  ·rcases List.mem_cons.mp (I.stkSub b z) with z | z
   ·exact (hfp b hb).1.2.1 z
   ·exact (hfp b hb).1.2.2.1 z
 refine ⟨okB,rfl,I.bare,Un.kept kp,⟨fun _=>none,?_,fun i y av e1 e2 e3=>?_⟩,fun y c e=>?_,?_,fun y c e=>?_,fun p hp=>?_,I.hok.kept kp,by rw [gJ];exact I.len⟩
 ·show Heap.Ns _ cenv.locals _
  rw [hL]
  exact Heap.Ns.keeps (Heap.Ns.new ..) fun b o e=>pushCells_keeps _ _ _ _ e
 ·obtain ⟨e2,hne⟩:=jL e2
  have hfr:scope.names.lookup y=some .free/\(cenv.kindOf y=some .cell\/cenv.kindOf y=some .free):=by
   have key:∀ k,cenv.scope.names.lookup y=some k->k = .local\/k = .cell\/k = .free->scope.names.lookup y=some .free/\(cenv.kindOf y=some .cell\/cenv.kindOf y=some .free):=fun k hk hk'=>by
    have hk0:=hk
    rw [hsc] at hk
    obtain ⟨k',e,r⟩:=hZ hk
    have no:¬ (k' = .local\/k' = .cell):=fun hh=>by
     rcases ok.own _ (PySem.mem_of_lookup e) hh with e' | e'
     ·obtain ⟨p,hp,hpy⟩:=List.mem_map.mp e'
      have e3:=ok.ix p hp
      have:p.1=y:=hpy
      rw [this] at e3
      exact hne (List.mem_map.mpr ⟨p,hp,lw hN e3 e1⟩)
     ·exact e' (List.mem_of_getElem? e1)
    rcases r with rfl | ⟨rfl,rfl⟩
    ·rcases hk' with rfl | rfl | rfl
     ·exact absurd (.inl rfl) no
     ·exact absurd (.inr rfl) no
     ·exact ⟨e,.inr hk0⟩
    ·exact ⟨e,.inl hk0⟩
   have e3:Vis cenv.scope y:=e3
   rcases e3 with e3 | e3 | e3
   ·exact key _ e3 (.inl rfl)
   ·exact key _ e3 (.inr (.inl rfl))
   ·exact key _ e3 (.inr (.inr rfl))
  obtain ⟨m,hn,hl⟩:=I.loc
  have hvis:Vis X.env.scope y:=(ok.free _ (PySem.mem_of_lookup hfr.1) rfl).elim (fun k=> .inr (.inl k)) (fun k=> .inr (.inr k))
  obtain ⟨w,r,q⟩:=hl i y av e1 e2 hvis
  refine ⟨w,r,.inr ⟨hfr.2,?_⟩⟩
  obtain ⟨c,h1,h2⟩:=look hfr.1
  rcases q with ⟨k,_⟩ | ⟨_,c',e',z⟩
  ·have k:X.env.scope.names.lookup y=some .local:=k
   rcases ok.free _ (PySem.mem_of_lookup hfr.1) rfl with k' | k' <;> rw [show X.env.scope.names.lookup y=_ from k'] at k <;> cases k
  ·rw [h2] at e';cases e'
   exact ⟨c,h1,z.keeps kp⟩
 ·have e:cenv.cells.lookup y=some c:=e
  rcases mem e with ⟨h1,_⟩ | ⟨_,z⟩
  ·obtain ⟨w,z⟩:=I.cell y c h1
   exact ⟨w,z.keeps kp⟩
  ·exact ⟨_,z⟩
 ·show H cenv.locals=none
  rw [hL];exact I.hok.fresh (Nat.le_refl _)
 ·have e:cenv.cells.lookup y=some c:=e
  rcases mem e with ⟨h1,_⟩ | ⟨h1,_⟩
  ·exact I.freeC y c h1
  ·exact I.hok.fresh (Nat.le_of_succ_le h1)
 ·exact absurd (show p∈([]:List (Addr×Obj))++[] from hp) (by simp)
theorem zP {E:Value->Shared->Prop} {D:Addr} {xs:List V} {y:V} {v:Value} {Q:Value->Shared->Prop} (I:Inv X pins σ H s) (hD:H D=some (.lst xs)) (hz:xs.length < sizeLine) (r:aW y v)
  (h:∀ s',Inv X pins σ (upd H D (.lst (xs++[y]))) s'->Q .none s'):wpAny (model X.prog X.w) X.A (call (.builtin "list.append") [.ref D,v]) Q E s:=by
 obtain ⟨hz',its,n,ri,e⟩:=I.hok D _ hD
 have hl:=ri.length
 refine append_at (hsz:=by rw [List.size_toArray];omega) e fun h' sb ho'=>?_
 refine h { s with heap:=h' } (I.write (t':=s.toks) (by rw [hD];trivial) (.inl rfl) (fun b u hb q=>(sb.2 b hb).trans q) ⟨_,ho'⟩ ⟨by rw [List.length_append];exact hz,its++[v],n+1,ri.append (.cons r .nil),?_⟩)
 rw [ho']
 simp
def PTs (X:Cx) (ifs:List Expr) (t:TT):Prop:=
 ∀ (pins:List (Addr×Obj)) (s:Shared) (σ:St) (H:Hp) (Q:Bool->Hp->Prop),Inv X pins σ H s->t σ H Q->
  wpAny (model X.prog X.w) X.A (forIn ifs true fun c r=>if r=true then do let ok <- isTrue c X.env (eval c X.env);pure (ForInStep.yield ok) else pure (ForInStep.yield r)) (TP X pins σ Q) X.xe s
def hJ:TT:=fun _ H Q=>Q true H
theorem cT:PTs X [] hJ:=fun _ _ _ H _ I h=>wpAny_tests_nil ⟨H,I,h⟩
theorem gk {c:Expr} {t:TT} (h:PT X c t):PTs X [c] t:=fun pins s σ H Q I hw=>wpAny_tests_one (h pins s σ H Q I hw)
end
theorem ud {α:Type} {t:Sem α} {Q Q':α->Shared->Prop} {M:Model} {A:Around} {E:Value->Shared->Prop} {s:Shared} (h:wpAny M A t Q (fun _ _=>False) s) (hQ:∀ a s,Q a s->Q' a s):wpAny M A t Q' E s:=wpAny_mono h hQ fun _ _ z=>False.elim z
theorem oE {prog:Program} {w:World} {A:Around} {R:Result->Shared->Prop} {s:Shared} {elt target iter:Expr} {ifs:List Expr} {scope:Scope} {pos:Pos} {it acc:Value} {env:Env} (I:Nat->Shared->Prop)
  (turn:∀ n s,I n s->wpAny (model prog w) A (pyNext it) (fun r s₁=>match r with
   | none=>R (.ok .next) s₁
   | some v=>wpAny (model prog w) A (letOwnedTupleGo target it v) (fun _ s₁'=>wpAny (model prog w) A (assign target env v) (fun _ s₂=>
     wpAny (model prog w) A (forIn ifs true fun c r=>if r=true then do let ok <- isTrue c env (eval c env);pure (ForInStep.yield ok) else pure (ForInStep.yield r)) (fun ok s₃=>
      if ok=true then wpAny (model prog w) A (eval elt env) (fun x s₄=>
       wpAny (model prog w) A (call (.builtin "list.append") [acc,x]) (fun _ s₅=>∃ m,m < n/\I m s₅) (notedBy (model prog w) A env fun e s'=>R (.error e) s') s₄) (notedBy (model prog w) A env fun e s'=>R (.error e) s') s₃
      else ∃ m,m < n/\I m s₃) (notedBy (model prog w) A env fun e s'=>R (.error e) s') s₂) (notedBy (model prog w) A env fun e s'=>R (.error e) s') s₁') (notedBy (model prog w) A env fun e s'=>R (.error e) s') s₁) (notedBy (model prog w) A env fun e s'=>R (.error e) s') s)
  (n:Nat) (h:I n s) :
  codeAny (model prog w) A (.compLoop (.ListComp elt [⟨target,iter,ifs,0⟩] scope pos) 0 it acc env) R s:=by
 refine codeAny_loop rfl I (fun n s hI=>?_) n h
 show wpAny _ A ((compTurn (.ListComp elt [⟨target,iter,ifs,0⟩] scope pos) 0 it acc env).onRaise (fun x=>do noteFrame x env;theTreesLotGoes x)) _ _ s
 refine wpAny_noted ?_
 rw [compTurn_list]
 refine wpAny_bind (wpAny_standAt (wpAny_bind (wpAny_mono (turn n s hI) (fun r s₁ h₁=>?_) fun _ _ h'=>h')))
 cases r with
 | none=>exact wpAny_pure h₁
 | some v=>
  refine wpAny_bind (wpAny_mono h₁ (fun _ s₁' h₁'=>?_) fun _ _ h'=>h')
  refine wpAny_bind (wpAny_mono h₁' (fun _ s₂ h₂=>wpAny_bind (wpAny_mono h₂ (fun ok s₃ h₃=>?_) fun _ _ h'=>h')) fun _ _ h'=>h')
  cases ok with
  | false=>exact wpAny_pure ⟨rfl,h₃⟩
  | true=>
   exact wpAny_bind (wpAny_bind (wpAny_mono h₃ (fun x s₄ h₄=>wpAny_bind (wpAny_mono h₄ (fun _ s₅ h₅=>wpAny_pure (wpAny_pure ⟨rfl,h₅⟩)) fun _ _ h'=>h')) fun _ _ h'=>h'))
section
variable {X:Cx}
def tLc (wi:TI) (g:TG) (tt:TT) (te:TE) (vs:List Nat):TE:=fun σ H Q=>wi σ H fun J H1=>∀ D,H1 D=none->∃ W:Nat->Nat->Hp->Prop,(∃ m,W 0 m (upd H1 D (.lst [])))/\∀ i m H,W i m H->
 (J.stop i H/\Q (.ref D) H)\/(J.go i H/\∃ Nx:Hp->Prop,(∀ H',Nx H'->∃ m',m' < m/\W (i+1) m' H')/\∀ x H',J.yld i H x H'->g x (cw σ vs) H' fun σ2 H2=>cw σ2 vs=cw σ vs/\tt σ2 H2 fun b H3=>
  if b=true then te σ2 H3 fun y H4=>∃ acc,H4 D=some (.lst acc)/\acc.length < sizeLine/\Nx (upd H4 D (.lst (acc++[y]))) else Nx H3)
theorem sG {pins:List (Addr×Obj)} {s:Shared} {σ:St} {H:Hp} {Q:VK} {elt tg iter:Expr} {ifs:List Expr} {scope:Scope} {own:List (Str×Nat)} {pos pos':Pos} {wi:TI} {g:TG} {tt:TT} {te:TE} {use:Option (Value->Sem Unit)} {Qf:Value->Shared->Prop}
  (hc:X.calm=true) (hN:X.N.Nodup) (I:Inv X pins σ H s) (hi:PI X tg iter wi) (ok:oW X.N X.env.scope scope own)
  (hg:∀ (s:Shared) (H:Hp) (C:Addr) (cl:List (Str×Addr)) (fp:List Addr),PG (X.blk s H scope (compEnvC scope cl C X.env) fp) tg g) (ht:∀ (s:Shared) (H:Hp) (C:Addr) (cl:List (Str×Addr)) (fp:List Addr),PTs (X.blk s H scope (compEnvC scope cl C X.env) fp) ifs tt)
  (he:∀ (s:Shared) (H:Hp) (C:Addr) (cl:List (Str×Addr)) (fp:List Addr),PE (X.blk s H scope (compEnvC scope cl C X.env) fp) elt te) (hs:∀ x,foldedSetIterable iter X.env x=pure x)
  (h:tLc wi g tt te (own.map (·.2)) σ H Q)
  (hRR:∀ D C s' m H',Inv X pins σ H' s'->Q (.ref D) H'->s'.heap.Ns C m->fT X pins H' C->compPost (model X.prog X.w) X.A X.xe use Qf (.ref D) C (.ok .next) s') :
  wpAny (model X.prog X.w) X.A (comprehension (.ListComp elt [⟨tg,iter,ifs,0⟩] scope pos) scope X.env pos' (newList []) false (eval iter X.env) use) Qf X.xe s:=by
 have hfree:∀ y∈scope.names,y.2 = .free->∃ c,X.env.cells.lookup y.1=some c:=fun y hy e=>by
  rcases ok.free y hy e with k | k
  ·exact I.ok.has _ (.inl k)
  ·exact I.ok.has _ (.inr k)
 refine wpAny_comprehension_free (use:=use) rfl hs (ql hfree) ok.kind (fun y hy e=>by rw [ok.uniq y hy,e])
  (thn (hi pins s σ H _ I h) fun xv s1 hx=>thn hx fun itv s2 h2=>?_)
 obtain ⟨it,fp,tn,J,H2,e,I2,T,st2,f2,q⟩:=h2
 subst e
 refine wpAny_newObj_type (pF ?_) (by show 0<=sizeLine;decide)
 generalize hD:s2.heap.objs.size=D
 have hDn:H2 D=none:=I2.hok.fresh (Nat.le_of_eq hD)
 obtain ⟨W,⟨m0,w0⟩,turn⟩:=q D hDn
 generalize hs3:({ s2 with heap:=s2.heap.push { cls:= .type "list",data:= .seq ([]:List Value).toArray } }:Shared)=s3
 have I3:Inv X pins σ (upd H2 D (.lst [])) s3:=by
  rw [<- hs3]
  refine I2.laid (t':=s2.toks) (fun b o e=>Heap.get?_push_of_some _ e) (Nat.le_of_eq hD) ⟨Nat.zero_le _,[],0,.nil,?_⟩
  rw [<- hD]
  exact Heap.get?_push_size _ rfl
 have h3:s3.heap=s2.heap.push { cls:= .type "list",data:= .seq ([]:List Value).toArray }:=by rw [<- hs3]
 have sz:∀ b∈fp,b < s2.heap.objs.size:=fun b hb=>by
  obtain ⟨o,e,_⟩:=T.obj _ _ st2 b hb
  exact Heap.lt_size e
 have f3:∀ b∈fp,fT X pins (upd H2 D (.lst [])) b/\b < s3.heap.objs.size:=fun b hb=>by
  have hlt:=sz b hb
  refine ⟨⟨?_,(f2 b hb).2⟩,by rw [h3,Heap.size_push];exact Nat.lt_succ_of_lt hlt⟩
  rw [ah (by rw [<- hD];exact Nat.ne_of_lt hlt)]
  exact (f2 b hb).1
 have st3:tn 0 s3.heap:=T.keep _ _ _ st2 fun b _ o e=>by rw [h3];exact Heap.get?_push_of_some _ e
 have I4:=px I3 ok hN f3
 have pg:=hg s3 (upd H2 D (.lst [])) s3.heap.objs.size (cellsFrom (s3.heap.objs.size+1) scope.names (b5 X.env.cells scope.names [])) fp
 have pt:=ht s3 (upd H2 D (.lst [])) s3.heap.objs.size (cellsFrom (s3.heap.objs.size+1) scope.names (b5 X.env.cells scope.names [])) fp
 have pe:=he s3 (upd H2 D (.lst [])) s3.heap.objs.size (cellsFrom (s3.heap.objs.size+1) scope.names (b5 X.env.cells scope.names [])) fp
 show codeAny _ _ (.compStart (.ListComp elt [⟨tg,iter,ifs,0⟩] scope pos) 0 (.ref it) (.ref D) (compEnvC scope (cellsFrom (s3.heap.objs.size+1) scope.names (b5 X.env.cells scope.names [])) s3.heap.objs.size X.env)) (compPost (model X.prog X.w) X.A X.xe use Qf (.ref D) s3.heap.objs.size) { s3 with heap:=pushCells (s3.heap.push { cls:= .type "dict",data:= .dict #[] }) scope.names }
 have nfp:∀ b∈fp,(upd H2 D (.lst [])) b=none:=fun b hb=>(f3 b hb).1.1
 generalize hce:compEnvC scope (cellsFrom (s3.heap.objs.size+1) scope.names (b5 X.env.cells scope.names [])) s3.heap.objs.size X.env=ce at I4 pg pt pe ⊢
 have cL:ce.locals=s3.heap.objs.size:=by subst hce;rfl
 generalize hH3:upd H2 D (.lst [])=H3 at I3 I4 pg pt pe w0 nfp f3
 generalize hs4:({ s3 with heap:=pushCells (s3.heap.push { cls:= .type "dict",data:= .dict #[] }) scope.names }:Shared)=s4 at I4 ⊢
 have st4:tn 0 s4.heap:=T.keep _ _ _ st3 fun b _ o e=>by rw [<- hs4];exact pushCells_keeps _ _ _ _ (Heap.get?_push_of_some _ e)
 have stat:∀ {σ':St} {H':Hp} {s':Shared},Inv (X.blk s3 H3 scope ce fp) [] σ' H' s'->(∀ b∈fp,H' b=none)->∀ b∈fp,fT (X.blk s3 H3 scope ce fp) [] H' b:=fun {σ' H' s'} I' hn b hb=>
  ⟨hn b hb,(I'.ok.exf b hb).1,I'.ok.exfs b hb,.inl hb,fun x c e=>(I'.ok.exf b hb).2 x c e,fun p hp=>absurd (show p∈([]:List (Addr×Obj))++[] from hp) (by simp)⟩
 have loop:codeAny (model X.prog X.w) X.A (.compLoop (.ListComp elt [⟨tg,iter,ifs,0⟩] scope pos) 0 (.ref it) (.ref D) ce) (compPost (model X.prog X.w) X.A X.xe use Qf (.ref D) s3.heap.objs.size) s4:=by
  refine oE (fun n s'=>∃ i H',Inv (X.blk s3 H3 scope ce fp) [] (cw σ (own.map (·.2))) H' s'/\tn i s'.heap/\(∀ b∈fp,H' b=none)/\W i n H') ?_ m0 ⟨0,H3,I4,st4,nfp,w0⟩
  rintro n s5 ⟨i,H5,I5,st5,n5,w5⟩
  rcases turn i n H5 w5 with ⟨stop,qq⟩ | ⟨go,Nx,hNx,step⟩
  ·have td:=T.done (X.blk s3 H3 scope ce fp) rfl rfl rfl hc i [] s5 _ H5 (fun _ _=>False) I5 (stat I5 n5) st5 stop
   refine ud td fun r s6 ⟨hr,I6⟩=>?_
   subst hr
   have I7:Inv X pins σ H5 s6:=I3.call' (ch:=fp) I6.os I6.base I6.hok I6.bare fun b hb=>⟨(f3 b hb).1.2.2.2.1,(f3 b hb).1.2.1,(f3 b hb).1.2.2.2.2.1,(f3 b hb).1.2.2.2.2.2⟩
   have nC:H5 s3.heap.objs.size=none:=by
    have z:H5 ce.locals=none:=I6.free
    rw [cL] at z
    exact z
   obtain ⟨m,hn,_⟩:=I6.loc
   have hn:s6.heap.Ns ce.locals m:=hn
   rw [cL] at hn
   exact hRR D s3.heap.objs.size s6 m H5 I7 qq hn (I3.fpOk (Nat.le_refl _) nC)
  ·have ti:=T.item (X.blk s3 H3 scope ce fp) rfl rfl rfl hc i [] s5 _ H5 (fun _ _=>False) I5 (stat I5 n5) st5 go
   refine ud ti fun r s6 ⟨u,hr,h6⟩=>?_
   subst hr
   refine ud h6 fun _ s7 ⟨x,H7,I7,r7,y7,st7,n7⟩=>?_
   have I7':=I7.pinned (stat I7 n7) (T.obj _ _ st7)
   refine ud (pg _ s7 _ H7 x u _ I7' r7 (step x H7 y7)) fun _ s8 ⟨σ8,H8,I8,hw8,q8⟩=>?_
   refine ud (pt _ s8 σ8 H8 _ I8 q8) fun b s9 ⟨H9,I9,q9⟩=>?_
   have fin:∀ {s':Shared} {H':Hp},Inv (X.blk s3 H3 scope ce fp) ([]++lz fp s7.heap) σ8 H' s'->Nx H'->∃ m,m < n/\∃ i H',Inv (X.blk s3 H3 scope ce fp) [] (cw σ (own.map (·.2))) H' s'/\tn i s'.heap/\(∀ b∈fp,H' b=none)/\W i m H':=fun {s' H'} I' nx=>by
    obtain ⟨m',hm,w'⟩:=hNx H' nx
    have pin':∀ b∈fp,∀ o,s7.heap.get? b=some o->s'.heap.get? b=some o/\H' b=none:=fun b hb o e=>
     let z:=I'.pin (b,o) (List.mem_append_right _ (List.mem_append_right _ (iN hb e)))
     ⟨z.1,z.2.1⟩
    have hl:(cw σ (own.map (·.2))).length=σ8.length:=by rw [<- hw8,gJ]
    refine ⟨m',hm,i+1,H',(I'.unpinned (pins:=[])).weak hl (fun j v e=>?_),T.keep _ _ _ st7 fun b hb o e=>(pin' b hb o e).1,fun b hb=>?_,w'⟩
    ·rw [<- hw8] at e
     exact (jL e).1
    ·obtain ⟨o,e,_⟩:=T.obj _ _ st7 b hb
     exact (pin' b hb o e).2
   cases b with
   | false=>
    simp only [Bool.false_eq_true,if_false] at q9 ⊢
    exact fin I9 q9
   | true=>
    simp only [if_true] at q9 ⊢
    refine ud (pe _ s9 σ8 H9 _ I9 q9) fun z s10 ⟨yv,H10,I10,r10,acc,hD10,hz10,nx⟩=>?_
    exact zP (X:=X.blk s3 H3 scope ce fp) I10 hD10 hz10 r10 fun s11 I11=>fin I11 nx
 exact codeAny_compStart_list loop (T.self X.A 0 _ _ _ st4 loop)
theorem dD {elt tg iter:Expr} {ifs:List Expr} {scope:Scope} {own:List (Str×Nat)} {pos:Pos} {wi:TI} {g:TG} {tt:TT} {te:TE} (hc:X.calm=true) (hN:X.N.Nodup) (hi:PI X tg iter wi) (ok:oW X.N X.env.scope scope own)
  (hg:∀ (s:Shared) (H:Hp) (C:Addr) (cl:List (Str×Addr)) (fp:List Addr),PG (X.blk s H scope (compEnvC scope cl C X.env) fp) tg g) (ht:∀ (s:Shared) (H:Hp) (C:Addr) (cl:List (Str×Addr)) (fp:List Addr),PTs (X.blk s H scope (compEnvC scope cl C X.env) fp) ifs tt)
  (he:∀ (s:Shared) (H:Hp) (C:Addr) (cl:List (Str×Addr)) (fp:List Addr),PE (X.blk s H scope (compEnvC scope cl C X.env) fp) elt te) (hs:∀ x,foldedSetIterable iter X.env x=pure x:=by intro _;rfl) :
  PE X (.ListComp elt [⟨tg,iter,ifs,0⟩] scope pos) (tLc wi g tt te (own.map (·.2))):=by
 intro pins s σ H Q I h
 rw [eval_ListComp]
 refine sG hc hN I hi ok hg ht he hs h fun D C s' m H' I' q hn f=>⟨m,hn,fun h'' sb=>?_⟩
 obtain ⟨f0,f1,f2,f3,f4,f5⟩:=f
 exact ⟨.ref D,H',I'.turned (t':=s'.toks) (fun b o hb e=>(sb.2 b hb).trans e) f0 f1 f3 f4 f5,rfl,q⟩
theorem u9 {i:Nat} {y:Str} {py:Pos} {elt tg iter:Expr} {ifs:List Expr} {scope:Scope} {own:List (Str×Nat)} {pos spos:Pos} {wi:TI} {g:TG} {tt:TT} {te:TE} (hc:X.calm=true) (hN:X.N.Nodup) (hy:X.N[i]?=some y) (hyl:X.env.scope.names.lookup y=some .local)
  (hsw:swapsWith (.ListComp elt [⟨tg,iter,ifs,0⟩] scope pos) (some (.Name y py)) spos.line X.env=pure true) (hi:PI X tg iter wi) (ok:oW X.N X.env.scope scope own)
  (hg:∀ (s:Shared) (H:Hp) (C:Addr) (cl:List (Str×Addr)) (fp:List Addr),PG (X.blk s H scope (compEnvC scope cl C X.env) fp) tg g) (ht:∀ (s:Shared) (H:Hp) (C:Addr) (cl:List (Str×Addr)) (fp:List Addr),PTs (X.blk s H scope (compEnvC scope cl C X.env) fp) ifs tt)
  (he:∀ (s:Shared) (H:Hp) (C:Addr) (cl:List (Str×Addr)) (fp:List Addr),PE (X.blk s H scope (compEnvC scope cl C X.env) fp) elt te) (hs:∀ x,foldedSetIterable iter X.env x=pure x:=by intro _;rfl) :
  PS X (.Assign [.Name y py] (.ListComp elt [⟨tg,iter,ifs,0⟩] scope pos) spos) (yo (tLc wi g tt te (own.map (·.2))) (g0 i)):=by
 intro pins s σ H D I h
 rw [exec_Assign_Name_used _ _ _ _ hsw]
 refine wpAny_bind (wpAny_standAt (wpAny_bind ?_))
 show wpAny _ X.A (do let _ <- comprehension (.ListComp elt [⟨tg,iter,ifs,0⟩] scope pos) scope X.env (firstIterPos [⟨tg,iter,ifs,0⟩] pos) (newList []) false (eval iter X.env) (some (assign (.Name y py) X.env))) _ _ s
 have h:tLc wi g tt te (own.map (·.2)) σ H (fun x H1=>g0 i x σ H1 D.nx):=h
 refine wpAny_bind (thn (sG (Qf:=fun _ s'=>SP X pins D .next s') hc hN I hi ok hg ht he hs h fun L C s' m H' I' q hn f=>?_) fun _ s' hq=>wpAny_pure (wpAny_pure hq))
 show wpAny _ _ (assign (.Name y py) X.env (.ref L)) _ _ _
 refine wpAny_assign_Name (mj (v:=V.ref L) I' hN hy (.inl hyl) rfl (fun s2 I2 ⟨a,sb,ha⟩=>?_) (.inr hyl))
 obtain ⟨f0,f1,f2,f3,f4,f5⟩:=f
 have haC:C≠a:=by
  rcases ha with z | z
  ·rw [z];exact f1
  ·exact fun e=>f4 y a z e.symm
 refine ⟨m,hn.sameBut sb haC,fun h3 sb3=>?_⟩
 exact ⟨_,H',I2.turned (t':=s2.toks) (fun b o hb e=>(sb3.2 b hb).trans e) f0 f1 f3 f4 f5,q⟩
end
theorem gg {lo:Int} {n:Nat} {g:TG} {tt:TT} {te:TE} {vs:List Nat} {σ:St} {H1:Hp} {D:Addr} {Qd:Hp->Prop} (Pv:Nat->Hp->Prop) (h0:Pv 0 (upd H1 D (.lst [])))
  (hs:∀ i H,i < n->Pv i H->g (.int (lo+i)) (cw σ vs) H fun σ2 H2=>cw σ2 vs=cw σ vs/\tt σ2 H2 fun b H3=>
   if b=true then te σ2 H3 fun y H4=>∃ acc,H4 D=some (.lst acc)/\acc.length < sizeLine/\Pv (i+1) (upd H4 D (.lst (acc++[y]))) else Pv (i+1) H3) (hd:∀ H,Pv n H->Qd H) :
  ∃ W:Nat->Nat->Hp->Prop,(∃ m,W 0 m (upd H1 D (.lst [])))/\∀ i m H,W i m H->
   ((
    Itr lo n).stop i H/\Qd H)\/((Itr lo n).go i H/\∃ Nx:Hp->Prop,(∀ H',Nx H'->∃ m',m' < m/\W (i+1) m' H')/\∀ x H',(Itr lo n).yld i H x H'->g x (cw σ vs) H' fun σ2 H2=>cw σ2 vs=cw σ vs/\tt σ2 H2 fun b H3=>
    if b=true then te σ2 H3 fun y H4=>∃ acc,H4 D=some (.lst acc)/\acc.length < sizeLine/\Nx (upd H4 D (.lst (acc++[y]))) else Nx H3):=by
 refine ⟨fun i m H=>m=n - i/\i<=n/\Pv i H,⟨n,by simp,Nat.zero_le _,h0⟩,?_⟩
 rintro i m H ⟨rfl,hi,p⟩
 by_cases hlt:i < n
 ·refine .inr ⟨hlt,Pv (i+1),fun H' p'=>⟨n - (i+1),by omega,rfl,hlt,p'⟩,fun x H' y=>?_⟩
  obtain ⟨e,y⟩:=y
  subst e y
  exact hs i _ hlt p
 ·have e:i=n:=by omega
  subst e
  exact .inl ⟨Nat.le_refl _,hd H p⟩
theorem eL {K:PySem.W.Frag} {a:Addr} {xs:List V} {g:TG} {tt:TT} {te:TE} {vs:List Nat} {σ:St} {H1:Hp} {D:Addr} {Qd:Hp->Prop} (Pv:Nat->Hp->Prop) (h0:Pv 0 (upd H1 D (.lst []))) (hl:∀ i H,i<=xs.length->Pv i H->SqL K H a xs)
  (hs:∀ i x H,xs[i]?=some x->Pv i H->g x (cw σ vs) H fun σ2 H2=>cw σ2 vs=cw σ vs/\tt σ2 H2 fun b H3=>
   if b=true then te σ2 H3 fun y H4=>∃ acc,H4 D=some (.lst acc)/\acc.length < sizeLine/\Pv (i+1) (upd H4 D (.lst (acc++[y]))) else Pv (i+1) H3) (hd:∀ H,Pv xs.length H->Qd H) :
  ∃ W:Nat->Nat->Hp->Prop,(∃ m,W 0 m (upd H1 D (.lst [])))/\∀ i m H,W i m H->
   ((
    Itl K a).stop i H/\Qd H)\/((Itl K a).go i H/\∃ Nx:Hp->Prop,(∀ H',Nx H'->∃ m',m' < m/\W (i+1) m' H')/\∀ x H',(Itl K a).yld i H x H'->g x (cw σ vs) H' fun σ2 H2=>cw σ2 vs=cw σ vs/\tt σ2 H2 fun b H3=>
    if b=true then te σ2 H3 fun y H4=>∃ acc,H4 D=some (.lst acc)/\acc.length < sizeLine/\Nx (upd H4 D (.lst (acc++[y]))) else Nx H3):=by
 refine ⟨fun i m H=>m=xs.length - i/\i<=xs.length/\Pv i H,⟨xs.length,by simp,Nat.zero_le _,h0⟩,?_⟩
 rintro i m H ⟨rfl,hi,p⟩
 have q:=hl i H hi p
 by_cases hlt:i < xs.length
 ·refine .inr ⟨⟨xs,xs[i],q,by simp [hlt]⟩,Pv (i+1),fun H' p'=>⟨xs.length - (i+1),by omega,rfl,hlt,p'⟩,fun x H' y=>?_⟩
  obtain ⟨e,y⟩:=y
  subst e
  exact hs i x _ (y xs q) p
 ·have e:i=xs.length:=by omega
  subst e
  exact .inl ⟨⟨xs,q,Nat.le_refl _⟩,hd H p⟩
theorem zq {K:PySem.W.Frag} {a:Addr} {xs:List V} {g:TG} {tt:TT} {te:TE} {vs:List Nat} {σ:St} {H1:Hp} {D:Addr} {Qd:Hp->Prop} (Pv:Nat->Hp->Prop) (h0:Pv 0 (upd H1 D (.lst []))) (hl:∀ i H,i<=xs.length->Pv i H->SqT K H a xs)
  (hs:∀ i x H,xs[i]?=some x->Pv i H->g x (cw σ vs) H fun σ2 H2=>cw σ2 vs=cw σ vs/\tt σ2 H2 fun b H3=>
   if b=true then te σ2 H3 fun y H4=>∃ acc,H4 D=some (.lst acc)/\acc.length < sizeLine/\Pv (i+1) (upd H4 D (.lst (acc++[y]))) else Pv (i+1) H3) (hd:∀ H,Pv xs.length H->Qd H) :
  ∃ W:Nat->Nat->Hp->Prop,(∃ m,W 0 m (upd H1 D (.lst [])))/\∀ i m H,W i m H->
   ((
    Itt K a).stop i H/\Qd H)\/((Itt K a).go i H/\∃ Nx:Hp->Prop,(∀ H',Nx H'->∃ m',m' < m/\W (i+1) m' H')/\∀ x H',(Itt K a).yld i H x H'->g x (cw σ vs) H' fun σ2 H2=>cw σ2 vs=cw σ vs/\tt σ2 H2 fun b H3=>
    if b=true then te σ2 H3 fun y H4=>∃ acc,H4 D=some (.lst acc)/\acc.length < sizeLine/\Nx (upd H4 D (.lst (acc++[y]))) else Nx H3):=by
 refine ⟨fun i m H=>m=xs.length - i/\i<=xs.length/\Pv i H,⟨xs.length,by simp,Nat.zero_le _,h0⟩,?_⟩
 rintro i m H ⟨rfl,hi,p⟩
 have q:=hl i H hi p
 by_cases hlt:i < xs.length
 ·refine .inr ⟨⟨xs,xs[i],q,by simp [hlt]⟩,Pv (i+1),fun H' p'=>⟨xs.length - (i+1),by omega,rfl,hlt,p'⟩,fun x H' y=>?_⟩
  obtain ⟨e,y⟩:=y
  subst e
  exact hs i x _ (y xs q) p
 ·have e:i=xs.length:=by omega
  subst e
  exact .inl ⟨⟨xs,q,Nat.le_refl _⟩,hd H p⟩
def Bu (N:List Str) (sc scope:Scope) (own:List (Str×Nat)):Bool:=
 (match scope.kind with | .function=>true | _=>false) && (scope.names.all fun y=>decide (scope.names.lookup y.1=some y.2)) && (own.all fun p=>decide (N[p.2]?=some p.1)) &&
  (scope.names.all fun y=>match y.2 with
   | .free=>(match sc.names.lookup y.1 with | some .cell=>true | some .free=>true | _=>false)
   | .local=>decide (y.1∈own.map (·.1)) || decide (y.1∉N)
   | .cell=>decide (y.1∈own.map (·.1)) || decide (y.1∉N)
   | _=>true)
theorem bO {N:List Str} {sc scope:Scope} {own:List (Str×Nat)} (h:Bu N sc scope own=true):oW N sc scope own:=by
 unfold Bu at h
 simp only [Bool.and_eq_true,List.all_eq_true,decide_eq_true_eq] at h
 obtain ⟨⟨⟨h1,h2⟩,h3⟩,h4⟩:=h
 refine ⟨?_,h2,h3,fun y hy e=>?_,fun y hy e=>?_⟩
 ·split at h1
  ·assumption
  ·cases h1
 ·have q:=h4 y hy
  simp only [e] at q
  split at q <;> first | exact .inl (by assumption) | exact .inr (by assumption) | cases q
 ·have q:=h4 y hy
  rcases e with e | e <;> (simp only [e,Bool.or_eq_true,decide_eq_true_eq] at q;exact q)
end L2
namespace L2
open PySem PySem.Spec PyProof.Rows
section
variable {κ:Type} [DecidableEq κ]
def cx (kvs:List (κ×V)) (k:κ):Option V:=(kvs.find? fun kv=>decide (kv.1=k)).map (·.2)
def fX (kvs:List (κ×V)) (k:κ) (v:V):List (κ×V):=
 if (kvs.any fun kv=>decide (kv.1=k))=true then kvs.map (fun kv=>if kv.1=k then (kv.1,v) else kv) else kvs++[(k,v)]
theorem cv {p:κ×V} {r:List (κ×V)} {k:κ} (e:p.1=k):cx (p::r) k=some p.2:=by simp [cx,List.find?_cons,e]
theorem cr {p:κ×V} {r:List (κ×V)} {k:κ} (e:¬ p.1=k):cx (p::r) k=cx r k:=by simp [cx,List.find?_cons,e]
theorem jn (k:κ):∀ kvs:List (κ×V),(kvs.any fun kv=>decide (kv.1=k))=(cx kvs k).isSome
 | []=>rfl
 | p::r=>by
  rw [List.any_cons]
  by_cases e:p.1=k
  ·simp only [cv e,decide_eq_true e,Bool.true_or,Option.isSome_some]
  ·rw [cr e,decide_eq_false e,Bool.false_or];exact jn k r
theorem oX (k j:κ) (y:V):∀ kvs:List (κ×V),cx (kvs.map fun kv=>if kv.1=k then (kv.1,y) else kv) j=(cx kvs j).map fun x=>if j=k then y else x
 | []=>rfl
 | p::r=>by
  have ih:=oX k j y r
  rw [List.map_cons]
  by_cases h:p.1=k
  ·rw [if_pos h]
   by_cases e:p.1=j
   ·rw [cv (p:=(p.1,y)) e,cv e,Option.map_some,if_pos (e.symm.trans h)]
   ·rw [cr (p:=(p.1,y)) e,cr e,ih]
  ·rw [if_neg h]
   by_cases e:p.1=j
   ·rw [cv (p:=p) e,cv e,Option.map_some,if_neg (fun z=>h (e.trans z))]
   ·rw [cr (p:=p) e,cr e,ih]
theorem mv (k j:κ) (y:V):∀ kvs:List (κ×V),cx kvs k=none->cx (kvs++[(k,y)]) j=if j=k then some y else cx kvs j
 | [],_=>by
  by_cases e:k=j
  ·rw [if_pos e.symm];exact cv (p:=(k,y)) e
  ·rw [if_neg (fun z=>e z.symm)];exact cr (p:=(k,y)) e
 | p::r,hn=>by
  rw [List.cons_append]
  have hk:¬ p.1=k:=fun z=>by rw [cv z] at hn;cases hn
  rw [cr hk] at hn
  have ih:=mv k j y r hn
  by_cases e:p.1=j
  ·rw [cv e,cv e,if_neg (fun z=>hk (e.trans z))]
  ·rw [cr e,cr e,ih]
theorem pV (kvs:List (κ×V)) (k j:κ) (y:V):cx (fX kvs k y) j=if j=k then some y else cx kvs j:=by
 unfold fX
 by_cases a:(kvs.any fun kv=>decide (kv.1=k))=true
 ·rw [if_pos a,oX]
  rw [jn] at a
  by_cases e:j=k
  ·obtain ⟨x,hx⟩:=Option.isSome_iff_exists.mp a
   rw [if_pos e,e,hx,Option.map_some,if_pos rfl]
  ·rw [if_neg e]
   cases cx kvs j with
   | none=>rfl
   | some x=>rw [Option.map_some,if_neg e]
 ·rw [if_neg a]
  refine mv k j y kvs ?_
  rw [jn] at a
  cases q:cx kvs k with
  | none=>rfl
  | some x=>rw [q] at a;exact (a rfl).elim
theorem eE (kvs:List (κ×V)) (k:κ) (v:V):(fX kvs k v).length<=kvs.length+1:=by
 unfold fX
 split
 ·rw [List.length_map];omega
 ·rw [List.length_append,List.length_cons,List.length_nil];omega
theorem gt.isSome_eq {o:Option V} {u:Option Value} (r:gt o u):o.isSome=u.isSome:=by
 cases o with
 | none=>cases u with
  | none=>rfl
  | some _=>exact (show False from r).elim
 | some _=>cases u with
  | none=>exact (show False from r).elim
  | some _=>rfl
theorem KV.val {kvs:List (κ×V)} {vs:List (κ×Value)} (r:KV kvs vs) (k:κ):gt (cx kvs k) (valueAt vs k):=by
 unfold KV at r
 induction r with
 | nil=>exact True.intro
 | @cons p q ps qs h t ih=>
  obtain ⟨h1,h2⟩:=h
  by_cases e:p.1=k
  ·have e':q.1=k:=h1.symm.trans e
   have b:valueAt (q::qs) k=some q.2:=by simp [valueAt,List.find?_cons,e']
   rw [cv e,b];exact h2
  ·have e':¬ q.1=k:=fun z=>e (h1.trans z)
   have b:valueAt (q::qs) k=valueAt qs k:=by simp [valueAt,List.find?_cons,e']
   rw [cr e,b];exact ih
theorem KV.any {kvs:List (κ×V)} {vs:List (κ×Value)} (r:KV kvs vs) (k:κ):(kvs.any fun kv=>decide (kv.1=k))=vs.any fun kv=>decide (kv.1=k):=by
 unfold KV at r
 induction r with
 | nil=>rfl
 | cons h t ih=>rw [List.any_cons,List.any_cons,ih,h.1]
theorem KV.repl {kvs:List (κ×V)} {vs:List (κ×Value)} (r:KV kvs vs) (k:κ) {y:V} {u:Value} (ry:aW y u) :
  KV (kvs.map fun kv=>if kv.1=k then (kv.1,y) else kv) (vs.map fun kv=>if kv.1=k then (kv.1,u) else kv):=by
 unfold KV at r ⊢
 induction r with
 | nil=>exact .nil
 | @cons p q ps qs h t ih=>
  rw [List.map_cons,List.map_cons]
  refine .cons ?_ ih
  obtain ⟨h1,h2⟩:=h
  by_cases e:p.1=k
  ·rw [if_pos e,if_pos (h1.symm.trans e)];exact ⟨h1,ry⟩
  ·rw [if_neg e,if_neg (fun z=>e (h1.trans z))];exact ⟨h1,h2⟩
theorem KV.put {kvs:List (κ×V)} {vs:List (κ×Value)} (r:KV kvs vs) (k:κ) {y:V} {u:Value} (ry:aW y u):KV (fX kvs k y) (stored vs k u):=by
 unfold fX stored
 rw [r.any k]
 by_cases e:(vs.any fun kv=>decide (kv.1=k))=true
 ·rw [if_pos e,if_pos e];exact r.repl k ry
 ·rw [if_neg e,if_neg e];exact Paired.snoc r ⟨rfl,ry⟩
theorem KV.length {kvs:List (κ×V)} {vs:List (κ×Value)} (r:KV kvs vs):kvs.length=vs.length:=Paired.length r
end
theorem nz {P:Program} {w:World} {k:Key} {u:Value} (r:aW (kV k) u):(cn P w).is k u=true:=by
 cases k with
 | inl i=>obtain ⟨t,e⟩:=(show ∃ t,u=Value.int i t from r);subst e;exact qa P w i t
 | inr x=>obtain ⟨t,e⟩:=(show ∃ t,u=Value.str x t from r);subst e;exact oY P w x t
theorem nj {P:Program} {w:World}:∀ {ks:List Key} {us:List Value},aI (ks.map kV) us->ItemsAre (cn P w) ks us
 | [],_,r=>by rw [List.map_nil] at r;cases r;exact .nil
 | k::ks,_,r=>by
  rw [List.map_cons] at r
  cases r with
  | cons h t=>exact .cons (nz h) (nj t)
abbrev KT (H:Hp):List (List Key×V)->List (List Key×Addr×Value)->Prop:=Paired fun p q=>p.1=q.1/\H q.2.1=some (.tup (p.1.map kV))/\aW p.2 q.2.2
theorem KT.val {H:Hp} {kvs:List (List Key×V)} {xs:List (List Key×Addr×Value)} (r:KT H kvs xs) (k:List Key):gt (cx kvs k) ((atKey xs k).map (·.2)):=by
 induction r with
 | nil=>exact True.intro
 | @cons p q ps qs h t ih=>
  obtain ⟨h1,_,h2⟩:=h
  by_cases e:p.1=k
  ·have e':q.1=k:=h1.symm.trans e
   have b:atKey (q::qs) k=some q.2:=by simp [atKey,List.find?_cons,e']
   rw [cv e,b];exact h2
  ·have e':¬ q.1=k:=fun z=>e (h1.trans z)
   have b:atKey (q::qs) k=atKey qs k:=by simp [atKey,List.find?_cons,e']
   rw [cr e,b];exact ih
theorem KT.repl {H:Hp} {kvs:List (List Key×V)} {xs:List (List Key×Addr×Value)} (r:KT H kvs xs) (k:List Key) {y:V} {u:Value} (ry:aW y u) :
  KT H (kvs.map fun kv=>if kv.1=k then (kv.1,y) else kv) (xs.map (putAt k u)):=by
 induction r with
 | nil=>exact .nil
 | @cons p q ps qs h t ih=>
  rw [List.map_cons,List.map_cons]
  refine .cons ?_ ih
  obtain ⟨h1,h2,h3⟩:=h
  unfold putAt
  by_cases e:p.1=k
  ·rw [if_pos e,if_pos (h1.symm.trans e)];exact ⟨h1,h2,ry⟩
  ·rw [if_neg e,if_neg (fun z=>e (h1.trans z))];exact ⟨h1,h2,h3⟩
theorem KT.put {H:Hp} {kvs:List (List Key×V)} {xs:List (List Key×Addr×Value)} (r:KT H kvs xs) (k:List Key) {b:Addr} {y:V} {u:Value} (hb:H b=some (.tup (k.map kV))) (ry:aW y u) :
  KT H (fX kvs k y) (storedH xs k b u):=by
 have e:(kvs.any fun kv=>decide (kv.1=k))=(atKey xs k).isSome:=by
  rw [jn,(r.val k).isSome_eq,Option.isSome_map]
 unfold fX storedH
 rw [e]
 by_cases q:(atKey xs k).isSome=true
 ·rw [if_pos q,if_pos q];exact r.repl k ry
 ·rw [if_neg q,if_neg q];exact Paired.snoc r ⟨rfl,hb,ry⟩
theorem KT.keeps {H H':Hp} {kvs:List (List Key×V)} {xs:List (List Key×Addr×Value)} (r:KT H kvs xs) (ht:∀ b ys,H b=some (.tup ys)->H' b=some (.tup ys)):KT H' kvs xs:=
 Paired.mapP r fun _ _ z=>⟨z.1,ht _ _ z.2.1,z.2.2⟩
section
variable {P:Program} {w:World} {H:Hp} {h:Heap} {a:Addr}
theorem yH {u:HO} (ok:HOk P w H h) (e:Rd H a u):cz P w H h a u:=e.ok ok
theorem rZ {kvs:List (Key×V)} (ok:HOk P w H h) (e:Rd H a (.dK kvs)):kvs.length<=sizeLine/\(a == sysModules)=false/\∃ vs,KV kvs vs/\h.DictOf (cn P w) a vs:=
 show cz P w H h a (.dK kvs) from yH ok e
theorem Bi {kvs:List (Key×V)} (ok:HOk P w H h) (e:H a=some (.dK kvs)):kvs.length<=sizeLine/\(a == sysModules)=false/\∃ vs,KV kvs vs/\h.DictOf (cn P w) a vs:=rZ ok (.inl e)
theorem nP {ks:List Key} (ok:HOk P w H h) (e:H a=some (.tup (ks.map kV))):(tupleKind (cn P w)).is h ks a:=by
 obtain ⟨_,its,r,o,h1,h2,n,h3⟩:=(show cz P w H h a (.tup (ks.map kV)) from ok a _ e)
 exact ⟨o,its.toArray,n,h1,h2,h3,by simpa using nj r⟩
theorem sw {kvs:List (List Key×V)} (ok:HOk P w H h) (e:Rd H a (.dT kvs)):kvs.length<=sizeLine/\(a == sysModules)=false/\
  ∃ xs,KT H kvs xs/\h.DictOfH (tupleKind (cn P w)) a xs:=by
 obtain ⟨z,y,xs,r,o,es,ep,h1,h2,h3,h4,h5⟩:=(show cz P w H h a (.dT kvs) from yH ok e)
 refine ⟨z,y,xs,r,o,es,ep,h1,h2,h3,h4,fun x hx=>?_,h5⟩
 have all:∀ {l:List (List Key×V)} {m:List (List Key×Addr×Value)},KT H l m->∀ x∈m,(tupleKind (cn P w)).is h x.1 x.2.1:=by
  intro l m q
  induction q with
  | nil=>intro x hx;exact nomatch hx
  | @cons p q ps qs hq t ih=>
   intro x hx
   rcases List.mem_cons.mp hx with e | hx
   ·subst e
    exact nP ok (by rw [<- hq.1];exact hq.2.1)
   ·exact ih x hx
 exact all r x hx
theorem BC {kvs:List (List Key×V)} (ok:HOk P w H h) (e:H a=some (.dT kvs)):kvs.length<=sizeLine/\(a == sysModules)=false/\
  ∃ xs,KT H kvs xs/\h.DictOfH (tupleKind (cn P w)) a xs:=sw ok (.inl e)
end
def j6 (H:Hp) (a:Addr) (y:V) (r:Option V):Prop:=
 (∃ kvs k,Rd H a (.dK kvs)/\y=kV k/\r=cx kvs k)\/∃ kvs k b,Rd H a (.dT kvs)/\y = .ref b/\H b=some (.tup (k.map kV))/\r=cx kvs k
def nY (H:Hp) (a:Addr) (y v:V) (H':Hp):Prop:=
 (∃ kvs k,H a=some (.dK kvs)/\y=kV k/\kvs.length < sizeLine/\H'=upd H a (.dK (fX kvs k v)))\/
 ∃ kvs k b,H a=some (.dT kvs)/\y = .ref b/\H b=some (.tup (k.map kV))/\kvs.length < sizeLine/\H'=upd H a (.dT (fX kvs k v))
theorem j6.t {H:Hp} {a b:Addr} {kvs:List (List Key×V)} {k:List Key} (e:H a=some (.dT kvs)) (eb:H b=some (.tup (k.map kV))):j6 H a (.ref b) (cx kvs k):= .inr ⟨kvs,k,b,.inl e,rfl,eb,rfl⟩
theorem nY.t {H:Hp} {a b:Addr} {kvs:List (List Key×V)} {k:List Key} {v:V} (e:H a=some (.dT kvs)) (eb:H b=some (.tup (k.map kV))) (hl:kvs.length < sizeLine) :
  nY H a (.ref b) v (upd H a (.dT (fX kvs k v))):= .inr ⟨kvs,k,b,e,rfl,eb,hl,rfl⟩
section
variable {X:Cx} {pins:List (Addr×Obj)} {σ:St} {H:Hp} {s:Shared} {a:Addr} {y v:V} {u r:Value} {o:Option V} {A:Around} {E:Value->Shared->Prop}
theorem Inv.big (I:Inv X pins σ H s):sysModules < s.heap.objs.size:=by
 have h:mainGlobals < s.heap.objs.size:=(I.mod.glob.keeps I.bk).lt
 exact Nat.lt_trans (by decide) h
theorem tF {Q:Value->Shared->Prop} (hu:A.units+1 < cLine) (I:Inv X pins σ H s) (g:j6 H a y (some v)) (ry:aW y u) (h:∀ w' s',Inv X pins σ H s'->aW v w'->Q w' s') :
  wpAny (model X.prog X.w) A (getItem (.ref a) u) Q E s:=by
 rcases g with ⟨kvs,k,e,ey,l⟩ | ⟨kvs,k,b,e,ey,eb,l⟩
 ·subst ey
  obtain ⟨z,hd,vs,rel,dd⟩:=rZ I.hok e
  obtain ⟨w',hw,rw'⟩:=gt.some_of (v:=v) (o:=valueAt vs k) (by rw [l];exact rel.val k)
  exact wpAny_getItem_of (nz ry) dd.mapOf hw (h w' _ (I.tok _) rw')
 ·subst ey
  cases (show u=Value.ref b from ry)
  obtain ⟨z,hd,xs,rel,dd⟩:=sw I.hok e
  obtain ⟨w',hw,rw'⟩:=gt.some_of (v:=v) (o:=(atKey xs k).map (·.2)) (by rw [l];exact rel.val k)
  obtain ⟨p,hp,hp2⟩:=Option.map_eq_some_iff.mp hw
  refine wpAny_getItem_heap (tupleKind_room_in1 hu) (nP I.hok eb) dd hp ?_
  rw [hp2]
  exact h w' _ (I.tok _) rw'
theorem xV {Q:Value->Shared->Prop} (hu:A.units+1 < cLine) (I:Inv X pins σ H s) (g:j6 H a y o) (ry:aW y u) (h:∀ s',Inv X pins σ H s'->Q (.bool (!o.isSome)) s') :
  wpAny (model X.prog X.w) A (compareOp .NotIn u (.ref a)) Q E s:=by
 rcases g with ⟨kvs,k,e,ey,l⟩ | ⟨kvs,k,b,e,ey,eb,l⟩
 ·subst ey
  obtain ⟨z,hd,vs,rel,dd⟩:=rZ I.hok e
  refine wpAny_notIn_of (nz ry) hd dd.mapOf ?_
  rw [<- (rel.val k).isSome_eq,<- l]
  exact h _ (I.tok _)
 ·subst ey
  cases (show u=Value.ref b from ry)
  obtain ⟨z,hd,xs,rel,dd⟩:=sw I.hok e
  refine wpAny_notIn_heap (tupleKind_room_in1 hu) (nP I.hok eb) hd dd ?_
  have q:=(rel.val k).isSome_eq
  rw [Option.isSome_map] at q
  rw [<- q,<- l]
  exact h _ (I.tok _)
theorem ss {h':Heap} {t':Nat} {ob:HO} (I:Inv X pins σ H s) (mu:Mut (H a)) (hs:Heap.SameBut a s.heap h') (he:∃ q,h'.get? a=some q) (new:cz X.prog X.w (upd H a ob) h' a ob) :
  Inv X pins σ (upd H a ob) { s with heap:=h',toks:=t' }:=
 I.write (x:=a) (e:=a) mu (.inl rfl) (fun b q hb z=>(hs.2 b hb).trans z) he new
theorem zQ {P:Program} {w:World} {H':Hp} {h':Heap} {kvs:List (Key×V)} {vs:List (Key×Value)} (z:kvs.length<=sizeLine) (hd:(a == sysModules)=false) (rel:KV kvs vs) (dd:h'.DictOf (cn P w) a vs) :
  cz P w H' h' a (.dK kvs):=⟨z,hd,vs,rel,dd⟩
theorem uu {H':Hp} {Q:Unit->Shared->Prop} (hu:A.units+1 < cLine) (I:Inv X pins σ H s) (g:nY H a y v H') (ry:aW y u) (rv:aW v r) (h:∀ s',Inv X pins σ H' s'->Q () s') :
  wpAny (model X.prog X.w) A (setItem (.ref a) u r) Q E s:=by
 rcases g with ⟨kvs,k,e,ey,l,eH⟩ | ⟨kvs,k,b,e,ey,eb,l,eH⟩
 ·subst ey eH
  obtain ⟨z,hd,vs,rel,dd⟩:=Bi I.hok e
  have hz:vs.length<=sizeLine:=by rw [<- rel.length];exact z
  have hl:(fX kvs k v).length<=sizeLine:=by have:=eE kvs k v;omega
  refine wpAny_setItem_pairs (hsz:=hz) (nz ry) dd fun h' dd' hs=>h _ ?_
  have he:∃ q,h'.get? a=some q:=let ⟨q,_,_,hq,_⟩:=dd';⟨q,hq⟩
  exact ss I (by rw [e];exact True.intro) hs he (zQ hl hd (rel.put k rv) dd')
 ·subst ey eH
  cases (show u=Value.ref b from ry)
  obtain ⟨z,hd,xs,rel,dd⟩:=BC I.hok e
  have hz:xs.length<=sizeLine:=by rw [<- Paired.length rel];exact z
  have hl:(fX kvs k v).length<=sizeLine:=by have:=eE kvs k v;omega
  refine wpAny_setItem_heap (hsz:=hz) (tupleKind_room_in1 hu) (nP I.hok eb) dd fun h' dd' hs=>h _ ?_
  obtain ⟨q,es,ep,hq,h2,h3,h4,_,h5⟩:=dd'
  refine ss I (by rw [e];exact True.intro) hs ⟨q,hq⟩ ⟨hl,hd,_,(rel.put k eb rv).keeps fun c ys ec=>?_,q,es,ep,hq,h2,h3,h4,h5⟩
  rw [ah (bS ec e (fun z=>nomatch z))]
  exact ec
end
def AG (i:Expr):Prop:=∀ ov iv,subscripted i false ov iv=operate [ov,iv] (getItem ov iv)
theorem sn {prog:Program} {w:World} {A:Around} {E:Value->Shared->Prop} {s:Shared} {env:Env} {value slice:Expr} {pos:Pos} {T id:String} {Q:Value->Shared->Prop}
  (hl:typeLookup (.type T) "__getitem__" = pure (some (.builtin id))) (hs:AG slice)
  (h:wpAny (model prog w) A (eval value env) (fun o s₁=>wpAny (model prog w) A (eval slice env) (fun i s₂=>s₂.TypeIs o T/\wpAny (model prog w) A (getItem o i) Q E s₂) E s₁) E s) :
  wpAny (model prog w) A (eval (.Subscript value slice pos) env) Q E s:=by
 refine Subscript_ (wpAny_mono h (fun o s₁ h₁=>wpAny_mono h₁ (fun i s₂ h₂=>?_) fun _ _ x=>x) fun _ _ x=>x)
 obtain ⟨hT,h₂⟩:=h₂
 unfold subscriptTail
 refine wpAny_bind ?_
 rw [getitemInPython_of_ne hT.not_modules]
 refine wpAny_bind (wpAny_specialOf hT hl ?_)
 have fin:wpAny (model prog w) A (subscripted slice false o i) (fun r s₃=>wpAny (model prog w) A (letTemporaryGo value o r >>= fun _=>pure r) Q E s₃) E s₂:=by
  rw [hs o i]
  exact wpAny_operating (wpAny_mono h₂ (fun r s₃ h₃=>wpAny_bind (wpAny_letTemporaryGo (wpAny_pure h₃))) fun _ _ x=>x)
 first
  | exact wpAny_pure (wpAny_bind fin)
  | exact wpAny_bind (wpAny_pure (wpAny_bind fin))
  | exact wpAny_bind fin
theorem qc {X:Cx} {pins:List (Addr×Obj)} {σ:St} {H:Hp} {s:Shared} {a:Addr} {y:V} {o:Option V} (I:Inv X pins σ H s) (g:j6 H a y o):s.TypeIs (.ref a) "dict":=by
 rcases g with ⟨kvs,k,e,_,_⟩ | ⟨kvs,k,b,e,_,_,_⟩
 ·obtain ⟨_,_,vs,_,dd⟩:=rZ I.hok e
  exact dd.typeIs
 ·obtain ⟨_,_,xs,_,dd⟩:=sw I.hok e
  exact dd.typeIs
def wR (td ty:TE):TE:=fun σ H Q=>td σ H fun x H1=>ty σ H1 fun y H2=>∃ a v,x = .ref a/\j6 H2 a y (some v)/\Q v H2
def sN (ty td:TE):TE:=fun σ H Q=>ty σ H fun y H1=>td σ H1 fun x H2=>∃ a o,x = .ref a/\j6 H2 a y o/\Q (.bl (!o.isSome)) H2
def CQ (td ty tv:TE):TS:=fun D σ H=>tv σ H fun v H1=>td σ H1 fun x H2=>ty σ H2 fun y H3=>∃ a H4,x = .ref a/\nY H3 a y v H4/\D.nx σ H4
section
variable {X:Cx} {o i e value:Expr} {pos pos' tpos:Pos} {td ty tv:TE}
theorem sS (hu:X.A.units+1 < cLine) (ho:PE X o td) (hi:PE X i ty) (hs:AG i):PE X (.Subscript o i pos) (wR td ty):=by
 intro pins s σ H Q I h
 refine sn PySem.F.slot_dict_getitem.lookup hs (thn (ho pins s σ H _ I h) fun u s1 ⟨x,H1,I1,rx,q1⟩=>thn (hi pins s1 σ H1 _ I1 q1) fun iv s2 ⟨y,H2,I2,ry,a,v,ex,g,q2⟩=>?_)
 subst ex
 obtain rfl:u=Value.ref a:=rx
 exact ⟨qc I2 g,tF hu I2 g ry fun w' s3 I3 rw'=>⟨v,H2,I3,rw',q2⟩⟩
theorem tI (hu:X.A.units+1 < cLine) (hi:PE X i ty) (ho:PE X o td):PC X .NotIn i o (sN ty td):=by
 intro pins s σ H Q I h
 refine thn (hi pins s σ H _ I h) fun iv s1 ⟨y,H1,I1,ry,q1⟩=>thn (ho pins s1 σ H1 _ I1 q1) fun u s2 ⟨x,H2,I2,rx,a,ov,ex,g,q2⟩=>?_
 subst ex
 obtain rfl:u=Value.ref a:=rx
 exact xV hu I2 g ry fun s3 I3=>⟨.bl (!ov.isSome),H2,I3,rfl,q2⟩
theorem iV (hu:X.A.units+1 < cLine) (ho:PE X o td) (hi:PE X i ty) (hv:PE X value tv) (hs:swapsWith value (some (.Subscript o i pos')) pos.line X.env=pure false) :
  PS X (.Assign [.Subscript o i pos'] value pos) (CQ td ty tv):=by
 intro pins s σ H D I h
 refine wpAny_Assign_Subscript (thn (hv pins s σ H _ I h) fun r s1 ⟨v,H1,I1,rv,q1⟩=>thn (ho pins s1 σ H1 _ I1 q1) fun u s2 ⟨x,H2,I2,rx,q2⟩=>thn (hi pins s2 σ H2 _ I2 q2) fun iv s3 ⟨y,H3,I3,ry,a,H4,ex,g,q3⟩=>?_) hs
 subst ex
 obtain rfl:u=Value.ref a:=rx
 exact uu hu I3 g ry rv fun s4 I4=>⟨σ,H4,I4,q3⟩
end
theorem xc {P:Program} {w:World} {H:Hp} (h:Heap) (hb:sysModules < h.objs.size):cz P w H (h.push { cls:= .type "dict",data:= .dict #[] }) h.objs.size (.dT []):=
 ⟨Nat.zero_le _,beq_eq_false_iff_ne.mpr (Ne.symm (Nat.ne_of_lt hb)),[],.nil,_,#[],0,Heap.get?_push_size _ rfl,⟨rfl,rfl,rfl⟩,rfl,rfl,List.nodup_nil⟩
def zX:TE:=fun _ H Q=>∀ p,H p=none->Q (.ref p) (upd H p (.dT []))
section
variable {X:Cx} {pos:Pos}
theorem kH:PE X (.Dict [] [] pos) zX:=fun pins s σ H Q I h=>
 wpAny_Dict_empty ⟨.ref s.heap.objs.size,_,I.laid (a:=s.heap.objs.size) (o:= .dT []) (t':=s.toks) (fun _ _ q=>Heap.get?_push_of_some _ q) (Nat.le_refl _) (xc s.heap I.big),rfl,h _ (I.hok.fresh (Nat.le_refl _))⟩
end
end L2
namespace L2
open PySem PySem.Spec PyProof.Rows
section
variable {X:Cx} {pins:List (Addr×Obj)} {σ:St} {H:Hp} {s:Shared} {h':Heap}
theorem Inv.turnedL {t':Nat} {ch:List Addr} (I:Inv X pins σ H s) (k:∀ b o,b∉ch->s.heap.get? b=some o->h'.get? b=some o) (hf:∀ b∈ch,fT X pins H b):Inv X pins σ H { s with heap:=h',toks:=t' }:=by
 have nit:∀ b u,H b=some u->b∉ch:=fun b u e z=>by
  have q:=(hf b z).1
  rw [q] at e;cases e
 refine I.step (g':=s.gens) (d':=s.drawn) (ch:=ch) (fun b hb=>⟨(hf b hb).2.2.2.1,(hf b hb).2.1,(hf b hb).2.2.2.2.1,(hf b hb).2.2.2.2.2⟩) (fun b o _ _ hc e _=>k b o hc e) (fun b o _ _ hc e _=>⟨o.slots,k b o hc e⟩)
  (fun _ _ _ _ n=>n) (fun b o hc e=>⟨o,k b o hc e⟩) (fun _ _ e=>e) (fun _ _ _ e=>e) (fun b ps e=>⟨#[],by rw [e];simp⟩) (fun m hm=>?_) (fun b u e=>?_) I.bare
 ·obtain ⟨o,es,ep,ho,r⟩:=hm
  exact ⟨o,es,ep,k _ o (fun z=>(hf _ z).2.1 rfl) ho,r⟩
 ·refine (I.hok b u e).stay (fun c v hc q=>k c v ?_ q) (fun _ q=>q) fun _ _ q=>q
  rcases hc with z | z
  ·rw [z];exact nit b u e
  ·exact nit c _ z
theorem Inv.turnedNew {t':Nat} {ch:List Addr} {T:Addr} {ob:HO} (I:Inv X pins σ H s) (k:∀ b o,b∉ch->s.heap.get? b=some o->h'.get? b=some o) (hf:∀ b∈ch,fT X pins H b) (hT:s.heap.objs.size<=T)
  (new:cz X.prog X.w (upd H T ob) h' T ob):Inv X pins σ (upd H T ob) { s with heap:=h',toks:=t' }:=by
 have hn:H T=none:=I.hok.fresh hT
 have nit:∀ b u,H b=some u->b∉ch:=fun b u e z=>by
  have q:=(hf b z).1
  rw [q] at e;cases e
 refine I.step (g':=s.gens) (d':=s.drawn) (ch:=ch) (fun b hb=>⟨(hf b hb).2.2.2.1,(hf b hb).2.1,(hf b hb).2.2.2.2.1,(hf b hb).2.2.2.2.2⟩) (fun b o _ _ hc e _=>k b o hc e) (fun b o _ _ hc e _=>⟨o.slots,k b o hc e⟩)
  (fun b o _ e n=>?_) (fun b o hc e=>⟨o,k b o hc e⟩) (fun b xs e=>?_) (fun b o u e=>?_) (fun b ps e=>⟨#[],?_⟩) (fun m hm=>?_) (fun b u e=>?_) I.bare
 ·rw [ah (Nat.ne_of_lt (Nat.lt_of_lt_of_le (Heap.lt_size e) hT))];exact n
 ·rw [ah (ai e hn)];exact e
 ·rw [ah (ai e hn)];exact e
 ·rw [ah (ai e hn),e];simp
 ·obtain ⟨o,es,ep,ho,r⟩:=hm
  exact ⟨o,es,ep,k _ o (fun z=>(hf _ z).2.1 rfl) ho,r⟩
 ·by_cases hb:b=T
  ·subst hb
   rw [ab] at e
   cases e
   exact new
  ·rw [ah hb] at e
   refine (I.hok b u e).stay (fun c v hc q=>k c v ?_ q) (fun c q=>by rw [ah (ai q hn)];exact q) fun c xs q=>by rw [ah (ai q hn)];exact q
   rcases hc with z | z
   ·rw [z];exact nit b u e
   ·exact nit c _ z
end
section
variable {X:Cx}
theorem Ab {tg:Expr} {pins:List (Addr×Obj)} {σ:St} {H:Hp} {s:Shared} {R:It->Hp->Prop} {J:It} {tn:Nat->Heap->Prop} {tk:Nat} (I:Inv X pins σ H s) (o:Obj)
  (T:oK X.prog X.w X.K tg J [s.heap.objs.size] s.heap.objs.size tn) (st:tn 0 (s.heap.push o)) (q:R J H):PIE X pins σ tg R (.ref s.heap.objs.size) { s with heap:=s.heap.push o,toks:=tk }:=by
 refine ⟨s.heap.objs.size,[s.heap.objs.size],tn,J,H,rfl,I.kept fun b ob e=>Heap.get?_push_of_some _ e,T,st,fun b hb=>?_,q⟩
 have e:b=s.heap.objs.size:=by simpa using hb
 subst e
 exact I.fpOk (Nat.le_refl _) (I.hok.fresh (Nat.le_refl _))
end
def Itc (lo c:Int) (n:Nat):It:=⟨fun i _=>i < n,fun i H x H'=>H'=H/\x = .int (lo+(i:Nat) * c),fun i _=>n<=i⟩
theorem pJ {P:Program} {w:World} {K:PySem.W.Frag} {tg:Expr} (it:Addr) (lo c:Int) (n:Nat):oK P w K tg (Itc lo c n) [it] it (fun i h=>IsRangeIter h it (lo+(i:Nat) * c) ((n:Int) - (i:Nat)) c) where
 mem:=by simp
 obj:=fun i h st b hb=>by
  have e:b=it:=by simpa using hb
  subst e
  exact ⟨_,st,fun v z=>nomatch z⟩
 keep:=fun i h h' st k=>k it (by simp) _ st
 item:=by
  intro X hP hw hK hc i pins s σ H E I hf st hg
  subst hP hw hK
  obtain ⟨f0,f1,f2,f3,f4,f5⟩:=hf it (by simp)
  have W:=Walks.range (prog:=X.prog) (w:=X.w) (I.ok.hd hc) it lo c n
  refine W.item i s _ _ hg st fun v h' tk hv st' kk=>?_
  obtain ⟨t,rfl⟩:=hv
  have I1:Inv X pins σ H { s with heap:=h',toks:=tk }:=I.turned (fun b o hb e=>kk b o (by simpa using hb) e) f0 f1 f3 f4 f5
  exact ⟨_,rfl,rQ (s:={ s with heap:=h',toks:=tk }) (n:= "range_iterator") st' rfl rfl (by decide) ⟨.int (lo+(i:Nat) * c),H,I1,⟨t,rfl⟩,⟨rfl,rfl⟩,st',fun b hb=>(hf b hb).1⟩⟩
 done:=by
  intro X hP hw hK hc i pins s σ H E I hf st hg
  subst hP hw hK
  obtain ⟨f0,f1,f2,f3,f4,f5⟩:=hf it (by simp)
  exact wpAny_pyNext_range_end (I.ok.hd hc) st (by have:n<=i:=hg;omega) fun h' eb=>⟨rfl,I.turned (t':=s.toks) (fun b o hb e=>eb b o hb e) f0 f1 f3 f4 f5⟩
 self:=fun A i s Q E st h=>wpAny_pyIter_rangeiter st h
def RgC (i j c:Int) (n:Nat):Prop:=c≠0/\c.natAbs < 1073741824/\Builtin.Range.small i j c=true/\Builtin.Range.rangeSize i j c=n
theorem RgC.neg {i j:Int} (ha:-(2 ^ 62)<=i) (ha':i < 2 ^ 62) (hb:-(2 ^ 62)<=j) (hb':j < 2 ^ 62):RgC i j (-1) (i - j).toNat:=
 ⟨by decide,by decide,PySem.W.small_down ha ha' hb hb',PySem.W.rangeSize_downNat i j⟩
def By (ta:TA):TI:=fun σ H R=>ta σ H fun vs H1=>∃ (i j c:Int) (n:Nat),vs=[.int i,.int j,.int c]/\RgC i j c n/\R (Itc i c n) H1
section
variable {X:Cx} {tg:Expr}
theorem tN {a b c:Expr} {ta:TA} {p pos:Pos} (hg:Gl X "range") (hm:X.mg "range" = none) (ha:PA X [a,b,c] ta)
  (hs:starEach [a,b,c] X.env=(false,eval a X.env)::starEach [b,c] X.env:=by rfl) (hpl:(backTo pos (starEach [b,c] X.env)).any (·.1)=false:=by rfl) :
  PI X tg (.Call (.Name "range" p) [a,b,c] [] pos) (By ta):=by
 intro pins s σ H R I h
 refine Call_ (gn I hg hm boot_range (PyProof.Rows.callWith_type1 (thn (ha pos pins s σ H _ I h) fun us s1 ⟨vs,H1,I1,r1,q1⟩=>?_) hs hpl))
 obtain ⟨i,j,k,n,e,⟨c0,c1,c2,c3⟩,q⟩:=q1
 subst e
 cases r1 with
 | cons r rr=>
  cases rr with
  | cons r' rr=>
   cases rr with
   | cons r'' rr=>
    cases rr
    obtain ⟨t,rfl⟩:=r
    obtain ⟨t',rfl⟩:=r'
    obtain ⟨t'',rfl⟩:=r''
    refine call_range_3 c0 ?_ (.inl (PyProof.noPylong_small c1))
    refine wpAny_pyIter_range (IsRange.new ..) c2 ?_
    have I2:Inv X pins σ H1 { s1 with heap:=s1.heap.push { cls:= .type "range",data:= .fields #[.int i t,.int j t',.int k t''] } }:=I1.kept (t':=s1.toks) fun b o e=>Heap.get?_push_of_some _ e
    refine Ab (tk:=s1.toks) I2 _ (pJ _ i k n) ?_ q
    have e1:i+((0:Nat):Int) * k=i:=by simp
    have e2:(n:Int) - ((0:Nat):Int)=Builtin.Range.rangeSize i j k:=by rw [c3];simp
    show IsRangeIter _ _ (i+((0:Nat):Int) * k) ((n:Int) - ((0:Nat):Int)) k
    rw [e1,e2]
    exact Heap.get?_push_size _ rfl
end
theorem rI {lo c:Int} {n:Nat} {g:TG} {tb:TS} {D:lV} {σ:St} {H:Hp} (Pv:Nat->St->Hp->Prop) (h0:Pv 0 σ H)
  (hs:∀ i σ H,i < n->Pv i σ H->g (.int (lo+(i:Nat) * c)) σ H fun σ2 H2=>tb { D with nx:=Pv (i+1),ct:=Pv (i+1),bk:=D.nx } σ2 H2) (hd:∀ σ H,Pv n σ H->D.nx σ H) :
  ∃ W:Nat->Nat->St->Hp->Prop,(∃ m,W 0 m σ H)/\∀ i m σ H,W i m σ H->
   ((Itc lo c n).stop i H/\D.nx σ H)\/((Itc lo c n).go i H/\∃ N:St->Hp->Prop,(∀ σ' H',N σ' H'->∃ m',m' < m/\W (i+1) m' σ' H')/\∀ x H',(Itc lo c n).yld i H x H'->g x σ H' fun σ2 H2=>tb { D with nx:=N,ct:=N,bk:=D.nx } σ2 H2):=by
 refine ⟨fun i m σ H=>m=n - i/\i<=n/\Pv i σ H,⟨n,by simp,Nat.zero_le _,h0⟩,?_⟩
 rintro i m σ H ⟨rfl,hi,p⟩
 by_cases hlt:i < n
 ·refine .inr ⟨hlt,Pv (i+1),fun σ' H' p'=>⟨n - (i+1),by omega,rfl,hlt,p'⟩,fun x H' y=>?_⟩
  obtain ⟨e,y⟩:=y
  subst e y
  exact hs i σ _ hlt p
 ·have e:i=n:=by omega
  subst e
  exact .inl ⟨Nat.le_refl _,hd σ H p⟩
def Ite (K:PySem.W.Frag) (a:Addr):It:=
 ⟨fun i H=>∃ (xs:List V) (x:V),SqL K H a xs/\xs[i]?=some x,fun i H v H'=>∃ T x,v = .ref T/\H T=none/\H'=upd H T (.tup [.int (i:Nat),x])/\∀ xs,SqL K H a xs->xs[i]?=some x,fun i H=>∃ xs:List V,SqL K H a xs/\xs.length<=i⟩
theorem tm {P:Program} {w:World} {K:PySem.W.Frag} {elts:List Expr} {kk:Nat} {tpos:Pos} (a e it:Addr) :
  oK P w K (.Tuple elts kk tpos) (Ite K a) [e,it] e (fun i h=>(∃ old,IsEnum h e it ((i:Nat):Int) old)/\h.IsListIter it a i/\e≠it) where
 mem:=by simp
 obj:=fun i h st b hb=>by
  obtain ⟨⟨old,he⟩,⟨o,ho,hc,hd⟩,_⟩:=st
  have e':b=e\/b=it:=by simpa using hb
  rcases e' with z | z
  ·rw [z];exact ⟨_,he,fun v q=>nomatch q⟩
  ·rw [z];exact ⟨o,ho,fun v q=>by rw [hd] at q;cases q⟩
 keep:=fun i h h' st k=>let ⟨⟨old,he⟩,hi,hne⟩:=st;⟨⟨old,k e (by simp) _ he⟩,hi.at fun o q=>k it (by simp) o q,hne⟩
 item:=by
  intro X hP hw hK hc i pins s σ H E I hf st hg
  subst hP hw hK
  obtain ⟨⟨old,he⟩,hit,hne⟩:=st
  obtain ⟨xs,x,hq,hx⟩:=hg
  obtain ⟨its,rv,p,hz⟩:=I.list hq
  obtain ⟨u,hu,ru⟩:=rv.get hx
  have hel:e < s.heap.objs.size:=Heap.lt_size he
  have hil:it < s.heap.objs.size:=by obtain ⟨_,q,_⟩:=hit;exact Heap.lt_size q
  refine wpAny_pyNext_enum_item he hit p.isList (x:=u) (by simpa using hu) hne fun h' ho hit' hT hsz hk=>?_
  refine ⟨_,rfl,wpAny_letOwnedTupleGo_enum (s:={ s with heap:=h',toks:=s.toks+1 }) ho fun h'' he' sb=>?_⟩
  have hT2:h''.get? s.heap.objs.size=some { cls:= .type "tuple",data:= .seq #[.int i s.toks,u] }:=(sb.2 _ (Nat.ne_of_gt hel)).trans hT
  have new:cz X.prog X.w (upd H s.heap.objs.size (.tup [.int (i:Nat),x])) h'' s.heap.objs.size (.tup [.int (i:Nat),x]):=
   ⟨by show 2<=sizeLine;decide,[.int i s.toks,u],.cons ⟨_,rfl⟩ (.cons ru .nil),⟨_,hT2,rfl,_,rfl⟩⟩
  have I1:Inv X pins σ (upd H s.heap.objs.size (.tup [.int (i:Nat),x])) { s with heap:=h'',toks:=s.toks+1 }:=
   I.turnedNew (ch:=[e,it]) (fun b ob hb q=>(sb.2 b (fun z=>hb (by simp [z]))).trans (hk b ob (fun z=>hb (by simp [z])) (fun z=>hb (by simp [z])) q)) hf (Nat.le_refl _) new
  refine ⟨.ref s.heap.objs.size,_,I1,rfl,⟨_,x,rfl,I.hok.fresh (Nat.le_refl _),rfl,fun ys hy=>by rw [I.list_inj hy hq];exact hx⟩,⟨⟨u,?_⟩,hit'.at fun o q=>(sb.2 it (Ne.symm hne)).trans q,hne⟩,fun b hb=>?_⟩
  ·have e1:((i+1:Nat):Int)=(i:Int)+1:=by omega
   rw [e1];exact he'
  ·have hb':b < s.heap.objs.size:=by
    have e':b=e\/b=it:=by simpa using hb
    rcases e' with z | z
    ·rw [z];exact hel
    ·rw [z];exact hil
   rw [ah (Nat.ne_of_lt hb')]
   exact (hf b hb).1
 done:=by
  intro X hP hw hK hc i pins s σ H E I hf st hg
  subst hP hw hK
  obtain ⟨⟨old,he⟩,hit,hne⟩:=st
  obtain ⟨xs,hq,hx⟩:=hg
  obtain ⟨its,rv,p,hz⟩:=I.list hq
  obtain ⟨f0,f1,f2,f3,f4,f5⟩:=hf it (by simp)
  have hl:=rv.length
  exact wpAny_pyNext_enum_end (I.ok.hd hc) he hit p.isList (by simp;omega) fun h' eb=>⟨rfl,I.turned (t':=s.toks) (fun b o hb q=>eb b o hb q) f0 f1 f3 f4 f5⟩
 self:=fun A i s Q E st h=>let ⟨⟨_,he⟩,_⟩:=st;wpAny_pyIter_enum he h
theorem tq:bootBuiltins "zip" = some (.type "zip"):=by decide +kernel
end L2
namespace L2
open PySem PySem.Spec PyProof.Rows
def aS (s:Stmt) (j:Nat):Stmt:=match s with
 | .ClassDef _ _ _ body _ _ _ _ _ _ _=>body.getD j (.Pass ⟨0,0,0,0⟩)
 | _=> .Pass ⟨0,0,0,0⟩
def cY (s:Stmt):Arguments:=match s with
 | .FunctionDef _ a _ _ _ _ _ _ _ _=>a
 | _=>{ posonlyargs:=[],args:=[],vararg:=none,kwonlyargs:=[],kw_defaults:=[],kwarg:=none,defaults:=[] }
def cS (s:Stmt):List Stmt:=match s with
 | .FunctionDef _ _ b _ _ _ _ _ _ _=>b
 | _=>[]
def al (s:Stmt):Scope:=match s with
 | .FunctionDef _ _ _ _ _ _ sc _ _ _=>sc
 | _=>{ kind:= .function,names:=[],isGenerator:=false,isCoroutine:=false }
abbrev CX0:CXT:=fun _ _ _ _ _ _=>False
abbrev E0:XK:=fun _ _ _=>False
theorem aD {X:Cx}:gP CX0 X E0:=fun _ _ _ _ _ _ _ h=>h.elim
structure Fun (K:PySem.W.Frag) (x qual:Str) (st:Stmt) (f:Addr) (fd:FuncData):Prop where
 ex:∃ (oc:Value) (od:Option Addr) (kV doc pm:Value) (an:Option Addr) (cdv ct:Value) (osl:Array (Option Value)),
  fd=PySem.W.fnOf x qual (cY st) (cS st) (al st) .none kV doc pm an cdv ct/\K.lookup f=some ⟨oc,od,.func fd,osl⟩/\PySem.W.codeIn K cdv qual=true
 kp:PySem.W.keepIn K (.ref f)=true
section
variable {P:Program} {w:World} {K:PySem.W.Frag} {mg:Str->Option Value} {base:Heap}
theorem Fun.ok {x qual:Str} {st:Stmt} {f:Addr} {fd:FuncData} {N ps:List Str} {k:Nat} {sp:Sp} (F:Fun K x qual st f fd) (S:aq N ps (al st)) (len:∀ vs H Q E,sp vs H Q E->vs.length=ps.length)
  (hbody:∀ (cdv:Value) (A:Around) (outer:List Env) (s:Shared) (H:Hp) (vs:List V) (Q:VK) (E:XK),bP k (A.deeper (envOfC qual (al st) s.heap.objs.size f cdv))->sp vs H Q E->
   ∃ t,PSs (ui CX0 P w K mg base N qual (al st) f cdv A outer s H E).nox (cS st) t/\t { nx:=fun _ H'=>Q .non H',rt:=Q } (start N vs) H):az P w K mg base CX0 (k+1) f fd ps sp:=by
 obtain ⟨oc,od,kV,doc,pm,an,cdv,ct,osl,rfl,lk,hcd⟩:=F.ex
 refine CN lk hcd S len fun A outer s H vs Q E hr hsp=>?_
 obtain ⟨t,h,q⟩:=hbody cdv A outer s H vs Q E hr hsp
 exact ⟨t,h.nox,q⟩
theorem Fun.binds {x qual:Str} {st:Stmt} {f:Addr} {fd:FuncData} {ps:List Str} (F:Fun K x qual st f fd)
  (h:∀ (kV doc pm:Value) (an:Option Addr) (cdv ct:Value) (us:List Value),us.length=ps.length->bindArgs (PySem.W.fnOf x qual (cY st) (cS st) (al st) .none kV doc pm an cdv ct) ⟨us,[]⟩=pure (ps.zip us)):aG K fd ps []:=by
 obtain ⟨oc,od,kV,doc,pm,an,cdv,ct,osl,rfl,lk,hcd⟩:=F.ex
 exact .all (h kV doc pm an cdv ct)
theorem iG {x qual:Str} {st:Stmt} {f:Addr} {oc:Value} {od an:Option Addr} {osl:Array (Option Value)} {kV doc pm cdv ct:Value} (l:K.lookup f=some ⟨oc,od,.func (PySem.W.fnOf x qual (cY st) (cS st) (al st) .none kV doc pm an cdv ct),osl⟩)
  (c:PySem.W.codeIn K cdv qual=true) (k:PySem.W.keepIn K (.ref f)=true):Fun K x qual st f (PySem.W.fnOf x qual (cY st) (cS st) (al st) .none kV doc pm an cdv ct):=⟨⟨oc,od,kV,doc,pm,an,cdv,ct,osl,rfl,l,c⟩,k⟩
end
theorem B0 {A:Around} {k:Nat} (hr:bP k A):A.units+1 < cLine:=Nat.lt_of_le_of_lt (Nat.add_le_add_left (by decide:1<=64) _) hr.units
section
variable {X:Cx}
theorem pv (i:Nat) {x:Str} {pos:Pos} (hN:X.N[i]?=some x:=by rfl) (hv:Vis X.env.scope x:=by first | exact Or.inl rfl | exact Or.inr (Or.inl rfl) | exact Or.inr (Or.inr rfl)) (hd:(x == ("__debug__" : Str))=false:=by decide)
  (hcd:(x == ("__classdict__" : Str))=false:=by decide):PE X (.Name x pos) (aV i):=AI hN hv hd hcd
end
theorem bB {A B:Prop} (h:B):if false=true then A else B:=by
 rw [if_neg Bool.false_ne_true]
 exact h
theorem bV {A B:Prop} (h:A):if true=true then A else B:=by
 rw [if_pos rfl]
 exact h
def ay (H H':Hp):Prop:=∀ b o,H b=some o->H' b=some o
theorem ay.refl (H:Hp):ay H H:=fun _ _ h=>h
theorem ay.trans {H H1 H2:Hp} (a:ay H H1) (b:ay H1 H2):ay H H2:=fun c o h=>b c o (a c o h)
theorem ay.free {H H':Hp} (e:ay H H') {l:Addr} (h:H' l=Option.none):H l=Option.none:=by
 cases q:H l with
 | none=>rfl
 | some o=>
  rw [e l o q] at h
  cases h
theorem ay.seq {K:PySem.W.Frag} {H H':Hp} {a:Addr} {xs:List V} (e:ay H H') (h:SqL K H a xs):SqL K H' a xs:=by
 rcases h with (h | ⟨o,h⟩) | h
 ·exact .inl (.inl (e _ _ h))
 ·exact .inl (.inr ⟨o,e _ _ h⟩)
 ·exact .inr h
theorem b7 {xs:List V} {z:Int} {j:Nat} {v:V} (e:z=(j:Int)) (h:xs[j]?=some v):atI xs z=some v:=by
 rw [e]
 exact sh h
theorem A2 {α:Type} {l:List α} (hN:l.Nodup) {i j:Nat} {x:α} (a:l[i]?=some x) (b:l[j]?=some x):i=j:=by
 obtain ⟨h1,e1⟩:=List.getElem?_eq_some_iff.mp a
 obtain ⟨h2,e2⟩:=List.getElem?_eq_some_iff.mp b
 exact (List.getElem_inj hN).mp (e1.trans e2.symm)
theorem ay.made {H H1:Hp} {x dx C:Addr} (nx:H x=Option.none) (nd:H dx=Option.none) (k:∀ b o,(upd (upd H dx (.own x)) x (.ins C dx [])) b=some o->b≠x->H1 b=some o):ay H H1:=fun b o e=>
 k b o (by rw [ah (ai e nx),ah (ai e nd)];exact e) (ai e nx)
end L2
section
namespace L2
open PySem PySem.Spec PyProof.Rows
open PySem.W (WData Codec OpenSpec Well WellAll ReadsW ReadsAllW)
mutual
inductive Dw (K:PySem.W.Frag) (H:Hp):V->WData->Prop
 | non:Dw K H .non .none
 | bl (b:Bool):Dw K H (.bl b) (.bool b)
 | int (i:Int):Dw K H (.int i) (.int i)
 | str (x:Str):Dw K H (.str x) (.str x)
 | byt (b:Array UInt8):Dw K H (.byt b) (.bytes b.toList)
 | lst {a:Addr} {xs:List V} {ds:List WData}:SqL K H a xs->gH K H xs ds->Dw K H (.ref a) (.list ds)
 | tup {a:Addr} {xs:List V} {ds:List WData}:SqT K H a xs->gH K H xs ds->Dw K H (.ref a) (.tuple ds)
inductive gH (K:PySem.W.Frag) (H:Hp):List V->List WData->Prop
 | nil:gH K H [] []
 | cons {v:V} {vs:List V} {d:WData} {ds:List WData}:Dw K H v d->gH K H vs ds->gH K H (v::vs) (d::ds)
end
theorem dw_ints {K:PySem.W.Frag} {H:Hp}:∀ ns:List Int,gH K H (ns.map V.int) (ns.map WData.int)
 | []=> .nil
 | n::r=> .cons (.int n) (dw_ints r)
theorem ints_dw {K:PySem.W.Frag} {H:Hp}:∀ (ns:List Int) (xs:List V),gH K H xs (ns.map WData.int)->xs=ns.map V.int
 | [],xs,h=>by
  cases h
  rfl
 | n::r,xs,h=>by
  cases h with
  | cons h1 h2=>
   cases h1
   rw [ints_dw r _ h2] <;> rfl
section
variable {P:Program} {w:World} {K:PySem.W.Frag} {H:Hp} {h:Heap} {R:PySem.W.WRecords} {cl:Str->Option Addr}
theorem zO {a:Addr} {xs:List V} (hok:HOk P w H h) (KX:K.In h) (q:SqL K H a xs):∃ (its:List Value) (o:Obj) (n:Nat),aI xs its/\h.get? a=some o/\o.cls = .type "list"/\o.data = .seq its.toArray n:=by
 rcases q with q | ⟨o,its,n,e,hc,_,hd,_,hv⟩
 ·obtain ⟨_,its,n,hv,e⟩:=(show cz P w H h a (.lst xs) from q.ok hok)
  exact ⟨its,_,n,hv,e,rfl,rfl⟩
 ·exact ⟨its.toList,o,n,hv,KX _ _ e,hc,by simp [hd]⟩
theorem z8 {a:Addr} {xs:List V} (hok:HOk P w H h) (KX:K.In h) (q:SqT K H a xs):∃ (its:List Value) (o:Obj) (n:Nat),aI xs its/\h.get? a=some o/\o.cls = .type "tuple"/\o.data = .seq its.toArray n:=by
 rcases q with q | ⟨o,its,n,e,hc,hd,_,hv⟩
 ·obtain ⟨_,its,hv,o,e,hc,n,hd⟩:=(show cz P w H h a (.tup xs) from q.ok hok)
  exact ⟨its,o,n,hv,e,hc,hd⟩
 ·exact ⟨its.toList,o,n,hv,KX _ _ e,hc,by simp [hd]⟩
mutual
theorem Dw.reads (hok:HOk P w H h) (KX:K.In h):∀ (d:WData) (v:V) (u:Value),Dw K H v d->aW v u->∃ as,ReadsW R cl h u d as
 | .none,_,_,x,r=>by
  cases x
  cases r
  exact ⟨_,ReadsW.none⟩
 | .bool b,_,_,x,r=>by
  cases x
  cases r
  exact ⟨_,ReadsW.bool b⟩
 | .int i,_,_,x,r=>by
  cases x
  obtain ⟨t,rfl⟩:=r
  exact ⟨_,ReadsW.int i t⟩
 | .str s,_,_,x,r=>by
  cases x
  obtain ⟨t,rfl⟩:=r
  exact ⟨_,ReadsW.str s t⟩
 | .bytes b,_,_,x,r=>by
  cases x
  obtain ⟨t,rfl⟩:=r
  exact ⟨_,ReadsW.bytes _ t⟩
 | .list ds,_,_,x,r=>by
  cases x with
  | lst hs ha=>
   cases r
   obtain ⟨its,o,n,rv,ho,hc,hd⟩:=zO hok KX hs
   obtain ⟨as,hr⟩:=Dw.readsAll hok KX ds _ its ha rv
   exact ⟨_,ReadsW.list ho hc hd hr⟩
 | .tuple ds,_,_,x,r=>by
  cases x with
  | tup hs ha=>
   cases r
   obtain ⟨its,o,n,rv,ho,hc,hd⟩:=z8 hok KX hs
   obtain ⟨as,hr⟩:=Dw.readsAll hok KX ds _ its ha rv
   exact ⟨_,ReadsW.tuple ho hc hd hr⟩
 | .float _,_,_,x,_=>by cases x
 | .dict _,_,_,x,_=>by cases x
 | .bytearray _,_,_,x,_=>by cases x
 | .set _,_,_,x,_=>by cases x
 | .frozenset _,_,_,x,_=>by cases x
 | .obj _ _,_,_,x,_=>by cases x
theorem Dw.readsAll (hok:HOk P w H h) (KX:K.In h):∀ (ds:List WData) (vs:List V) (us:List Value),gH K H vs ds->aI vs us->∃ as,ReadsAllW R cl h us ds as
 | [],_,_,x,r=>by
  cases x
  cases r
  exact ⟨_,ReadsAllW.nil⟩
 | d::ds,_,_,x,r=>by
  cases x with
  | cons h1 h2=>
   cases r with
   | cons r1 r2=>
    obtain ⟨as,q1⟩:=Dw.reads hok KX d _ _ h1 r1
    obtain ⟨bs,q2⟩:=Dw.readsAll hok KX ds _ _ h2 r2
    exact ⟨_,ReadsAllW.cons q1 q2⟩
end
end
mutual
def plW:WData->Bool
 | .none=>true
 | .bool _=>true
 | .int _=>true
 | .str _=>true
 | .bytes _=>true
 | .list xs=>kf xs
 | .tuple xs=>kf xs
 | _=>false
def kf:List WData->Bool
 | []=>true
 | x::r=>plW x && kf r
end
theorem pB {α:Type} {f:α->WData} (h:∀ a,plW (f a)=true):∀ l:List α,kf (l.map f)=true
 | []=>rfl
 | x::r=>by
  show (plW (f x) && kf (r.map f))=true
  rw [h x,pB h r] <;> rfl
theorem gO:∀ (c:Codec) (a:c.denote),plW (c.enc a)=true
 | .unit,_=>rfl
 | .bool,_=>rfl
 | .int _ _,_=>rfl
 | .nat _ _,_=>rfl
 | .u8,_=>rfl
 | .bytes _ _,_=>rfl
 | .text _ _ _ _,_=>rfl
 | .list _ _ c,a=>pB (fun x=>gO c x) a
 | .pair c d,a=>by
  show (plW (c.enc a.1) && (plW (d.enc a.2) && true))=true
  rw [gO c a.1,gO d a.2] <;> rfl
 | .triple c d e,a=>by
  show (plW (c.enc a.1) && (plW (d.enc a.2.1) && (plW (e.enc a.2.2) && true)))=true
  rw [gO c a.1,gO d a.2.1,gO e a.2.2] <;> rfl
 | .option c,none=>rfl
 | .option c,some x=>gO c x
theorem l8:∀ (cs:List Codec) (a:Codec.denoteAll cs),kf (Codec.encAll cs a)=true
 | [],_=>rfl
 | c::cs,a=>by
  show (plW (c.enc a.1) && kf (Codec.encAll cs a.2))=true
  rw [gO c a.1,l8 cs a.2] <;> rfl
theorem iB:∀ {xs:List WData} {d:WData},d∈xs->d.weight<=WData.weightAll xs
 | [],d,h=>absurd h (by simp)
 | x::r,d,h=>by
  show d.weight<=x.weight+1+WData.weightAll r
  rcases List.mem_cons.mp h with e | m
  ·rw [e]
   omega
  ·have z:=iB m
   omega
def toV:Value->V
 | .none=> .non
 | .bool b=> .bl b
 | .int i _=> .int i
 | .str x _=> .str x
 | .bytes b _=> .byt b
 | .ref a=> .ref a
 | _=> .non
def OkU (A:List Addr):Value->Prop
 | .none=>True
 | .bool _=>True
 | .int _ _=>True
 | .str _ _=>True
 | .bytes _ _=>True
 | .ref a=>a∈A
 | _=>False
theorem OkU.mono {A B:List Addr} (h:∀ a∈A,a∈B):∀ {u:Value},OkU A u->OkU B u:=fun {u} x=>by
 cases u with
 | ref a=>exact h a x
 | none=>trivial
 | bool b=>trivial
 | int i t=>trivial
 | str s t=>trivial
 | bytes b t=>trivial
 | _=>exact False.elim x
theorem uR {A:List Addr} {u:Value} (x:OkU A u):aW (toV u) u:=by
 cases u with
 | ref a=>rfl
 | none=>rfl
 | bool b=>rfl
 | int i t=>exact ⟨t,rfl⟩
 | str s t=>exact ⟨t,rfl⟩
 | bytes b t=>exact ⟨t,rfl⟩
 | _=>exact False.elim x
theorem ga {A:List Addr}:∀ {vs:List Value},(∀ u∈vs,OkU A u)->aI (vs.map toV) vs
 | [],_=> .nil
 | u::r,h=> .cons (uR (h u (List.mem_cons_self ..))) (ga fun x hx=>h x (List.mem_cons_of_mem _ hx))
def gF (h:Heap) (A:List Addr) (a:Addr):Prop:=∃ vs:List Value,vs.length<=sizeLine/\(∀ u∈vs,OkU A u)/\
 (h.get? a=some { cls:= .type "list",data:= .seq vs.toArray }\/h.get? a=some { cls:= .type "tuple",data:= .seq vs.toArray })
theorem gF.mono {h:Heap} {A B:List Addr} {a:Addr} (k:∀ a∈A,a∈B) (x:gF h A a):gF h B a:=by
 obtain ⟨vs,h1,h2,h3⟩:=x
 exact ⟨vs,h1,fun u hu=>(h2 u hu).mono k,h3⟩
theorem fE {P:Params} {h:Heap}:∀ {vs:List Value} {ds:List WData},WellAll P h vs ds->vs.length=ds.length
 | _,_,.nil=>rfl
 | _,_,.cons _ b=>by
  show _+1=_+1
  rw [fE b]
theorem l9 {P:Params} {h:Heap} {v:Value} {ds:List WData} (x:Well P h v (.list ds)):∃ (a:Addr) (vs:List Value),v = .ref a/\h.get? a=some { cls:= .type "list",data:= .seq vs.toArray }/\WellAll P h vs ds:=by
 cases x with
 | list ho hall=>exact ⟨_,_,rfl,ho,hall⟩
theorem kP {P:Params} {h:Heap} {v:Value} {ds:List WData} (x:Well P h v (.tuple ds)):∃ (a:Addr) (vs:List Value),v = .ref a/\h.get? a=some { cls:= .type "tuple",data:= .seq vs.toArray }/\WellAll P h vs ds:=by
 cases x with
 | tuple ho hall=>exact ⟨_,_,rfl,ho,hall⟩
theorem mJ {P:Params} {h:Heap} {us:List Value} {d:WData} {ds:List WData} (x:WellAll P h us (d::ds)):∃ (v:Value) (vs:List Value),us=v::vs/\Well P h v d/\WellAll P h vs ds:=by
 cases x with
 | cons a b=>exact ⟨_,_,rfl,a,b⟩
theorem rR {n:Nat} (h:n<=1048576):n<=sizeLine:=Nat.le_trans h (by decide)
section
variable {P:Params} {h:Heap}
mutual
theorem wg:∀ (d:WData) (v:Value),Well P h v d->plW d=true->d.weight<=1048576->∃ A:List Addr,OkU A v/\∀ a∈A,gF h A a
 | .none,_,x,_,_=>by
  cases x
  exact ⟨[],trivial,fun a m=>absurd m (by simp)⟩
 | .bool b,_,x,_,_=>by
  cases x
  exact ⟨[],trivial,fun a m=>absurd m (by simp)⟩
 | .int i,_,x,_,_=>by
  cases x
  exact ⟨[],trivial,fun a m=>absurd m (by simp)⟩
 | .str s,_,x,_,_=>by
  cases x
  exact ⟨[],trivial,fun a m=>absurd m (by simp)⟩
 | .bytes b,_,x,_,_=>by
  cases x
  exact ⟨[],trivial,fun a m=>absurd m (by simp)⟩
 | .list ds,_,x,p,z=>by
  obtain ⟨a,vs,rfl,ho,hall⟩:=l9 x
  have z2:WData.weightAll ds<=1048576:=z
  obtain ⟨A,h1,h2⟩:=jd ds _ hall p fun d hd=>Nat.le_trans (iB hd) z2
  have k:∀ b∈A,b∈a::A:=fun b hb=>List.mem_cons_of_mem _ hb
  refine ⟨a::A,List.mem_cons_self ..,fun b hb=>?_⟩
  rcases List.mem_cons.mp hb with e | m
  ·rw [e]
   exact ⟨vs,rR (by rw [fE hall];exact Nat.le_trans (PySem.W.length_le_weightAllW ds) z2),fun u hu=>(h1 u hu).mono k,.inl ho⟩
  ·exact (h2 b m).mono k
 | .tuple ds,_,x,p,z=>by
  obtain ⟨a,vs,rfl,ho,hall⟩:=kP x
  have z2:WData.weightAll ds<=1048576:=z
  obtain ⟨A,h1,h2⟩:=jd ds _ hall p fun d hd=>Nat.le_trans (iB hd) z2
  have k:∀ b∈A,b∈a::A:=fun b hb=>List.mem_cons_of_mem _ hb
  refine ⟨a::A,List.mem_cons_self ..,fun b hb=>?_⟩
  rcases List.mem_cons.mp hb with e | m
  ·rw [e]
   exact ⟨vs,rR (by rw [fE hall];exact Nat.le_trans (PySem.W.length_le_weightAllW ds) z2),fun u hu=>(h1 u hu).mono k,.inr ho⟩
  ·exact (h2 b m).mono k
 | .float _,_,_,p,_=>Bool.noConfusion (show false=true from p)
 | .dict _,_,_,p,_=>Bool.noConfusion (show false=true from p)
 | .bytearray _,_,_,p,_=>Bool.noConfusion (show false=true from p)
 | .set _,_,_,p,_=>Bool.noConfusion (show false=true from p)
 | .frozenset _,_,_,p,_=>Bool.noConfusion (show false=true from p)
 | .obj _ _,_,_,p,_=>Bool.noConfusion (show false=true from p)
theorem jd:∀ (ds:List WData) (vs:List Value),WellAll P h vs ds->kf ds=true->(∀ d∈ds,d.weight<=1048576)->∃ A:List Addr,(∀ u∈vs,OkU A u)/\∀ a∈A,gF h A a
 | [],_,x,_,_=>by
  cases x
  exact ⟨[],fun u m=>absurd m (by simp),fun a m=>absurd m (by simp)⟩
 | d::ds,_,x,p,z=>by
  obtain ⟨v,vs,rfl,x1,x2⟩:=mJ x
  have q:plW d=true/\kf ds=true:=Bool.and_eq_true_iff.mp p
  obtain ⟨A,a1,a2⟩:=wg d v x1 q.1 (z d (List.mem_cons_self ..))
  obtain ⟨B,b1,b2⟩:=jd ds vs x2 q.2 fun e he=>z e (List.mem_cons_of_mem _ he)
  have kA:∀ b∈A,b∈A++B:=fun b hb=>List.mem_append.mpr (.inl hb)
  have kB:∀ b∈B,b∈A++B:=fun b hb=>List.mem_append.mpr (.inr hb)
  refine ⟨A++B,fun u hu=>?_,fun b hb=>?_⟩
  ·rcases List.mem_cons.mp hu with e | m
   ·rw [e]
    exact a1.mono kA
   ·exact (b1 u m).mono kB
  ·rcases List.mem_append.mp hb with m | m
   ·exact (a2 b m).mono kA
   ·exact (b2 b m).mono kB
end
end
def xp (o:Obj):Option HO:=match o.data with
 | .seq vs _=>if (o.cls == Value.type "list")=true then some (.frz o (.lst (vs.toList.map toV))) else some (.frz o (.tup (vs.toList.map toV)))
 | _=>none
def gz (K:PySem.W.Frag) (h:Heap) (A:List Addr):Hp:=fun b=>if b∈A then (if (K.lookup b).isNone=true then (h.get? b).bind xp else none) else none
def oQ (H:Hp):Prop:=∀ b,H b=none\/∃ o u,H b=some (.frz o u)
theorem p3 (vs:List Value):xp { cls:= .type "list",data:= .seq vs.toArray }=some (.frz { cls:= .type "list",data:= .seq vs.toArray } (.lst (vs.map toV))):=by
 show (if (Value.type "list" == Value.type "list")=true then some (HO.frz { cls:= .type "list",data:= .seq vs.toArray } (.lst (vs.toArray.toList.map toV))) else some (HO.frz { cls:= .type "list",data:= .seq vs.toArray } (.tup (vs.toArray.toList.map toV))))=_
 rw [if_pos (beq_self_eq_true _)]
theorem oR (vs:List Value):xp { cls:= .type "tuple",data:= .seq vs.toArray }=some (.frz { cls:= .type "tuple",data:= .seq vs.toArray } (.tup (vs.map toV))):=by
 show (if (Value.type "tuple" == Value.type "list")=true then some (HO.frz { cls:= .type "tuple",data:= .seq vs.toArray } (.lst (vs.toArray.toList.map toV))) else some (HO.frz { cls:= .type "tuple",data:= .seq vs.toArray } (.tup (vs.toArray.toList.map toV))))=_
 rw [if_neg (by decide)]
section
variable {P:Program} {w:World} {K:PySem.W.Frag} {h:Heap} {A:List Addr}
theorem kj {b:Addr} {o:Obj} (hb:b∈A) (hk:K.lookup b=none) (e:h.get? b=some o):gz K h A b=xp o:=by
 unfold gz
 rw [if_pos hb,hk,if_pos (show (none:Option Obj).isNone=true from rfl),e] <;> rfl
theorem yz {b:Addr} {u:HO} (q:gz K h A b=some u):b∈A/\K.lookup b=none:=by
 unfold gz at q
 by_cases hb:b∈A
 ·rw [if_pos hb] at q
  cases hk:K.lookup b with
  | none=>exact ⟨hb,rfl⟩
  | some o=>
   rw [hk,if_neg (by simp)] at q
   cases q
 ·rw [if_neg hb] at q
  cases q
theorem kq (ar:∀ a∈A,gF h A a) {b:Addr} {u:HO} (q:gz K h A b=some u):K.lookup b=none/\∃ vs:List Value,vs.length<=sizeLine/\(∀ u∈vs,OkU A u)/\
  (
   (h.get? b=some { cls:= .type "list",data:= .seq vs.toArray }/\u = .frz { cls:= .type "list",data:= .seq vs.toArray } (.lst (vs.map toV)))\/
   (h.get? b=some { cls:= .type "tuple",data:= .seq vs.toArray }/\u = .frz { cls:= .type "tuple",data:= .seq vs.toArray } (.tup (vs.map toV)))):=by
 obtain ⟨hb,hk⟩:=yz q
 obtain ⟨vs,h1,h2,h3⟩:=ar b hb
 refine ⟨hk,vs,h1,h2,?_⟩
 rcases h3 with e | e
 ·rw [kj hb hk e,p3] at q
  exact .inl ⟨e,(Option.some.inj q).symm⟩
 ·rw [kj hb hk e,oR] at q
  exact .inr ⟨e,(Option.some.inj q).symm⟩
theorem tu (ar:∀ a∈A,gF h A a):oQ (gz K h A):=fun b=>by
 cases q:gz K h A b with
 | none=>exact .inl rfl
 | some u=>
  obtain ⟨_,vs,_,_,⟨_,e⟩ | ⟨_,e⟩⟩:=kq ar q
  ·exact .inr ⟨_,_,by rw [e]⟩
  ·exact .inr ⟨_,_,by rw [e]⟩
theorem xo (ar:∀ a∈A,gF h A a):HOk P w (gz K h A) h:=fun b u q=>by
 obtain ⟨_,vs,h1,h2,⟨e,rfl⟩ | ⟨e,rfl⟩⟩:=kq ar q
 ·exact ⟨e,by rw [List.length_map];exact h1,vs,_,ga h2,e⟩
 ·exact ⟨e,by rw [List.length_map];exact h1,vs,ga h2,_,e,rfl,_,rfl⟩
theorem kx {c c':Value} {vs us:List Value} (e:(some { cls:=c,data:= .seq vs.toArray }:Option Obj)=some { cls:=c',data:= .seq us.toArray }):c=c'/\vs=us:=by
 have e1:=Option.some.inj e
 have e2:c=c':=congrArg Obj.cls e1
 have e3:Data.seq vs.toArray=Data.seq us.toArray:=congrArg Obj.data e1
 injection e3 with e4
 refine ⟨e2,?_⟩
 have e5:=congrArg Array.toList e4
 simpa using e5
theorem DS (KX:K.In h) (ar:∀ a∈A,gF h A a) {a:Addr} {vs:List Value} (ha:a∈A) (e:h.get? a=some { cls:= .type "list",data:= .seq vs.toArray }):(∀ u∈vs,OkU A u)/\SqL K (gz K h A) a (vs.map toV):=by
 obtain ⟨us,h1,h2,h3⟩:=ar a ha
 have hu:us=vs:=by
  rcases h3 with q | q
  ·rw [e] at q
   exact (kx q).2.symm
  ·rw [e] at q
   exact absurd (Value.type.inj (kx q).1) (by decide)
 subst hu
 refine ⟨h2,?_⟩
 cases hk:K.lookup a with
 | none=>exact .inl (.inr ⟨_,by rw [kj ha hk e,p3]⟩)
 | some o=>
  have e2:=KX a o hk
  rw [e] at e2
  obtain rfl:=Option.some.inj e2
  exact .inr ⟨_,us.toArray,_,hk,rfl,rfl,rfl,by rw [List.size_toArray];exact h1,by simpa using ga h2⟩
theorem DF (KX:K.In h) (ar:∀ a∈A,gF h A a) {a:Addr} {vs:List Value} (ha:a∈A) (e:h.get? a=some { cls:= .type "tuple",data:= .seq vs.toArray }):(∀ u∈vs,OkU A u)/\SqT K (gz K h A) a (vs.map toV):=by
 obtain ⟨us,h1,h2,h3⟩:=ar a ha
 have hu:us=vs:=by
  rcases h3 with q | q
  ·rw [e] at q
   exact absurd (Value.type.inj (kx q).1) (by decide)
  ·rw [e] at q
   exact (kx q).2.symm
 subst hu
 refine ⟨h2,?_⟩
 cases hk:K.lookup a with
 | none=>exact .inl (.inr ⟨_,by rw [kj ha hk e,oR]⟩)
 | some o=>
  have e2:=KX a o hk
  rw [e] at e2
  obtain rfl:=Option.some.inj e2
  exact .inr ⟨_,us.toArray,_,hk,rfl,rfl,by rw [List.size_toArray];exact h1,by simpa using ga h2⟩
mutual
theorem zY {Pm:Params} (KX:K.In h) (ar:∀ a∈A,gF h A a):∀ (d:WData) (v:Value),Well Pm h v d->plW d=true->OkU A v->Dw K (gz K h A) (toV v) d
 | .none,_,x,_,_=>by
  cases x
  exact .non
 | .bool b,_,x,_,_=>by
  cases x
  exact .bl b
 | .int i,_,x,_,_=>by
  cases x
  exact .int i
 | .str s,_,x,_,_=>by
  cases x
  exact .str s
 | .bytes b,_,x,_,_=>by
  cases x
  have z:=Dw.byt (K:=K) (H:=gz K h A) b.toArray
  exact z
 | .list ds,_,x,p,hu=>by
  obtain ⟨a,vs,rfl,ho,hall⟩:=l9 x
  obtain ⟨h2,hs⟩:=DS KX ar hu ho
  exact .lst hs (n0 KX ar ds _ hall p h2)
 | .tuple ds,_,x,p,hu=>by
  obtain ⟨a,vs,rfl,ho,hall⟩:=kP x
  obtain ⟨h2,hs⟩:=DF KX ar hu ho
  exact .tup hs (n0 KX ar ds _ hall p h2)
 | .float _,_,_,p,_=>Bool.noConfusion (show false=true from p)
 | .dict _,_,_,p,_=>Bool.noConfusion (show false=true from p)
 | .bytearray _,_,_,p,_=>Bool.noConfusion (show false=true from p)
 | .set _,_,_,p,_=>Bool.noConfusion (show false=true from p)
 | .frozenset _,_,_,p,_=>Bool.noConfusion (show false=true from p)
 | .obj _ _,_,_,p,_=>Bool.noConfusion (show false=true from p)
theorem n0 {Pm:Params} (KX:K.In h) (ar:∀ a∈A,gF h A a):∀ (ds:List WData) (vs:List Value),WellAll Pm h vs ds->kf ds=true->(∀ u∈vs,OkU A u)->gH K (gz K h A) (vs.map toV) ds
 | [],_,x,_,_=>by
  cases x
  exact .nil
 | d::ds,_,x,p,hu=>by
  obtain ⟨v,vs,rfl,x1,x2⟩:=mJ x
  have q:plW d=true/\kf ds=true:=Bool.and_eq_true_iff.mp p
  exact .cons (zY KX ar d v x1 q.1 (hu _ (List.mem_cons_self ..))) (n0 KX ar ds vs x2 q.2 fun u m=>hu u (List.mem_cons_of_mem _ m))
end
end
theorem tY {P:Program} {w:World} {K:PySem.W.Frag} {mg mb:Str->Option Value} {CX:CXT} {k:Nat} {fa:Addr} {fd:FuncData} {ps:List Str} {sp:Sp} {s₁:Shared} {vals:List Value} {ds:List WData} {R:PySem.W.WRecords} {cl:Str->Option Addr} {d0:WData}
  (KX:K.In s₁.heap) (hns:s₁.heap.Ns mainGlobals mg) (hb:s₁.heap.Ns builtinsNs mb) (hbb:∀ x:Str,x≠ "__name__"->mb x=bootBuiltins x) (hlim:s₁.heap.NoLimit) (hg:s₁.gens=#[])
  (hwl:WellAll w.params s₁.heap vals ds) (hpl:kf ds=true) (hwt:∀ d∈ds,d.weight<=1048576) (hr:bP k callerA)
  (F:∀ base:Heap,K.In base->base.Ns mainGlobals mg->az P w K mg base CX k fa fd ps sp) (hbind:∀ (s:Shared) (us:List Value),us.length=ps.length->BindsTo s fd ⟨us,[]⟩ (ps.zip us)) (hlen:ds.length=ps.length)
  (hsp:∀ (H:Hp) (xs:List V),oQ H->gH K H xs ds->sp xs H (fun v H'=>Dw K H' v d0) fun _ _ _=>False)
  (hCX:∀ H e s',CX [] H s₁ (fun _ _ _=>False) e s'->False) :
  codeAny (model P w) callerA (.call (.ref fa) ⟨vals,[]⟩) (fun r s'=>∃ u as,r = .ok (.ret u)/\ReadsW R cl s'.heap u d0 as/\OldK s₁.heap s'.heap/\s'.os=s₁.os/\AllBare s'.gens) s₁:=by
 obtain ⟨A,ho,ar⟩:=jd ds vals hwl hpl hwt
 have hO:oQ (gz K s₁.heap A):=tu ar
 have hok:HOk P w (gz K s₁.heap A) s₁.heap:=xo ar
 have hS:=n0 KX ar ds vals hwl hpl ho
 have hV:=ga ho
 have hK:∀ b u,gz K s₁.heap A b=some u->K.lookup b=none:=fun b u q=>(kq ar q).1
 have noA:∀ {b:Addr} {o:Obj} {es:Array DictEntry} {ep:Nat},s₁.heap.get? b=some o->o.data = .dict es ep->gz K s₁.heap A b=none:=fun {b o es ep} e d=>by
  cases q:gz K s₁.heap A b with
  | none=>rfl
  | some u=>
   obtain ⟨_,vs,_,_,⟨e2,_⟩ | ⟨e2,_⟩⟩:=kq ar q
   ·rw [e2] at e
    cases e
    have d':Data.seq vs.toArray _=Data.dict es ep:=d
    cases d'
   ·rw [e2] at e
    cases e
    have d':Data.seq vs.toArray _=Data.dict es ep:=d
    cases d'
 generalize gz K s₁.heap A=H at hO hok hS hK noA
 have base_of:∀ {b:Addr} {o:Obj},s₁.heap.get? b=some o->H b=none->(ow s₁.heap H).get? b=some o:=fun e n=>u1 e n
 have nsK:∀ {b:Addr} {m:Str->Option Value},s₁.heap.Ns b m->(ow s₁.heap H).Ns b m:=fun {b m} ⟨o,es,ep,e,d,r⟩=>⟨o,es,ep,base_of e (noA e d),d,r⟩
 have nK:∀ b o,K.lookup b=some o->H b=none:=fun b o e=>by
  cases q:H b with
  | none=>rfl
  | some u=>
   rw [hK b u q] at e
   cases e
 have hKb:K.In (ow s₁.heap H):=fun b o e=>base_of (KX b o e) (nK b o e)
 have hM:Mod K mg (ow s₁.heap H):=⟨hKb,nsK hns,⟨mb,nsK hb,hbb⟩,let ⟨mc,h1,h2⟩:=hlim;⟨mc,nsK h1,h2⟩⟩
 have e0:lW P w K mg (ow s₁.heap H) callerA [] s₁ H:=⟨rfl,hM,fun b o e=>ya e,Nat.le_of_eq (tW _ _),trivial,fun b hb=>absurd (show b∈([]:List Addr) from hb) (by simp),hok,.of_eq hg⟩
 have hl:vals.length=ps.length:=by rw [fE hwl];exact hlen
 refine codeAny_mono ((F _ hKb (nsK hns)).run callerA [] s₁ H ⟨vals,[]⟩ vals (vals.map toV) _ _ hr e0 (hbind s₁ vals hl) hV (hsp H _ hO hS)) fun r s' x=>?_
 cases r with
 | error e=>exact (hCX H e s' x).elim
 | ok fl=>
  cases fl with
  | next=>exact False.elim x
  | brk=>exact False.elim x
  | cont=>exact False.elim x
  | ret u=>
   obtain ⟨v,H',os,bare,un,hok',r',q⟩:=x
   have kept:∀ b o,s₁.heap.get? b=some o->s'.heap.get? b=some o:=fun b o e=>by
    cases q2:H b with
    | none=>exact un.keep b o e q2 (by intro z;exact absurd (show b∈([]:List Addr) from z) (by simp)) (by simp)
    | some u2=>
     rcases hO b with z | ⟨ob,u3,z⟩
     ·rw [q2] at z
      cases z
     ·have z2:=un.frzs b ob _ z
      obtain ⟨e1,_⟩:=hok b _ z
      obtain ⟨e2,_⟩:=hok' b _ z2
      rw [e] at e1
      cases e1
      exact e2
   have KX':K.In s'.heap:=fun b o e=>kept b o (KX b o e)
   obtain ⟨as,hrd⟩:=Dw.reads (R:=R) (cl:=cl) hok' KX' d0 v u q r'
   exact ⟨u,as,rfl,hrd,OldK.of_keep kept,os,bare⟩
theorem k0 {ds:List WData} (h:WData.layableAll ds=true):∀ d∈ds,d.weight<=1048576:=fun d hd=>
 (PySem.W.layableW_iff.mp (List.all_eq_true.mp h d hd)).2.2
theorem lg:∀ (cs:List Codec) (a:Codec.denoteAll cs),(Codec.encAll cs a).length=cs.length
 | [],_=>rfl
 | c::cs,a=>by
  show (Codec.encAll cs a.2).length+1=cs.length+1
  rw [lg cs a.2]
theorem ub {r:OpenSpec} {k:Nat} {q:Program} {loose:List Str} {XP:(Str->Option Value)->Heap->Prop} {YP:World->Heap->Prop} {d:DefRec} {K:Params->PySem.W.Frag} {CX:World->CXT} {ps:List Str} {sp:World->Sp}
  (hwell:r.wellSaid=true) (hdf:d.params.defaults=[]) (hlen:r.args.length=ps.length) (hr:bP k callerA)
  (hY:∀ (w:World) (h:Heap),YP w h->(K w.params).In h)
  (F:∀ (w:World) (mg:Str->Option Value) (fa:Addr) (h:Heap),YP w h->(K w.params).In h->h.Ns mainGlobals mg->mg d.name=some (.ref fa)->
   ∃ fd:FuncData,(∀ (s:Shared) (us:List Value),us.length=ps.length->BindsTo s fd ⟨us,[]⟩ (ps.zip us))/\
    ∀ base:Heap,(K w.params).In base->base.Ns mainGlobals mg->az r.prog w (K w.params) mg base (CX w) k fa fd ps (sp w))
  (hsp:∀ (w:World) (H:Hp) (xs:List V) (a:Codec.denoteAll r.args),oQ H->Codec.withinAll r.args a=true->Codec.app r.args r.asked a=true->gH (K w.params) H xs (Codec.encAll r.args a)->
   sp w xs H (fun v H'=>Dw (K w.params) H' v (r.ret.enc (Codec.app r.args r.f a))) fun _ _ _=>False)
  (hCX:∀ (w:World) (H:Hp) (s:Shared) (e:Value) (s':Shared),CX w [] H s (fun _ _ _=>False) e s'->False) :
  PySem.W.WalkOS q loose XP YP r d [] (fun f vs=>PySem.call f vs):=by
 intro w s_0 s₁ mg mb G Y fa o pm cd doc dV kV ho hd hcd hD hmg hg args vals as hpre hlay hrd hwl hlo
 obtain ⟨a,e1,e2⟩:=PySem.W.os_pre_some hpre
 obtain ⟨e3,hwi⟩:=Codec.encAll_of_decAll r.args args a e1
 subst e3
 have KX:=hY w _ Y
 obtain ⟨fd,hb,hF⟩:=F w mg fa _ Y KX G.T.g hmg
 refine PySem.W.enter_call (codeAny_mono (tY (R:=[]) (cl:=classAt s_0.heap) (d0:=r.ret.enc (Codec.app r.args r.f a)) KX G.T.g G.T.b G.T.builtins G.T.nolimit hg hwl (l8 _ _) (k0 hlay) hr hF hb (by rw [lg];exact hlen)
  (fun H xs hO hS=>hsp w H xs a hO hwi e2 hS) fun H e s'=>hCX w H s₁ e s') fun r' s' hq=>?_)
 obtain ⟨u,as',rfl,h1,h2,h3,h4⟩:=hq
 exact ⟨.inl ⟨u,_,as',rfl,fun _=>rfl,h1,(OpenSpec.post_iff hwell hwi _ _).mpr rfl,fun z=>Bool.noConfusion (show false=true from z)⟩,h2,h3,h4⟩
theorem walk_specK {r:OpenSpec} {k:Nat} {q:Program} {loose:List Str} {XP:(Str->Option Value)->Heap->Prop} {YP:World->Heap->Prop} {d:DefRec} {K:Params->PySem.W.Frag} {CX:CXT} {ps:List Str} {sp:PySem.W.Frag->Sp}
  (hwell:r.wellSaid=true) (hdf:d.params.defaults=[]) (hlen:r.args.length=ps.length) (hr:bP k callerA)
  (hY:∀ (w:World) (h:Heap),YP w h->(K w.params).In h)
  (F:∀ (w:World) (mg:Str->Option Value) (fa:Addr) (h:Heap),YP w h->(K w.params).In h->h.Ns mainGlobals mg->mg d.name=some (.ref fa)->
   ∃ fd:FuncData,(∀ (s:Shared) (us:List Value),us.length=ps.length->BindsTo s fd ⟨us,[]⟩ (ps.zip us))/\
    ∀ base:Heap,(K w.params).In base->base.Ns mainGlobals mg->az r.prog w (K w.params) mg base CX k fa fd ps (sp (K w.params)))
  (hsp:∀ (K:PySem.W.Frag) (H:Hp) (xs:List V) (a:Codec.denoteAll r.args),oQ H->Codec.withinAll r.args a=true->Codec.app r.args r.asked a=true->gH K H xs (Codec.encAll r.args a)->
   sp K xs H (fun v H'=>Dw K H' v (r.ret.enc (Codec.app r.args r.f a))) fun _ _ _=>False)
  (hCX:∀ (H:Hp) (s:Shared) (e:Value) (s':Shared),CX [] H s (fun _ _ _=>False) e s'->False) :
  PySem.W.WalkOS q loose XP YP r d [] (fun f vs=>PySem.call f vs):=
 ub (K:=K) (CX:=fun _=>CX) (sp:=fun w=>sp (K w.params)) hwell hdf hlen hr hY F (fun w H xs a h1 h2 h3 h4=>hsp (K w.params) H xs a h1 h2 h3 h4) fun _ H s e s'=>hCX H s e s'
end L2
end
namespace NH
open Vbslag
def bg (ds:Doings) (g:Nat):Nat:=(ds.getD g []).length
def qB:What->Prop
 | .put a b _=>a < b
 | .move _ a b=>a < b
 | _=>True
structure sf (n:Nat) (ds:Doings) (c k:Nat) (d:Doing):Prop where
 klen:d.knew.length=n
 own:d.knew.getD c 0=k
 le:∀ g,d.knew.getD g 0<=bg ds g
 back:∀ j,d.what = .back j->j < k
 time:∀ j e,j < k->doingAt ds ⟨c,j⟩=some e->e.time < d.time
 mono:∀ j e,j < k->doingAt ds ⟨c,j⟩=some e->∀ g,e.knew.getD g 0<=d.knew.getD g 0
 span:qB d.what
structure fB (n:Nat) (ds:Doings):Prop where
 len:ds.length=n
 ok:∀ c k d,doingAt ds ⟨c,k⟩=some d->sf n ds c k d
def Ex (ds:Doings) (m:Name):Prop:=m.k < bg ds m.by_
structure cW (n:Nat) (ds:Doings) (c:Nat) (x:Copy):Prop where
 klen:x.known.length=n
 le:∀ g,x.known.getD g 0<=bg ds g
 own:x.known.getD c 0=bg ds c
 nd:x.pool.Nodup
 ex:∀ m,m∈x.pool->Ex ds m
 past:∀ k d,doingAt ds ⟨c,k⟩=some d->∀ g,d.knew.getD g 0<=x.known.getD g 0
structure Inv (h:House):Prop where
 hands:h.hands<=5
 length:h.length<=1000
 ds:fB h.hands h.doings
 clen:h.copies.length=h.hands
 cp:∀ c x,h.copies[c]?=some x->cW h.hands h.doings c x
 tot:totalOf h<=120
 bagl:h.bag.length<=60
 bag:∀ m,m∈h.bag->m.to < h.hands/\Ex h.doings m.name
theorem cG {α:Type} (l:List α) (i j:Nat) (a d:α):(l.set i a).getD j d=if i=j/\i < l.length then a else l.getD j d:=by
 simp only [List.getD_eq_getElem?_getD,List.getElem?_set]
 by_cases h:i=j
 ·subst h
  by_cases h2:i < l.length
  ·simp [h2]
  ·simp [h2]
 ·simp [h]
theorem getD_none {α:Type} {l:List α} {i:Nat} (d:α) (h:l.length<=i):l.getD i d=d:=by
 simp [List.getD_eq_getElem?_getD,List.getElem?_eq_none h]
theorem fH {n:Nat} {ds:Doings} (h:ds.length=n) {g k:Nat} (hk:k < bg ds g):g < n:=by
 unfold bg at hk
 by_cases hg:g < n
 ·exact hg
 ·rw [getD_none [] (by omega)] at hk
  simp at hk
theorem kE {ds:Doings} {m:Name} (h:Ex ds m):∃ d,doingAt ds m=some d:=
 ⟨_,List.getElem?_eq_getElem h⟩
structure wp (ds es:Doings):Prop where
 len:ds.length=es.length
 at_:∀ c k d,doingAt ds ⟨c,k⟩=some d->doingAt es ⟨c,k⟩=some d
 le:∀ g,bg ds g<=bg es g
def iE (ds:Doings) (c:Nat) (d:Doing):Doings:=ds.set c (ds.getD c []++[d])
theorem nA {ds:Doings} {c:Nat} (hc:c < ds.length) (d:Doing) (g:Nat):(iE ds c d).getD g []=if c=g then ds.getD c []++[d] else ds.getD g []:=by
 unfold iE
 rw [cG]
 by_cases h:c=g
 ·simp [h,h ▸ hc]
 ·simp [h]
theorem ij {ds:Doings} {c:Nat} (hc:c < ds.length) (d:Doing) (g:Nat):bg (iE ds c d) g=if c=g then bg ds c+1 else bg ds g:=by
 unfold bg
 rw [nA hc]
 split <;> simp
theorem fG {ds:Doings} {c:Nat} (hc:c < ds.length) (d:Doing) (g k:Nat) (e:Doing) :
  doingAt (iE ds c d) ⟨g,k⟩=some e↔doingAt ds ⟨g,k⟩=some e\/(g=c/\k=bg ds c/\e=d):=by
 show ((iE ds c d).getD g [])[k]?=some e↔(ds.getD g [])[k]?=some e\/_
 rw [nA hc]
 by_cases h:c=g
 ·subst h
  rw [if_pos rfl,List.getElem?_append]
  unfold bg
  by_cases hk:k < (ds.getD c []).length
  ·rw [if_pos hk]
   constructor
   ·exact Or.inl
   ·rintro (h | ⟨_,h,_⟩)
    ·exact h
    ·omega
  ·rw [if_neg hk]
   constructor
   ·intro h
    by_cases hk2:k - (ds.getD c []).length=0
    ·rw [hk2] at h
     simp at h
     exact Or.inr ⟨rfl,by omega,h.symm⟩
    ·rw [List.getElem?_eq_none (by rw [List.length_singleton];omega)] at h
     cases h
   ·rintro (h | ⟨_,h,h2⟩)
    ·rw [List.getElem?_eq_none (by omega)] at h
     cases h
    ·subst h2
     rw [h]
     simp
 ·rw [if_neg h]
  constructor
  ·exact Or.inl
  ·rintro (h2 | ⟨h2,_⟩)
   ·exact h2
   ·exact absurd h2.symm h
theorem rf {ds:Doings} {c:Nat} (hc:c < ds.length) (d:Doing):wp ds (iE ds c d):=by
 refine ⟨by simp [iE],fun g k e h=>(fG hc d g k e).mpr (Or.inl h),fun g=>?_⟩
 rw [ij hc]
 split
 ·rename_i h;subst h;omega
 ·omega
theorem eM {α:Type} (f:α->Nat):∀ (l:List α) (a:Nat),a<=l.foldl (fun n d=>max n (f d)) a/\∀ x,x∈l->f x<=l.foldl (fun n d=>max n (f d)) a
 | [],a=>⟨Nat.le_refl _,fun _ h=>by cases h⟩
 | x::l,a=>by
  have ih:=eM f l (max a (f x))
  refine ⟨by simp only [List.foldl_cons];omega,fun y hy=>?_⟩
  simp only [List.foldl_cons]
  rcases List.mem_cons.mp hy with h | h
  ·subst h;omega
  ·exact ih.2 y h
theorem eK {α:Type} (f:α->Nat) (M:Nat):∀ (l:List α) (a:Nat),a<=M->(∀ x,x∈l->f x<=M)->l.foldl (fun n d=>max n (f d)) a<=M
 | [],a,h,_=>h
 | x::l,a,h,g=>by
  simp only [List.foldl_cons]
  exact eK f M l _ (by have:=g x (List.mem_cons_self ..);omega) (fun y hy=>g y (List.mem_cons_of_mem _ hy))
theorem gl {ds:Doings} {v:Known} {m:Name} {d:Doing}:(m,d)∈all ds v↔doingAt ds m=some d/\m.k < v.getD m.by_ 0:=by
 unfold all
 simp only [List.mem_flatMap,List.mem_map]
 constructor
 ·rintro ⟨⟨l,c⟩,h1,⟨e,k⟩,h2,h3⟩
  simp only [Prod.mk.injEq] at h3
  obtain ⟨rfl,rfl⟩:=h3
  have h1':=List.mem_zipIdx h1
  have h2':=List.mem_zipIdx h2
  simp only at h1' h2'
  have a1:ds[c]?=some l:=by
   obtain ⟨_,x2,x3⟩:=h1'
   rw [List.getElem?_eq_getElem (by omega)]
   simp at x3
   simp [x3]
  have a2:(l.take (v.getD c 0))[k]?=some e:=by
   obtain ⟨_,x2,x3⟩:=h2'
   rw [List.getElem?_eq_getElem (by omega)]
   simp at x3
   simp [x3]
  rw [List.getElem?_take] at a2
  split at a2
  ·rename_i hk
   refine ⟨?_,hk⟩
   show (ds.getD c [])[k]?=some e
   rw [List.getD_eq_getElem?_getD,a1]
   exact a2
  ·cases a2
 ·rintro ⟨h1,h2⟩
  obtain ⟨c,k⟩:=m
  have h1:(ds.getD c [])[k]?=some d:=h1
  rw [List.getD_eq_getElem?_getD] at h1
  cases e:ds[c]? with
  | none=>rw [e] at h1;simp at h1
  | some l=>
   rw [e] at h1
   refine ⟨(l,c),?_,(d,k),?_,rfl⟩
   ·rw [List.mem_zipIdx_iff_getElem?];exact e
   ·rw [List.mem_zipIdx_iff_getElem?]
    show (l.take (v.getD c 0))[k]?=some d
    rw [List.getElem?_take,if_pos h2]
    exact h1
theorem mZ {ds:Doings} {v:Known} {m:Name} {d:Doing} (h:doingAt ds m=some d) (hk:m.k < v.getD m.by_ 0):d.time<=timeOf ds v:=
 (eM (fun (d:Name×Doing)=>d.2.time) (all ds v) 0).2 (m,d) (gl.mpr ⟨h,hk⟩)
theorem fv (ds:Doings):(ds.map fun l=>l.length).foldl (fun a b=>a+b) 0=(ds.map List.length).sum:=by
 have:∀ (l:List Nat) (a:Nat),l.foldl (fun a b=>a+b) a=a+l.sum:=by
  intro l
  induction l with
  | nil=>intro a;simp
  | cons x l ih=>intro a;simp only [List.foldl_cons,List.sum_cons];rw [ih];omega
 rw [this];simp
theorem pY:∀ {ds:Doings} {c:Nat} (_:c < ds.length) (d:Doing),((iE ds c d).map List.length).sum=(ds.map List.length).sum+1
 | [],c,h,d=>by simp at h
 | l::ds,0,h,d=>by simp [iE];omega
 | l::ds,c+1,h,d=>by
  have ih:=pY (ds:=ds) (c:=c) (by simpa using h) d
  simp only [iE,List.set_cons_succ,List.map_cons,List.sum_cons] at ih ⊢
  simp only [List.getD_cons_succ]
  omega
theorem wp.ex {ds es:Doings} (g:wp ds es) {m:Name} (h:Ex ds m):Ex es m:=Nat.lt_of_lt_of_le h (g.le _)
theorem cO {h:House} (I:Inv h) {c:Nat} (hc:c < h.hands):h.copies[c]?=some (copyAt h c):=by
 have hl:c < h.copies.length:=by rw [I.clen];exact hc
 unfold copyAt
 rw [List.getElem?_eq_getElem hl,List.getD_eq_getElem?_getD,List.getElem?_eq_getElem hl]
 rfl
theorem Inv.copy {h:House} (I:Inv h) {c:Nat} (hc:c < h.hands):cW h.hands h.doings c (copyAt h c):=I.cp c _ (cO I hc)
theorem sO (h:House) (c:Nat) (w:What):does h c w={ h with doings:=iE h.doings c { what:=w,knew:=(copyAt h c).known,time:=timeOf h.doings (copyAt h c).known+1 },copies:=h.copies.set c { copyAt h c with known:=(copyAt h c).known.set c ((copyAt h c).known.getD c 0+1) } }:=rfl
theorem wO {h:House} (I:Inv h) {c:Nat} (hc:c < h.hands) {w:What} (hw:∀ j,w = .back j->j < bg h.doings c) (hs:qB w) (ht:totalOf h < 120):Inv (does h c w):=by
 have C:=I.copy hc
 have hcd:c < h.doings.length:=by rw [I.ds.len];exact hc
 rw [sO]
 generalize hd:({ what:=w,knew:=(copyAt h c).known,time:=timeOf h.doings (copyAt h c).known+1 }:Doing)=d
 have G:=rf hcd d
 refine ⟨I.hands,I.length,⟨by rw [<- G.len];exact I.ds.len,fun g k e he=>?_⟩,by simp [I.clen],fun g x hx=>?_,?_,I.bagl,fun m hm=>⟨(I.bag m hm).1,G.ex (I.bag m hm).2⟩⟩
 ·show sf h.hands _ g k e
  rcases (fG hcd d g k e).mp he with h1 | ⟨rfl,rfl,rfl⟩
  ·have D:=I.ds.ok g k e h1
   have hk:k < bg h.doings g:=(List.getElem?_eq_some_iff.mp (show (h.doings.getD g [])[k]?=some e from h1)).1
   refine ⟨D.klen,D.own,fun i=>Nat.le_trans (D.le i) (G.le i),D.back,fun j f hj hf=>?_,fun j f hj hf=>?_,D.span⟩
   ·rcases (fG hcd d g j f).mp hf with h2 | ⟨rfl,rfl,rfl⟩
    ·exact D.time j f hj h2
    ·omega
   ·rcases (fG hcd d g j f).mp hf with h2 | ⟨rfl,rfl,rfl⟩
    ·exact D.mono j f hj h2
    ·omega
  ·subst hd
   refine ⟨C.klen,C.own,fun i=>Nat.le_trans (C.le i) (G.le i),hw,fun j f hj hf=>?_,fun j f hj hf=>?_,hs⟩
   ·rcases (fG hcd _ g j f).mp hf with h2 | ⟨_,h3,_⟩
    ·exact Nat.lt_succ_of_le (mZ h2 (by show j < _;rw [C.own];exact hj))
    ·omega
   ·rcases (fG hcd _ g j f).mp hf with h2 | ⟨_,h3,_⟩
    ·exact C.past j f h2
    ·omega
 ·show cW h.hands _ g x
  have hx:(h.copies.set c { copyAt h c with known:=(copyAt h c).known.set c ((copyAt h c).known.getD c 0+1) })[g]?=some x:=hx
  rw [List.getElem?_set] at hx
  by_cases hg:c=g
  ·subst hg
   have:c < h.copies.length:=by rw [I.clen];exact hc
   simp only [this,if_true] at hx
   cases hx
   have hset:∀ i,(copyAt h c).known.getD i 0<=((copyAt h c).known.set c ((copyAt h c).known.getD c 0+1)).getD i 0:=fun i=>by
    rw [cG]
    split
    ·rename_i q;rw [<- q.1];omega
    ·exact Nat.le_refl _
   refine ⟨by simp [C.klen],fun i=>?_,?_,C.nd,fun m hm=>G.ex (C.ex m hm),fun k e he i=>?_⟩
   ·show ((copyAt h c).known.set c _).getD i 0<=_
    rw [cG,ij hcd]
    split
    ·rename_i q
     rw [if_pos q.1,C.own]
     exact Nat.le_refl _
    ·rename_i q
     split
     ·rename_i q2
      exact absurd ⟨q2,by rw [C.klen];exact hc⟩ q
     ·exact C.le i
   ·show ((copyAt h c).known.set c _).getD c 0=_
    rw [cG,ij hcd,if_pos ⟨rfl,by rw [C.klen];exact hc⟩,if_pos rfl,C.own]
   ·refine Nat.le_trans ?_ (hset i)
    rcases (fG hcd d c k e).mp he with h2 | ⟨_,_,rfl⟩
    ·exact C.past k e h2 i
    ·subst hd
     exact Nat.le_refl _
  ·rw [if_neg hg] at hx
   have K:=I.cp g x hx
   refine ⟨K.klen,fun i=>Nat.le_trans (K.le i) (G.le i),?_,K.nd,fun m hm=>G.ex (K.ex m hm),fun k e he i=>?_⟩
   ·rw [ij hcd,if_neg hg]
    exact K.own
   ·rcases (fG hcd d g k e).mp he with h2 | ⟨h3,_,_⟩
    ·exact K.past k e h2 i
    ·exact absurd h3.symm hg
 ·show ((iE h.doings c d).map fun l=>l.length).foldl (fun a b=>a+b) 0<=120
  have ht:(h.doings.map fun l=>l.length).foldl (fun a b=>a+b) 0 < 120:=ht
  rw [fv] at ht ⊢
  rw [pY hcd]
  omega
theorem vj {ds:Doings} {v:Known} {m:Name} (h:ready ds v m=true):m.k=v.getD m.by_ 0:=by
 unfold ready at h
 simp only [Bool.and_eq_true,beq_iff_eq] at h
 exact h.1
theorem lD {n:Nat} {ds:Doings} {c:Nat} {x:Copy} (hds:ds.length=n) (C:cW n ds c x) {m:Name} (hm:m∈x.pool) (hr:ready ds x.known m=true):cW n ds c (takeOne x m):=by
 have e:=vj hr
 have hx:=C.ex m hm
 have hb:m.by_ < n:=fH hds hx
 refine ⟨by simp [takeOne,C.klen],fun g=>?_,?_,?_,fun y hy=>?_,fun k d hd g=>Nat.le_trans (C.past k d hd g) ?_⟩
 ·show (x.known.set m.by_ _).getD g 0<=_
  rw [cG]
  split
  ·rename_i q
   rw [<- q.1,<- e]
   exact hx
  ·exact C.le g
 ·show (x.known.set m.by_ _).getD c 0=_
  rw [cG]
  split
  ·rename_i q
   have hx:m.k < bg ds m.by_:=hx
   rw [e,q.1,C.own] at hx
   omega
  ·exact C.own
 ·exact C.nd.filter _
 ·exact C.ex y (List.mem_filter.mp hy).1
 ·show _<=(x.known.set m.by_ _).getD g 0
  rw [cG]
  split
  ·rename_i q;rw [<- q.1];omega
  ·exact Nat.le_refl _
theorem lJ {n:Nat} {ds:Doings} {c:Nat} (hds:ds.length=n):∀ (f:Nat) {x:Copy},cW n ds c x->cW n ds c (takeAll ds f x)
 | 0,_,C=>C
 | f+1,x,C=>by
  unfold takeAll
  cases e:x.pool.find? (ready ds x.known) with
  | none=>exact C
  | some m=>
   exact lJ hds f (lD hds C (List.mem_of_find?_eq_some e) (List.find?_some e))
theorem o9 {n:Nat} {ds:Doings} {c:Nat} (hds:ds.length=n) {x:Copy} (C:cW n ds c x) {m:Name} (hm:Ex ds m):cW n ds c (comes ds x m):=by
 unfold comes
 split
 ·exact C
 ·rename_i q
  refine lJ hds _ ⟨C.klen,C.le,C.own,?_,fun y hy=>?_,C.past⟩
  ·refine List.nodup_append.mpr ⟨C.nd,by simp,fun a ha b hb=>?_⟩
   rw [List.mem_singleton] at hb
   subst hb
   intro z
   subst z
   exact q (Or.inr (by simpa using ha))
  ·rcases List.mem_append.mp hy with h | h
   ·exact C.ex y h
   ·rw [List.mem_singleton] at h
    subst h
    exact hm
theorem qP {ds:Doings} {v:Known} {g:Nat} {m:Name} (h:m∈lacking ds v g):Ex ds m:=by
 unfold lacking at h
 obtain ⟨⟨a,d⟩,h1,h2⟩:=List.mem_filterMap.mp h
 split at h2
 ·cases h2
 ·cases h2
  have:=(gl.mp h1).1
  exact (List.getElem?_eq_some_iff.mp (show (ds.getD a.by_ [])[a.k]?=some d from this)).1
theorem jM:Inv start:=by
 refine ⟨by decide,by decide,⟨rfl,fun c k d h=>?_⟩,rfl,fun c x h=>?_,by decide,by decide,fun m h=>by cases h⟩
 ·have h:(([]:Doings).getD c [])[k]?=some d:=h
  simp at h
 ·have h:([]:List Copy)[c]?=some x:=h
  simp at h
theorem ci {α:Type} (n i:Nat) (a:α):(List.replicate n a).getD i a=a:=by
 rw [List.getD_eq_getElem?_getD,List.getElem?_replicate]
 split <;> rfl
theorem yg {n len:Nat} (hn:n<=5) (hl:len<=1000):Inv { hands:=n,length:=len,doings:=List.replicate n [],copies:=List.replicate n { known:=List.replicate n 0 } }:=by
 have e0:∀ g,bg (List.replicate n []) g=0:=fun g=>by unfold bg;rw [ci];rfl
 refine ⟨hn,hl,⟨by simp,fun c k d h=>?_⟩,by simp,fun c x h=>?_,?_,by simp,fun m h=>by cases h⟩
 ·have h:((List.replicate n []).getD c [])[k]?=some d:=h
  rw [ci] at h
  cases h
 ·have h:(List.replicate n ({ known:=List.replicate n 0 }:Copy))[c]?=some x:=h
  rw [List.getElem?_replicate] at h
  split at h
  ·cases h
   refine ⟨by simp,fun g=>?_,?_,by simp,fun m hm=>(by cases hm),fun k d hd=>?_⟩
   ·show (List.replicate n 0).getD g 0<=_
    rw [ci]
    omega
   ·show (List.replicate n 0).getD c 0=bg (List.replicate n []) c
    rw [ci,e0]
   ·have hd:((List.replicate n []).getD c [])[k]?=some d:=hd
    rw [ci] at hd
    cases hd
  ·cases h
 ·show ((List.replicate n ([]:List Doing)).map fun l=>l.length).foldl (fun a b=>a+b) 0<=120
  rw [fv]
  simp
theorem bv {x lo hi:Int}:within x lo hi=true↔lo<=x/\x<=hi:=by
 unfold within;simp
theorem aM {h:House} {c:Int} (hc:isHand h c=true):0<=c/\c.toNat < h.hands:=by
 have:=bv.mp hc
 omega
theorem c7 {h:House} (I:Inv h) {c:Int} (hc:isHand h c=true) {w:What} (hw:∀ j,w = .back j->j < bg h.doings c.toNat) (hs:qB w):Inv (doneBy h c w).1:=by
 unfold doneBy
 split
 ·exact I
 ·rename_i q
  have hD:DOINGS=120:=rfl
  exact wO I (aM hc).2 hw hs (by omega)
theorem i8 {h:House} (I:Inv h) {b:List Message} (hb:b.length<=60) (hm:∀ m,m∈b->m.to < h.hands/\Ex h.doings m.name):Inv { h with bag:=b }:=
 ⟨I.hands,I.length,I.ds,I.clen,I.cp,I.tot,hb,hm⟩
theorem d7 {h:House} (I:Inv h) {c:Nat} {x:Copy} (C:cW h.hands h.doings c x):Inv (setCopy h c x):=by
 refine ⟨I.hands,I.length,I.ds,by simp [setCopy,I.clen],fun g y hy=>?_,I.tot,I.bagl,I.bag⟩
 have hy:(h.copies.set c x)[g]?=some y:=hy
 rw [List.getElem?_set] at hy
 split at hy
 ·rename_i q
  split at hy
  ·cases hy
   subst q
   exact C
  ·cases hy
 ·exact I.cp g y hy
theorem nB {h:House} {a b:Int} (hs:isSpan h a b=true):a.toNat < b.toNat:=by
 obtain ⟨h1,h2⟩:=Bool.and_eq_true_iff.mp hs
 have:=bv.mp h1
 have:=bv.mp h2
 omega
theorem iM {h:House} {i:Int} (hi:isPlace h i=true):0<=i/\i.toNat < h.bag.length:=by
 have:=bv.mp hi
 omega
theorem vA {h:House} (I:Inv h) (c:Call):Inv (step h c).1:=by
 have on:∀ f:House->House×Ans,(Inv (f h).1)->Inv (onHands h f).1:=by
  intro f hf
  unfold onHands
  split
  ·exact I
  ·exact hf
 cases c with
 | hands n len=>
  simp only [step]
  split
  ·exact I
  ·rename_i q
   have q:=Bool.and_eq_true_iff.mp (eq_true_of_ne_false q)
   have a:=bv.mp q.1
   have b:=bv.mp q.2
   have e5:HANDS=5:=rfl
   have e6:LENGTH=1000:=rfl
   exact yg (by omega) (by omega)
 | put c a b x=>
  simp only [step]
  refine on _ ?_
  split
  ·exact I
  ·rename_i q
   have q:=Bool.and_eq_true_iff.mp (eq_true_of_ne_false q)
   exact c7 I q.1 (fun j e=>by cases e) (nB (Bool.and_eq_true_iff.mp q.2).1)
 | move c m k a b=>
  simp only [step]
  refine on _ ?_
  split
  ·exact I
  ·rename_i q
   have q:=Bool.and_eq_true_iff.mp (eq_true_of_ne_false q)
   split
   ·exact I
   ·exact c7 I q.1 (fun j e=>by cases e) (nB (Bool.and_eq_true_iff.mp q.2).2)
 | label c m k x=>
  simp only [step]
  refine on _ ?_
  split
  ·exact I
  ·rename_i q
   have q:=Bool.and_eq_true_iff.mp (eq_true_of_ne_false q)
   split
   ·exact I
   ·exact c7 I q.1 (fun j e=>by cases e) trivial
 | drop c m k=>
  simp only [step]
  refine on _ ?_
  split
  ·exact I
  ·rename_i q
   have q:=Bool.and_eq_true_iff.mp (eq_true_of_ne_false q)
   split
   ·exact I
   ·exact c7 I q.1 (fun j e=>by cases e) trivial
 | back c k=>
  simp only [step]
  refine on _ ?_
  split
  ·exact I
  ·rename_i q
   have q:=Bool.and_eq_true_iff.mp (eq_true_of_ne_false q)
   split
   ·exact I
   ·rename_i d hd
    split
    ·exact I
    ·split
     ·exact I
     ·refine c7 I q.1 (fun j e=>?_) trivial
      cases e
      exact (List.getElem?_eq_some_iff.mp hd).1
 | sign c=>
  simp only [step]
  refine on _ ?_
  split
  ·exact I
  ·rename_i q
   exact c7 I (eq_true_of_ne_false q) (fun j e=>by cases e) trivial
 | hello c=>
  simp only [step]
  refine on _ ?_
  split
  ·exact I
  ·rename_i q
   exact c7 I (eq_true_of_ne_false q) (fun j e=>by cases e) trivial
 | send c g=>
  simp only [step]
  refine on _ ?_
  split
  ·exact I
  ·rename_i q
   have q:=Bool.and_eq_true_iff.mp (eq_true_of_ne_false q)
   have q2:=Bool.and_eq_true_iff.mp q.2
   split
   ·exact I
   ·rename_i r
    refine i8 I ?_ (fun m hm=>?_)
    ·have:BAG=60:=rfl
     rw [List.length_append,List.length_map]
     omega
    ·rcases List.mem_append.mp hm with hm | hm
     ·exact I.bag m hm
     ·obtain ⟨n,hn,rfl⟩:=List.mem_map.mp hm
      exact ⟨(aM q2.1).2,qP hn⟩
 | deliver i=>
  simp only [step]
  refine on _ ?_
  split
  ·exact I
  ·split
   ·exact I
   ·rename_i q _ m hm
    have M:=I.bag m (List.mem_of_getElem? hm)
    have J:=d7 I (o9 I.ds.len (I.copy M.1) M.2)
    exact i8 J (Nat.le_trans (List.length_eraseIdx_le ..) J.bagl) (fun y hy=>J.bag y (List.mem_of_mem_eraseIdx hy))
 | lose i=>
  simp only [step]
  refine on _ ?_
  split
  ·exact I
  ·exact i8 I (Nat.le_trans (List.length_eraseIdx_le ..) I.bagl) (fun y hy=>I.bag y (List.mem_of_mem_eraseIdx hy))
 | double i=>
  simp only [step]
  refine on _ ?_
  split
  ·exact I
  ·split
   ·exact I
   ·rename_i r
    split
    ·exact I
    ·rename_i m hm
     refine i8 I ?_ (fun y hy=>?_)
     ·have:BAG=60:=rfl
      rw [List.length_append,List.length_singleton]
      omega
     ·rcases List.mem_append.mp hy with hy | hy
      ·exact I.bag y hy
      ·rw [List.mem_singleton] at hy
       subst hy
       exact I.bag _ (List.mem_of_getElem? hm)
 | view c=>simp only [step];refine on _ ?_;split <;> exact I
 | known c=>simp only [step];refine on _ ?_;split <;> exact I
 | stable c=>simp only [step];refine on _ ?_;split <;> exact I
 | signs c=>simp only [step];refine on _ ?_;split <;> exact I
 | signed c m k=>
  simp only [step];refine on _ ?_
  split
  ·exact I
  ·split <;> exact I
 | at_ c v=>
  simp only [step];refine on _ ?_
  split
  ·exact I
  ·split
   ·exact I
   ·split <;> exact I
 | mark c m k=>
  simp only [step];refine on _ ?_
  split
  ·exact I
  ·split <;> exact I
 | overlaps c=>simp only [step];refine on _ ?_;split <;> exact I
 | doing c m k=>
  simp only [step];refine on _ ?_
  split
  ·exact I
  ·split
   ·exact I
   ·split <;> exact I
 | differ c g=>simp only [step];refine on _ ?_;split <;> exact I
 | bag=>simp only [step];refine on _ ?_;exact I
 | counts=>simp only [step];refine on _ ?_;exact I
theorem dA (l:List Doing) (f k:Nat):takenBack l (f+1) k=true↔∃ n d,k < n/\l[n]?=some d/\d.what = .back k/\takenBack l f n=false:=by
 show ((l.zipIdx).any fun x=>decide (k < x.2) && (x.1.what == .back k && !(takenBack l f x.2)))=true↔_
 rw [List.any_eq_true]
 constructor
 ·rintro ⟨⟨d,n⟩,h1,h2⟩
  simp only [Bool.and_eq_true,decide_eq_true_eq,beq_iff_eq,Bool.not_eq_true'] at h2
  exact ⟨n,d,h2.1,List.mem_zipIdx_iff_getElem?.mp h1,h2.2.1,h2.2.2⟩
 ·rintro ⟨n,d,h1,h2,h3,h4⟩
  refine ⟨(d,n),List.mem_zipIdx_iff_getElem?.mpr h2,?_⟩
  simp [h1,h3,h4]
theorem cQ (l:List Doing):∀ (m f g k:Nat),l.length - k<=m->l.length - k<=f->l.length - k<=g->takenBack l f k=takenBack l g k
 | 0,f,g,k,hm,hf,hg=>by
  have no:∀ f,takenBack l f k=false:=by
   intro f
   cases f with
   | zero=>rfl
   | succ f=>
    cases e:takenBack l (f+1) k with
    | false=>rfl
    | true=>
     obtain ⟨n,d,h1,h2,_⟩:=(dA l f k).mp e
     have:=(List.getElem?_eq_some_iff.mp h2).1
     omega
  rw [no f,no g]
 | m+1,f,g,k,hm,hf,hg=>by
  by_cases hk:l.length - k=0
  ·exact cQ l 0 f g k (by omega) (by omega) (by omega)
  ·obtain ⟨f',rfl⟩:∃ f',f=f'+1:=⟨f - 1,by omega⟩
   obtain ⟨g',rfl⟩:∃ g',g=g'+1:=⟨g - 1,by omega⟩
   rw [Bool.eq_iff_iff,dA,dA]
   constructor
   ·rintro ⟨n,d,h1,h2,h3,h4⟩
    exact ⟨n,d,h1,h2,h3,by rw [cQ l m g' f' n (by omega) (by omega) (by omega)];exact h4⟩
   ·rintro ⟨n,d,h1,h2,h3,h4⟩
    exact ⟨n,d,h1,h2,h3,by rw [cQ l m f' g' n (by omega) (by omega) (by omega)];exact h4⟩
def TB (l:List Doing) (k:Nat):Bool:=takenBack l (l.length+1) k
theorem wb (l:List Doing) (k:Nat):TB l k=true↔∃ n d,k < n/\l[n]?=some d/\d.what = .back k/\TB l n=false:=by
 unfold TB
 rw [dA]
 constructor
 ·rintro ⟨n,d,h1,h2,h3,h4⟩
  exact ⟨n,d,h1,h2,h3,by rw [cQ l (l.length+1) (l.length+1) l.length n (by omega) (by omega) (by omega)];exact h4⟩
 ·rintro ⟨n,d,h1,h2,h3,h4⟩
  exact ⟨n,d,h1,h2,h3,by rw [cQ l (l.length+1) l.length (l.length+1) n (by omega) (by omega) (by omega)];exact h4⟩
structure pL (l:List Doing) (j:Nat) (t:List Bool):Prop where
 len:t.length=l.length
 at_:∀ i,i < l.length->(t[i]?=some true↔∃ n d,j<=n/\l[n]?=some d/\d.what = .back i/\TB l n=false)
def rk (l:List Doing):Prop:=∀ (n:Nat) (d:Doing) (j:Nat),l[n]?=some d->d.what = .back j->j < n
theorem vh (l:List Doing):pL l l.length (List.replicate l.length false):=by
 refine ⟨by simp,fun i hi=>?_⟩
 rw [List.getElem?_replicate,if_pos hi]
 constructor
 ·intro h;cases h
 ·rintro ⟨n,d,h1,h2,_⟩
  have:=(List.getElem?_eq_some_iff.mp h2).1
  omega
theorem zH {l:List Doing} {j:Nat} {t:List Bool} (T:pL l (j+1) t) (hj:j < l.length):t[j]?=some (TB l j):=by
 have hj':j < t.length:=by rw [T.len];exact hj
 have e:=T.at_ j hj
 rw [List.getElem?_eq_getElem hj'] at e ⊢
 congr 1
 rw [Bool.eq_iff_iff,wb]
 constructor
 ·intro h
  obtain ⟨n,d,h1,h2,h3,h4⟩:=e.mp (by rw [h])
  exact ⟨n,d,by omega,h2,h3,h4⟩
 ·rintro ⟨n,d,h1,h2,h3,h4⟩
  exact Option.some.inj (e.mpr ⟨n,d,by omega,h2,h3,h4⟩)
theorem Aw {l:List Doing} {j i:Nat} {t:List Bool} {d:Doing} (T:pL l (j+1) t) (hd:l[j]?=some d) (hb:d.what = .back i) (hn:TB l j=false):pL l j (t.set i true):=by
 refine ⟨by simp [T.len],fun x hx=>?_⟩
 have hx':x < t.length:=by rw [T.len];exact hx
 by_cases e:i=x
 ·subst e
  rw [List.getElem?_set_self hx']
  exact ⟨fun _=>⟨j,d,Nat.le_refl _,hd,hb,hn⟩,fun _=>rfl⟩
 ·rw [List.getElem?_set_ne e]
  rw [T.at_ x hx]
  constructor
  ·rintro ⟨n,d',h1,h2⟩
   exact ⟨n,d',by omega,h2⟩
  ·rintro ⟨n,d',h1,h2,h3,h4⟩
   refine ⟨n,d',?_,h2,h3,h4⟩
   rcases Nat.lt_or_ge j n with h | h
   ·exact h
   ·have:n=j:=by omega
    subst this
    rw [hd] at h2
    cases h2
    rw [hb] at h3
    cases h3
    exact absurd rfl e
theorem sH {l:List Doing} {j:Nat} {t:List Bool} {d:Doing} (T:pL l (j+1) t) (hd:l[j]?=some d) (hn:(∀ i,d.what≠ .back i)\/TB l j=true):pL l j t:=by
 refine ⟨T.len,fun x hx=>?_⟩
 rw [T.at_ x hx]
 constructor
 ·rintro ⟨n,d',h1,h2⟩
  exact ⟨n,d',by omega,h2⟩
 ·rintro ⟨n,d',h1,h2,h3,h4⟩
  refine ⟨n,d',?_,h2,h3,h4⟩
  rcases Nat.lt_or_ge j n with h | h
  ·exact h
  ·have:n=j:=by omega
   subst this
   rw [hd] at h2
   cases h2
   rcases hn with hn | hn
   ·exact absurd h3 (hn x)
   ·rw [hn] at h4;cases h4
theorem AH {l:List Doing} (B:rk l) {t:List Bool} (T:pL l 0 t):t=(List.range l.length).map (TB l):=by
 apply List.ext_getElem?
 intro i
 by_cases hi:i < l.length
 ·have hi':i < t.length:=by rw [T.len];exact hi
  have e:=T.at_ i hi
  rw [List.getElem?_map,List.getElem?_range hi,List.getElem?_eq_getElem hi'] at *
  show _=some (TB l i)
  congr 1
  rw [Bool.eq_iff_iff,wb]
  constructor
  ·intro h
   obtain ⟨n,d,h1,h2,h3,h4⟩:=e.mp (by rw [h])
   exact ⟨n,d,B n d i h2 h3,h2,h3,h4⟩
  ·rintro ⟨n,d,h1,h2,h3,h4⟩
   exact Option.some.inj (e.mpr ⟨n,d,by omega,h2,h3,h4⟩)
 ·rw [List.getElem?_eq_none (by rw [T.len];omega),List.getElem?_eq_none (by simp;omega)]
theorem fB.backOk {n:Nat} {ds:Doings} (D:fB n ds) (c m:Nat):rk ((ds.getD c []).take m):=by
 intro k d j h1 h2
 rw [List.getElem?_take] at h1
 split at h1
 ·exact (D.ok c k d h1).back j h2
 ·cases h1
theorem jt (a:Name×Doing):later a a=false:=by
 unfold later;simp
theorem eQ {a b:Name×Doing}:later a b=true↔b.2.time < a.2.time\/(a.2.time=b.2.time/\b.1.by_ < a.1.by_):=by
 unfold later
 simp [Bool.or_eq_true,Bool.and_eq_true]
theorem oS {a b c:Name×Doing} (h1:later a b=true) (h2:later b c=true):later a c=true:=by
 rw [eQ] at *
 omega
theorem iS:∀ {l:List (Name×Doing)} {x:Name×Doing},latest l=some x->x∈l
 | [],x,h=>by cases h
 | a::l,x,h=>by
  unfold latest at h
  cases e:latest l with
  | none=>
   rw [e] at h
   cases h
   exact List.mem_cons_self ..
  | some b=>
   rw [e] at h
   simp only at h
   split at h
   ·cases h;exact List.mem_cons_self ..
   ·cases h;exact List.mem_cons_of_mem _ (iS e)
theorem j5:∀ {l:List (Name×Doing)},latest l=none->l=[]
 | [],_=>rfl
 | a::l,h=>by
  unfold latest at h
  cases e:latest l with
  | none=>rw [e] at h;cases h
  | some b=>rw [e] at h;simp only at h;split at h <;> cases h
theorem iJ:∀ {l:List (Name×Doing)} {x:Name×Doing},latest l=some x->∀ y,y∈l->later y x=false
 | [],x,h=>by cases h
 | a::l,x,h=>by
  unfold latest at h
  intro y hy
  cases e:latest l with
  | none=>
   rw [e] at h
   cases h
   have:=j5 e
   subst this
   rw [List.mem_singleton] at hy
   subst hy
   exact jt _
  | some b=>
   rw [e] at h
   simp only at h
   split at h
   ·rename_i q
    cases h
    rcases List.mem_cons.mp hy with h | h
    ·subst h;exact jt _
    ·cases z:later y a with
     | false=>rfl
     | true=>
      have:=oS z q
      rw [iJ e y h] at this
      cases this
   ·rename_i q
    cases h
    rcases List.mem_cons.mp hy with h | h
    ·subst h;exact eq_false_of_ne_true q
    ·exact iJ e y h
theorem jZ {l L:List (Name×Doing)} (p:L.Perm l) (s:L.Pairwise fun a b=>later b a=true):latest l=L.getLast?:=by
 cases e:latest l with
 | none=>
  have:=j5 e
  subst this
  rw [List.perm_nil.mp p]
  rfl
 | some x=>
  have hx:x∈L:=p.mem_iff.mpr (iS e)
  have hne:L≠[]:=fun q=>by rw [q] at hx;cases hx
  obtain ⟨M,y,rfl⟩:∃ M y,L=M++[y]:=⟨L.dropLast,L.getLast hne,(List.dropLast_concat_getLast hne).symm⟩
  rw [List.getLast?_concat]
  rcases List.mem_append.mp hx with h | h
  ·have h1:later y x=true:=(List.pairwise_append.mp s).2.2 x h y (List.mem_singleton_self y)
   have h2:=iJ e y (p.mem_iff.mp (by simp))
   rw [h1] at h2
   cases h2
  ·rw [List.mem_singleton] at h
   rw [h]
theorem iw {α:Type} (R:α->α->Prop) (asym:∀ a b,R a b->R b a->False):∀ {l m:List α},l.Perm m->l.Pairwise R->m.Pairwise R->l=m
 | [],m,p,_,_=>(List.nil_perm.mp p).symm
 | a::l,m,p,hl,hm=>by
  cases m with
  | nil=>exact absurd (List.perm_nil.mp p) (by simp)
  | cons b m=>
   by_cases e:a=b
   ·subst e
    rw [iw R asym (List.perm_cons _ |>.mp p) (List.pairwise_cons.mp hl).2 (List.pairwise_cons.mp hm).2]
   ·exfalso
    have ha:a∈m:=by
     have:=p.mem_iff.mp (List.mem_cons_self ..)
     rcases List.mem_cons.mp this with h | h
     ·exact absurd h e
     ·exact h
    have hb:b∈l:=by
     have:=p.mem_iff.mpr (List.mem_cons_self ..)
     rcases List.mem_cons.mp this with h | h
     ·exact absurd h.symm e
     ·exact h
    exact asym a b ((List.pairwise_cons.mp hl).1 b hb) ((List.pairwise_cons.mp hm).1 a ha)
theorem e9 {p q:Mark}:before p q=true↔p.a < q.a\/(p.a=q.a/\(p.b < q.b\/(p.b=q.b/\(p.x < q.x\/(p.x=q.x/\(p.name.by_ < q.name.by_\/(p.name.by_=q.name.by_/\p.name.k < q.name.k))))))):=by
 unfold before
 simp [Bool.or_eq_true,Bool.and_eq_true]
theorem om {p q r:Mark} (h1:before p q=true) (h2:before q r=true):before p r=true:=by
 rw [e9] at *
 omega
theorem pi {p q:Mark} (h1:before p q=true) (h2:before q p=true):False:=by
 rw [e9] at *
 omega
theorem oJ {p q:Mark} (h:p.name≠q.name):before p q=true\/before q p=true:=by
 rw [e9,e9]
 have:¬ (p.name.by_=q.name.by_/\p.name.k=q.name.k):=by
  rintro ⟨a,b⟩
  apply h
  rcases hp:p.name with ⟨x,y⟩
  rcases hq:q.name with ⟨z,w⟩
  rw [hp,hq] at a b
  simp only at a b
  rw [a,b]
 omega
theorem gu (m:Mark):∀ l,(putMark m l).Perm (m::l)
 | []=>List.Perm.refl _
 | x::l=>by
  unfold putMark
  split
  ·exact List.Perm.refl _
  ·exact ((gu m l).cons x).trans (List.Perm.swap ..)
theorem g8 {m:Mark}:∀ {l:List Mark},(∀ x,x∈l->x.name≠m.name)->l.Pairwise (fun a b=>before a b=true)->(putMark m l).Pairwise (fun a b=>before a b=true)
 | [],_,_=>by unfold putMark;simp
 | x::l,hn,s=>by
  obtain ⟨s1,s2⟩:=List.pairwise_cons.mp s
  unfold putMark
  split
  ·rename_i q
   refine List.pairwise_cons.mpr ⟨fun y hy=>?_,s⟩
   rcases List.mem_cons.mp hy with h | h
   ·subst h;exact q
   ·exact om q (s1 y h)
  ·rename_i q
   refine List.pairwise_cons.mpr ⟨fun y hy=>?_,g8 (fun z hz=>hn z (List.mem_cons_of_mem _ hz)) s2⟩
   rcases List.mem_cons.mp ((gu m l).mem_iff.mp hy) with h | h
   ·subst h
    rcases oJ (hn x (List.mem_cons_self ..)) with h | h
    ·exact h
    ·exact absurd h q
   ·exact s1 y h
theorem ia:∀ {l:List Mark},l.Pairwise (fun a b=>a.name≠b.name)->(l.foldr putMark []).Perm l/\(l.foldr putMark []).Pairwise (fun a b=>before a b=true)
 | [],_=>⟨List.Perm.refl _,List.Pairwise.nil⟩
 | x::l,h=>by
  obtain ⟨h1,h2⟩:=List.pairwise_cons.mp h
  have ih:=ia h2
  refine ⟨(gu x _).trans (ih.1.cons x),g8 (fun y hy=>?_) ih.2⟩
  exact fun e=>h1 y (ih.1.mem_iff.mp hy) e.symm
theorem rj {l m out:List Mark} (hn:l.Pairwise (fun a b=>a.name≠b.name)) (p:out.Perm m) (pm:m.Perm l) (s:out.Pairwise (fun a b=>before a b=true)):out=l.foldr putMark []:=
 iw (fun a b=>before a b=true) (fun _ _=>pi) ((p.trans pm).trans (ia hn).1.symm) s (ia hn).2
def own (ds:Doings) (v:Known) (c:Nat):List Doing:=(ds.getD c []).take (v.getD c 0)
theorem dX {α:Type} {l:List α} {i:Nat} {a d:α} (h:l[i]?=some a):l.getD i d=a:=by
 rw [List.getD_eq_getElem?_getD,h];rfl
theorem gG {α:Type} (l:List α):l.zipIdx.Pairwise fun a b=>a.2 < b.2:=by
 have:(l.zipIdx.map Prod.snd).Pairwise (· < ·):=by
  rw [List.zipIdx_map_snd]
  exact List.pairwise_lt_range' 1
 exact List.pairwise_map.mp this
def nlt (a b:Name):Prop:=a.by_ < b.by_\/(a.by_=b.by_/\a.k < b.k)
theorem nW {a b:Name} (h:nlt a b):a≠b:=by
 intro e
 subst e
 unfold nlt at h
 omega
theorem zM (ds:Doings) (v:Known):(all ds v).Pairwise fun a b=>nlt a.1 b.1:=by
 unfold all
 rw [List.pairwise_flatMap]
 constructor
 ·intro x _
  rw [List.pairwise_map]
  exact (gG _).imp fun h=>Or.inr ⟨rfl,h⟩
 ·refine (gG ds).imp fun {x y} h a ha b hb=>?_
  obtain ⟨p,_,rfl⟩:=List.mem_map.mp ha
  obtain ⟨q,_,rfl⟩:=List.mem_map.mp hb
  exact Or.inl h
def counts (ds:Doings) (v:Known) (m:Name):Bool:=!TB (own ds v m.by_) m.k
theorem jY (ds:Doings) (v:Known):counting ds v=(all ds v).filter fun d=>counts ds v d.1:=by
 unfold counting all
 rw [List.filter_flatMap]
 have:∀ (l:List (List Doing×Nat)),(∀ x,x∈l->ds[x.2]?=some x.1)->l.flatMap (fun x=>let l:=x.1.take (v.getD x.2 0)
   (l.zipIdx).filterMap fun y=>if takenBack l (l.length+1) y.2=true then none else some (({ by_:=x.2,k:=y.2 }:Name),y.1)) =
   l.flatMap (fun a=>List.filter (fun d=>counts ds v d.1) (((a.1.take (v.getD a.2 0)).zipIdx).map fun y=>(({ by_:=a.2,k:=y.2 }:Name),y.1))):=by
  intro l
  induction l with
  | nil=>intro _;rfl
  | cons x l ih=>
   intro h
   rw [List.flatMap_cons,List.flatMap_cons,ih fun y hy=>h y (List.mem_cons_of_mem _ hy)]
   congr 1
   have hx:=h x (List.mem_cons_self ..)
   have e:own ds v x.2=x.1.take (v.getD x.2 0):=by
    unfold own
    rw [dX hx]
   simp only
   generalize hz:(x.1.take (v.getD x.2 0))=z
   rw [hz] at e
   generalize z.zipIdx=q
   induction q with
   | nil=>rfl
   | cons y q ihq=>
    rw [List.map_cons,List.filterMap_cons,List.filter_cons]
    have e2:counts ds v ⟨x.2,y.2⟩=!takenBack z (z.length+1) y.2:=by
     unfold counts TB
     rw [e]
    rw [e2]
    cases takenBack z (z.length+1) y.2 with
    | true=>simp only [if_true,Bool.not_true];exact ihq
    | false=>
     simp only [Bool.not_false,if_true]
     rw [<- ihq]
     rfl
 exact this _ fun x hx=>List.mem_zipIdx_iff_getElem?.mp hx
theorem jq {ds:Doings} {v:Known} {m:Name} {d:Doing}:(m,d)∈counting ds v↔doingAt ds m=some d/\m.k < v.getD m.by_ 0/\counts ds v m=true:=by
 rw [jY,List.mem_filter,gl]
 exact ⟨fun h=>⟨h.1.1,h.1.2,h.2⟩,fun h=>⟨⟨h.1,h.2.1⟩,h.2.2⟩⟩
theorem fL (ds:Doings) (v:Known):(counting ds v).Pairwise fun a b=>nlt a.1 b.1:=by
 rw [jY]
 exact (zM ds v).filter _
theorem jR {n:Nat} {ds:Doings} (D:fB n ds) {a b:Name×Doing} (ha:doingAt ds a.1=some a.2) (hb:doingAt ds b.1=some b.2) (h:nlt a.1 b.1):later a b=true\/later b a=true:=by
 rw [eQ,eQ]
 obtain ⟨⟨ca,ka⟩,da⟩:=a
 obtain ⟨⟨cb,kb⟩,db⟩:=b
 simp only at *
 unfold nlt at h
 simp only at h
 rcases h with h | ⟨h1,h2⟩
 ·omega
 ·subst h1
  have:=(D.ok ca kb db hb).time ka da h2 ha
  omega
structure i0 (ds:Doings) (v:Known) (L:List (Name×Doing)):Prop where
 perm:L.Perm (counting ds v)
 sort:L.Pairwise fun a b=>later b a=true
theorem uY {n:Nat} {ds:Doings} (D:fB n ds) {v:Known} {L:List (Name×Doing)} (p:L.Perm (counting ds v))
  (s:L.Pairwise fun a b=>a.2.time < b.2.time\/(a.2.time=b.2.time/\a.1.by_<=b.1.by_)):i0 ds v L:=by
 refine ⟨p,?_⟩
 have hm:∀ x,x∈L->doingAt ds x.1=some x.2:=fun x hx=>(jq.mp (show (x.1,x.2)∈_ from p.mem_iff.mp hx)).1
 have hn:L.Pairwise fun a b=>a.1≠b.1:=by
  refine List.Perm.pairwise p.symm ?_ ?_
  ·exact (fL ds v).imp fun h=>nW h
  ·intro a b h e;exact h e.symm
 have hn:L.Pairwise fun a b=>a.1≠b.1/\(a.2.time < b.2.time\/(a.2.time=b.2.time/\a.1.by_<=b.1.by_)):=hn.and s
 refine List.Pairwise.imp_of_mem ?_ hn
 intro a b ha hb h
 rw [eQ]
 rcases h.2 with q | ⟨q1,q2⟩
 ·exact Or.inl q
 ·rcases Nat.lt_or_ge a.1.by_ b.1.by_ with r | r
  ·exact Or.inr ⟨q1.symm,r⟩
  ·exfalso
   have hab:a.1.by_=b.1.by_:=by omega
   have hk:a.1.k≠b.1.k:=by
    intro e
    apply h.1
    rcases ea:a.1 with ⟨x,y⟩
    rcases eb:b.1 with ⟨z,w⟩
    rw [ea,eb] at hab e
    simp only at hab e
    rw [hab,e]
   rcases Nat.lt_or_gt_of_ne hk with z | z
   ·rcases jR D (hm a ha) (hm b hb) (Or.inr ⟨hab,z⟩) with w | w <;> rw [eQ] at w <;> omega
   ·rcases jR D (hm b hb) (hm a ha) (Or.inr ⟨hab.symm,z⟩) with w | w <;> rw [eQ] at w <;> omega
def cj (L:List (Name×Doing)) (m:Name):Option (Name×Doing):=(L.filter fun d=>(spanOf d.1 m d.2.what).isSome).getLast?
def b0 (L:List (Name×Doing)) (m:Name):Option (Name×Doing):=(L.filter fun d=>(labelOf d.1 m d.2.what).isSome).getLast?
def cK (L:List (Name×Doing)) (m:Name):Bool:=L.any fun d=>d.2.what == .drop m
theorem oI {ds:Doings} {v:Known} {L:List (Name×Doing)} (E:i0 ds v L) (m:Name) :
  markOf (counting ds v) m=if cK L m=true then none else
   match cj L m,b0 L m with
   | some s,some t=>(match spanOf s.1 m s.2.what,labelOf t.1 m t.2.what with
    | some p,some x=>some { name:=m,a:=p.1,b:=p.2,x:=x,spanBy:=s.1,labelBy:=t.1 }
    | _,_=>none)
   | _,_=>none:=by
 unfold markOf cK cj b0
 rw [E.perm.any_eq,jZ (E.perm.filter _) (E.sort.filter _),jZ (E.perm.filter _) (E.sort.filter _)]
 rfl
theorem dg {l:List (Name×Doing)} {m:Name} {x:Mark} (h:markOf l m=some x):x.name=m:=by
 unfold markOf at h
 split at h
 ·cases h
 ·split at h
  ·split at h
   ·cases h;rfl
   ·cases h
  ·cases h
theorem tV {ds:Doings} {v:Known} {L:List (Name×Doing)} (p:L.Perm (counting ds v)) {out:List Mark}
  (po:out.Perm (L.filterMap fun d=>if isPut d.2.what=true then markOf (counting ds v) d.1 else none)) (s:out.Pairwise fun a b=>before a b=true):out=view ds v:=by
 unfold view
 refine rj ?_ po (p.filterMap _) s
 rw [List.pairwise_filterMap]
 refine (fL ds v).imp fun {a b} h x hx y hy=>?_
 split at hx
 ·split at hy
  ·rw [dg hx,dg hy]
   exact nW h
  ·cases hy
 ·cases hx
theorem fB.mono {n:Nat} {ds:Doings} (D:fB n ds) {c j k:Nat} {d e:Doing} (hd:doingAt ds ⟨c,j⟩=some d) (he:doingAt ds ⟨c,k⟩=some e) (h:j<=k):d.time<=e.time:=by
 rcases Nat.lt_or_ge j k with q | q
 ·exact Nat.le_of_lt ((D.ok c k e he).time j d q hd)
 ·have:j=k:=by omega
  subst this
  rw [hd] at he
  cases he
  exact Nat.le_refl _
theorem ue {ds:Doings} {v:Known} {M:Nat} (h:∀ m d,doingAt ds m=some d->m.k < v.getD m.by_ 0->d.time<=M):timeOf ds v<=M:=by
 refine eK (fun (d:Name×Doing)=>d.2.time) M (all ds v) 0 (Nat.zero_le _) fun x hx=>?_
 have:=gl.mp (show (x.1,x.2)∈all ds v from hx)
 exact h x.1 x.2 this.1 this.2
theorem pA {n:Nat} {ds:Doings} (D:fB n ds) {v:Known} (hv:∀ g,v.getD g 0<=bg ds g) {ts:List Nat}
  (h1:∀ t,t∈ts->∃ c d,0 < v.getD c 0/\doingAt ds ⟨c,v.getD c 0 - 1⟩=some d/\d.time=t)
  (h2:∀ c d,0 < v.getD c 0->doingAt ds ⟨c,v.getD c 0 - 1⟩=some d->d.time∈ts):timeOf ds v=ts.foldl (fun a b=>max a b) 0:=by
 have hM:=eM (fun (x:Nat)=>x) ts 0
 refine Nat.le_antisymm (ue fun m d hd hk=>?_) (eK (fun (x:Nat)=>x) _ ts 0 (Nat.zero_le _) fun t ht=>?_)
 ·obtain ⟨c,k⟩:=m
  simp only at hk
  obtain ⟨e,he⟩:=kE (ds:=ds) (m:=⟨c,v.getD c 0 - 1⟩) (by show v.getD c 0 - 1 < bg ds c;have:=hv c;omega)
  exact Nat.le_trans (D.mono hd he (by omega)) (hM.2 _ (h2 c e (by omega) he))
 ·obtain ⟨c,d,h3,h4,rfl⟩:=h1 t ht
  exact mZ h4 (by show v.getD c 0 - 1 < v.getD c 0;omega)
theorem gB (s:Nat):∀ n,(List.range n).filter (fun k=>!decide (k < s))=List.range' s (n - s)
 | 0=>by simp
 | n+1=>by
  rw [List.range_succ,List.filter_append,gB s n]
  by_cases h:n < s
  ·have e1:n - s=0:=by omega
   have e2:n+1 - s=0:=by omega
   simp [h,e1,e2]
  ·have e2:n+1 - s=(n - s)+1:=by omega
   have e3:s+(n - s)=n:=by omega
   rw [e2,List.range'_concat,Nat.one_mul,e3]
   simp [h]
theorem j7 {α:Type} (l:List α) (n c:Nat) (h:n<=l.length):((l.take n).zipIdx.map fun y=>(({ by_:=c,k:=y.2 }:Name),y.1)).map (·.1)=(List.range n).map fun k=>{ by_:=c,k:=k }:=by
 rw [List.map_map]
 have:((fun (x:Name×α)=>x.1) ∘ fun (y:α×Nat)=>(({ by_:=c,k:=y.2 }:Name),y.1))=(fun k=>({ by_:=c,k:=k }:Name)) ∘ Prod.snd:=rfl
 rw [this,<- List.map_map,List.zipIdx_map_snd,List.length_take,Nat.min_eq_left h,List.range_eq_range']
theorem dP {α β:Type} (p:β->Bool) (g:α->β):∀ l:List α,l.filterMap (fun d=>if p (g d)=true then none else some (g d))=(l.map g).filter fun b=>!p b
 | []=>rfl
 | x::l=>by
  rw [List.filterMap_cons,List.map_cons,List.filter_cons]
  cases p (g x) with
  | true=>simp only [if_true];rw [dP p g l];simp
  | false=>simp only [Bool.false_eq_true,if_false];rw [dP p g l];simp
theorem e7 {α β:Type} (f:α×Nat->List β) (d:α) (l:List α):l.zipIdx.flatMap f=(List.range l.length).flatMap fun i=>f (l.getD i d,i):=by
 have:l.zipIdx=(List.range l.length).map fun i=>(l.getD i d,i):=by
  apply List.ext_getElem?
  intro i
  rw [List.getElem?_map,List.getElem?_zipIdx]
  by_cases h:i < l.length
  ·rw [List.getElem?_range h,List.getElem?_eq_getElem h]
   simp [List.getD_eq_getElem?_getD,List.getElem?_eq_getElem h]
  ·rw [List.getElem?_eq_none (by omega),List.getElem?_eq_none (by simp;omega)]
   rfl
 rw [this,List.flatMap_map]
theorem uq {ds:Doings} {v:Known} (hv:∀ g,v.getD g 0<=bg ds g):(all ds v).map (·.1)=(List.range ds.length).flatMap fun c=>(List.range (v.getD c 0)).map fun k=>{ by_:=c,k:=k }:=by
 unfold all
 rw [e7 _ [],List.map_flatMap]
 congr 1
 funext c
 exact j7 _ _ c (hv c)
theorem kh {α β:Type} (p:β->Bool) (f:α->List β) (l:List α):(l.flatMap f).filter p=l.flatMap fun a=>(f a).filter p:=List.filter_flatMap ..
theorem qt {ds:Doings} {v:Known} (hv:∀ g,v.getD g 0<=bg ds g) (g:Nat):lacking ds v g=(List.range ds.length).flatMap fun c=>(List.range' ((surely ds v g).getD c 0) (v.getD c 0 - (surely ds v g).getD c 0)).map fun k=>{ by_:=c,k:=k }:=by
 unfold lacking
 rw [dP (knows (surely ds v g)) (fun d:Name×Doing=>d.1),uq hv,kh]
 congr 1
 funext c
 rw [List.filter_map,<- gB]
 rfl
theorem c8 {α:Type} [DecidableEq α]:∀ {l:List α} {i:Nat} {x:α},l.Nodup->l[i]?=some x->l.filter (fun y=>y != x)=l.eraseIdx i
 | [],i,x,_,h=>by simp at h
 | a::l,0,x,nd,h=>by
  have e:a=x:=Option.some.inj h
  subst e
  have nd:=List.nodup_cons.mp nd
  rw [List.filter_cons]
  simp only [bne_self_eq_false,Bool.false_eq_true,if_false,List.eraseIdx_cons_zero]
  refine List.filter_eq_self.mpr fun y hy=>?_
  simp only [bne_iff_ne,ne_eq]
  intro e
  subst e
  exact nd.1 hy
 | a::l,i+1,x,nd,h=>by
  have nd:=List.nodup_cons.mp nd
  have h:l[i]?=some x:=h
  rw [List.filter_cons,List.eraseIdx_cons_succ,c8 nd.2 h]
  have:a≠x:=by
   intro e
   subst e
   exact nd.1 (List.mem_of_getElem? h)
  simp [this]
theorem nU {x:Copy} (nd:x.pool.Nodup) {i:Nat} {m:Name} (h:x.pool[i]?=some m):(takeOne x m).pool=x.pool.eraseIdx i:=c8 nd h
theorem eF {x:Copy} (nd:x.pool.Nodup) {m:Name} (h:m∈x.pool):(takeOne x m).pool.length+1=x.pool.length:=by
 obtain ⟨i,hi⟩:=List.getElem?_of_mem h
 rw [nU nd hi]
 have:=(List.getElem?_eq_some_iff.mp hi).1
 rw [List.length_eraseIdx,if_pos this]
 omega
theorem jk (ds:Doings):∀ (f g:Nat) (x:Copy),x.pool.Nodup->x.pool.length<=f->x.pool.length<=g->takeAll ds f x=takeAll ds g x
 | f,g,x,nd,hf,hg=>by
  cases e:x.pool.find? (ready ds x.known) with
  | none=>
   have:∀ f,takeAll ds f x=x:=by
    intro f
    cases f with
    | zero=>rfl
    | succ f=>unfold takeAll;rw [e]
   rw [this f,this g]
  | some m=>
   have hm:=List.mem_of_find?_eq_some e
   have hl:=eF nd hm
   obtain ⟨f',rfl⟩:∃ f',f=f'+1:=⟨f - 1,by omega⟩
   obtain ⟨g',rfl⟩:∃ g',g=g'+1:=⟨g - 1,by omega⟩
   unfold takeAll
   rw [e]
   exact jk ds f' g' (takeOne x m) (nd.filter _) (by omega) (by omega)
 termination_by f=>f
def TA (ds:Doings) (x:Copy):Copy:=takeAll ds x.pool.length x
theorem xW {ds:Doings} {x:Copy} (h:x.pool.find? (ready ds x.known)=none):TA ds x=x:=by
 unfold TA
 cases x.pool.length with
 | zero=>rfl
 | succ f=>unfold takeAll;rw [h]
theorem yn {ds:Doings} {x:Copy} (nd:x.pool.Nodup) {m:Name} (h:x.pool.find? (ready ds x.known)=some m):TA ds x=TA ds (takeOne x m):=by
 have hl:=eF nd (List.mem_of_find?_eq_some h)
 unfold TA
 rw [<- hl,takeAll,h]
theorem vn {ds:Doings} {x:Copy} {m:Name} (nd:x.pool.Nodup):comes ds x m=if knows x.known m=true\/x.pool.contains m=true then x else TA ds { x with pool:=x.pool++[m] }:=by
 unfold comes
 split
 ·rfl
 ·rename_i h
  refine jk ds _ _ _ ?_ ?_ ?_
  ·refine List.nodup_append.mpr ⟨nd,by simp,fun a ha b hb=>?_⟩
   rw [List.mem_singleton] at hb
   subst hb
   intro z
   subst z
   exact h (Or.inr (by simpa using ha))
  ·simp
  ·simp
def dj (v:List Nat):Nat:=v.foldl (fun a b=>a+b) 0
theorem pZ (v:List Nat):dj v=v.sum:=by
 have:∀ (l:List Nat) (a:Nat),l.foldl (fun a b=>a+b) a=a+l.sum:=by
  intro l
  induction l with
  | nil=>intro a;simp
  | cons x l ih=>intro a;simp only [List.foldl_cons,List.sum_cons];rw [ih];omega
 unfold dj
 rw [this]
 omega
theorem iZ:∀ {v:List Nat} {i:Nat},i < v.length->(v.set i (v.getD i 0+1)).sum=v.sum+1
 | [],i,h=>by simp at h
 | x::v,0,h=>by simp;omega
 | x::v,i+1,h=>by
  have:=iZ (v:=v) (i:=i) (by simpa using h)
  simp only [List.set_cons_succ,List.sum_cons,List.getD_cons_succ]
  omega
theorem lP {x:Copy} {m:Name} (h:m.by_ < x.known.length):dj (takeOne x m).known=dj x.known+1:=by
 rw [pZ,pZ]
 exact iZ h
theorem sZ {n:Nat} {ds:Doings} (D:fB n ds) {v:Known} (hv:v.length=n) {m:Name} {d:Doing} (hd:doingAt ds m=some d):ready ds v m=(m.k == v.getD m.by_ 0 && (d.knew.zip v).all fun x=>decide (x.1<=x.2)):=by
 unfold ready
 rw [hd]
 have e:=(D.ok m.by_ m.k d hd).klen
 unfold atMost
 simp [e,hv]
theorem fM {ds:Doings} {v:Known} {g:Nat} (h:v.getD g 0=0):surely ds v g=List.replicate v.length 0:=by
 unfold surely
 rw [h]
 simp [List.map_const']
theorem fz {ds:Doings} {v:Known} {g:Nat} (h:0 < v.getD g 0) (hl:v.getD g 0<=bg ds g) {d:Doing} (hd:doingAt ds ⟨g,v.getD g 0 - 1⟩=some d):surely ds v g=d.knew.set g (v.getD g 0):=by
 unfold surely
 have:((ds.getD g []).take (v.getD g 0)).getLast?=some d:=by
  rw [List.getLast?_eq_getElem?,List.length_take]
  have:(ds.getD g []).length=bg ds g:=rfl
  rw [Nat.min_eq_left (by omega),List.getElem?_take,if_pos (by omega)]
  exact hd
 rw [this]
def jT (l:List Doing) (c k:Nat):Option (Name×Doing):=if TB l k=true then none else l[k]?.map fun d=>({ by_:=c,k:=k },d)
def fO (ds:Doings) (v:Known) (c:Nat):List (Name×Doing):=(List.range (v.getD c 0)).filterMap (jT (own ds v c) c)
theorem gf {α β:Type} (f:α×Nat->Option β) (l:List α):l.zipIdx.filterMap f=(List.range l.length).filterMap fun i=>l[i]?.bind fun a=>f (a,i):=by
 have h:∀ (l:List α) (n:Nat),(l.zipIdx n).filterMap f=(List.range l.length).filterMap fun i=>l[i]?.bind fun a=>f (a,n+i):=by
  intro l
  induction l with
  | nil=>intro n;rfl
  | cons a l ih=>
   intro n
   rw [List.zipIdx_cons,List.filterMap_cons,List.length_cons,List.range_succ_eq_map,List.filterMap_cons,List.filterMap_map,ih (n+1)]
   have:((fun i=>(a::l)[i]?.bind fun a=>f (a,n+i)) ∘ Nat.succ)=fun i=>l[i]?.bind fun a=>f (a,n+1+i):=by
    funext i
    have e:n+Nat.succ i=n+1+i:=by omega
    simp only [Function.comp,List.getElem?_cons_succ,e]
   rw [this]
   simp
 have:=h l 0
 simpa using this
theorem iz {ds:Doings} {v:Known} (hv:∀ g,v.getD g 0<=bg ds g):counting ds v=(List.range ds.length).flatMap (fO ds v):=by
 unfold counting
 rw [e7 _ []]
 congr 1
 funext c
 simp only
 rw [gf]
 have e:((ds.getD c []).take (v.getD c 0)).length=v.getD c 0:=by
  rw [List.length_take]
  have:=hv c
  unfold bg at this
  omega
 unfold fO
 rw [e]
 congr 1
 funext k
 unfold jT own TB
 rw [e]
 cases h:((ds.getD c []).take (v.getD c 0))[k]? with
 | none=>simp
 | some d=>simp
def fK (ds:Doings) (v:Known) (i:Nat):List (Name×Doing):=(List.range i).flatMap (fO ds v)
theorem je (ds:Doings) (v:Known) (i:Nat):fK ds v (i+1)=fK ds v i++fO ds v i:=by
 unfold fK
 rw [List.range_succ,List.flatMap_append]
 simp
theorem lM (ds:Doings) (v:Known) (c:Nat):(fO ds v c).length<=v.getD c 0:=by
 unfold fO
 refine Nat.le_trans (List.length_filterMap_le _ _) ?_
 simp
theorem g7 (ds:Doings) (v:Known) {m:Nat} (hm:∀ g,v.getD g 0<=m):∀ i,(fK ds v i).length<=i * m
 | 0=>by simp [fK]
 | i+1=>by
  rw [je,List.length_append,Nat.succ_mul]
  have h1:=g7 ds v hm i
  have h2:=lM ds v i
  have h3:=hm i
  omega
theorem c6 {n:Nat} {ds:Doings} (D:fB n ds) {v:Known} (hv:v.length=n) {g:Nat} (hle:v.getD g 0<=bg ds g):(surely ds v g).length=n:=by
 by_cases h:v.getD g 0=0
 ·rw [fM h];simpa using hv
 ·obtain ⟨d,hd⟩:=kE (ds:=ds) (m:=⟨g,v.getD g 0 - 1⟩) (by show v.getD g 0 - 1 < bg ds g;omega)
  rw [fz (by omega) hle hd,List.length_set]
  exact (D.ok g _ d hd).klen
theorem tL {n:Nat} {ds:Doings} (D:fB n ds) {v:Known} {g m:Nat} (hle:v.getD g 0<=bg ds g) (hm:∀ g,bg ds g<=m) (i:Nat):(surely ds v g).getD i 0<=m:=by
 by_cases h:v.getD g 0=0
 ·rw [fM h,ci];exact Nat.zero_le _
 ·obtain ⟨d,hd⟩:=kE (ds:=ds) (m:=⟨g,v.getD g 0 - 1⟩) (by show v.getD g 0 - 1 < bg ds g;omega)
  rw [fz (by omega) hle hd,cG]
  split
  ·exact Nat.le_trans hle (hm g)
  ·exact Nat.le_trans ((D.ok g _ d hd).le i) (hm i)
def gi (s v:Known) (c:Nat):List Name:=(List.range' (s.getD c 0) (v.getD c 0 - s.getD c 0)).map fun k=>{ by_:=c,k:=k }
def eY (s v:Known) (i:Nat):List Name:=(List.range i).flatMap (gi s v)
theorem io (s v:Known) (i:Nat):eY s v (i+1)=eY s v i++gi s v i:=by
 unfold eY
 rw [List.range_succ,List.flatMap_append]
 simp
theorem oH {ds:Doings} {v:Known} (hv:∀ g,v.getD g 0<=bg ds g) (g:Nat):lacking ds v g=eY (surely ds v g) v ds.length:=qt hv g
theorem i9 (s v:Known) (c:Nat):(gi s v c).length<=v.getD c 0:=by
 unfold gi
 rw [List.length_map,List.length_range']
 omega
theorem jf (s v:Known) {m:Nat} (hm:∀ g,v.getD g 0<=m):∀ i,(eY s v i).length<=i * m
 | 0=>by simp [eY]
 | i+1=>by
  rw [io,List.length_append,Nat.succ_mul]
  have h1:=jf s v hm i
  have h2:=i9 s v i
  have h3:=hm i
  omega
theorem Inv.len120 {h:House} (I:Inv h) (g:Nat):bg h.doings g<=120:=by
 have ht:(h.doings.map fun l=>l.length).foldl (fun a b=>a+b) 0<=120:=I.tot
 rw [fv] at ht
 unfold bg
 by_cases hg:g < h.doings.length
 ·have:∀ (l:List Nat) (i:Nat) (hi:i < l.length),l[i]<=l.sum:=by
   intro l
   induction l with
   | nil=>intro i hi;simp at hi
   | cons x l ih=>
    intro i hi
    cases i with
    | zero=>simp
    | succ i=>
     have:=ih i (by simpa using hi)
     simp only [List.getElem_cons_succ,List.sum_cons]
     omega
  have h2:=this (h.doings.map List.length) g (by simpa using hg)
  rw [List.getElem_map] at h2
  rw [List.getD_eq_getElem?_getD,List.getElem?_eq_getElem hg]
  exact Nat.le_trans h2 ht
 ·rw [getD_none [] (by omega)]
  simp
theorem Inv.known120 {h:House} (I:Inv h) {c:Nat} (hc:c < h.hands) (g:Nat):(copyAt h c).known.getD g 0<=120:=Nat.le_trans ((I.copy hc).le g) (I.len120 g)
def oF (ds:Doings) (v:Known) (c:Nat):Option Nat:=if 0 < v.getD c 0 then (doingAt ds ⟨c,v.getD c 0 - 1⟩).map (·.time) else none
def tms (ds:Doings) (v:Known) (i:Nat):List Nat:=(List.range i).filterMap (oF ds v)
theorem wE {ds:Doings} {v:Known} {i t:Nat} (h:oF ds v i=some t):tms ds v (i+1)=tms ds v i++[t]:=by
 unfold tms
 rw [List.range_succ,List.filterMap_append]
 simp [h]
theorem xj {ds:Doings} {v:Known} {i:Nat} (h:oF ds v i=none):tms ds v (i+1)=tms ds v i:=by
 unfold tms
 rw [List.range_succ,List.filterMap_append]
 simp [h]
theorem yl (ds:Doings) (v:Known) (i:Nat):(tms ds v i).length<=i:=by
 unfold tms
 refine Nat.le_trans (List.length_filterMap_le _ _) ?_
 simp
theorem qV {n:Nat} {ds:Doings} (D:fB n ds) {v:Known} (hl:v.length=n) (hv:∀ g,v.getD g 0<=bg ds g):timeOf ds v=(tms ds v n).foldl (fun a b=>max a b) 0:=by
 refine pA D hv (fun t ht=>?_) fun c d hc hd=>?_
 ·obtain ⟨c,_,h2⟩:=List.mem_filterMap.mp ht
  unfold oF at h2
  split at h2
  ·rename_i h3
   obtain ⟨d,hd,e⟩:=Option.map_eq_some_iff.mp h2
   exact ⟨c,d,h3,hd,e⟩
  ·cases h2
 ·have hcn:c < n:=by
   rcases Nat.lt_or_ge c n with h | h
   ·exact h
   ·rw [getD_none 0 (by omega)] at hc
    omega
  refine List.mem_filterMap.mpr ⟨c,List.mem_range.mpr hcn,?_⟩
  unfold oF
  rw [if_pos hc,hd]
  rfl
theorem pM {l:List Nat} {m:Nat} (h1:m∈l) (h2:∀ y,y∈l->y<=m):l.foldl (fun a b=>max a b) 0=m:=
 Nat.le_antisymm (eK (fun (x:Nat)=>x) m l 0 (Nat.zero_le _) h2) ((eM (fun (x:Nat)=>x) l 0).2 m h1)
theorem dU {h:House} {c:Nat} (hc:c < h.copies.length) (x:Copy):copyAt (setCopy h c x) c=x:=by
 unfold copyAt setCopy
 show (h.copies.set c x).getD c _=x
 rw [cG,if_pos ⟨rfl,hc⟩]
theorem gQ (h:House) (c:Nat) (x y:Copy):setCopy (setCopy h c x) c y=setCopy h c y:=by
 unfold setCopy
 simp [List.set_set]
theorem jh {h:House} {c:Nat} (hx:h.copies[c]?=some (copyAt h c)):setCopy h c (copyAt h c)=h:=by
 have:h.copies.set c (copyAt h c)=h.copies:=by
  apply List.ext_getElem?
  intro i
  rw [List.getElem?_set]
  split
  ·rename_i e
   subst e
   split
   ·exact hx.symm
   ·rename_i hl
    rw [List.getElem?_eq_none (by omega)]
  ·rfl
 unfold setCopy
 rw [this]
theorem lU {n:Nat} {ds:Doings} {c:Nat} {x:Copy} (hds:ds.length=n) (C:cW n ds c x) {m:Name} (h:x.pool.find? (ready ds x.known)=some m):cW n ds c (takeOne x m)/\m.by_ < n:=
 ⟨lD hds C (List.mem_of_find?_eq_some h) (List.find?_some h),fH hds (C.ex m (List.mem_of_find?_eq_some h))⟩
theorem pN {α:Type} [DecidableEq α]:∀ {l m:List α},l.Nodup->(∀ x,x∈l->x∈m)->l.length<=m.length
 | [],_,_,_=>Nat.zero_le _
 | a::l,m,n,h=>by
  obtain ⟨n1,n2⟩:=List.nodup_cons.mp n
  have ha:a∈m:=h a (List.mem_cons_self ..)
  have:=pN (l:=l) (m:=m.erase a) n2 fun x hx=>(List.mem_erase_of_ne (fun e:x=a=>n1 (by rw [<- e];exact hx))).mpr (h x (List.mem_cons_of_mem _ hx))
  rw [List.length_erase_of_mem ha] at this
  have:0 < m.length:=List.length_pos_of_mem ha
  rw [List.length_cons]
  omega
def js (ds:Doings):List Name:=(List.range ds.length).flatMap fun c=>(List.range (bg ds c)).map fun k=>{ by_:=c,k:=k }
theorem nZ {ds:Doings} {m:Name} (h:Ex ds m):m∈js ds:=by
 unfold js
 rw [List.mem_flatMap]
 refine ⟨m.by_,List.mem_range.mpr (fH rfl h),List.mem_map.mpr ⟨m.k,List.mem_range.mpr h,rfl⟩⟩
theorem nQ (ds:Doings):(js ds).length=(ds.map List.length).sum:=by
 unfold js
 rw [List.length_flatMap]
 congr 1
 apply List.ext_getElem?
 intro i
 rw [List.getElem?_map,List.getElem?_map]
 by_cases hi:i < ds.length
 ·rw [List.getElem?_range hi,List.getElem?_eq_getElem hi]
  simp [bg,List.getD_eq_getElem?_getD,List.getElem?_eq_getElem hi]
 ·rw [List.getElem?_eq_none (by simp;omega),List.getElem?_eq_none (by omega)]
  rfl
theorem k8 {h:House} (I:Inv h) {c:Nat} {x:Copy} (C:cW h.hands h.doings c x):x.pool.length<=120:=by
 have h1:=pN C.nd fun m hm=>nZ (C.ex m hm)
 rw [nQ] at h1
 have ht:(h.doings.map fun l=>l.length).foldl (fun a b=>a+b) 0<=120:=I.tot
 rw [fv] at ht
 omega
def cZ (a b:List Nat):Bool:=(a.zip b).all fun x=>decide (x.1<=x.2)
theorem dw:∀ {a b:List Nat},a.length=b.length->(cZ a b=true↔∀ i,a.getD i 0<=b.getD i 0)
 | [],[],_=>by simp [cZ]
 | [],y::b,h=>by simp at h
 | x::a,[],h=>by simp at h
 | x::a,y::b,h=>by
  have ih:=dw (a:=a) (b:=b) (by simpa using h)
  have e:cZ (x::a) (y::b)=(decide (x<=y) && cZ a b):=rfl
  rw [e,Bool.and_eq_true,decide_eq_true_eq,ih]
  constructor
  ·rintro ⟨h1,h2⟩ i
   cases i with
   | zero=>exact h1
   | succ i=>exact h2 i
  ·intro h
   exact ⟨h 0,fun i=>h (i+1)⟩
theorem jz (a b:List Nat):atMost a b=(a.length == b.length && cZ a b):=rfl
theorem so {ds:Doings} {v:Known} {g:Nat} (h:0 < v.getD g 0) (hle:v.getD g 0<=bg ds g):∃ d,doingAt ds ⟨g,v.getD g 0 - 1⟩=some d:=
 kE (ds:=ds) (m:=⟨g,v.getD g 0 - 1⟩) (by show v.getD g 0 - 1 < bg ds g;omega)
theorem sW {n:Nat} {ds:Doings} (D:fB n ds) {v:Known} (hv:v.length=n) (hle:∀ g,v.getD g 0<=bg ds g):closed ds v=(List.range n).all fun g=>cZ (surely ds v g) v:=by
 have e1:(v.length == ds.length)=true:=by rw [hv,D.len];exact beq_self_eq_true n
 have e2:((ds.zip v).all fun x=>decide (x.2<=x.1.length))=true:=by
  rw [List.all_eq_true]
  intro x hx
  obtain ⟨i,hi⟩:=List.getElem?_of_mem hx
  obtain ⟨h1,h2⟩:=List.getElem?_zip_eq_some.mp hi
  have:=hle i
  unfold bg at this
  rw [dX h1,dX h2] at this
  exact decide_eq_true this
 unfold closed
 rw [e1,e2,Bool.true_and,Bool.true_and,Bool.eq_iff_iff,List.all_eq_true,List.all_eq_true]
 constructor
 ·intro h g hg
  rw [dw (by rw [c6 D hv (hle g),hv])]
  intro i
  by_cases h0:v.getD g 0=0
  ·rw [fM h0,ci];exact Nat.zero_le _
  ·obtain ⟨d,hd⟩:=so (by omega) (hle g)
   have hm:=h (⟨g,v.getD g 0 - 1⟩,d) (gl.mpr ⟨hd,by show v.getD g 0 - 1 < v.getD g 0;omega⟩)
   have hk:=(D.ok g _ d hd).klen
   rw [jz,Bool.and_eq_true,dw (by rw [hk,hv])] at hm
   rw [fz (by omega) (hle g) hd,cG]
   split
   ·rename_i q;rw [q.1];exact Nat.le_refl _
   ·exact hm.2 i
 ·intro h x hx
  obtain ⟨⟨g,k⟩,d⟩:=x
  obtain ⟨hd,hk⟩:=gl.mp hx
  simp only at hk
  have hgn:g < n:=fH D.len (List.getElem?_eq_some_iff.mp (show (ds.getD g [])[k]?=some d from hd)).1
  obtain ⟨e,he⟩:=so (v:=v) (g:=g) (by omega) (hle g)
  have hw:=h g (List.mem_range.mpr hgn)
  rw [dw (by rw [c6 D hv (hle g),hv]),fz (by omega) (hle g) he] at hw
  have hkd:=(D.ok g k d hd).klen
  show atMost d.knew v=true
  rw [jz,Bool.and_eq_true,dw (by rw [hkd,hv])]
  refine ⟨by rw [hkd,hv];exact beq_self_eq_true n,fun i=>?_⟩
  have h1:d.knew.getD i 0<=e.knew.getD i 0:=by
   rcases Nat.lt_or_ge k (v.getD g 0 - 1) with q | q
   ·exact (D.ok g _ e he).mono k d q hd i
   ·have:k=v.getD g 0 - 1:=by omega
    subst this
    rw [hd] at he
    cases he
    exact Nat.le_refl _
  have h2:=hw i
  rw [cG] at h2
  split at h2
  ·rename_i q
   rw [<- q.1] at h1 ⊢
   have:=(D.ok g _ e he).own
   omega
  ·omega
def stL (ds:Doings) (c:Nat) (v:Known) (m:Nat):List Nat:=(((List.range v.length).filter fun g=>g != c).map fun g=>(surely ds v g).getD m 0)++[v.getD m 0]
theorem r6:∀ {a b:List Nat},a.length=b.length->((a.zip b).map fun x=>min x.1 x.2).length=a.length/\∀ m,((a.zip b).map fun x=>min x.1 x.2).getD m 0=min (a.getD m 0) (b.getD m 0)
 | [],[],_=>by simp
 | [],y::b,h=>by simp at h
 | x::a,[],h=>by simp at h
 | x::a,y::b,h=>by
  have ih:=r6 (a:=a) (b:=b) (by simpa using h)
  refine ⟨by simpa using ih.1,fun m=>?_⟩
  cases m with
  | zero=>rfl
  | succ m=>exact ih.2 m
theorem fR {n:Nat} {S:Nat->List Nat} (c:Nat):∀ (gs:List Nat) (w:List Nat),w.length=n->(∀ g,g∈gs->(S g).length=n)->
  (gs.foldl (fun (w:Known) g=>if g=c then w else (w.zip (S g)).map fun x=>min x.1 x.2) w).length=n/\
  ∀ m,(gs.foldl (fun (w:Known) g=>if g=c then w else (w.zip (S g)).map fun x=>min x.1 x.2) w).getD m 0=((gs.filter fun g=>g != c).map fun g=>(S g).getD m 0).foldl min (w.getD m 0)
 | [],w,hw,_=>⟨hw,fun _=>rfl⟩
 | g::gs,w,hw,hs=>by
  have hg:=hs g (List.mem_cons_self ..)
  have hs':∀ g,g∈gs->(S g).length=n:=fun x hx=>hs x (List.mem_cons_of_mem _ hx)
  simp only [List.foldl_cons]
  by_cases e:g=c
  ·rw [if_pos e]
   have ih:=fR c gs w hw hs'
   refine ⟨ih.1,fun m=>?_⟩
   rw [ih.2 m,List.filter_cons]
   simp [e]
  ·rw [if_neg e]
   have z:=r6 (a:=w) (b:=S g) (by rw [hw,hg])
   have ih:=fR c gs ((w.zip (S g)).map fun x=>min x.1 x.2) (by rw [z.1,hw]) hs'
   refine ⟨ih.1,fun m=>?_⟩
   rw [ih.2 m,z.2 m,List.filter_cons]
   simp [e]
theorem i6:∀ (l:List Nat) (a:Nat),l.foldl min a<=a/\(∀ y,y∈l->l.foldl min a<=y)/\(l.foldl min a=a\/l.foldl min a∈l)
 | [],a=>⟨Nat.le_refl _,fun _ h=>(by cases h),Or.inl rfl⟩
 | x::l,a=>by
  obtain ⟨h1,h2,h3⟩:=i6 l (min a x)
  simp only [List.foldl_cons]
  refine ⟨by omega,fun y hy=>?_,?_⟩
  ·rcases List.mem_cons.mp hy with e | e
   ·subst e;omega
   ·exact h2 y e
  ·rcases h3 with h3 | h3
   ·rw [h3]
    rcases Nat.le_total a x with q | q
    ·rw [Nat.min_eq_left q];exact Or.inl rfl
    ·rw [Nat.min_eq_right q];exact Or.inr (List.mem_cons_self ..)
   ·exact Or.inr (List.mem_cons_of_mem _ h3)
theorem kZ {n:Nat} {ds:Doings} (D:fB n ds) {v:Known} (hv:v.length=n) (hle:∀ g,v.getD g 0<=bg ds g) (c:Nat):(stable ds c v).length=n:=
 (fR c (List.range v.length) v hv fun g _=>c6 D hv (hle g)).1
theorem rg {n:Nat} {ds:Doings} (D:fB n ds) {v:Known} (hv:v.length=n) (hle:∀ g,v.getD g 0<=bg ds g) {c m x:Nat} (h1:x∈stL ds c v m) (h2:∀ y,y∈stL ds c v m->x<=y):(stable ds c v).getD m 0=x:=by
 have e:=(fR c (List.range v.length) v hv fun g _=>c6 D hv (hle g)).2 m
 show ((List.range v.length).foldl _ v).getD m 0=x
 rw [e]
 obtain ⟨g1,g2,g3⟩:=i6 (((List.range v.length).filter fun g=>g != c).map fun g=>(surely ds v g).getD m 0) (v.getD m 0)
 apply Nat.le_antisymm
 ·rcases List.mem_append.mp h1 with h | h
  ·exact g2 x h
  ·rw [List.mem_singleton] at h
   rw [h]
   exact g1
 ·rcases g3 with h | h
  ·rw [h];exact h2 _ (List.mem_append_right _ (List.mem_singleton_self _))
  ·exact h2 _ (List.mem_append_left _ h)
def pR (l:List Doing) (c k:Nat):Option (Name×Doing):=l[k]?.bind fun d=>if d.what = .sign then some (({ by_:=c,k:=k }:Name),d) else none
def hU (ds:Doings) (v:Known) (c:Nat):List (Name×Doing):=(List.range (v.getD c 0)).filterMap (pR (own ds v c) c)
theorem d8 {α β:Type} (p:β->Bool) (f:α->β):∀ l:List α,(l.map f).filter p=l.filterMap fun a=>if p (f a)=true then some (f a) else none
 | []=>rfl
 | x::l=>by
  rw [List.map_cons,List.filter_cons,List.filterMap_cons,d8 p f l]
  split <;> simp_all
theorem yq {ds:Doings} {v:Known} {c:Nat} (h:v.getD c 0<=bg ds c):(own ds v c).length=v.getD c 0:=by
 unfold own
 rw [List.length_take]
 unfold bg at h
 omega
theorem lA {ds:Doings} {v:Known} (hv:∀ g,v.getD g 0<=bg ds g):signsOf ds v=(List.range ds.length).flatMap (hU ds v):=by
 unfold signsOf all
 rw [List.filter_flatMap,e7 _ []]
 congr 1
 funext c
 simp only
 rw [d8,gf]
 have e:((ds.getD c []).take (v.getD c 0)).length=v.getD c 0:=yq (hv c)
 unfold hU
 rw [e]
 congr 1
 funext k
 unfold pR own
 cases h:((ds.getD c []).take (v.getD c 0))[k]? with
 | none=>rfl
 | some d=>simp
def gM (ds:Doings) (v:Known) (i:Nat):List (Name×Doing):=(List.range i).flatMap (hU ds v)
theorem jU (ds:Doings) (v:Known) (i:Nat):gM ds v (i+1)=gM ds v i++hU ds v i:=by
 unfold gM
 rw [List.range_succ,List.flatMap_append]
 simp
theorem lu (ds:Doings) (v:Known) (c:Nat):(hU ds v c).length<=v.getD c 0:=by
 unfold hU
 refine Nat.le_trans (List.length_filterMap_le _ _) ?_
 simp
theorem iK (ds:Doings) (v:Known) {m:Nat} (hm:∀ g,v.getD g 0<=m):∀ i,(gM ds v i).length<=i * m
 | 0=>by simp [gM]
 | i+1=>by
  rw [jU,List.length_append,Nat.succ_mul]
  have h1:=iK ds v hm i
  have h2:=lu ds v i
  have h3:=hm i
  omega
theorem ig {ds:Doings} {v:Known} {m:Name} {d:Doing}:(m,d)∈signsOf ds v↔doingAt ds m=some d/\m.k < v.getD m.by_ 0/\d.what = .sign:=by
 unfold signsOf
 rw [List.mem_filter,gl]
 simp [and_assoc]
theorem j8 {ds:Doings} {v:Known} {m:Name} {d:Doing} (hd:doingAt ds m=some d) (hk:m.k < v.getD m.by_ 0) (hs:d.what = .sign):(signsOf ds v).find? (fun x=>x.1 == m)=some (m,d):=by
 cases e:(signsOf ds v).find? (fun x=>x.1 == m) with
 | none=>
  have:=List.find?_eq_none.mp e (m,d) (ig.mpr ⟨hd,hk,hs⟩)
  simp at this
 | some x=>
  obtain ⟨n,f⟩:=x
  have h1:=List.find?_some e
  have h2:=ig.mp (List.mem_of_find?_eq_some e)
  simp only [beq_iff_eq] at h1
  subst h1
  rw [hd] at h2
  cases h2.1
  rfl
theorem gE {ds:Doings} {v:Known} {m:Name} (h:∀ d,doingAt ds m=some d->m.k < v.getD m.by_ 0->d.what≠ .sign):(signsOf ds v).find? (fun x=>x.1 == m)=none:=by
 rw [List.find?_eq_none]
 rintro ⟨n,d⟩ hx e
 simp only [beq_iff_eq] at e
 subst e
 obtain ⟨h1,h2,h3⟩:=ig.mp hx
 exact h d h1 h2 h3
theorem jP {x y:Mark}:markRow x=markRow y↔x.name=y.name/\x.a=y.a/\x.b=y.b/\x.x=y.x:=by
 unfold markRow nums
 obtain ⟨⟨p,q⟩,a,b,z,_,_⟩:=x
 obtain ⟨⟨p',q'⟩,a',b',z',_,_⟩:=y
 simp only [List.map_cons,List.map_nil,List.cons.injEq,and_true,Name.mk.injEq]
 constructor
 ·rintro ⟨h1,h2,h3,h4,h5⟩
  refine ⟨⟨by omega,by omega⟩,by omega,by omega,by omega⟩
 ·rintro ⟨⟨rfl,rfl⟩,rfl,rfl,rfl⟩
  exact ⟨rfl,rfl,rfl,rfl,rfl⟩
theorem uj (l m:List Mark):unlike l m=l.filter fun x=>!decide (markRow x∈m.map markRow):=by
 unfold unlike
 congr 1
 funext x
 congr 1
 rw [Bool.eq_iff_iff,List.any_eq_true,decide_eq_true_eq,List.mem_map]
 constructor
 ·rintro ⟨y,h1,h2⟩
  simp only [Bool.and_eq_true,beq_iff_eq] at h2
  exact ⟨y,h1,jP.mpr h2⟩
 ·rintro ⟨y,h1,h2⟩
  refine ⟨y,h1,?_⟩
  simp only [Bool.and_eq_true,beq_iff_eq]
  exact jP.mp h2
def ovP (m x:Mark):Bool:=x.x == m.x && (decide (m.a < x.b) && decide (x.a < m.b))
def rG (l:List Mark) (i:Nat):List (Mark×Mark):=match l[i]? with
 | some m=>((l.drop (i+1)).filter (ovP m)).map fun x=>(m,x)
 | none=>[]
theorem fU:∀ l:List Mark,overlaps l=(List.range l.length).flatMap (rG l)
 | []=>rfl
 | m::l=>by
  unfold overlaps
  rw [fU l,List.length_cons,List.range_succ_eq_map,List.flatMap_cons,List.flatMap_map]
  rfl
def jB (l:List Mark) (i:Nat):List (Mark×Mark):=(List.range i).flatMap (rG l)
theorem j0 (l:List Mark) (i:Nat):jB l (i+1)=jB l i++rG l i:=by
 unfold jB
 rw [List.range_succ,List.flatMap_append]
 simp
theorem pC (l:List Mark) (i:Nat):(rG l i).length<=l.length:=by
 unfold rG
 split
 ·rw [List.length_map]
  refine Nat.le_trans (List.length_filter_le _ _) ?_
  rw [List.length_drop]
  omega
 ·exact Nat.zero_le _
theorem iT (l:List Mark):∀ i,(jB l i).length<=i * l.length
 | 0=>by simp [jB]
 | i+1=>by
  rw [j0,List.length_append,Nat.succ_mul]
  have h1:=iT l i
  have h2:=pC l i
  omega
theorem oN {n:Nat} {ds:Doings} (D:fB n ds) {v:Known} {m:Name} {x:Mark} (h:markOf (counting ds v) m=some x):x.a < x.b:=by
 unfold markOf at h
 split at h
 ·cases h
 ·split at h
  ·rename_i s t hs ht
   split at h
   ·rename_i p y hp hy
    cases h
    have hm:=(List.mem_filter.mp (iS hs)).1
    have hd:=(jq.mp (show (s.1,s.2)∈_ from hm)).1
    have hS:=(D.ok s.1.by_ s.1.k s.2 hd).span
    show p.1 < p.2
    unfold spanOf at hp
    split at hp
    ·rename_i e
     rw [e] at hS
     split at hp
     ·cases hp;exact hS
     ·cases hp
    ·rename_i e
     rw [e] at hS
     split at hp
     ·cases hp;exact hS
     ·cases hp
    ·cases hp
   ·cases h
  ·cases h
theorem ic (ds:Doings) (v:Known):(view ds v).Perm ((counting ds v).filterMap fun d=>if isPut d.2.what=true then markOf (counting ds v) d.1 else none):=by
 unfold view
 refine (ia ?_).1
 rw [List.pairwise_filterMap]
 refine (fL ds v).imp fun {a b} h x hx y hy=>?_
 split at hx
 ·split at hy
  ·rw [dg hx,dg hy]
   exact nW h
  ·cases hy
 ·cases hx
theorem tz {n:Nat} {ds:Doings} (D:fB n ds) {v:Known} {x:Mark} (h:x∈view ds v):x.a < x.b:=by
 obtain ⟨d,_,h2⟩:=List.mem_filterMap.mp ((ic ds v).mem_iff.mp h)
 split at h2
 ·exact oN D h2
 ·cases h2
theorem yc {m x:Mark} (hm:m.a < m.b) (hx:x.a < x.b):ovP m x=(decide (m.x=x.x) && decide (max m.a x.a < min m.b x.b)):=by
 unfold ovP
 rw [Bool.eq_iff_iff]
 simp only [Bool.and_eq_true,beq_iff_eq,decide_eq_true_eq]
 omega
def bD (L:List (Name×Doing)):List Name:=(L.filter fun d=>isPut d.2.what).map (·.1)
structure Fm where
 name:Name
 s:Name×Doing
 t:Name×Doing
def iD (L:List (Name×Doing)) (m:Name):Option Fm:=if cK L m=true then none else
 match cj L m,b0 L m with
 | some s,some t=>some ⟨m,s,t⟩
 | _,_=>none
def cE (L:List (Name×Doing)):List Fm:=(bD L).filterMap (iD L)
def Fm.mark (f:Fm):Mark:=
 let p:=(spanOf f.s.1 f.name f.s.2.what).getD (0,0)
 { name:=f.name,a:=p.1,b:=p.2,x:=(labelOf f.t.1 f.name f.t.2.what).getD 0,spanBy:=f.s.1,labelBy:=f.t.1 }
structure Fm.Ok (f:Fm):Prop where
 s:(spanOf f.s.1 f.name f.s.2.what).isSome=true
 t:(labelOf f.t.1 f.name f.t.2.what).isSome=true
theorem j1 {L:List (Name×Doing)} {m:Name} {s:Name×Doing} (h:cj L m=some s):s∈L/\(spanOf s.1 m s.2.what).isSome=true:=
 List.mem_filter.mp (List.mem_of_getLast? h)
theorem jr {L:List (Name×Doing)} {m:Name} {s:Name×Doing} (h:b0 L m=some s):s∈L/\(labelOf s.1 m s.2.what).isSome=true:=
 List.mem_filter.mp (List.mem_of_getLast? h)
theorem mU {L:List (Name×Doing)} {m:Name} {f:Fm} (h:iD L m=some f):f.name=m/\f.Ok/\cj L m=some f.s/\b0 L m=some f.t:=by
 unfold iD at h
 split at h
 ·cases h
 ·split at h
  ·rename_i s t hs ht
   cases h
   exact ⟨rfl,⟨(j1 hs).2,(jr ht).2⟩,hs,ht⟩
  ·cases h
theorem tP {ds:Doings} {v:Known} {L:List (Name×Doing)} (E:i0 ds v L) (m:Name):(iD L m).map Fm.mark=markOf (counting ds v) m:=by
 rw [oI E]
 unfold iD
 split
 ·rfl
 ·cases hs:cj L m with
  | none=>simp
  | some s=>
   cases ht:b0 L m with
   | none=>simp
   | some t=>
    have h1:=(j1 hs).2
    have h2:=(jr ht).2
    obtain ⟨p,hp⟩:=Option.isSome_iff_exists.mp h1
    obtain ⟨x,hx⟩:=Option.isSome_iff_exists.mp h2
    simp only [Option.map_some,Fm.mark,hp,hx,Option.getD_some]
theorem cP {α β γ:Type} (p:α->Bool) (g:α->β) (f:β->Option γ):∀ l:List α,((l.filter p).map g).filterMap f=l.filterMap fun a=>if p a=true then f (g a) else none
 | []=>rfl
 | x::l=>by
  rw [List.filter_cons,List.filterMap_cons]
  by_cases h:p x=true
  ·rw [if_pos h,if_pos h,List.map_cons,List.filterMap_cons,cP p g f l]
  ·rw [if_neg h,if_neg h,cP p g f l]
theorem mX {ds:Doings} {v:Known} {L:List (Name×Doing)} (E:i0 ds v L):(cE L).map Fm.mark=L.filterMap fun d=>if isPut d.2.what=true then markOf (counting ds v) d.1 else none:=by
 unfold cE bD
 rw [cP,List.map_filterMap]
 congr 1
 funext d
 split
 ·exact tP E d.1
 ·rfl
theorem iR {ds:Doings} {v:Known} {L:List (Name×Doing)} (E:i0 ds v L):(view ds v).Perm ((cE L).map Fm.mark):=by
 rw [mX E]
 exact (ic ds v).trans (E.perm.symm.filterMap _)
theorem lj (ds:Doings) (v:Known):(view ds v).Pairwise fun a b=>a.name≠b.name:=by
 refine List.Perm.pairwise (ic ds v).symm ?_ fun {a b} h e=>h e.symm
 rw [List.pairwise_filterMap]
 refine (fL ds v).imp fun {a b} h x hx y hy=>?_
 split at hx
 ·split at hy
  ·rw [dg hx,dg hy]
   exact nW h
  ·cases hy
 ·cases hx
theorem tS:∀ {l:List Mark} {m:Name} {x:Mark},l.Pairwise (fun a b=>a.name≠b.name)->x∈l->x.name=m->l.find? (fun y=>y.name == m)=some x:=by
 intro l m x hp hx hm
 cases e:l.find? (fun y=>y.name == m) with
 | none=>
  have:=List.find?_eq_none.mp e x hx
  simp [hm] at this
 | some y=>
  have h1:=List.find?_some e
  have h2:=List.mem_of_find?_eq_some e
  simp only [beq_iff_eq] at h1
  by_cases q:y=x
  ·rw [q]
  ·exfalso
   have h3:∀ a,a∈l->∀ b,b∈l->a.name=b.name->a=b:=by
    intro a ha b hb hab
    clear e h1 h2 q y hm hx x
    induction l with
    | nil=>cases ha
    | cons z l ih=>
     obtain ⟨p1,p2⟩:=List.pairwise_cons.mp hp
     rcases List.mem_cons.mp ha with ha' | ha' <;> rcases List.mem_cons.mp hb with hb' | hb'
     ·rw [ha',hb']
     ·rw [ha'] at hab;exact absurd hab (p1 b hb')
     ·rw [hb'] at hab;exact absurd hab.symm (p1 a ha')
     ·exact ih p2 ha' hb'
   exact q (h3 y h2 x hx (by rw [h1,hm]))
theorem ng {ds:Doings} {v:Known} {L:List (Name×Doing)} (E:i0 ds v L) (m:Name):(view ds v).find? (fun y=>y.name == m)=((cE L).find? fun f=>decide (f.name=m)).map Fm.mark:=by
 cases e:(cE L).find? fun f=>decide (f.name=m) with
 | none=>
  rw [Option.map_none,List.find?_eq_none]
  intro x hx h
  simp only [beq_iff_eq] at h
  obtain ⟨f,hf,rfl⟩:=List.mem_map.mp ((iR E).mem_iff.mp hx)
  have:=List.find?_eq_none.mp e f hf
  exact this (decide_eq_true h)
 | some f=>
  have h1:f.name=m:=by have:=List.find?_some e;exact of_decide_eq_true this
  have h2:=List.mem_of_find?_eq_some e
  exact tS (lj ds v) ((iR E).mem_iff.mpr (List.mem_map.mpr ⟨f,h2,rfl⟩)) h1
theorem o7 (l:List Mark) (m:Name):(l.any fun x=>x.name == m)=(l.find? fun x=>x.name == m).isSome:=by
 rw [Bool.eq_iff_iff,List.any_eq_true,List.find?_isSome]
theorem xf {ds:Doings} {v:Known} {L:List (Name×Doing)} (E:i0 ds v L) {out:List Mark} (p:out.Perm ((cE L).map Fm.mark)) (s:out.Pairwise fun a b=>before a b=true):out=view ds v:=
 tV E.perm (by rw [<- mX E];exact p) s
theorem xq {L:List (Name×Doing)} {m:Name} (h:m∈bD L):∃ s t,cj L m=some s/\b0 L m=some t:=by
 obtain ⟨d,hd,rfl⟩:=List.mem_map.mp h
 obtain ⟨h1,h2⟩:=List.mem_filter.mp hd
 have hx:∃ a b x,d.2.what = .put a b x:=by
  cases e:d.2.what with
  | put a b x=>exact ⟨a,b,x,rfl⟩
  | move=>rw [e] at h2;cases h2
  | label=>rw [e] at h2;cases h2
  | drop=>rw [e] at h2;cases h2
  | back=>rw [e] at h2;cases h2
  | sign=>rw [e] at h2;cases h2
  | hello=>rw [e] at h2;cases h2
 obtain ⟨a,b,x,hx⟩:=hx
 have m1:d∈L.filter fun y=>(spanOf y.1 d.1 y.2.what).isSome:=List.mem_filter.mpr ⟨h1,by rw [hx];simp [spanOf]⟩
 have m2:d∈L.filter fun y=>(labelOf y.1 d.1 y.2.what).isSome:=List.mem_filter.mpr ⟨h1,by rw [hx];simp [labelOf]⟩
 refine ⟨_,_,List.getLast?_eq_some_getLast (List.ne_nil_of_mem m1),List.getLast?_eq_some_getLast (List.ne_nil_of_mem m2)⟩
theorem iA (L:List (Name×Doing)) (d:Name×Doing) (m:Name):cj (L++[d]) m=if (spanOf d.1 m d.2.what).isSome=true then some d else cj L m:=by
 unfold cj
 rw [List.filter_append]
 by_cases h:(spanOf d.1 m d.2.what).isSome=true
 ·rw [if_pos h,List.filter_cons,if_pos h]
  simp
 ·rw [if_neg h,List.filter_cons,if_neg h]
  simp
theorem hG (L:List (Name×Doing)) (d:Name×Doing) (m:Name):b0 (L++[d]) m=if (labelOf d.1 m d.2.what).isSome=true then some d else b0 L m:=by
 unfold b0
 rw [List.filter_append]
 by_cases h:(labelOf d.1 m d.2.what).isSome=true
 ·rw [if_pos h,List.filter_cons,if_pos h]
  simp
 ·rw [if_neg h,List.filter_cons,if_neg h]
  simp
theorem jl (L:List (Name×Doing)) (d:Name×Doing) (m:Name):cK (L++[d]) m=(cK L m || d.2.what == .drop m):=by
 unfold cK
 rw [List.any_append]
 simp
theorem iy (L:List (Name×Doing)) (d:Name×Doing):bD (L++[d])=if isPut d.2.what=true then bD L++[d.1] else bD L:=by
 unfold bD
 rw [List.filter_append,List.filter_cons]
 split <;> simp
theorem jm {L:List (Name×Doing)} {d:Name×Doing} {n:Name} (h:∀ m,(spanOf d.1 m d.2.what).isSome=true↔m=n) (m:Name):cj (L++[d]) m=if m=n then some d else cj L m:=by
 rw [iA]
 by_cases e:m=n
 ·rw [if_pos e,if_pos ((h m).mpr e)]
 ·rw [if_neg e,if_neg (fun z=>e ((h m).mp z))]
theorem ir {L:List (Name×Doing)} {d:Name×Doing} {n:Name} (h:∀ m,(labelOf d.1 m d.2.what).isSome=true↔m=n) (m:Name):b0 (L++[d]) m=if m=n then some d else b0 L m:=by
 rw [hG]
 by_cases e:m=n
 ·rw [if_pos e,if_pos ((h m).mpr e)]
 ·rw [if_neg e,if_neg (fun z=>e ((h m).mp z))]
theorem ee {L:List (Name×Doing)} {d:Name×Doing} (h:∀ m,spanOf d.1 m d.2.what=none) (m:Name):cj (L++[d]) m=cj L m:=by
 rw [iA,h m]
 rfl
theorem dN {L:List (Name×Doing)} {d:Name×Doing} (h:∀ m,labelOf d.1 m d.2.what=none) (m:Name):b0 (L++[d]) m=b0 L m:=by
 rw [hG,h m]
 rfl
theorem vq {d:Name×Doing} {a b x:Nat} (h:d.2.what = .put a b x) (m:Name):(spanOf d.1 m d.2.what).isSome=true↔m=d.1:=by
 rw [h]
 simp only [spanOf]
 by_cases e:d.1=m
 ·simp [e]
 ·simp [e]
  exact fun z=>e z.symm
theorem tJ {d:Name×Doing} {a b x:Nat} (h:d.2.what = .put a b x) (m:Name):(labelOf d.1 m d.2.what).isSome=true↔m=d.1:=by
 rw [h]
 simp only [labelOf]
 by_cases e:d.1=m
 ·simp [e]
 ·simp [e]
  exact fun z=>e z.symm
theorem ux {d:Name×Doing} {n:Name} {a b:Nat} (h:d.2.what = .move n a b) (m:Name):(spanOf d.1 m d.2.what).isSome=true↔m=n:=by
 rw [h]
 simp only [spanOf]
 by_cases e:n=m
 ·simp [e]
 ·simp [e]
  exact fun z=>e z.symm
theorem pP {d:Name×Doing} {n:Name} {x:Nat} (h:d.2.what = .label n x) (m:Name):(labelOf d.1 m d.2.what).isSome=true↔m=n:=by
 rw [h]
 simp only [labelOf]
 by_cases e:n=m
 ·simp [e]
 ·simp [e]
  exact fun z=>e z.symm
theorem oo {L:List (Name×Doing)} {d:Name×Doing} {n:Name} (h:d.2.what = .drop n) (m:Name):cK (L++[d]) m=if m=n then true else cK L m:=by
 rw [jl,h]
 by_cases e:m=n
 ·rw [if_pos e,e];simp
 ·rw [if_neg e]
  have:((What.drop n == What.drop m)=false):=by
   rw [beq_eq_false_iff_ne]
   intro z
   injection z with z
   exact e z.symm
  rw [this,Bool.or_false]
theorem dW {L:List (Name×Doing)} {d:Name×Doing} (h:∀ m,d.2.what≠ .drop m) (m:Name):cK (L++[d]) m=cK L m:=by
 rw [jl]
 have:((d.2.what == What.drop m)=false):=by
  rw [beq_eq_false_iff_ne]
  exact h m
 rw [this,Bool.or_false]
theorem nL {L:List (Name×Doing)} {d:Name×Doing} {a b x:Nat} (h:d.2.what = .put a b x):bD (L++[d])=bD L++[d.1]:=by
 rw [iy,h]
 rfl
theorem dv {L:List (Name×Doing)} {d:Name×Doing} (h:isPut d.2.what=false):bD (L++[d])=bD L:=by
 rw [iy,h]
 rfl
theorem gA (L:List (Name×Doing)):(bD L).length<=L.length:=by
 unfold bD
 rw [List.length_map]
 exact List.length_filter_le _ _
theorem gw {n:Nat} {ds:Doings} (D:fB n ds) {v:Known} (hv:∀ g,v.getD g 0<=bg ds g) (h120:∀ g,v.getD g 0<=120) (h5:n<=5):(counting ds v).length<=600:=by
 rw [iz hv]
 have:=g7 ds v h120 ds.length
 rw [D.len] at this
 have e:fK ds v n=(List.range ds.length).flatMap (fO ds v):=by unfold fK;rw [D.len]
 rw [<- e]
 omega
end NH
namespace L2
open PySem PySem.Spec PyProof.Rows PyProof.Rows.G
section
variable {prog:Program} {w:World} {A:Around} {E:Value->Shared->Prop} {s:Shared}
abbrev eX:Nat->Bool:=fun _=>false
theorem pO {st:SortSt} {a kS:Addr} {kA:Array Value} {vs:List Value} {e e1:Nat} {P:PySem.Fin->Shared->Prop}
  (nk:s.heap.get? kS=some (seqObj "list" kA e)) (na:s.heap.get? a=some (seqObj "list" #[] e1)) (hka:kS≠a) (hsz:kA.size=vs.length) (hL:vs.length<=sizeLine)
  (hp:(arrOf st).Perm (kA.zip vs.toArray)) (hfl:failedOf st=none)
  (h:∀ h' c,h'.get? a=some (seqObj "list" ((arrOf st).map (·.2)) c)->(∀ b o,b≠a->b≠kS->s.heap.get? b=some o->h'.get? b=some o)->P (.done (.ret .none)) { s with heap:=h' }) :
  wpAny (model prog w) A (ksk_tail a false e1 (.ref kS) st) P E s:=by
 have hsz2:(arrOf st).size=vs.length:=by rw [hp.size_eq,Array.size_zip,hsz,List.size_toArray,Nat.min_self]
 have hout:((arrOf st).map (·.2)).size=vs.length:=by rw [Array.size_map];exact hsz2
 have s1:=Heap.SameBut.update s.heap kS (Obj.mapSeq fun _=>(#[]:Array Value))
 have na1:(s.heap.update kS (Obj.mapSeq fun _=>(#[]:Array Value))).get? a=some (seqObj "list" #[] e1):=(s1.2 a hka.symm).trans na
 have s2:=Heap.SameBut.update (s.heap.update kS (Obj.mapSeq fun _=>(#[]:Array Value))) a (Obj.mapSeq fun _=>(arrOf st).map (·.2))
 obtain ⟨c2,hc2⟩:∃ c2,((s.heap.update kS (Obj.mapSeq fun _=>(#[]:Array Value))).update a (Obj.mapSeq fun _=>(arrOf st).map (·.2))).get? a=some (seqObj "list" ((arrOf st).map (·.2)) c2):=
  ⟨_,get?_update_seq na1 fun _=>(arrOf st).map (·.2)⟩
 unfold ksk_tail
 try dsimp only
 refine wpAny_bind (listUpdate_at nk rfl ?_ (by rw [hsz];exact hL) (Nat.zero_le _))
 refine wpAny_bind (wpAny_letGo ?_)
 refine wpAny_bind (seqEpoch_at na1 rfl ?_)
 refine wpAny_bind (listUpdate_at na1 rfl ?_ (Nat.zero_le _) (by simp only [Bool.false_eq_true,if_false];exact Nat.le_succ_of_le (Nat.le_trans (Nat.le_of_eq hout) hL)))
 rw [hfl]
 simp only [bne_self_eq_false,Bool.false_eq_true,if_false]
 refine wpAny_pure (h _ c2 hc2 fun b o hb hb2 q=>?_)
 exact (s2.2 b hb).trans ((s1.2 b hb2).trans q)
theorem xz {a kS:Addr} {kA:Array Value} {vs fs:List Value} {e e1:Nat} {P:PySem.Fin->Shared->Prop}
  (nk:s.heap.get? kS=some (seqObj "list" kA e)) (na:s.heap.get? a=some (seqObj "list" #[] e1)) (hka:kS≠a) (hsz:kA.size=vs.length) (hL:vs.length<=sizeLine)
  (ht:TupsOf s.heap eX kA.toList fs) (hkeys:∀ v,v∈kA.toList->∃ l,tupKeyC s.heap eX v=some l)
  (h:∀ h' c (xs:Array Keyed),xs.Perm (kA.zip vs.toArray)->SortedToK (tupKindC s.heap eX) xs xs.size->h'.get? a=some (seqObj "list" (xs.map (·.2)) c)->(∀ b o,b≠a->b≠kS->s.heap.get? b=some o->h'.get? b=some o)->P (.done (.ret .none)) { s with heap:=h' }) :
  wpAny (model prog w) A (ksk_end a false vs.toArray e1 (.ref kS) kA) P E s:=by
 have hzs:(kA.zip vs.toArray).size=vs.length:=by rw [Array.size_zip,hsz,List.size_toArray,Nat.min_self]
 have hK:KeysOf (tupKindC s.heap eX) (kA.zip vs.toArray):=by
  intro p hp
  rw [ksk_zip] at hp
  exact hkeys p.1 (List.of_mem_zip hp).1
 unfold ksk_end
 try dsimp only
 rw [if_neg Bool.false_ne_true,if_neg Bool.false_ne_true]
 by_cases h2:vs.toArray.size < 2
 ·rw [if_pos h2,if_pos h2]
  refine wpAny_bind (wpAny_pure ?_)
  rw [StateT.run_pure]
  refine wpAny_bind (wpAny_pure ?_)
  try dsimp only
  refine pO (st:=SortSt.mk' general' (kA.zip vs.toArray) #[] 7 none) nk na hka hsz hL (Array.Perm.refl _) rfl fun h' c q1 q2=>h h' c (kA.zip vs.toArray) (Array.Perm.refl _) ?_ q1 q2
  intro i j hij hj
  rw [hzs] at hj
  rw [List.size_toArray] at h2
  have:i=j:=by omega
  subst this
  exact KeyOrd.kle_refl _
 ·rw [if_neg h2,if_neg h2]
  rw [List.size_toArray] at h2
  have hkk:kA=kA.toList.toArray:=by simp
  rw [hkk]
  refine wpAny_bind (tup_kind (by rw [TupsOf.length ht,Array.length_toList];omega) ht ?_)
  rw [<- hkk]
  refine wpAny_bind (wpAny_mono (wpS_sortRunsSt (κ:=tupKindC s.heap eX) (kd:=tuples' true) (a₀:=kA.zip vs.toArray) (st:=SortSt.mk' (tuples' true) (kA.zip vs.toArray) #[] 7 none)
   (Q:=fun _ st'=>(arrOf st').Perm (kA.zip vs.toArray)/\failedOf st'=none/\SortedToK (tupKindC s.heap eX) (arrOf st') (kA.zip vs.toArray).size)
   (tupC_ltAt true (KeepsTups.refl _)) hK ⟨Array.Perm.refl _,rfl,rfl⟩ rfl (Stable.refl _) (by rw [hzs];omega) fun st' a1 a2 a3 _=>⟨a1,a2,a3⟩) ?_ fun _ _ e=>e)
  rintro ⟨⟨⟩,st'⟩ s' ⟨rfl,hp,hf,hs⟩
  try dsimp only
  exact pO nk na hka hsz hL hp hf fun h' c q1 q2=>h h' c (arrOf st') hp (by rw [hp.size_eq];exact hs) q1 q2
end
end L2
namespace L2
open PySem PySem.Spec PyProof.Rows PyProof.Rows.G
section
variable {X:Cx} {pins:List (Addr×Obj)} {σ:St} {H:Hp} {s:Shared}
theorem xR {k:Nat} {f:Addr} {fd:FuncData} {ps:List Str} {sp:Sp} {Q:VK} {us:List Value} {vs:List V} (F:az X.prog X.w X.K X.mg X.base CX0 k f fd ps sp) (hr:bP (k+2) X.A) (hb:aG X.K fd ps [])
  (I:Inv X pins σ H s) (r:aI vs us) (h:sp vs H Q E0):wpAny (model X.prog X.w) X.A.in1.in1 (call (.ref f) us) (EP X pins σ Q) (fun _ _=>False) s:=by
 have hl:(us++[]).length=ps.length:=by rw [List.append_nil,<- r.length];exact F.len _ _ _ _ h
 have hbb:=hb s us I.kIn hl
 rw [List.append_nil] at hbb
 refine wpAny_call (codeAny_mono (F.run X.A.in1.in1 X.stack s H ⟨us,[]⟩ us vs Q E0 hr.in1.in1 I.env0.in1.in1 hbb r h) fun r s' hq=>?_)
 cases r with
 | error e=>exact hq.elim
 | ok fl=>
  cases fl with
  | ret u=>exact I.after hq
  | next=>exact False.elim hq
  | brk=>exact False.elim hq
  | cont=>exact False.elim hq
theorem yk {h:Heap} {p:Addr} {ns:List Int} {its:List Value} (hv:aI (ns.map V.int) its) (ht:IsTup h p its.toArray):tupKeyC h eX (.ref p)=some (ns.map Sum.inl):=by
 obtain ⟨o,ho,hc,n,hd⟩:=ht
 have e1:isTupObj h (.ref p)=true:=by
  simp only [isTupObj,ho,hc]
  rfl
 unfold tupKeyC
 rw [if_pos e1]
 simp only [tupKey,ho,hd]
 have:∀ (ns:List Int) (its:List Value) (i:Nat),aI (ns.map V.int) its->tupItems eX i its=some (ns.map Sum.inl):=by
  intro ns
  induction ns with
  | nil=>
   intro its i hv
   cases hv
   rfl
  | cons n ns ih=>
   intro its i hv
   cases hv with
   | cons r t=>
    obtain ⟨tk,rfl⟩:=r
    have:=ih _ (i+1) t
    simp [tupItems,this]
 simpa using this ns its 0 hv
theorem AX {h:Heap} {p:Addr} {n:Int} {ns:List Int} {its:List Value} (hv:aI ((n::ns).map V.int) its) (ht:IsTup h p its.toArray):∃ f,TupOf h eX (.ref p) f:=by
 obtain ⟨o,ho,hc,k,hd⟩:=ht
 cases hv with
 | cons r t=>
  obtain ⟨tk,rfl⟩:=r
  exact ⟨_,p,o,_,k,rfl,ho,hc,hd,rfl,fun _=>⟨n,tk,rfl⟩,fun z=>by cases z⟩
inductive eG (H:Hp):List Value->List (List Int)->Prop
 | nil:eG H [] []
 | cons {p:Addr} {n:Int} {ns:List Int} {us:List Value} {ks:List (List Int)}:H p=some (.tup ((n::ns).map V.int))->eG H us ks->eG H (.ref p::us) ((n::ns)::ks)
theorem eG.same {H H':Hp} (h:ay H H'):∀ {us:List Value} {ks:List (List Int)},eG H us ks->eG H' us ks
 | _,_,.nil=> .nil
 | _,_,.cons e t=> .cons (h _ _ e) (eG.same h t)
theorem eG.snoc {H:Hp} {p:Addr} {n:Int} {ns:List Int} (e:H p=some (.tup ((n::ns).map V.int))):∀ {us:List Value} {ks:List (List Int)},eG H us ks->eG H (us++[.ref p]) (ks++[n::ns])
 | _,_,.nil=> .cons e .nil
 | _,_,.cons e' t=> .cons e' (eG.snoc e t)
theorem eG.length {H:Hp}:∀ {us:List Value} {ks:List (List Int)},eG H us ks->us.length=ks.length
 | _,_,.nil=>rfl
 | _,_,.cons _ t=>by rw [List.length_cons,List.length_cons,eG.length t]
theorem eG.tups (I:Inv X pins σ H s):∀ {us:List Value} {ks:List (List Int)},eG H us ks->∃ fs,TupsOf s.heap eX us fs
 | _,_,.nil=>⟨[],.nil⟩
 | _,_,.cons e t=>by
  obtain ⟨fs,h1⟩:=eG.tups I t
  obtain ⟨its,hv,ht,_⟩:=I.tuple (SqT.of e)
  obtain ⟨f,h2⟩:=AX hv ht
  exact ⟨f::fs,.cons h2 h1⟩
theorem eG.at (I:Inv X pins σ H s):∀ {us:List Value} {ks:List (List Int)} {i:Nat} {u:Value},eG H us ks->us[i]?=some u->∃ k,ks[i]?=some k/\tupKeyC s.heap eX u=some (k.map Sum.inl)
 | _,_,_,_,.nil,e=>by simp at e
 | _,_,0,_,.cons e t,h=>by
  simp at h
  subst h
  obtain ⟨its,hv,ht,_⟩:=I.tuple (SqT.of e)
  exact ⟨_,rfl,yk hv ht⟩
 | _,_,i+1,u,.cons e t,h=>by
  obtain ⟨k,h1,h2⟩:=eG.at I (i:=i) (u:=u) t (by simpa using h)
  exact ⟨k,by simpa using h1,h2⟩
def k9 (a b:List Int):Prop:=PyProof.Rows.lexLt itemOrd (b.map Sum.inl) (a.map Sum.inl)=false
def iC (ks:List (List Int)) (xs ys:List V):Prop:=∃ ps:List (List Int×V),ps.Perm (ks.zip xs)/\ys=ps.map (·.2)/\ps.Pairwise fun p q=>k9 p.1 q.1
end
end L2
namespace L2
open PySem PySem.Spec PyProof.Rows PyProof.Rows.G
theorem t8 {α β:Type} (f:α->β) {l' l:List β} (p:l'.Perm l):∀ T:List α,T.map f=l->∃ T':List α,T'.Perm T/\T'.map f=l':=by
 induction p with
 | nil=>intro T e;exact ⟨T,List.Perm.refl _,e⟩
 | cons x p ih=>
  intro T e
  cases T with
  | nil=>cases e
  | cons t T=>
   rw [List.map_cons] at e
   injection e with e1 e2
   obtain ⟨T',h1,h2⟩:=ih T e2
   exact ⟨t::T',h1.cons t,by rw [List.map_cons,h2,e1]⟩
 | swap x y l=>
  intro T e
  cases T with
  | nil=>cases e
  | cons t T=>
   cases T with
   | nil=>rw [List.map_cons] at e;injection e with _ e2;cases e2
   | cons t2 T=>
    rw [List.map_cons,List.map_cons] at e
    injection e with e1 e2
    injection e2 with e2 e3
    exact ⟨t2::t::T,List.Perm.swap ..,by rw [List.map_cons,List.map_cons,e1,e2,e3]⟩
 | trans p q ih1 ih2=>
  intro T e
  obtain ⟨T2,h1,h2⟩:=ih2 T e
  obtain ⟨T1,h3,h4⟩:=ih1 T2 h2
  exact ⟨T1,h3.trans h1,h4⟩
theorem jQ {α β:Type}:∀ {l:List α} {m:List β},l.length=m.length->(l.zip m).map (·.1)=l
 | [],[],_=>rfl
 | a::l,b::m,h=>by
  rw [List.zip_cons_cons,List.map_cons,jQ (by simpa using h)]
 | [],_::_,h=>by simp at h
 | _::_,[],h=>by simp at h
theorem j2 {α β:Type}:∀ {l:List α} {m:List β},l.length=m.length->(l.zip m).map (·.2)=m
 | [],[],_=>rfl
 | a::l,b::m,h=>by
  rw [List.zip_cons_cons,List.map_cons,j2 (by simpa using h)]
 | [],_::_,h=>by simp at h
 | _::_,[],h=>by simp at h
theorem oV {τ:Type} (f:τ->V) (g:τ->Value):∀ (T:List τ),(∀ t,t∈T->aW (f t) (g t))->aI (T.map f) (T.map g)
 | [],_=> .nil
 | t::T,h=> .cons (h t (List.mem_cons_self ..)) (oV f g T fun u hu=>h u (List.mem_cons_of_mem _ hu))
section
variable {X:Cx} {pins:List (Addr×Obj)} {σ:St} {H:Hp} {s:Shared}
theorem xO (I:Inv X pins σ H s) {kA:Array Value} {vs:List Value} {ks:List (List Int)} {xsV:List V} (hk:eG H kA.toList ks) (hv:aI xsV vs) (hl:ks.length=xsV.length)
  {xs:Array Keyed} (hp:xs.Perm (kA.zip vs.toArray)) (hs:SortedToK (tupKindC s.heap eX) xs xs.size):∃ ys,aI ys (xs.map (·.2)).toList/\iC ks xsV ys:=by
 have l1:=hk.length
 have l2:=hv.length
 have hp':xs.toList.Perm (kA.toList.zip vs):=by rw [<- ksk_zip];exact Array.perm_iff_toList_perm.mp hp
 have lz1:(kA.toList.zip vs).length=vs.length:=by rw [List.length_zip];omega
 have lz2:(ks.zip xsV).length=vs.length:=by rw [List.length_zip];omega
 obtain ⟨T',hT,eT⟩:=t8 (fun t:(Value×Value)×(List Int×V)=>t.1) hp' ((kA.toList.zip vs).zip (ks.zip xsV)) (jQ (by omega))
 have facts:∀ t,t∈T'->aW t.2.2 t.1.2/\tupKeyC s.heap eX t.1.1=some (t.2.1.map Sum.inl):=by
  intro t ht
  have ht:=hT.mem_iff.mp ht
  obtain ⟨i,hi⟩:=List.getElem?_of_mem ht
  rw [List.getElem?_zip_eq_some] at hi
  obtain ⟨h1,h2⟩:=hi
  rw [List.getElem?_zip_eq_some] at h1 h2
  obtain ⟨k,h3,h4⟩:=hk.at I h1.1
  rw [h2.1] at h3
  cases h3
  obtain ⟨u,h5,h6⟩:=hv.get h2.2
  rw [h1.2] at h5
  cases h5
  exact ⟨h6,h4⟩
 refine ⟨T'.map (·.2.2),?_,T'.map (·.2),?_,by rw [List.map_map];rfl,?_⟩
 ·have:(xs.map (·.2)).toList=T'.map (·.1.2):=by
   rw [Array.toList_map,<- eT,List.map_map]
   rfl
  rw [this]
  exact oV _ _ T' fun t ht=>(facts t ht).1
 ·have:=hT.map (·.2)
  rw [j2 (by omega)] at this
  exact this
 ·rw [List.pairwise_map,List.pairwise_iff_getElem]
  intro i j hi hj hij
  have lx:xs.size=T'.length:=by rw [<- Array.length_toList,<- eT,List.length_map]
  have key:∀ i (h:i < T'.length),KK (tupKindC s.heap eX) xs i=(T'[i]).2.1.map Sum.inl:=by
   intro i h
   have e1:xs[i]?=some (T'[i]).1:=by
    rw [<- Array.getElem?_toList,<- eT,List.getElem?_map,List.getElem?_eq_getElem h]
    rfl
   unfold KK
   rw [e1]
   show (tupKeyC s.heap eX (T'[i]).1.1).getD _=_
   rw [(facts _ (List.getElem_mem h)).2]
   rfl
  have:=hs i j (Nat.le_of_lt hij) (by omega)
  rw [key i hi,key j hj] at this
  exact this
end
end L2
namespace L2
open PySem PySem.Spec PyProof.Rows PyProof.Rows.G
section
variable {X:Cx} {pins:List (Addr×Obj)} {σ:St} {H:Hp} {s:Shared}
theorem Inv.adopt {a:Addr} {ys:List V} {its:List Value} {n:Nat} (I:Inv X pins σ H s) (fa:fT X pins H a) (e:s.heap.get? a=some (seqObj "list" its.toArray n)) (hv:aI ys its) (hz:ys.length<=sizeLine):Inv X pins σ (upd H a (.lst ys)) s:=by
 have hn:=fa.1
 refine I.step (h':=s.heap) (g':=s.gens) (d':=s.drawn) (t':=s.toks) (ch:=[a]) (fun b hb=>?_) (fun b o _ _ hc e _=>e) (fun b o _ _ hc e _=>⟨o.slots,e⟩)
  (fun b o hc e n=>?_) (fun b o hc e=>⟨o,e⟩) (fun b xs e=>?_) (fun b o u e=>?_) (fun b ps e=>⟨#[],?_⟩) (fun m hm=>hm) (fun b u q=>?_) I.bare
 ·rw [List.mem_singleton.mp hb]
  exact ⟨fa.2.2.2.1,fa.2.1,fa.2.2.2.2.1,fa.2.2.2.2.2⟩
 ·rw [ah (fun z=>hc (by rw [z];exact List.mem_singleton_self a))];exact n
 ·rw [ah (ai e hn)];exact e
 ·rw [ah (ai e hn)];exact e
 ·rw [ah (ai e hn),e];simp
 ·by_cases hb:b=a
  ·subst hb
   rw [ab] at q
   cases q
   exact ⟨hz,its,n,hv,e⟩
  ·rw [ah hb] at q
   exact (I.hok b u q).stay (fun c v _ r=>r) (fun c r=>by rw [ah (ai r hn)];exact r) fun c xs r=>by rw [ah (ai r hn)];exact r
abbrev za (a:Addr) (e1:Nat) (kS:Addr) (kA:Array Value) (e:Nat) (pins:List (Addr×Obj)):List (Addr×Obj):=(a,seqObj "list" #[] e1)::(kS,seqObj "list" kA e)::pins
theorem ww {k:Nat} {f a kS:Addr} {e1:Nat} {fd:FuncData} {ps:List Str} {sp:Sp} {xsV:List V} {vs:List Value} {ks:List (List Int)} {P:PySem.Fin->Shared->Prop} {E:Value->Shared->Prop}
  (F:az X.prog X.w X.K X.mg X.base CX0 k f fd ps sp) (hr:bP (k+2) X.A) (hb:aG X.K fd ps [])
  (I:Inv X (za a e1 kS #[] 0 pins) σ H s) (fa:fT X pins H a) (fk:fT X pins H kS) (hka:kS≠a) (hv:aI xsV vs) (hl:ks.length=xsV.length) (hL:vs.length<=sizeLine)
  (turn:∀ (i:Nat) (x:V) (k:List Int) (H1:Hp),xsV[i]?=some x->ks[i]?=some k->ay H H1->sp [x] H1 (fun v H2=>ay H1 H2/\∃ (p:Addr) (n:Int) (ns:List Int),v = .ref p/\k=n::ns/\H2 p=some (.tup (k.map V.int))) E0)
  (h:∀ (H':Hp) (s':Shared) (ys:List V) (out:Array Value) (c:Nat),ay H H'->iC ks xsV ys->aI ys out.toList->Inv X pins σ H' s'->fT X pins H' a->s'.heap.get? a=some (seqObj "list" out c)->P (.done (.ret .none)) s') :
  wpAny (model X.prog X.w) X.A.in1.in1 (ksk_rest a (.ref f) false vs.toArray e1 (.ref kS)) P E s:=by
 have lv:=hv.length
 unfold ksk_rest
 refine wpAny_bind (wpAny_rule ?_)
 first
  | rw [List.forIn_toArray]
  | (rw [<- Array.forIn_toList];simp only [List.toList_toArray])
  | rw [<- Array.forIn_toList]
 refine wpAny_bind (ksk_fold (fun i s'=>∃ (H':Hp) (kA:Array Value) (e:Nat),Inv X (za a e1 kS kA e pins) σ H' s'/\ay H H'/\eG H' kA.toList (ks.take i)) vs 0 s
  ⟨H,#[],0,I,ay.refl _,by simpa using eG.nil⟩ ?step ?done)
 case step=>
  rintro j x s' hx ⟨H',kA,e,I',hS,hk⟩
  simp only [Nat.zero_add] at hk ⊢
  have hj:j < vs.length:=(List.getElem?_eq_some_iff.mp hx).1
  obtain ⟨k',hkj⟩:∃ k',ks[j]?=some k':=⟨_,List.getElem?_eq_getElem (by omega)⟩
  obtain ⟨xv,hxv⟩:∃ xv,xsV[j]?=some xv:=⟨_,List.getElem?_eq_getElem (by omega)⟩
  have rx:aW xv x:=by
   obtain ⟨u,h1,h2⟩:=hv.get hxv
   rw [hx] at h1
   cases h1
   exact h2
  have hz:kA.size<=vs.length:=by
   have h1:=hk.length
   rw [Array.length_toList,List.length_take] at h1
   omega
  refine wpAny_bind (wpAny_attempt (wpAny_mono (xR F hr hb I' (.cons rx .nil) (turn j xv k' H' hxv hkj hS)) (fun u s2 he=>?_) fun _ _ hF=>hF.elim))
  obtain ⟨v,H2,I2,ru,hS2,p,n,ns,rfl,rfl,hp⟩:=he
  cases (show u=Value.ref p from ru)
  try dsimp only
  have pk:=I2.pin (kS,seqObj "list" kA e) (List.mem_append_right _ (.tail _ (.head _)))
  have pa:=I2.pin (a,seqObj "list" #[] e1) (List.mem_append_right _ (.head _))
  obtain ⟨c2,hc2⟩:∃ c2,(s2.heap.update kS (Obj.mapSeq (·.push (.ref p)))).get? kS=some (seqObj "list" (kA.push (.ref p)) c2):=⟨_,get?_update_seq pk.1 (·.push (.ref p))⟩
  have s1:=Heap.SameBut.update s2.heap kS (Obj.mapSeq (·.push (.ref p)))
  refine wpAny_bind (listUpdate_at pk.1 rfl ?_ (Nat.le_trans hz hL) (Nat.le_trans (Nat.le_of_eq (Array.size_push ..)) (by omega)))
  have ek:ks.take (j+1)=ks.take j++[n::ns]:=by rw [List.take_add_one,hkj];simp
  have ea:(kA.push (Value.ref p)).toList=kA.toList++[Value.ref p]:=by simp
  refine wpAny_pure ⟨rfl,H2,kA.push (.ref p),c2,?_,hS.trans hS2,by rw [ea,ek];exact eG.snoc hp (hk.same hS2)⟩
  have I3:Inv X pins σ H2 s2:=I2.pins_of fun q hq=>I2.pin q (List.mem_append_right _ (.tail _ (.tail _ hq)))
  have I4:=I3.turned (h':=s2.heap.update kS (Obj.mapSeq (·.push (.ref p)))) (t':=s2.toks) (it:=kS) (fun b o hb q=>(s1.2 b hb).trans q) pk.2.1 pk.2.2.1 fk.2.2.2.1 fk.2.2.2.2.1 fk.2.2.2.2.2
  refine I4.pins_of fun q hq=>?_
  rcases List.mem_cons.mp hq with rfl | hq
  ·exact ⟨(s1.2 a hka.symm).trans pa.1,pa.2⟩
  ·rcases List.mem_cons.mp hq with rfl | hq
   ·exact ⟨hc2,pk.2.1,pk.2.2.1,pk.2.2.2.1,fun v z=>by cases z⟩
   ·exact I4.pin q (List.mem_append_right _ hq)
 case done=>
  rintro s' ⟨H',kA,e,I',hS,hk⟩
  have hk':eG H' kA.toList ks:=by
   have e3:ks.take (0+vs.length)=ks:=List.take_of_length_le (by omega)
   rw [e3] at hk
   exact hk
  have pk:=I'.pin (kS,seqObj "list" kA e) (List.mem_append_right _ (.tail _ (.head _)))
  have pa:=I'.pin (a,seqObj "list" #[] e1) (List.mem_append_right _ (.head _))
  have I3:Inv X pins σ H' s':=I'.pins_of fun q hq=>I'.pin q (List.mem_append_right _ (.tail _ (.tail _ hq)))
  have hsz:kA.size=vs.length:=by
   have:=hk'.length
   rw [Array.length_toList] at this
   omega
  obtain ⟨fs,ht⟩:=hk'.tups I3
  try dsimp only
  refine wpAny_bind (listItems_at pk.1 rfl ?_)
  refine xz pk.1 pa.1 hka hsz hL ht (fun v hm=>?_) fun h' c xs hp hso ha2 hkeep=>?_
  ·obtain ⟨i,hi⟩:=List.getElem?_of_mem hm
   obtain ⟨k2,_,q⟩:=hk'.at I3 hi
   exact ⟨_,q⟩
  ·obtain ⟨ys,hys,ho⟩:=xO I3 hk' hv hl hp hso
   have fa':fT X pins H' a:=⟨pa.2.1,fa.2⟩
   have fk':fT X pins H' kS:=⟨pk.2.1,fk.2⟩
   refine h H' { s' with heap:=h' } ys _ c hS ho hys ?_ fa' ha2
   refine I3.turnedL (t':=s'.toks) (ch:=[a,kS]) (fun b o hb q=>hkeep b o (fun z=>hb (by simp [z])) (fun z=>hb (by simp [z])) q) fun b hb=>?_
   rcases List.mem_cons.mp hb with rfl | hb
   ·exact fa'
   ·rw [List.mem_singleton.mp hb]
    exact fk'
end
end L2
namespace L2
open PySem PySem.Spec PyProof.Rows PyProof.Rows.G
section
variable {X:Cx} {pins:List (Addr×Obj)} {σ:St} {H:Hp} {s:Shared}
theorem iC.length {ks:List (List Int)} {xs ys:List V} (h:iC ks xs ys) (hl:ks.length=xs.length):ys.length=xs.length:=by
 obtain ⟨ps,p,rfl,_⟩:=h
 rw [List.length_map,p.length_eq,List.length_zip]
 omega
def ra (K:PySem.W.Frag) (sp:Sp) (x:V) (H:Hp) (Q:VK):Prop:=∃ (l:Addr) (xs:List V) (ks:List (List Int)),x = .ref l/\SqL K H l xs/\ks.length=xs.length/\
 (∀ (i:Nat) (x:V) (k:List Int) (H1:Hp),xs[i]?=some x->ks[i]?=some k->ay H H1->sp [x] H1 (fun v H2=>ay H1 H2/\∃ (p:Addr) (n:Int) (ns:List Int),v = .ref p/\k=n::ns/\H2 p=some (.tup (k.map V.int))) E0)/\
 ∀ (ys:List V) (p:Addr) (H':Hp),iC ks xs ys->ay H H'->H p=none->H' p=some (.lst ys)->Q (.ref p) H'
theorem tw {k:Nat} {f:Addr} {fd:FuncData} {ps:List Str} {sp:Sp} {x:V} {u:Value} {Q:VK} (F:az X.prog X.w X.K X.mg X.base CX0 k f fd ps sp) (hr:bP (k+2) X.A) (hb:aG X.K fd ps [])
  (I:Inv X pins σ H s) (ru:aW x u) (h:ra X.K sp x H Q):wpAny (model X.prog X.w) X.A (call (.builtin "sorted") [u] [(Str.ofString "key",.ref f)]) (EP X pins σ Q) X.xe s:=by
 obtain ⟨l,xs,ks,rfl,hs,hl,turn,q⟩:=h
 cases (show u=Value.ref l from ru)
 obtain ⟨vs,hv,pl,hz⟩:=I.list hs
 have lv:=hv.length
 have hL:vs.length<=sizeLine:=by omega
 refine call_function_entry_kw kind_sorted plain_sorted entry_sorted (ksk_s1 _ _) ?_
 unfold Builtin.«sorted»
 refine wpAny_bind (m:=checkCount "sorted" 1 1 _) (wpAny_pure ?_)
 refine wpAny_bind (collect_list pl.isList ?_ hL)
 refine wpAny_bind (wpAny_newList ?_ hL)
 have hsz:((s.heap.push (seqObj "list" #[] 0)).update s.heap.objs.size (Obj.mapSeq (·++vs.toArray))).objs.size=s.heap.objs.size+1:=by
  rw [Heap.size_update,size_push']
 generalize ea:s.heap.objs.size+1=a at hsz
 have hoL:(((s.heap.push (seqObj "list" #[] 0)).update s.heap.objs.size (Obj.mapSeq (·++vs.toArray))).push (seqObj "list" vs.toArray 0)).get? a=some (seqObj "list" vs.toArray 0):=by
  rw [<- hsz];exact Heap.get?_push_size _ rfl
 have keep1:∀ b o,s.heap.get? b=some o->(((s.heap.push (seqObj "list" #[] 0)).update s.heap.objs.size (Obj.mapSeq (·++vs.toArray))).push (seqObj "list" vs.toArray 0)).get? b=some o:=fun b o q=>by
  have hlt:b < s.heap.objs.size:=Heap.lt_size q
  rw [Heap.get?_push_ne _ _ _ (Nat.ne_of_lt (by rw [hsz,<- ea];exact Nat.lt_succ_of_lt hlt)),Heap.get?_update_ne _ _ _ _ (Nat.ne_of_lt hlt),Heap.get?_push_ne _ _ _ (Nat.ne_of_lt hlt)]
  exact q
 have hsz1:(((s.heap.push (seqObj "list" #[] 0)).update s.heap.objs.size (Obj.mapSeq (·++vs.toArray))).push (seqObj "list" vs.toArray 0)).objs.size=a+1:=by rw [size_push',hsz]
 show wpAny _ _ _ _ _ { s with heap:=((s.heap.push (seqObj "list" #[] 0)).update s.heap.objs.size (Obj.mapSeq (·++vs.toArray))).push (seqObj "list" vs.toArray 0) }
 rw [hsz]
 generalize eh:((s.heap.push (seqObj "list" #[] 0)).update s.heap.objs.size (Obj.mapSeq (·++vs.toArray))).push (seqObj "list" vs.toArray 0)=h1 at hoL keep1 hsz1 ⊢
 refine wpAny_bind (wpAny_holding (wpAny_call_entry_kw slot_list_sort ⟨_,hoL,rfl⟩ entry_list_sort ?body (ksk_l1 _ _)))
 case body=>
  show wpAny (model X.prog X.w) X.A.in1.in1 (Builtin.«list.sort» ⟨[.ref a],[(Str.ofString "key",.ref f)]⟩) _ _ _
  rw [ksk_t1]
  obtain ⟨e1,ho1⟩:∃ e1,(h1.update a (Obj.mapSeq fun _=>(#[]:Array Value))).get? a=some (seqObj "list" #[] e1):=⟨_,get?_update_seq hoL fun _=>#[]⟩
  have sb:=Heap.SameBut.update h1 a (Obj.mapSeq fun _=>(#[]:Array Value))
  unfold ksk_tree
  refine wpAny_bind (listItems_at hoL rfl ?_)
  refine wpAny_bind (listUpdate_at hoL rfl ?_ (by rw [List.size_toArray];exact hL) (Nat.zero_le _))
  refine wpAny_bind (seqEpoch_at ho1 rfl ?_)
  refine wpAny_bind (wpAny_newTuple ?_ hL)
  refine wpAny_bind (wpAny_newList ?_ (Nat.zero_le _))
  refine wpAny_holding ?_
  have hkS:((h1.update a (Obj.mapSeq fun _=>(#[]:Array Value))).push (seqObj "tuple" vs.toArray 0)).objs.size=a+2:=by rw [size_push',Heap.size_update,hsz1]
  have keep6:∀ b o,s.heap.get? b=some o->(((h1.update a (Obj.mapSeq fun _=>(#[]:Array Value))).push (seqObj "tuple" vs.toArray 0)).push (seqObj "list" #[] 0)).get? b=some o:=fun b o q=>
   Heap.get?_push_of_some _ (Heap.get?_push_of_some _ ((sb.2 b (Nat.ne_of_lt (by rw [<- ea];exact Nat.lt_succ_of_lt (Heap.lt_size q)))).trans (keep1 b o q)))
  have na:(((h1.update a (Obj.mapSeq fun _=>(#[]:Array Value))).push (seqObj "tuple" vs.toArray 0)).push (seqObj "list" #[] 0)).get? a=some (seqObj "list" #[] e1):=
   Heap.get?_push_of_some _ (Heap.get?_push_of_some _ ho1)
  have nk:(((h1.update a (Obj.mapSeq fun _=>(#[]:Array Value))).push (seqObj "tuple" vs.toArray 0)).push (seqObj "list" #[] 0)).get? (a+2)=some (seqObj "list" #[] 0):=by
   rw [<- hkS];exact Heap.get?_push_size _ rfl
  have la:s.heap.objs.size<=a:=by omega
  have lk:s.heap.objs.size<=a+2:=by omega
  have fa:fT X pins H a:=I.fpOk la (I.hok.fresh la)
  have fk:fT X pins H (a+2):=I.fpOk lk (I.hok.fresh lk)
  have I6:=I.kept (t':=s.toks) keep6
  rw [hkS]
  refine ww (σ:=σ) (s:={ s with heap:=((h1.update a (Obj.mapSeq fun _=>(#[]:Array Value))).push (seqObj "tuple" vs.toArray 0)).push (seqObj "list" #[] 0) }) F hr hb ?inv fa fk (Nat.ne_of_gt (Nat.lt_add_of_pos_right (by decide))) hv hl hL turn ?fin
  case inv=>
   refine I6.pins_of fun p hp=>?_
   rcases List.mem_cons.mp hp with rfl | hp
   ·exact ⟨na,fa.1,fa.2.1,fa.2.2.1,fun v z=>by cases z⟩
   ·rcases List.mem_cons.mp hp with rfl | hp
    ·exact ⟨nk,fk.1,fk.2.1,fk.2.2.1,fun v z=>by cases z⟩
    ·exact I6.pin p (List.mem_append_right _ hp)
  case fin=>
   intro H' s' ys out c hS ho hy I' fa' hget
   refine ⟨_,rfl,wpAny_pure ⟨_,rfl,?_⟩⟩
   have hlen:ys.length<=sizeLine:=by rw [ho.length hl];omega
   exact ⟨.ref a,upd H' a (.lst ys),I'.adopt fa' (by simpa using hget) hy hlen,rfl,q ys a _ ho (fun b o e=>by rw [ah (ai (hS b o e) fa'.1)];exact hS b o e) fa.1 ab⟩
end
section
variable {X:Cx} {x nm:Str} {p pos p2 kpos:Pos} {e:Expr} {te:TE}
def zn (K:PySem.W.Frag) (sp:Sp) (te:TE):TE:=fun σ H Q=>te σ H fun x H1=>ra K sp x H1 Q
theorem pS {k:Nat} {f:Addr} {fd:FuncData} {ps:List Str} {sp:Sp} (F:az X.prog X.w X.K X.mg X.base CX0 k f fd ps sp) (hr:bP (k+2) X.A) (hb:aG X.K fd ps []) (hg:Gl X "sorted") (hm:X.mg "sorted" = none)
  (hgf:Gl X x) (hmf:X.mg x=some (.ref f)) (he:PE X e te) (hdb:(x == ("__debug__" : Str))=false:=by decide)
  (hst:starEach [e] X.env=[(false,eval e X.env)]:=by rfl):PE X (.Call (.Name "sorted" p) [e] [⟨some "key",.Name x p2,kpos⟩] pos) (zn X.K sp te):=by
 intro pins s σ H Q I h
 refine wpAny_Call_Name_kw (gn I hg hm (by rfl) ?_)
 have ha:PA X [e] (aY te cF):=aa he ad hst
 refine callWith_kw (thn (ha pos pins s σ H (fun vs H1=>∃ v,vs=[v]/\ra X.K sp v H1 Q) I ?_) fun us s1 ⟨vs,H1,I1,r1,v,ev,q1⟩=>?_) (by rw [hst];rfl) (by rw [hst];rfl)
 ·show te σ H _
  have:∀ (P1 P2:VK),P1=P2->te σ H P1->te σ H P2:=fun _ _ e q=>e ▸ q
  refine this _ _ ?_ h
  funext y H1
  exact propext ⟨fun q=>⟨y,rfl,q⟩,fun ⟨v,ev,q⟩=>by injection ev with e1 _;subst e1;exact q⟩
 ·subst ev
  cases r1 with
  | cons r1 r2=>
   cases r2
   refine kws_cons (jp I1 hgf hmf (kws_nil ?_) hdb)
   exact tw F hr hb I1 r1 q1
end
end L2
namespace L2
open PySem PySem.Spec PyProof.Rows
def pQ (K:PySem.W.Frag) (w:World) (a:Addr) (kvs:List (Key×V)):Prop:=∃ (es:Array DictEntry) (n:Nat),K.lookup a=some ⟨.type "dict",none,.dict es n,#[]⟩/\(a == sysModules)=false/\
 Paired (fun (e:DictEntry) (kv:Key×V)=>fJ kv.1 e.key=true/\e.hash=qD w kv.1/\aW kv.2 e.val) es.toList kvs
theorem mz {w:World}:∀ {es:List DictEntry} {kvs:List (Key×V)},Paired (fun (e:DictEntry) (kv:Key×V)=>fJ kv.1 e.key=true/\e.hash=qD w kv.1/\aW kv.2 e.val) es kvs->∀ (P:Program) (k:Key),
  gt (cx kvs k) ((es.find? fun e=>(cn P w).is k e.key).map (·.val))
 | _,_,.nil,P,k=>True.intro
 | _,_,.cons (a:=e) (b:=kv) h t,P,k=>by
  have his:(cn P w).is k e.key=decide (k=kv.1):=PySem.KeyKind.is_eq_decide (knd:=cn P w) h.1 k
  by_cases hk:kv.1=k
  ·rw [cv hk,List.find?_cons,his,decide_eq_true hk.symm]
   exact h.2.2
  ·rw [cr hk,List.find?_cons,his,decide_eq_false fun z=>hk z.symm]
   exact mz t P k
theorem pQ.map {K:PySem.W.Frag} {w:World} {a:Addr} {kvs:List (Key×V)} (D:pQ K w a kvs) {h:Heap} (X:K.In h) (P:Program):∃ f,h.MapOf (cn P w) a f/\∀ k,gt (cx kvs k) (f k):=by
 obtain ⟨es,n,hl,_,hp⟩:=D
 refine ⟨fun k=>findBy (cn P w).is es k,⟨_,es,n,X _ _ hl,⟨rfl,rfl,rfl⟩,rfl,fun e he=>?_,fun _=>rfl⟩,fun k=>?_⟩
 ·have he:e∈es.toList:=Array.mem_toList_iff.mpr he
  have:∀ {l:List DictEntry} {m:List (Key×V)},Paired (fun (e:DictEntry) (kv:Key×V)=>fJ kv.1 e.key=true/\e.hash=qD w kv.1/\aW kv.2 e.val) l m->e∈l->∃ k,fJ k e.key=true/\e.hash=qD w k:=by
   intro l m q
   induction q with
   | nil=>intro z;cases z
   | cons h t ih=>
    intro z
    rcases List.mem_cons.mp z with rfl | z
    ·exact ⟨_,h.1,h.2.1⟩
    ·exact ih z
  exact this hp he
 ·obtain ⟨l⟩:=es
  have:=mz hp P k
  simpa [findBy] using this
section
variable {X:Cx}
def Ca (K:PySem.W.Frag) (w:World):R2:=fun x y H Q=>∃ a kvs k v,x = .ref a/\pQ K w a kvs/\y=kV k/\cx kvs k=some v/\Q v H
theorem jb {o i:Expr} {td ty:TE} {pos:Pos} (ho:PE X o td) (hi:PE X i ty) (hs:AG i):PE X (.Subscript o i pos) (tOp (Ca X.K X.w) td ty):=by
 intro pins s σ H Q I h
 refine sn PySem.F.slot_dict_getitem.lookup hs (thn (ho pins s σ H _ I h) fun u s1 ⟨x,H1,I1,rx,q1⟩=>thn (hi pins s1 σ H1 _ I1 q1) fun iv s2 ⟨y,H2,I2,ry,a,kvs,k,v,ex,D,ey,hv,q2⟩=>?_)
 subst ex ey
 obtain rfl:u=Value.ref a:=rx
 obtain ⟨f,hm,hr⟩:=D.map I2.kIn X.prog
 obtain ⟨w',hw,rw'⟩:=gt.some_of (v:=v) (o:=f k) (by rw [<- hv];exact hr k)
 exact ⟨hm.typeIs,wpAny_getItem_of (nz ry) hm hw ⟨v,H2,I2.tok _,rw',q2⟩⟩
def DB (K:PySem.W.Frag) (w:World) (neg:Bool):R2:=fun y x H Q=>∃ a kvs k,x = .ref a/\pQ K w a kvs/\y=kV k/\Q (.bl (if neg then !(cx kvs k).isSome else (cx kvs k).isSome)) H
theorem zA:OpR X (compareOp .In) (DB X.K X.w false):=by
 intro pins s σ H y x u v Q I ry rx h
 obtain ⟨a,kvs,k,rfl,D,rfl,q⟩:=h
 obtain rfl:v=Value.ref a:=rx
 obtain ⟨f,hm,hr⟩:=D.map I.kIn X.prog
 have hsys:(a == sysModules)=false:=by obtain ⟨_,_,_,e,_⟩:=D;exact e
 refine wpAny_in_of (nz ry) hsys hm ?_
 rw [<- (hr k).isSome_eq]
 exact ⟨.bl (cx kvs k).isSome,H,I.tok _,rfl,q⟩
end
end L2
namespace L2
open PySem PySem.Spec PyProof.Rows
section
variable {prog:Program} {w:World} {A:Around} {R:Result->Shared->Prop} {I:Addr} {fp wr:List Addr} {n:Nat} {P:Nat->Value->Prop} {St:Nat->Heap->Prop}
theorem uo (a v:Value):argsOk "max" ⟨[a],[(Str.ofString "default",v)]⟩:=by unfold argsOk;kernel_rfl
abbrev kwD (d:Value):List (Str×Value):=[(Str.ofString "default",d)]
theorem tK (W:Walks prog w A.in1 I fp wr n P St) (bt:Nat->Nat->Bool) (hcmp:CmpOf prog w A.in1 .Gt P bt) (S:Addr) (hSf:S∉fp) (d:Value) :
  ∀ (k j:Nat) (s:Shared) (vb:Value) (c:Nat),n - (j+1)=k->j+1<=n->St (j+1) s.heap->P (argBest bt j) vb->
  s.heap.get? S=some { cls:= .type "list",dict:=none,data:= .seq #[vb,vb] c,slots:=#[] }->
  (∀ v h' tk,P (argBest bt (n - 1)) v->(∀ b o,b∉wr->b≠S->s.heap.get? b=some o->h'.get? b=some o)->R (.ok (.ret v)) { s with heap:=h',toks:=tk })->
  codeAny (model prog w) A (.builtin "max.loop" ⟨[.ref I,.none,.ref S],kwD d⟩) R s:=by
 have hSw:S∉wr:=fun h=>hSf (W.sub _ h)
 have hname:(toString "max" ++ toString ".loop" : String) = "max.loop":=by decide
 intro k
 induction k with
 | zero=>
  intro j s vb c hk hj hst hPb hS hR
  have hin:j+1=n:=by omega
  refine codeAny_builtin F.entry_max_loop ?_
  rw [Around.under_plainId F.plain_max_loop _]
  show wpAny _ A.in1 (seqItems? (.ref S) >>= _) _ _ s
  refine wpAny_bind (wpAny_seqItems hS rfl ?_)
  show wpAny _ A.in1 (tryCatch (pyNext (.ref I)) _ >>= _) _ _ s
  refine wpAny_bind (wpAny_tryCatch (W.done s _ _ (hin ▸ hst) fun h' tk hk'=>?_))
  have hS':=hk' S _ hSw hS
  show wpAny _ A.in1 (updateSeq S (fun _=>#[]) >>= _) _ _ _
  refine wpAny_bind ?_
  refine wpAny_updateSeq hS' rfl (wpAny_bind (wpAny_letGo (wpAny_pure ?_)))
  refine hR vb _ tk (by rw [<- hin];exact hPb) fun b o hbw hbS e=>(Heap.get?_update_other _ _ (Ne.symm hbS)).trans (hk' b o hbw e)
 | succ k ih=>
  intro j s vb c hk hj hst hPb hS hR
  have hlt:j+1 < n:=by omega
  refine codeAny_builtin F.entry_max_loop ?_
  rw [Around.under_plainId F.plain_max_loop _]
  show wpAny _ A.in1 (seqItems? (.ref S) >>= _) _ _ s
  refine wpAny_bind (wpAny_seqItems hS rfl ?_)
  show wpAny _ A.in1 (tryCatch (pyNext (.ref I)) _ >>= _) _ _ s
  refine wpAny_bind (wpAny_tryCatch (W.item (j+1) s _ _ hlt hst fun v h' tk hP hst' hk'=>?_))
  have hS':=hk' S _ hSw hS
  show wpAny _ A.in1 (tryCatch (holding [v,v] (richCompare .Gt v vb >>= _)) _ >>= _) _ _ _
  refine wpAny_bind (wpAny_tryCatch (wpAny_holding (wpAny_bind (hcmp (j+1) (argBest bt j) v vb _ _ _ hP hPb ?_))))
  refine wpAny_bind (wpAny_holding (wpAny_truthy_bool ?_))
  refine wpAny_bind (wpAny_letGo (wpAny_pure ?_))
  cases hb:bt (j+1) (argBest bt j) with
  | true=>
   simp only [if_true]
   refine wpAny_bind ?_
   refine wpAny_updateSeq hS' rfl (wpAny_bind (wpAny_letGo ?_))
   rw [hname]
   refine wpAny_pure ⟨plainId_quiet F.plain_max_loop _,ih (j+1) _ v _ (by omega) hlt (W.frame _ _ _ hst' fun b hbf o e=>?_) (by simp only [argBest,hb,if_true];exact hP) (Heap.get?_update_self _ hS' rfl)
    fun v' h'' tk'' hP' hk''=>?_⟩
   ·exact (Heap.get?_update_other _ _ (fun h:S=b=>hSf (by rw [h];exact hbf))).trans e
   ·exact hR v' h'' tk'' hP' fun b o hbw hbS e=>hk'' b o hbw hbS ((Heap.get?_update_other _ _ (Ne.symm hbS)).trans (hk' b o hbw e))
  | false=>
   simp only [Bool.false_eq_true,if_false]
   refine wpAny_bind (wpAny_letGo ?_)
   rw [hname]
   refine wpAny_pure ⟨plainId_quiet F.plain_max_loop _,ih (j+1) _ vb c (by omega) hlt hst' (by simp only [argBest,hb,Bool.false_eq_true,if_false];exact hPb) hS' fun v' h'' tk'' hP' hk''=>?_⟩
   exact hR v' h'' tk'' hP' fun b o hbw hbS e=>hk'' b o hbw hbS (hk' b o hbw e)
theorem qG (W:Walks prog w A.in1 I fp wr n P St) (bt:Nat->Nat->Bool) (hcmp:CmpOf prog w A.in1 .Gt P bt) (S:Addr) (hSf:S∉fp) (d:Value) {s:Shared} {c:Nat} (hst:St 0 s.heap)
  (hS:s.heap.get? S=some { cls:= .type "list",dict:=none,data:= .seq #[] c,slots:=#[] })
  (hR:∀ v h' tk,(n=0/\v=d\/0 < n/\P (argBest bt (n - 1)) v)->(∀ b o,b∉wr->b≠S->s.heap.get? b=some o->h'.get? b=some o)->R (.ok (.ret v)) { s with heap:=h',toks:=tk }) :
  codeAny (model prog w) A (.builtin "max.loop" ⟨[.ref I,.none,.ref S],kwD d⟩) R s:=by
 have hSw:S∉wr:=fun h=>hSf (W.sub _ h)
 have hname:(toString "max" ++ toString ".loop" : String) = "max.loop":=by decide
 refine codeAny_builtin F.entry_max_loop ?_
 rw [Around.under_plainId F.plain_max_loop _]
 show wpAny _ A.in1 (seqItems? (.ref S) >>= _) _ _ s
 refine wpAny_bind (wpAny_seqItems hS rfl ?_)
 show wpAny _ A.in1 (tryCatch (pyNext (.ref I)) _ >>= _) _ _ s
 by_cases hn:0 < n
 ·refine wpAny_bind (wpAny_tryCatch (W.item 0 s _ _ hn hst fun v h' tk hP hst' hk'=>?_))
  have hS':=hk' S _ hSw hS
  show wpAny _ A.in1 (updateSeq S (fun _=>#[v,v]) >>= _) _ _ _
  refine wpAny_bind ?_
  refine wpAny_updateSeq hS' rfl ?_
  rw [hname]
  refine wpAny_pure ⟨plainId_quiet F.plain_max_loop _,tK W bt hcmp S hSf d _ 0 _ v _ rfl hn (W.frame _ _ _ hst' fun b hbf o e=>?_) hP (Heap.get?_update_self _ hS' rfl) fun v' h'' tk'' hP' hk''=>?_⟩
  ·exact (Heap.get?_update_other _ _ (fun h:S=b=>hSf (by rw [h];exact hbf))).trans e
  ·exact hR v' h'' tk'' (.inr ⟨hn,hP'⟩) fun b o hbw hbS e=>hk'' b o hbw hbS ((Heap.get?_update_other _ _ (Ne.symm hbS)).trans (hk' b o hbw e))
 ·have h0:n=0:=by omega
  refine wpAny_bind (wpAny_tryCatch (W.done s _ _ (by rw [h0];exact hst) fun h' tk hk'=>?_))
  show wpAny _ A.in1 (rule _ >>= _) _ _ _
  refine wpAny_bind (wpAny_rule (wpAny_pure ?_))
  exact hR d h' tk (.inl ⟨h0,rfl⟩) fun b o hbw _ e=>hk' b o hbw e
end
section
variable {prog:Program} {w:World} {A:Around} {E:Value->Shared->Prop} {s:Shared}
theorem tU {l:Addr} {its:List Value} {ns:List Int} {d:Value} {Q:Value->Shared->Prop} (hh:A.handled=none) (hl:s.heap.IsList l its.toArray) (hi:IntsAre its ns)
  (h:∀ h' tk v,(∀ b o,s.heap.get? b=some o->h'.get? b=some o)->(ns=[]/\v=d\/∃ M t',v = .int M t'/\M∈ns/\∀ a,a∈ns->a<=M)->Q v { s with heap:=h',toks:=tk }) :
  wpAny (model prog w) A (call (.builtin "max") [.ref l] (kwD d)) Q E s:=by
 obtain ⟨xs,e⟩:=hi.allInts.items
 have hn:numsOf (intItems xs).toList=ns:=by rw [<- e];exact hi.numsOf
 rw [nums_intItems] at hn
 subst hn
 rw [e] at hl
 have hname:(toString "max" ++ toString ".loop" : String) = "max.loop":=by decide
 refine kmk_tree F.kind_max F.plain_max F.entry_max (uo _ _) ?_
 show wpAny _ A.in1 (Builtin.Builtins.bindParams "max" ["key","default"] 0 ⟨[],kwD d⟩ >>= _) _ _ s
 refine wpAny_bind (wpAny_of_eq (show Builtin.Builtins.bindParams "max" ["key","default"] 0 ⟨[],kwD d⟩=pure [none,some d] from rfl) ?_)
 refine wpAny_bind (wpAny_pure ?_)
 refine wpAny_bind (iter_intList hl fun s₂ e2 st hfp hlI=>?_)
 subst e2
 refine wpAny_bind (wpAny_newObj_type ?_)
 rw [hname]
 have hSf:(s.heap.push { cls:= .type "list_iterator",data:= .fields #[.ref l,.int 0 0] }).objs.size∉[s.heap.objs.size,l]:=fun hm=>Nat.lt_irrefl _ (hfp _ hm)
 have W:=Walks.list (prog:=prog) (w:=w) (A:=A.in1) hh s.heap.objs.size l hlI (intItems xs)
 have e3:(intItems xs).size=xs.size:=by simp [intItems]
 refine wpAny_pure ⟨plainId_quiet F.plain_max_loop _,qG W _ (CmpOf.ints_gt (numAt xs) (fun _ _=>intItems_at)) _ hSf d (W.frame _ _ _ st fun b _ o e=>Heap.get?_push_of_some _ e) (Heap.get?_push_size _ rfl) fun v h' tk hP hk=>?_⟩
 refine h h' tk v (old_kept fun b o hbw e=>hk b o hbw (Nat.ne_of_lt (Heap.lt_size e)) (Heap.get?_push_of_some _ e)) ?_
 rcases hP with ⟨h0,rfl⟩ | ⟨hp,hP⟩
 ·refine .inl ⟨?_,rfl⟩
  rw [e3] at h0
  have:xs.toList.length=0:=by rw [Array.length_toList];exact h0
  rw [List.eq_nil_of_length_eq_zero this]
  rfl
 ·rw [e3] at hP hp
  obtain ⟨t,rfl⟩:=intItems_at hP
  obtain ⟨h1,h2⟩:=argBest_gt (numAt xs) (xs.size - 1)
  refine .inr ⟨_,t,rfl,?_,fun a ha=>?_⟩
  ·rw [numAt_eq];exact PySem.getD_mem (by rw [List.length_map,Array.length_toList];omega)
  ·obtain ⟨j,hj,rfl⟩:=mem_getD ha
   rw [List.length_map,Array.length_toList] at hj
   rw [<- numAt_eq];exact h2 j (by omega)
end
section
variable {X:Cx} {p pos kpos:Pos} {e e2:Expr} {te td:TE}
def yE (K:PySem.W.Frag):R2:=fun x d H Q=>∃ (a:Addr) (ns:List Int),x = .ref a/\SqL K H a (ns.map V.int)/\(ns=[]->Q d H)/\∀ m,m∈ns->(∀ y,y∈ns->y<=m)->Q (.int m) H
theorem yh (hc:X.calm=true) (hg:Gl X "max") (hm:X.mg "max" = none) (he:PE X e te) (hd:PE X e2 td) (hst:starEach [e] X.env=[(false,eval e X.env)]:=by rfl) :
  PE X (.Call (.Name "max" p) [e] [⟨some "default",e2,kpos⟩] pos) (tOp (yE X.K) te td):=by
 intro pins s σ H Q I h
 refine wpAny_Call_Name_kw (gn I hg hm (by rfl) ?_)
 have ha:PA X [e] (aY te cF):=aa he ad hst
 refine callWith_kw (thn (ha pos pins s σ H (fun vs H1=>∃ v,vs=[v]/\td σ H1 fun d H2=>yE X.K v d H2 Q) I ?_) fun us s1 ⟨vs,H1,I1,r1,v,ev,q1⟩=>?_) (by rw [hst];rfl) (by rw [hst];rfl)
 ·show te σ H _
  have:∀ (P1 P2:VK),P1=P2->te σ H P1->te σ H P2:=fun _ _ e q=>e ▸ q
  refine this _ _ ?_ h
  funext y H1
  exact propext ⟨fun q=>⟨y,rfl,q⟩,fun ⟨v,ev,q⟩=>by injection ev with e1 _;subst e1;exact q⟩
 ·subst ev
  cases r1 with
  | cons r1 r2=>
   cases r2
   refine kws_cons (thn (hd pins s1 σ H1 _ I1 q1) fun du s2 ⟨d,H2,I2,rd,a,ns,ex,hs,q0,qm⟩=>kws_nil ?_)
   subst ex
   cases r1
   obtain ⟨its,rv,hl,_⟩:=I2.list hs
   refine tU (I2.ok.hd hc) hl.isList rv.ints fun h' tk u hk hu=>?_
   rcases hu with ⟨e0,rfl⟩ | ⟨M,t',rfl,h1,h2⟩
   ·exact ⟨d,H2,I2.kept hk,rd,q0 e0⟩
   ·exact ⟨.int M,H2,I2.kept hk,⟨_,rfl⟩,qm M h1 h2⟩
end
end L2
namespace L2
open PySem PySem.Spec PyProof.Rows
section
variable {X:Cx} {x:Str} {p pos:Pos} {e:Expr} {es:List Expr} {t:TA} {tf:TE}
def DW (X:Cx) (v:V) (sp:Sp):Prop:=∃ (f:Addr) (k:Nat) (fd:FuncData) (ps:List Str),v = .ref f/\az X.prog X.w X.K X.mg X.base CX0 k f fd ps sp/\bP k X.A/\PySem.W.keepIn X.K (.ref f)=true/\aG X.K fd ps []
def Ad (X:Cx) (tf:TE) (t:TA):TE:=fun σ H Q=>tf σ H fun x H1=>∃ sp,DW X x sp/\t σ H1 fun vs H2=>sp vs H2 Q E0
theorem p9 (hf:PE X (.Name x p) tf) (ha:PA X (e::es) t) (he:starEach (e::es) X.env=(false,eval e X.env)::starEach es X.env:=by rfl) (hpl:(backTo pos (starEach es X.env)).any (·.1)=false:=by rfl) :
  PE X (.Call (.Name x p) (e::es) [] pos) (Ad X tf t):=by
 intro pins s σ H Q I h
 refine wpAny_Call_Name_kw (thn (hf pins s σ H _ I h) fun u s1 ⟨y,H1,I1,ry,sp,⟨f,k,fd,ps,ey,F,hr,hk,hb⟩,q⟩=>?_)
 subst ey
 cases (show u=Value.ref f from ry)
 refine PySem.W.callWith_K (h₀:=X.base) I1.ok.mod.kin hk (thn (ha pos pins s1 σ H1 _ I1 q) fun us s2 ⟨vs,H2,I2,r2,q2⟩=>⟨I2.kIn,?_⟩) he hpl
 exact nJ F hr hb .nil aD I2 r2 (by rw [List.append_nil];exact q2)
end
end L2
namespace L2
open PySem PySem.Spec PyProof.Rows
open AutoSeq1 (wpAny_loadPart')
section
variable {prog:Program} {w:World} {A:Around} {E:Value->Shared->Prop} {s:Shared}
theorem kD {it l:Addr} {i:Nat} {items} {x:Value} {Q:Value->Shared->Prop} (hit:s.heap.IsTupleIter it l i) (hl:s.heap.IsTuple l items) (hx:items[i]?=some x)
  (hQ:∀ h',h'.IsTupleIter it l (i+1)->Heap.SameBut it s.heap h'->Q x { s with heap:=h' }):wpAny (model prog w) A (Builtin.SmallTypes.nextOf (.ref it)) Q E s:=by
 obtain ⟨o,ho,hc,hd⟩:=id hit
 obtain ⟨ol,hol,_,nl,hdl⟩:=hl
 unfold Builtin.SmallTypes.nextOf
 refine wpAny_bind (wpAny_callSpecial?_slot (name:=Str.ofString "__next__") hit.typeIs F.slot_tuple_iterator_next
  (wpAny_call_entry F.slot_tuple_iterator_next hit.typeIs F.entry_tuple_iterator_next ?_ (F.args_tuple_iterator_next_1 _)))
 show wpAny _ _ (field (.ref it) 0 >>= _) _ _ s
 refine wpAny_bind (wpAny_field ho hd (x:= .ref l) rfl ?_)
 show wpAny _ _ (if (Value.ref l == Value.none)=true then _ else _) _ _ s
 rw [if_neg (show ¬ ((Value.ref l == Value.none)=true) from Bool.false_ne_true)]
 show wpAny _ _ (field (.ref it) 1 >>= _) _ _ s
 refine wpAny_bind (wpAny_field ho hd (x:= .int i 0) rfl ?_)
 show wpAny _ _ (seqItems? (.ref l) >>= _) _ _ s
 refine wpAny_bind (wpAny_seqItems hol hdl ?_)
 simp only [Int.toNat_natCast,hx]
 refine wpAny_bind (wpAny_setField ho hd (by simp) (wpAny_pure ⟨x,rfl,wpAny_pure (hQ _ ?_ (Heap.SameBut.update ..))⟩))
 exact ⟨_,Heap.get?_update_self _ ho (Obj.isFreed_of_fields (Obj.data_mapFields hd _)),(Obj.cls_mapFields ..).trans hc,by
  rw [Obj.data_mapFields hd];simp [rawInt]⟩
theorem nF {it l:Addr} {i:Nat} {items} {Q:Value->Shared->Prop} (hh:A.handled=none) (hit:s.heap.IsTupleIter it l i) (hl:s.heap.IsTuple l items) (hx:items[i]?=none)
  (hE:∀ h' e,Heap.ExtBut it s.heap h'->(∃ o,h'.get? e=some o/\o.cls = .type "StopIteration")->E (.ref e) { s with heap:=h' }):wpAny (model prog w) A (Builtin.SmallTypes.nextOf (.ref it)) Q E s:=by
 obtain ⟨o,ho,hc,hd⟩:=id hit
 obtain ⟨ol,hol,_,nl,hdl⟩:=hl
 unfold Builtin.SmallTypes.nextOf
 refine wpAny_bind (wpAny_callSpecial?_slot (name:=Str.ofString "__next__") hit.typeIs F.slot_tuple_iterator_next
  (wpAny_call_entry F.slot_tuple_iterator_next hit.typeIs F.entry_tuple_iterator_next ?_ (F.args_tuple_iterator_next_1 _)))
 show wpAny _ _ (field (.ref it) 0 >>= _) _ _ s
 refine wpAny_bind (wpAny_field ho hd (x:= .ref l) rfl ?_)
 show wpAny _ _ (if (Value.ref l == Value.none)=true then _ else _) _ _ s
 rw [if_neg (show ¬ ((Value.ref l == Value.none)=true) from Bool.false_ne_true)]
 show wpAny _ _ (field (.ref it) 1 >>= _) _ _ s
 refine wpAny_bind (wpAny_field ho hd (x:= .int i 0) rfl ?_)
 show wpAny _ _ (seqItems? (.ref l) >>= _) _ _ s
 refine wpAny_bind (wpAny_seqItems hol hdl ?_)
 simp only [Int.toNat_natCast,hx]
 refine wpAny_bind (wpAny_rule (wpAny_bind (wpAny_setField ho hd (by simp) ?_)))
 show wpAny _ _ (newExc (.type "StopIteration") [] >>= _) _ _ _
 refine wpAny_bind ?_
 simp only [newExc,newTuple]
 refine wpAny_bind (wpAny_newObj_type ?_ (by size_fits))
 refine wpAny_bind (m:=firstArgMember _ _) (wpAny_of_eq (a:=Value.none) (by first | rfl | (simp only [firstArgMember];rfl)) ?_)
 refine wpAny_newObj_type ?_ (by size_fits)
 simp only [raiseNew]
 refine wpAny_bind (wpAny_handled ?_)
 first | rw [show A.in1.handled=none from hh] | rw [hh]
 refine wpAny_bind (wpAny_pure (wpAny_throw ?_))
 exact hE _ _ (((Heap.SameBut.update ..).extBut.push _).push _) ⟨_,Heap.get?_push_size _ rfl,rfl⟩
end
theorem vN {prog:Program} {w:World} {A:Around} (hh:A.handled=none) (it l:Addr) (hne:l≠it) (items:Array Value) :
  Draws prog w A it [it,l] items.size (fun i v=>items[i]?=some v) (fun i h=>h.IsTupleIter it l i/\h.IsTuple l items) where
 live:=fun _ _ st=>let ⟨o,ho,_⟩:=st.1;⟨o,ho⟩
 frame:=fun _ _ _ st hk=>⟨let ⟨o,ho,r⟩:=st.1;⟨o,hk it (by simp) o ho,r⟩,let ⟨o,ho,r⟩:=st.2;⟨o,hk l (by simp) o ho,r⟩⟩
 item:=fun i s Q E hi st hQ=>by
  refine kD st.1 st.2 (x:=items[i]) (by simp [hi]) fun h' hit' hs'=>?_
  exact hQ _ h' s.toks (by simp [hi]) ⟨hit',st.2.extBut hs'.extBut hne⟩ hs'
 done:=fun s Q E st hE=>nF hh st.1 st.2 (by simp) hE
theorem qe (l:Addr) (items:Array Value) (o:Obj) (hc:o.cls = .type "tuple") (n:Nat) (hd:o.data = .seq items n) :
  Meets (Builtin.«enumerate.__new__» ⟨[.type "enumerate",.ref l],[]⟩) (fun _ R s=>s.heap.get? l=some o/\
   R (.ok (.ret (.ref (s.heap.push { cls:= .type "tuple_iterator",data:= .fields #[.ref l,.int 0 0] }).objs.size)))
    { s with heap:=(s.heap.push { cls:= .type "tuple_iterator",data:= .fields #[.ref l,.int 0 0] }).push { cls:= .type "enumerate",data:= .fields #[.none,.bool false,.ref s.heap.objs.size,rawInt 0,.none,.none] } }):=
 .of_wp fun prog w A R s h=>by
  obtain ⟨hp,g,d,tk,os⟩:=s;obtain ⟨hl,h⟩:=h
  have hsub:=sub_enumerate
  have hL:Heap.IsTuple (Shared.heap ⟨hp,g,d,tk,os⟩) l items:=⟨_,hl,hc,n,hd⟩
  wp_walk using wpAny_loadPart' hl
  refine wpAny_stack_any fun st=>wpAny_pure ?_
  split
  ·rename_i c _ _ _ _ _
   cases (c == Value.type "enumerate")
   ·wp_walk using wpAny_loadPart' hl,wpAny_pyIter_tuple hL
    exact ⟨_,rfl,h⟩
   ·wp_walk using wpAny_loadPart' hl,wpAny_pyIter_tuple hL
    exact ⟨_,rfl,h⟩
  ·wp_walk using wpAny_loadPart' hl,wpAny_pyIter_tuple hL
   exact ⟨_,rfl,h⟩
section
variable {prog:Program} {w:World} {A:Around} {E:Value->Shared->Prop} {s:Shared}
theorem qC {l:Addr} {items:Array Value} {Q:Value->Shared->Prop} (hL:s.heap.IsTuple l items)
  (h:∀ h',IsEnum h' (s.heap.objs.size+1) s.heap.objs.size 0 .none->h'.IsTupleIter s.heap.objs.size l 0->h'.objs.size=s.heap.objs.size+2->
   (∀ b o,s.heap.get? b=some o->h'.get? b=some o)->Q (.ref (s.heap.objs.size+1)) { s with heap:=h' }) :
  wpAny (model prog w) A (call (.type "enumerate") [.ref l]) Q E s:=by
 obtain ⟨o,hl,hc,n,hd⟩:=hL
 refine callType_new F.called_enumerate (by decide) (F.typeCall_enumerate_1 _) (F.newCall_enumerate_1 _) (fun obj=>F.args_object_init_2 obj _) F.entry_enumerate_new
  (qe l items o hc n hd) ⟨hl,?_⟩
 have hz:(s.heap.push { cls:= .type "tuple_iterator",data:= .fields #[.ref l,.int 0 0] }).objs.size=s.heap.objs.size+1:=Heap.size_push ..
 show _/\_
 rw [hz]
 have he:IsEnum ((s.heap.push { cls:= .type "tuple_iterator",data:= .fields #[.ref l,.int 0 0] }).push
   { cls:= .type "enumerate",data:= .fields #[.none,.bool false,.ref s.heap.objs.size,rawInt 0,.none,.none] }) (s.heap.objs.size+1) s.heap.objs.size 0 .none:=by
  have:=Heap.get?_push_size (s.heap.push { cls:= .type "tuple_iterator",data:= .fields #[.ref l,.int 0 0] })
   (o:={ cls:= .type "enumerate",data:= .fields #[.none,.bool false,.ref s.heap.objs.size,rawInt 0,.none,.none] }) rfl
  rw [hz] at this;exact this
 refine ⟨⟨_,he,rfl⟩,h _ he ⟨_,Heap.get?_push_of_some _ (Heap.get?_push_size _ rfl),rfl,rfl⟩ (by rw [Heap.size_push,hz]) fun b o x=>Heap.get?_push_of_some _ (Heap.get?_push_of_some _ x)⟩
end
end L2
namespace L2
open PySem PySem.Spec PyProof.Rows
def ItT (K:PySem.W.Frag) (a:Addr):It:=
 ⟨fun i H=>∃ (xs:List V) (x:V),SqT K H a xs/\xs[i]?=some x,fun i H v H'=>∃ T x,v = .ref T/\H T=none/\H'=upd H T (.tup [.int (i:Nat),x])/\∀ xs,SqT K H a xs->xs[i]?=some x,fun i H=>∃ xs:List V,SqT K H a xs/\xs.length=i⟩
theorem rL {P:Program} {w:World} {K:PySem.W.Frag} {elts:List Expr} {kk:Nat} {tpos:Pos} (a e it:Addr) (hai:a≠it) (hea:e≠a) :
  oK P w K (.Tuple elts kk tpos) (ItT K a) [e,it] e (fun i h=>(∃ old,IsEnum h e it ((i:Nat):Int) old)/\h.IsTupleIter it a i/\e≠it) where
 mem:=by simp
 obj:=fun i h st b hb=>by
  obtain ⟨⟨old,he⟩,⟨o,ho,hc,hd⟩,_⟩:=st
  have e':b=e\/b=it:=by simpa using hb
  rcases e' with z | z
  ·rw [z];exact ⟨_,he,fun v q=>nomatch q⟩
  ·rw [z];exact ⟨o,ho,fun v q=>by rw [hd] at q;cases q⟩
 keep:=fun i h h' st k=>let ⟨⟨old,he⟩,⟨o,ho,r⟩,hne⟩:=st;⟨⟨old,k e (by simp) _ he⟩,⟨o,k it (by simp) o ho,r⟩,hne⟩
 item:=by
  intro X hP hw hK hc i pins s σ H E I hf st hg
  subst hP hw hK
  obtain ⟨⟨old,he⟩,hit,hne⟩:=st
  obtain ⟨xs,x,hq,hx⟩:=hg
  obtain ⟨its,rv,p,hz⟩:=I.tuple hq
  obtain ⟨u,hu,ru⟩:=rv.get hx
  have hel:e < s.heap.objs.size:=Heap.lt_size he
  have hil:it < s.heap.objs.size:=by obtain ⟨_,q,_⟩:=hit;exact Heap.lt_size q
  have hlt:i < its.toArray.size:=by
   have:=(List.getElem?_eq_some_iff.mp hu).1
   simpa using this
  refine wpAny_pyNext_enum_itemD (vN (A:=X.A.in1) (show X.A.in1.handled=none from I.ok.hd hc) it a hai its.toArray) he ⟨hit,p⟩ hlt hne (by simp [hne,hea]) fun u' h' tk hP ho hst hT hsz hk=>?_
  have eu:u'=u:=by
   have:its.toArray[i]?=some u':=hP
   rw [show its.toArray[i]?=some u by simpa using hu] at this
   exact (Option.some.inj this).symm
  subst eu
  refine ⟨_,rfl,wpAny_letOwnedTupleGo_enum (s:={ s with heap:=h',toks:=tk+1 }) ho fun h'' he' sb=>?_⟩
  have hT2:h''.get? s.heap.objs.size=some { cls:= .type "tuple",data:= .seq #[.int i tk,u'] }:=(sb.2 _ (Nat.ne_of_gt hel)).trans hT
  have new:cz X.prog X.w (upd H s.heap.objs.size (.tup [.int (i:Nat),x])) h'' s.heap.objs.size (.tup [.int (i:Nat),x]):=
   ⟨by show 2<=sizeLine;decide,[.int i tk,u'],.cons ⟨_,rfl⟩ (.cons ru .nil),⟨_,hT2,rfl,_,rfl⟩⟩
  have I1:Inv X pins σ (upd H s.heap.objs.size (.tup [.int (i:Nat),x])) { s with heap:=h'',toks:=tk+1 }:=
   I.turnedNew (ch:=[e,it]) (fun b ob hb q=>(sb.2 b (fun z=>hb (by simp [z]))).trans (hk b ob (fun z=>hb (by simp [z])) (fun z=>hb (by simp [z])) q)) hf (Nat.le_refl _) new
  refine ⟨.ref s.heap.objs.size,_,I1,rfl,⟨_,x,rfl,I.hok.fresh (Nat.le_refl _),rfl,fun ys hy=>by rw [I.tuple_inj hy hq];exact hx⟩,⟨⟨u',?_⟩,?_,hne⟩,fun b hb=>?_⟩
  ·have e1:((i+1:Nat):Int)=(i:Int)+1:=by omega
   rw [e1];exact he'
  ·obtain ⟨o,ho2,r⟩:=hst.1
   exact ⟨o,(sb.2 it (Ne.symm hne)).trans ho2,r⟩
  ·have hb':b < s.heap.objs.size:=by
    have e':b=e\/b=it:=by simpa using hb
    rcases e' with z | z
    ·rw [z];exact hel
    ·rw [z];exact hil
   rw [ah (Nat.ne_of_lt hb')]
   exact (hf b hb).1
 done:=by
  intro X hP hw hK hc i pins s σ H E I hf st hg
  subst hP hw hK
  obtain ⟨⟨old,he⟩,hit,hne⟩:=st
  obtain ⟨xs,hq,hx⟩:=hg
  obtain ⟨its,rv,p,hz⟩:=I.tuple hq
  obtain ⟨f0,f1,f2,f3,f4,f5⟩:=hf it (by simp)
  have hl:=rv.length
  have ei:i=its.toArray.size:=by simp;omega
  subst ei
  exact wpAny_pyNext_enum_endD (vN (A:=X.A.in1) (show X.A.in1.handled=none from I.ok.hd hc) it a hai its.toArray) he ⟨hit,p⟩ fun h' eb=>⟨rfl,I.turned (t':=s.toks) (fun b o hb q=>eb b o hb q) f0 f1 f3 f4 f5⟩
 self:=fun A i s Q E st h=>let ⟨⟨_,he⟩,_⟩:=st;wpAny_pyIter_enum he h
structure lX (J:It) (n:Nat) (L:Hp->Prop) (Y:Nat->Hp->V->Hp->Prop):Prop where
 go:∀ i H,L H->i < n->J.go i H
 stop:∀ H,L H->J.stop n H
 yld:∀ i H x H',L H->i < n->J.yld i H x H'->Y i H x H'
theorem eO {J:It} {n:Nat} {L:Hp->Prop} {Y:Nat->Hp->V->Hp->Prop} (F:lX J n L Y) {g:TG} {tb:TS} {D:lV} {σ:St} {H:Hp} (Pv:Nat->St->Hp->Prop) (h0:Pv 0 σ H) (hl:∀ i σ H,i<=n->Pv i σ H->L H)
  (hs:∀ i x σ H H',i < n->Y i H x H'->Pv i σ H->g x σ H' fun σ2 H2=>tb { D with nx:=Pv (i+1),ct:=Pv (i+1),bk:=D.nx } σ2 H2) (hd:∀ σ H,Pv n σ H->D.nx σ H) :
  ∃ W:Nat->Nat->St->Hp->Prop,(∃ m,W 0 m σ H)/\∀ i m σ H,W i m σ H->
   (J.stop i H/\D.nx σ H)\/(J.go i H/\∃ N:St->Hp->Prop,(∀ σ' H',N σ' H'->∃ m',m' < m/\W (i+1) m' σ' H')/\∀ x H',J.yld i H x H'->g x σ H' fun σ2 H2=>tb { D with nx:=N,ct:=N,bk:=D.nx } σ2 H2):=by
 refine ⟨fun i m σ H=>m=n - i/\i<=n/\Pv i σ H,⟨n,by simp,Nat.zero_le _,h0⟩,?_⟩
 rintro i m σ H ⟨rfl,hi,p⟩
 have q:=hl i σ H hi p
 by_cases hlt:i < n
 ·exact .inr ⟨F.go i H q hlt,Pv (i+1),fun σ' H' p'=>⟨n - (i+1),by omega,rfl,hlt,p'⟩,fun x H' y=>hs i x σ H H' hlt (F.yld i H x H' q hlt y) p⟩
 ·have e:i=n:=by omega
  subst e
  exact .inl ⟨F.stop H q,hd σ H p⟩
theorem ph {J:It} {n:Nat} {L:Hp->Prop} {Y:Nat->Hp->V->Hp->Prop} (F:lX J n L Y) {g:TG} {tt:TT} {te:TE} {vs:List Nat} {σ:St} {H1:Hp} {D:Addr} {Qd:Hp->Prop} (Pv:Nat->Hp->Prop) (h0:Pv 0 (upd H1 D (.lst []))) (hl:∀ i H,i<=n->Pv i H->L H)
  (hs:∀ i x H H',i < n->Y i H x H'->Pv i H->g x (cw σ vs) H' fun σ2 H2=>cw σ2 vs=cw σ vs/\tt σ2 H2 fun b H3=>
   if b=true then te σ2 H3 fun y H4=>∃ acc,H4 D=some (.lst acc)/\acc.length < sizeLine/\Pv (i+1) (upd H4 D (.lst (acc++[y]))) else Pv (i+1) H3) (hd:∀ H,Pv n H->Qd H) :
  ∃ W:Nat->Nat->Hp->Prop,(∃ m,W 0 m (upd H1 D (.lst [])))/\∀ i m H,W i m H->
   (J.stop i H/\Qd H)\/(J.go i H/\∃ Nx:Hp->Prop,(∀ H',Nx H'->∃ m',m' < m/\W (i+1) m' H')/\∀ x H',J.yld i H x H'->g x (cw σ vs) H' fun σ2 H2=>cw σ2 vs=cw σ vs/\tt σ2 H2 fun b H3=>
    if b=true then te σ2 H3 fun y H4=>∃ acc,H4 D=some (.lst acc)/\acc.length < sizeLine/\Nx (upd H4 D (.lst (acc++[y]))) else Nx H3):=by
 refine ⟨fun i m H=>m=n - i/\i<=n/\Pv i H,⟨n,by simp,Nat.zero_le _,h0⟩,?_⟩
 rintro i m H ⟨rfl,hi,p⟩
 have q:=hl i H hi p
 by_cases hlt:i < n
 ·exact .inr ⟨F.go i H q hlt,Pv (i+1),fun H' p'=>⟨n - (i+1),by omega,rfl,hlt,p'⟩,fun x H' y=>hs i x H H' hlt (F.yld i H x H' q hlt y) p⟩
 ·have e:i=n:=by omega
  subst e
  exact .inl ⟨F.stop H q,hd H p⟩
def vQ (xs:List V):Nat->Hp->V->Hp->Prop:=fun i H v H'=>∃ T x,v = .ref T/\H T=none/\H'=upd H T (.tup [.int (i:Nat),x])/\xs[i]?=some x
theorem vV {K:PySem.W.Frag} {a:Addr} {xs:List V}:lX (Ite K a) xs.length (fun H=>SqL K H a xs) (vQ xs):=
 ⟨fun i H q h=>⟨xs,xs[i],q,by simp [h]⟩,fun H q=>⟨xs,q,Nat.le_refl _⟩,fun i H x H' q h ⟨T,y,e1,e2,e3,e4⟩=>⟨T,y,e1,e2,e3,e4 xs q⟩⟩
theorem ua {K:PySem.W.Frag} {a:Addr} {xs:List V}:lX (ItT K a) xs.length (fun H=>SqT K H a xs) (vQ xs):=
 ⟨fun i H q h=>⟨xs,xs[i],q,by simp [h]⟩,fun H q=>⟨xs,q,rfl⟩,fun i H x H' q h ⟨T,y,e1,e2,e3,e4⟩=>⟨T,y,e1,e2,e3,e4 xs q⟩⟩
end L2
namespace L2
open PySem PySem.Spec PyProof.Rows
def dy:Bool->Heap->Addr->Addr->Nat->Prop
 | true,h,it,l,i=>h.IsTupleIter it l i
 | false,h,it,l,i=>h.IsListIter it l i
def d9:Bool->Heap->Addr->Array Value->Prop
 | true,h,l,xs=>h.IsTuple l xs
 | false,h,l,xs=>h.IsList l xs
def AR:Bool->String
 | true=> "tuple_iterator"
 | false=> "list_iterator"
abbrev lC (t:Bool) (l:Addr):Obj:={ cls:= .type (AR t),data:= .fields #[.ref l,.int 0 0] }
theorem dy.get {t:Bool} {h:Heap} {it l:Addr} {i:Nat} (x:dy t h it l i):∃ o,h.get? it=some o/\∀ v,o.data≠ .cell v:=by
 cases t with
 | true=>obtain ⟨o,ho,hc,hd⟩:=x;exact ⟨o,ho,fun v q=>by rw [hd] at q;cases q⟩
 | false=>obtain ⟨o,ho,hc,hd⟩:=x;exact ⟨o,ho,fun v q=>by rw [hd] at q;cases q⟩
theorem dy.at {t:Bool} {h h':Heap} {it l:Addr} {i:Nat} (x:dy t h it l i) (e:∀ o,h.get? it=some o->h'.get? it=some o):dy t h' it l i:=by
 cases t with
 | true=>obtain ⟨o,ho,r⟩:=x;exact ⟨o,e o ho,r⟩
 | false=>obtain ⟨o,ho,r⟩:=x;exact ⟨o,e o ho,r⟩
theorem dy.extBut {t:Bool} {h h':Heap} {it b l:Addr} {i:Nat} (x:dy t h it l i) (hs:Heap.ExtBut b h h') (hab:it≠b):dy t h' it l i:=x.at fun o e=>hs it o hab e
theorem d9.at {t:Bool} {h h':Heap} {l:Addr} {xs:Array Value} (x:d9 t h l xs) (e:∀ o,h.get? l=some o->h'.get? l=some o):d9 t h' l xs:=by
 cases t with
 | true=>obtain ⟨o,ho,r⟩:=x;exact ⟨o,e o ho,r⟩
 | false=>obtain ⟨o,ho,r⟩:=x;exact ⟨o,e o ho,r⟩
theorem d9.extBut {t:Bool} {h h':Heap} {b l:Addr} {xs:Array Value} (x:d9 t h l xs) (hs:Heap.ExtBut b h h') (hab:l≠b):d9 t h' l xs:=x.at fun o e=>hs l o hab e
theorem d9.lt {t:Bool} {h:Heap} {l:Addr} {xs:Array Value} (x:d9 t h l xs):l < h.objs.size:=by
 cases t with
 | true=>obtain ⟨o,ho,r⟩:=x;exact Heap.lt_size ho
 | false=>obtain ⟨o,ho,r⟩:=x;exact Heap.lt_size ho
section
variable {prog:Program} {w:World} {A:Around} {E:Value->Shared->Prop} {s:Shared}
theorem jI {t:Bool} {it l:Addr} {i:Nat} {items} {x:Value} {Q:Value->Shared->Prop} (hit:dy t s.heap it l i) (hl:d9 t s.heap l items) (hx:items[i]?=some x)
  (hQ:∀ h',dy t h' it l (i+1)->Heap.SameBut it s.heap h'->Q x { s with heap:=h' }):wpAny (model prog w) A (Builtin.SmallTypes.nextOf (.ref it)) Q E s:=by
 cases t with
 | true=>exact kD hit hl hx hQ
 | false=>exact wpAny_nextOf_list_item hit hl hx hQ
theorem pH {t:Bool} {it l:Addr} {i:Nat} {items} {Q:Value->Shared->Prop} (hh:A.handled=none) (hit:dy t s.heap it l i) (hl:d9 t s.heap l items) (hx:items[i]?=none)
  (hE:∀ h' e,Heap.ExtBut it s.heap h'->(∃ o,h'.get? e=some o/\o.cls = .type "StopIteration")->E (.ref e) { s with heap:=h' }):wpAny (model prog w) A (Builtin.SmallTypes.nextOf (.ref it)) Q E s:=by
 cases t with
 | true=>exact nF hh hit hl hx hE
 | false=>exact wpAny_nextOf_list_end hh hit hl hx hE
theorem rS {t:Bool} {l:Addr} {items} {Q:Value->Shared->Prop} (hl:d9 t s.heap l items) (hQ:Q (.ref s.heap.objs.size) { s with heap:=s.heap.push (lC t l) }):wpAny (model prog w) A (pyIter (.ref l)) Q E s:=by
 cases t with
 | true=>exact wpAny_pyIter_tuple hl hQ
 | false=>exact wpAny_pyIter_list hl hQ
theorem tX {t1 t2:Bool} {z TI TO i1 i2 l1 l2:Addr} {k1 k2:Nat} {xs ys:Array Value} {x y a b:Value} {Q:Value->Shared->Prop} (D:ZipApart z TI TO i1 i2 l1 l2)
  (hz:IsZip s.heap z TI TO .none) (hTI:IsPair s.heap TI (.ref i1) (.ref i2)) (hTO:IsPair s.heap TO a b)
  (h1:dy t1 s.heap i1 l1 k1) (h2:dy t2 s.heap i2 l2 k2) (hl1:d9 t1 s.heap l1 xs) (hl2:d9 t2 s.heap l2 ys) (hx:xs[k1]?=some x) (hy:ys[k2]?=some y)
  (hQ:∀ h',IsZip h' z TI TO (rawInt s.heap.objs.size)->IsPair h' TO x y->dy t1 h' i1 l1 (k1+1)->dy t2 h' i2 l2 (k2+1)->IsPair h' s.heap.objs.size x y->h'.objs.size=s.heap.objs.size+1->
   (∀ c o,c≠z->c≠TO->c≠i1->c≠i2->s.heap.get? c=some o->h'.get? c=some o)->Q (.ref s.heap.objs.size) { s with heap:=h' }) :
  wpAny (model prog w) A (Builtin.«zip.__next__» ⟨[.ref z],[]⟩) (fun fin s'=>∃ v,fin = .done (.ret v)/\Q v s') E s:=by
 show wpAny _ _ (field (.ref z) 2 >>= _) _ _ _
 refine wpAny_bind (wpAny_field hz rfl (x:= .bool false) rfl ?_)
 show wpAny _ _ (field (.ref z) 3 >>= _) _ _ _
 refine wpAny_bind (wpAny_field hz rfl (x:= .ref TI) rfl ?_)
 refine wpAny_bind (wpAny_seqItems hTI rfl ?_)
 show wpAny _ _ (Builtin.SmallTypes.ownedTupleIsFree (.ref z) >>= _) _ _ _
 refine wpAny_bind ?_
 unfold Builtin.SmallTypes.ownedTupleIsFree
 refine wpAny_bind (wpAny_field hz rfl (x:= .none) rfl (wpAny_pure ?_))
 simp only [if_true]
 refine wpAny_bind (wpAny_rule ?_)
 refine wpAny_bind (wpAny_field hz rfl (x:= .ref TO) rfl ?_)
 refine wpAny_bind (wpAny_setField_rec hz (by simp) fun h₁ hz₁ hs₁=>?_)
 replace hz₁:IsZip h₁ z TI TO .ellipsis:=hz₁
 refine wpAny_bind ?_
 simp only [List.zipIdx_cons,List.zipIdx_nil,List.forIn_cons,List.forIn_nil]
 refine wpAny_bind (wpAny_bind (wpAny_onRaise ?_))
 show wpAny _ _ (Builtin.SmallTypes.nextOf (.ref i1) >>= _) _ _ _
 refine wpAny_bind (jI (h1.extBut hs₁.extBut D.i1z) (hl1.extBut hs₁.extBut D.l1z) hx fun h₂ h1₂ hs₂=>wpAny_pure ?_)
 have hTO₂:IsPair h₂ TO a b:=hs₂.extBut _ _ D.TOi1 (hs₁.extBut _ _ D.TOz hTO)
 refine wpAny_bind (wpAny_seqItems hTO₂ rfl ?_)
 refine wpAny_bind (wpAny_updateSeq_pair hTO₂ fun h₃ hTO₃ hs₃=>?_)
 replace hTO₃:IsPair h₃ TO x b:=hTO₃
 refine wpAny_bind (wpAny_letGo (wpAny_pure ?_))
 refine wpAny_bind (wpAny_bind (wpAny_onRaise ?_))
 show wpAny _ _ (Builtin.SmallTypes.nextOf (.ref i2) >>= _) _ _ _
 refine wpAny_bind (jI (((h2.extBut hs₁.extBut D.i2z).extBut hs₂.extBut D.i12.symm).extBut hs₃.extBut D.TOi2.symm)
  (((hl2.extBut hs₁.extBut D.l2z).extBut hs₂.extBut D.l2i1).extBut hs₃.extBut D.l2TO) hy fun h₄ h2₄ hs₄=>wpAny_pure ?_)
 have hTO₄:IsPair h₄ TO x b:=hs₄.extBut _ _ D.TOi2 hTO₃
 refine wpAny_bind (wpAny_seqItems hTO₄ rfl ?_)
 refine wpAny_bind (wpAny_updateSeq_pair hTO₄ fun h₅ hTO₅ hs₅=>?_)
 replace hTO₅:IsPair h₅ TO x y:=hTO₅
 refine wpAny_bind (wpAny_letGo (wpAny_pure (wpAny_pure ?_)))
 refine wpAny_bind (wpAny_seqItems hTO₅ rfl ?_)
 refine wpAny_bind (wpAny_newTuple ?_)
 have hsz:h₅.objs.size=s.heap.objs.size:=by rw [hs₅.1,hs₄.1,hs₃.1,hs₂.1,hs₁.1]
 have hz₅:IsZip h₅ z TI TO .ellipsis:=hs₅.extBut _ _ D.TOz.symm (hs₄.extBut _ _ D.i2z.symm (hs₃.extBut _ _ D.TOz.symm (hs₂.extBut _ _ D.i1z.symm hz₁)))
 have hk₅:∀ c o,c≠z->c≠TO->c≠i1->c≠i2->s.heap.get? c=some o->h₅.get? c=some o:=fun c o c1 c2 c3 c4 e=>
  hs₅.extBut _ _ c2 (hs₄.extBut _ _ c4 (hs₃.extBut _ _ c2 (hs₂.extBut _ _ c3 (hs₁.extBut _ _ c1 e))))
 have h1₅:dy t1 h₅ i1 l1 (k1+1):=((h1₂.extBut hs₃.extBut D.TOi1.symm).extBut hs₄.extBut D.i12).extBut hs₅.extBut D.TOi1.symm
 have h2₅:dy t2 h₅ i2 l2 (k2+1):=h2₄.extBut hs₅.extBut D.TOi2.symm
 have hzlt:z < h₅.objs.size:=Heap.lt_size hz₅
 show wpAny _ _ (Builtin.SmallTypes.ownedTupleHandOut (.ref z) (.ref h₅.objs.size) >>= _) _ _ _
 refine wpAny_bind ?_
 unfold Builtin.SmallTypes.ownedTupleHandOut
 have hz₆:IsZip (h₅.push { cls:= .type "tuple",data:= .seq #[x,y] }) z TI TO .ellipsis:=Heap.get?_push_of_some _ hz₅
 refine wpAny_bind (wpAny_setField_rec hz₆ (by simp) fun h₇ hz₇ hs₇=>?_)
 replace hz₇:IsZip h₇ z TI TO (rawInt h₅.objs.size):=hz₇
 refine wpAny_setField_rec hz₇ (by simp) fun h₈ hz₈ hs₈=>?_
 replace hz₈:IsZip h₈ z TI TO (rawInt h₅.objs.size):=hz₈
 have up:∀ c o,c≠z->h₅.get? c=some o->h₈.get? c=some o:=fun c o c1 e=>hs₈.extBut _ _ c1 (hs₇.extBut _ _ c1 (Heap.get?_push_of_some _ e))
 have hT₈:IsPair h₈ h₅.objs.size x y:=hs₈.extBut _ _ (Nat.ne_of_gt hzlt) (hs₇.extBut _ _ (Nat.ne_of_gt hzlt) (Heap.get?_push_size _ rfl))
 have hz8:h₈.objs.size=h₅.objs.size+1:=by rw [hs₈.1,hs₇.1,Heap.size_push]
 rw [hsz] at hz₈ hT₈ hz8
 refine wpAny_pure ⟨_,rfl,?_⟩
 show Q (.ref h₅.objs.size) _
 rw [hsz]
 exact hQ h₈ hz₈ (up _ _ D.TOz hTO₅) (h1₅.at fun o e=>up _ o D.i1z e) (h2₅.at fun o e=>up _ o D.i2z e) hT₈ hz8 fun c o c1 c2 c3 c4 e=>up c o c1 (hk₅ c o c1 c2 c3 c4 e)
theorem wx {t1 t2:Bool} {z TI TO i1 i2 l1 l2:Addr} {k1 k2:Nat} {xs ys:Array Value} {a b:Value} {Q:Fin->Shared->Prop} (hh:A.handled=none) (D:ZipApart z TI TO i1 i2 l1 l2)
  (hz:IsZip s.heap z TI TO .none) (hTI:IsPair s.heap TI (.ref i1) (.ref i2)) (hTO:IsPair s.heap TO a b)
  (h1:dy t1 s.heap i1 l1 k1) (h2:dy t2 s.heap i2 l2 k2) (hl1:d9 t1 s.heap l1 xs) (hl2:d9 t2 s.heap l2 ys) (hend:xs[k1]?=none\/ys[k2]?=none)
  (hE:∀ h' e,(∀ c o,c≠z->c≠TO->c≠i1->c≠i2->s.heap.get? c=some o->h'.get? c=some o)->(∃ o,h'.get? e=some o/\o.cls = .type "StopIteration")->E (.ref e) { s with heap:=h' }) :
  wpAny (model prog w) A (Builtin.«zip.__next__» ⟨[.ref z],[]⟩) Q E s:=by
 show wpAny _ _ (field (.ref z) 2 >>= _) _ _ _
 refine wpAny_bind (wpAny_field hz rfl (x:= .bool false) rfl ?_)
 show wpAny _ _ (field (.ref z) 3 >>= _) _ _ _
 refine wpAny_bind (wpAny_field hz rfl (x:= .ref TI) rfl ?_)
 refine wpAny_bind (wpAny_seqItems hTI rfl ?_)
 show wpAny _ _ (Builtin.SmallTypes.ownedTupleIsFree (.ref z) >>= _) _ _ _
 refine wpAny_bind ?_
 unfold Builtin.SmallTypes.ownedTupleIsFree
 refine wpAny_bind (wpAny_field hz rfl (x:= .none) rfl (wpAny_pure ?_))
 simp only [if_true]
 refine wpAny_bind (wpAny_rule ?_)
 refine wpAny_bind (wpAny_field hz rfl (x:= .ref TO) rfl ?_)
 refine wpAny_bind (wpAny_setField_rec hz (by simp) fun h₁ hz₁ hs₁=>?_)
 replace hz₁:IsZip h₁ z TI TO .ellipsis:=hz₁
 refine wpAny_bind ?_
 simp only [List.zipIdx_cons,List.zipIdx_nil,List.forIn_cons,List.forIn_nil]
 refine wpAny_bind (wpAny_bind (wpAny_onRaise ?_))
 show wpAny _ _ (Builtin.SmallTypes.nextOf (.ref i1) >>= _) _ _ _
 cases hx:xs[k1]? with
 | none=>
  refine wpAny_bind (pH hh (h1.extBut hs₁.extBut D.i1z) (hl1.extBut hs₁.extBut D.l1z) hx fun h₂ e hs₂ he=>?_)
  obtain ⟨oe,hoe,hce⟩:=he
  have hz₂:IsZip h₂ z TI TO .ellipsis:=hs₂ _ _ D.i1z.symm hz₁
  have hez:e≠z:=fun x=>by subst x;rw [hz₂] at hoe;cases hoe;simp at hce
  refine wpAny_setField_rec hz₂ (by simp) fun h₃ _ hs₃=>hE h₃ e (fun c o c1 _ c3 _ x=>hs₃.extBut _ _ c1 (hs₂ _ _ c3 (hs₁.extBut _ _ c1 x))) ⟨oe,hs₃.extBut _ _ hez hoe,hce⟩
 | some x=>
  have hy:ys[k2]?=none:=by rcases hend with h | h;rw [hx] at h;cases h;exact h
  refine wpAny_bind (jI (h1.extBut hs₁.extBut D.i1z) (hl1.extBut hs₁.extBut D.l1z) hx fun h₂ h1₂ hs₂=>wpAny_pure ?_)
  have hTO₂:IsPair h₂ TO a b:=hs₂.extBut _ _ D.TOi1 (hs₁.extBut _ _ D.TOz hTO)
  refine wpAny_bind (wpAny_seqItems hTO₂ rfl ?_)
  refine wpAny_bind (wpAny_updateSeq_pair hTO₂ fun h₃ hTO₃ hs₃=>?_)
  refine wpAny_bind (wpAny_letGo (wpAny_pure ?_))
  refine wpAny_bind (wpAny_bind (wpAny_onRaise ?_))
  show wpAny _ _ (Builtin.SmallTypes.nextOf (.ref i2) >>= _) _ _ _
  refine wpAny_bind (pH hh (((h2.extBut hs₁.extBut D.i2z).extBut hs₂.extBut D.i12.symm).extBut hs₃.extBut D.TOi2.symm)
   (((hl2.extBut hs₁.extBut D.l2z).extBut hs₂.extBut D.l2i1).extBut hs₃.extBut D.l2TO) hy fun h₄ e hs₄ he=>?_)
  obtain ⟨oe,hoe,hce⟩:=he
  have hz₄:IsZip h₄ z TI TO .ellipsis:=hs₄ _ _ D.i2z.symm (hs₃.extBut _ _ D.TOz.symm (hs₂.extBut _ _ D.i1z.symm hz₁))
  have hez:e≠z:=fun x=>by subst x;rw [hz₄] at hoe;cases hoe;simp at hce
  refine wpAny_setField_rec hz₄ (by simp) fun h₅ _ hs₅=>hE h₅ e (fun c o c1 c2 c3 c4 x=>hs₅.extBut _ _ c1 (hs₄ _ _ c4 (hs₃.extBut _ _ c2 (hs₂.extBut _ _ c3 (hs₁.extBut _ _ c1 x))))) ⟨oe,hs₅.extBut _ _ hez hoe,hce⟩
theorem jx {t1 t2:Bool} {z TI TO i1 i2 l1 l2:Addr} {k1 k2:Nat} {xs ys:Array Value} {x y a b:Value} {Q:Option Value->Shared->Prop} (D:ZipApart z TI TO i1 i2 l1 l2)
  (hz:IsZip s.heap z TI TO .none) (hTI:IsPair s.heap TI (.ref i1) (.ref i2)) (hTO:IsPair s.heap TO a b)
  (h1:dy t1 s.heap i1 l1 k1) (h2:dy t2 s.heap i2 l2 k2) (hl1:d9 t1 s.heap l1 xs) (hl2:d9 t2 s.heap l2 ys) (hx:xs[k1]?=some x) (hy:ys[k2]?=some y)
  (hQ:∀ h',IsZip h' z TI TO (rawInt s.heap.objs.size)->IsPair h' TO x y->dy t1 h' i1 l1 (k1+1)->dy t2 h' i2 l2 (k2+1)->IsPair h' s.heap.objs.size x y->h'.objs.size=s.heap.objs.size+1->
   (∀ c o,c≠z->c≠TO->c≠i1->c≠i2->s.heap.get? c=some o->h'.get? c=some o)->Q (some (.ref s.heap.objs.size)) { s with heap:=h' }) :
  wpAny (model prog w) A (pyNext (.ref z)) Q E s:=by
 have hT:s.TypeIs (.ref z) "zip":=⟨_,hz,rfl⟩
 unfold pyNext
 exact wpAny_bind (wpAny_attempt (wpAny_callSpecial?_slot (name:=Str.ofString "__next__") hT F.slot_zip_next
  (wpAny_call_entry F.slot_zip_next hT F.entry_zip_next
   (tX D hz hTI hTO h1 h2 hl1 hl2 hx hy fun h' a1 a2 a3 a4 a5 a6 a7=>wpAny_pure (hQ h' a1 a2 a3 a4 a5 a6 a7)) (F.args_zip_next_1 _))))
theorem kg {t1 t2:Bool} {z TI TO i1 i2 l1 l2:Addr} {k1 k2:Nat} {xs ys:Array Value} {a b:Value} {Q:Option Value->Shared->Prop} (hh:A.handled=none) (D:ZipApart z TI TO i1 i2 l1 l2)
  (hz:IsZip s.heap z TI TO .none) (hTI:IsPair s.heap TI (.ref i1) (.ref i2)) (hTO:IsPair s.heap TO a b)
  (h1:dy t1 s.heap i1 l1 k1) (h2:dy t2 s.heap i2 l2 k2) (hl1:d9 t1 s.heap l1 xs) (hl2:d9 t2 s.heap l2 ys) (hend:xs[k1]?=none\/ys[k2]?=none)
  (hQ:∀ h',(∀ c o,c≠z->c≠TO->c≠i1->c≠i2->s.heap.get? c=some o->h'.get? c=some o)->Q none { s with heap:=h' }):wpAny (model prog w) A (pyNext (.ref z)) Q E s:=by
 have hT:s.TypeIs (.ref z) "zip":=⟨_,hz,rfl⟩
 unfold pyNext
 refine wpAny_bind (wpAny_attempt (wpAny_callSpecial?_slot (name:=Str.ofString "__next__") hT F.slot_zip_next
  (wpAny_call_entry F.slot_zip_next hT F.entry_zip_next (wx hh D hz hTI hTO h1 h2 hl1 hl2 hend fun h' e hk he=>?_) (F.args_zip_next_1 _))))
 obtain ⟨o,ho,hc⟩:=he
 refine wpAny_bind (wpAny_isInstance (T:= "StopIteration") (b:=true) ⟨o,ho,hc⟩ isSubtype_stop ?_)
 exact wpAny_pure (hQ _ hk)
end
abbrev zg1 (t1:Bool) (h:Heap) (l1:Addr):Heap:=h.push (lC t1 l1)
abbrev zg2 (t1 t2:Bool) (h:Heap) (l1 l2:Addr):Heap:=(zg1 t1 h l1).push (lC t2 l2)
abbrev zg3 (t1 t2:Bool) (h:Heap) (l1 l2:Addr):Heap:=(zg2 t1 t2 h l1 l2).push { cls:= .type "tuple",data:= .seq #[.ref h.objs.size,.ref (zg1 t1 h l1).objs.size] }
abbrev zg4 (t1 t2:Bool) (h:Heap) (l1 l2:Addr):Heap:=(zg3 t1 t2 h l1 l2).push { cls:= .type "tuple",data:= .seq #[.none,.none] }
abbrev zg5 (t1 t2:Bool) (h:Heap) (l1 l2:Addr):Heap:=(zg4 t1 t2 h l1 l2).push { cls:= .type "zip",data:= .fields #[.none,.bool false,.bool false,.ref (zg2 t1 t2 h l1 l2).objs.size,.ref (zg3 t1 t2 h l1 l2).objs.size] }
theorem qN (t1 t2:Bool) (l1 l2:Addr) (xs ys:Array Value) :
  Meets (Builtin.«zip.__new__» ⟨[.type "zip",.ref l1,.ref l2],[]⟩) (fun _ R s=>d9 t1 s.heap l1 xs/\d9 t2 s.heap l2 ys/\
   R (.ok (.ret (.ref (zg4 t1 t2 s.heap l1 l2).objs.size))) { s with heap:=zg5 t1 t2 s.heap l1 l2 }):=
 .of_wp fun prog w A R s h=>by
  obtain ⟨hp,g,d,tk,os⟩:=s;obtain ⟨hl1,hl2,h⟩:=h
  have hsub:=sub_zip
  have hL1:d9 t1 (Shared.heap ⟨hp,g,d,tk,os⟩) l1 xs:=hl1
  have hL2:d9 t2 (Shared.heap ⟨hp.push (lC t1 l1),g,d,tk,os⟩) l2 ys:=hl2.at fun o e=>Heap.get?_push_of_some _ e
  wp_walk using rS hL1,rS hL2
  exact ⟨_,rfl,h⟩
theorem p4 {t:Bool} {h:Heap} {it l:Addr} (e:h.get? it=some (lC t l)):dy t h it l 0:=by
 cases t with
 | true=>exact ⟨_,e,rfl,rfl⟩
 | false=>exact ⟨_,e,rfl,rfl⟩
section
variable {prog:Program} {w:World} {A:Around} {E:Value->Shared->Prop} {s:Shared}
theorem tQ {t1 t2:Bool} {l1 l2:Addr} {xs ys:Array Value} {Q:Value->Shared->Prop} (hl1:d9 t1 s.heap l1 xs) (hl2:d9 t2 s.heap l2 ys)
  (h:∀ h',IsZip h' (s.heap.objs.size+4) (s.heap.objs.size+2) (s.heap.objs.size+3) .none->IsPair h' (s.heap.objs.size+2) (.ref s.heap.objs.size) (.ref (s.heap.objs.size+1))->
   IsPair h' (s.heap.objs.size+3) .none .none->dy t1 h' s.heap.objs.size l1 0->dy t2 h' (s.heap.objs.size+1) l2 0->h'.objs.size=s.heap.objs.size+5->
   (∀ c o,s.heap.get? c=some o->h'.get? c=some o)->Q (.ref (s.heap.objs.size+4)) { s with heap:=h' }) :
  wpAny (model prog w) A (call (.type "zip") [.ref l1,.ref l2]) Q E s:=by
 refine callType_new F.called_zip (by decide) (F.typeCall_zip_2 _ _) (F.newCall_zip_2 _ _) (fun obj=>F.args_object_init_3 obj _ _) F.entry_zip_new
  (qN t1 t2 l1 l2 xs ys) ⟨hl1,hl2,?_⟩
 have z1:(zg1 t1 s.heap l1).objs.size=s.heap.objs.size+1:=Heap.size_push ..
 have z2:(zg2 t1 t2 s.heap l1 l2).objs.size=s.heap.objs.size+2:=by rw [Heap.size_push,z1]
 have z3:(zg3 t1 t2 s.heap l1 l2).objs.size=s.heap.objs.size+3:=by rw [Heap.size_push,z2]
 have z4:(zg4 t1 t2 s.heap l1 l2).objs.size=s.heap.objs.size+4:=by rw [Heap.size_push,z3]
 have z5:(zg5 t1 t2 s.heap l1 l2).objs.size=s.heap.objs.size+5:=by rw [Heap.size_push,z4]
 have g5:(zg5 t1 t2 s.heap l1 l2).get? (zg4 t1 t2 s.heap l1 l2).objs.size=some _:=Heap.get?_push_size _ rfl
 have g4:(zg5 t1 t2 s.heap l1 l2).get? (zg3 t1 t2 s.heap l1 l2).objs.size=some _:=Heap.get?_push_of_some _ (Heap.get?_push_size _ rfl)
 have g3:(zg5 t1 t2 s.heap l1 l2).get? (zg2 t1 t2 s.heap l1 l2).objs.size=some _:=Heap.get?_push_of_some _ (Heap.get?_push_of_some _ (Heap.get?_push_size _ rfl))
 have g2:(zg5 t1 t2 s.heap l1 l2).get? (zg1 t1 s.heap l1).objs.size=some (lC t2 l2):=Heap.get?_push_of_some _ (Heap.get?_push_of_some _ (Heap.get?_push_of_some _ (Heap.get?_push_size _ rfl)))
 have g1:(zg5 t1 t2 s.heap l1 l2).get? s.heap.objs.size=some (lC t1 l1):=Heap.get?_push_of_some _ (Heap.get?_push_of_some _ (Heap.get?_push_of_some _ (Heap.get?_push_of_some _ (Heap.get?_push_size _ rfl))))
 show _/\_
 rw [z2,z3,z4] at g5
 rw [z1,z2] at g3
 rw [z3] at g4
 rw [z1] at g2
 rw [z4]
 exact ⟨⟨_,g5,rfl⟩,h _ g5 g3 g4 (p4 g1) (p4 g2) z5 fun c o x=>
  Heap.get?_push_of_some _ (Heap.get?_push_of_some _ (Heap.get?_push_of_some _ (Heap.get?_push_of_some _ (Heap.get?_push_of_some _ x))))⟩
end
end L2
namespace L2
open PySem PySem.Spec PyProof.Rows
def SqX (K:PySem.W.Frag):Bool->Hp->Addr->List V->Prop
 | true,H,a,xs=>SqT K H a xs
 | false,H,a,xs=>SqL K H a xs
section
variable {X:Cx} {pins:List (Addr×Obj)} {σ:St} {H:Hp} {s:Shared}
theorem Inv.sqx {t:Bool} {a:Addr} {xs:List V} (I:Inv X pins σ H s) (h:SqX X.K t H a xs):∃ its:List Value,aI xs its/\d9 t s.heap a its.toArray:=by
 cases t with
 | true=>obtain ⟨its,r,p,_⟩:=I.tuple h;exact ⟨its,r,p⟩
 | false=>obtain ⟨its,r,p,_⟩:=I.list h;exact ⟨its,r,p.isList⟩
theorem Inv.sqx_inj {t:Bool} {a:Addr} {xs ys:List V} (I:Inv X pins σ H s) (h:SqX X.K t H a xs) (h':SqX X.K t H a ys):xs=ys:=by
 cases t with
 | true=>exact I.tuple_inj h h'
 | false=>exact I.list_inj h h'
end
def ItZ (K:PySem.W.Frag) (t1 t2:Bool) (a b:Addr):It:=
 ⟨fun i H=>∃ (xs ys:List V) (x y:V),SqX K t1 H a xs/\SqX K t2 H b ys/\xs[i]?=some x/\ys[i]?=some y,
  fun i H v H'=>∃ T x y,v = .ref T/\H T=none/\H'=upd H T (.tup [x,y])/\(∀ xs,SqX K t1 H a xs->xs[i]?=some x)/\∀ ys,SqX K t2 H b ys->ys[i]?=some y,
  fun i H=>∃ xs ys:List V,SqX K t1 H a xs/\SqX K t2 H b ys/\(xs.length<=i\/ys.length<=i)⟩
theorem tM {P:Program} {w:World} {K:PySem.W.Frag} {elts:List Expr} {kk:Nat} {tpos:Pos} {t1 t2:Bool} {a b z TI TO i1 i2:Addr} (D:ZipApart z TI TO i1 i2 a b) :
  oK P w K (.Tuple elts kk tpos) (ItZ K t1 t2 a b) [z,TI,TO,i1,i2] z (fun i h=>IsZip h z TI TO .none/\IsPair h TI (.ref i1) (.ref i2)/\(∃ x y,IsPair h TO x y)/\dy t1 h i1 a i/\dy t2 h i2 b i) where
 mem:=by simp
 obj:=fun i h st c hc=>by
  obtain ⟨hz,hTI,⟨x,y,hTO⟩,h1,h2⟩:=st
  have e':c=z\/c=TI\/c=TO\/c=i1\/c=i2:=by simpa using hc
  rcases e' with q | q | q | q | q
  ·rw [q];exact ⟨_,hz,fun v q=>nomatch q⟩
  ·rw [q];exact ⟨_,hTI,fun v q=>nomatch q⟩
  ·rw [q];exact ⟨_,hTO,fun v q=>nomatch q⟩
  ·rw [q];exact h1.get
  ·rw [q];exact h2.get
 keep:=fun i h h' st k=>by
  obtain ⟨hz,hTI,⟨x,y,hTO⟩,h1,h2⟩:=st
  exact ⟨k z (by simp) _ hz,k TI (by simp) _ hTI,⟨x,y,k TO (by simp) _ hTO⟩,h1.at fun o q=>k i1 (by simp) o q,h2.at fun o q=>k i2 (by simp) o q⟩
 item:=by
  intro X hP hw hK hc i pins s σ H E I hf st hg
  subst hP hw hK
  obtain ⟨hz,hTI,⟨x0,y0,hTO⟩,h1,h2⟩:=st
  obtain ⟨xs,ys,x,y,hqx,hqy,hx,hy⟩:=hg
  obtain ⟨its,rv,p⟩:=I.sqx hqx
  obtain ⟨its2,rv2,p2⟩:=I.sqx hqy
  obtain ⟨u,hu,ru⟩:=rv.get hx
  obtain ⟨u2,hu2,ru2⟩:=rv2.get hy
  have hzl:z < s.heap.objs.size:=Heap.lt_size hz
  refine jx D hz hTI hTO h1 h2 p p2 (x:=u) (y:=u2) (by simpa using hu) (by simpa using hu2) fun h' z' TO' h1' h2' hT hsz hk=>?_
  refine ⟨_,rfl,wpAny_letOwnedTupleGo_zip (s:={ s with heap:=h' }) z' fun h'' z'' sb=>?_⟩
  have hT2:h''.get? s.heap.objs.size=some { cls:= .type "tuple",data:= .seq #[u,u2] }:=(sb.2 _ (Nat.ne_of_gt hzl)).trans hT
  have new:cz X.prog X.w (upd H s.heap.objs.size (.tup [x,y])) h'' s.heap.objs.size (.tup [x,y]):=
   ⟨by show 2<=sizeLine;decide,[u,u2],.cons ru (.cons ru2 .nil),⟨_,hT2,rfl,_,rfl⟩⟩
  have I1:Inv X pins σ (upd H s.heap.objs.size (.tup [x,y])) { s with heap:=h'' }:=
   I.turnedNew (t':=s.toks) (ch:=[z,TI,TO,i1,i2]) (fun c o hb q=>(sb.2 c (fun q'=>hb (by simp [q']))).trans (hk c o (fun q'=>hb (by simp [q'])) (fun q'=>hb (by simp [q'])) (fun q'=>hb (by simp [q'])) (fun q'=>hb (by simp [q'])) q)) hf (Nat.le_refl _) new
  refine ⟨.ref s.heap.objs.size,_,I1,rfl,⟨_,x,y,rfl,I.hok.fresh (Nat.le_refl _),rfl,fun l hl=>by rw [I.sqx_inj hl hqx];exact hx,fun l hl=>by rw [I.sqx_inj hl hqy];exact hy⟩,⟨z'',?_,⟨u,u2,?_⟩,?_,?_⟩,fun c hcm=>?_⟩
  ·exact (sb.2 _ D.TIz).trans (hk _ _ D.TIz D.TITO D.TIi1 D.TIi2 hTI)
  ·exact (sb.2 _ D.TOz).trans TO'
  ·exact h1'.at fun o q=>(sb.2 _ D.i1z).trans q
  ·exact h2'.at fun o q=>(sb.2 _ D.i2z).trans q
  ·have hlt:c < s.heap.objs.size:=by
    have e':c=z\/c=TI\/c=TO\/c=i1\/c=i2:=by simpa using hcm
    rcases e' with q | q | q | q | q
    ·rw [q];exact hzl
    ·rw [q];exact Heap.lt_size hTI
    ·rw [q];exact Heap.lt_size hTO
    ·rw [q];obtain ⟨_,e1,_⟩:=h1.get;exact Heap.lt_size e1
    ·rw [q];obtain ⟨_,e2,_⟩:=h2.get;exact Heap.lt_size e2
   rw [ah (Nat.ne_of_lt hlt)]
   exact (hf c hcm).1
 done:=by
  intro X hP hw hK hc i pins s σ H E I hf st hg
  subst hP hw hK
  obtain ⟨hz,hTI,⟨x0,y0,hTO⟩,h1,h2⟩:=st
  obtain ⟨xs,ys,hqx,hqy,hend⟩:=hg
  obtain ⟨its,rv,p⟩:=I.sqx hqx
  obtain ⟨its2,rv2,p2⟩:=I.sqx hqy
  have l1:=rv.length
  have l2:=rv2.length
  have he:its.toArray[i]?=none\/its2.toArray[i]?=none:=by
   rcases hend with q | q
   ·exact .inl (by simp;omega)
   ·exact .inr (by simp;omega)
  exact kg (I.ok.hd hc) D hz hTI hTO h1 h2 p p2 he fun h' hk=>⟨rfl,I.turnedL (t':=s.toks) (ch:=[z,TI,TO,i1,i2]) (fun c o hb q=>
   hk c o (fun q'=>hb (by simp [q'])) (fun q'=>hb (by simp [q'])) (fun q'=>hb (by simp [q'])) (fun q'=>hb (by simp [q'])) q) hf⟩
 self:=fun A i s Q E st h=>wpAny_pyIter_zip st.1 h
def BZ (K:PySem.W.Frag) (t1 t2:Bool) (ta:TA):TI:=fun σ H R=>ta σ H fun vs H1=>∃ a b xs ys,vs=[.ref a,.ref b]/\SqX K t1 H1 a xs/\SqX K t2 H1 b ys/\R (ItZ K t1 t2 a b) H1
theorem rW (t1 t2:Bool) {X:Cx} {e e2:Expr} {ta:TA} {p pos tpos:Pos} {elts:List Expr} {kk:Nat} (hg:Gl X "zip") (hm:X.mg "zip" = none) (ha:PA X [e,e2] ta)
  (hs:starEach [e,e2] X.env=(false,eval e X.env)::starEach [e2] X.env:=by rfl) (hpl:(backTo pos (starEach [e2] X.env)).any (·.1)=false:=by rfl) :
  PI X (.Tuple elts kk tpos) (.Call (.Name "zip" p) [e,e2] [] pos) (BZ X.K t1 t2 ta):=by
 intro pins s σ H R I h
 refine Call_ (gn I hg hm tq (PyProof.Rows.callWith_type1 (thn (ha pos pins s σ H _ I h) fun us s1 ⟨vs,H1,I1,r1,q1⟩=>?_) hs hpl))
 obtain ⟨a,b,xs,ys,ex,hqx,hqy,q⟩:=q1
 subst ex
 cases r1 with
 | cons r rr=>
  cases rr with
  | cons r' rr=>
   cases rr
   cases r
   cases r'
   obtain ⟨its,rv,p1⟩:=I1.sqx hqx
   obtain ⟨its2,rv2,p2⟩:=I1.sqx hqy
   have la:a < s1.heap.objs.size:=p1.lt
   have lb:b < s1.heap.objs.size:=p2.lt
   refine tQ p1 p2 fun h' hz hTI hTO h1 h2 hsz hk=>wpAny_pyIter_zip hz ?_
   have I2:Inv X pins σ H1 { s1 with heap:=h' }:=I1.kept (t':=s1.toks) hk
   refine ⟨s1.heap.objs.size+4,[s1.heap.objs.size+4,s1.heap.objs.size+2,s1.heap.objs.size+3,s1.heap.objs.size,s1.heap.objs.size+1],_,_,H1,rfl,I2,tM (PySem.W.ktu_apart s1.heap.objs.size a b la lb),⟨hz,hTI,⟨_,_,hTO⟩,h1,h2⟩,fun c hcm=>?_,q⟩
   have e':c=s1.heap.objs.size+4\/c=s1.heap.objs.size+2\/c=s1.heap.objs.size+3\/c=s1.heap.objs.size\/c=s1.heap.objs.size+1:=by simpa using hcm
   have hle:s1.heap.objs.size<=c:=by
    rcases e' with z | z | z | z | z
    ·rw [z];exact Nat.le_add_right _ _
    ·rw [z];exact Nat.le_add_right _ _
    ·rw [z];exact Nat.le_add_right _ _
    ·rw [z];exact Nat.le_refl _
    ·rw [z];exact Nat.le_add_right _ _
   exact I1.fpOk hle (I1.hok.fresh hle)
def DV (xs ys:List V):Nat->Hp->V->Hp->Prop:=fun i H v H'=>∃ T x y,v = .ref T/\H T=none/\H'=upd H T (.tup [x,y])/\xs[i]?=some x/\ys[i]?=some y
theorem su {K:PySem.W.Frag} {t1 t2:Bool} {a b:Addr} {xs ys:List V}:lX (ItZ K t1 t2 a b) (min xs.length ys.length) (fun H=>SqX K t1 H a xs/\SqX K t2 H b ys) (DV xs ys):=by
 refine ⟨fun i H q h=>?_,fun H q=>⟨xs,ys,q.1,q.2,by omega⟩,fun i H x H' q h ⟨T,u,v,e1,e2,e3,e4,e5⟩=>⟨T,u,v,e1,e2,e3,e4 xs q.1,e5 ys q.2⟩⟩
 have h1:i < xs.length:=by omega
 have h2:i < ys.length:=by omega
 exact ⟨xs,ys,xs[i],ys[i],q.1,q.2,by simp [h1],by simp [h2]⟩
end L2
namespace L2
open PySem PySem.Spec PyProof.Rows
def gh (ns:List Int):PyData:= .tuple (ns.map PyData.int)
theorem gZ:∀ ns ms:List Int,PyData.eqvAll (ns.map PyData.int) (ms.map PyData.int)=decide (ns=ms)
 | [],[]=>by simp [PyData.eqvAll]
 | [],_::_=>by simp [PyData.eqvAll]
 | _::_,[]=>by simp [PyData.eqvAll]
 | n::ns,m::ms=>by
  simp only [List.map_cons,PyData.eqvAll,PyData.eqv,gZ ns ms,List.cons.injEq]
  by_cases h:n=m <;> simp [h]
theorem rV (ns ms:List Int):PyData.eqv (gh ns) (gh ms)=decide (ns=ms):=by
 unfold gh
 rw [PyData.eqv]
 exact gZ ns ms
theorem kN:∀ ns:List Int,PyData.canLayAll0 (ns.map PyData.int)=true
 | []=>by simp [PyData.canLayAll0]
 | n::ns=>by simp [PyData.canLayAll0,PyData.canLay0,kN ns]
theorem ko (ns:List Int):(gh ns).canLay0=true:=by
 unfold gh
 simp [PyData.canLay0,kN]
theorem kY:∀ rows:List (List Int),PyData.canLayAll0 (rows.map gh)=true
 | []=>by simp [PyData.canLayAll0]
 | r::rows=>by simp [PyData.canLayAll0,ko,kY rows]
theorem iQ:∀ ns:List Int,PyData.depthAll (ns.map PyData.int)<=1
 | []=>by simp [PyData.depthAll]
 | n::ns=>by
  have:=iQ ns
  simp only [List.map_cons,PyData.depthAll,PyData.depth]
  omega
theorem my (ns:List Int):(gh ns).depth<=3:=by
 have:=iQ ns
 unfold gh
 simp only [PyData.depth]
 omega
def Rows (H:Hp):List Addr->List (List Int)->Prop:=Paired fun p ms=>H p=some (.tup (ms.map V.int))
theorem oq {K:PySem.W.Frag} {H:Hp}:∀ ns:List Int,jX K H (ns.map V.int) (ns.map PyData.int)
 | []=> .nil
 | n::ns=> .cons (.int n) (oq ns)
theorem lB {K:PySem.W.Frag} {H:Hp} {p:Addr} {ns:List Int} (h:SqT K H p (ns.map V.int)):Dp K H (.ref p) (gh ns):= .tup h (oq ns)
theorem oC {K:PySem.W.Frag} {H:Hp}:∀ {ps:List Addr} {rows:List (List Int)},Rows H ps rows->jX K H (ps.map V.ref) (rows.map gh)
 | _,_,.nil=> .nil
 | _,_,.cons h t=> .cons (lB (SqT.of h)) (oC t)
theorem kM (ns:List Int):∀ rows:List (List Int),((rows.map gh).any fun y=>PyData.eqv y (gh ns))=decide (ns∈rows)
 | []=>by simp
 | r::rows=>by
  rw [List.map_cons,List.any_cons,kM ns rows,rV]
  by_cases h:r=ns
  ·simp [h]
  ·have h2:¬ ns=r:=fun z=>h z.symm
   simp [h,h2]
section
variable {X:Cx}
def AA (K:PySem.W.Frag) (neg:Bool):R2:=fun x y H Q=>∃ (p q:Addr) (ns:List Int) (ps:List Addr) (rows:List (List Int)),x = .ref p/\y = .ref q/\SqT K H p (ns.map V.int)/\SqL K H q (ps.map V.ref)/\Rows H ps rows/\Q (.bl (if neg then !decide (ns∈rows) else decide (ns∈rows))) H
theorem zg {A:Around} (hu:A.units+65 < cLine) (rows:List (List Int)) (ns:List Int):A.units+1+min (PyData.depthAll (rows.map gh)) (gh ns).depth < cLine:=by
 have h1:=my ns
 have h2:min (PyData.depthAll (rows.map gh)) (gh ns).depth<=(gh ns).depth:=Nat.min_le_right _ _
 omega
theorem AW (hu:X.A.units+65 < cLine):OpR X (compareOp .In) (AA X.K false):=by
 intro pins s σ H x y v u Q I rx ry h
 obtain ⟨p,q,ns,ps,rows,rfl,rfl,hp,hq,hr,hQ⟩:=h
 obtain ⟨as,r1⟩:=Dp.reads I _ _ v (lB hp) rx
 obtain ⟨bs,r2⟩:=Dp.reads I (.list (rows.map gh)) _ u (.lst hq (oC hr)) ry
 refine SeqAt.in_list_reads r2 r1 (kY rows) (ko ns) (zg hu rows ns) ?_
 rw [kM]
 exact ⟨.bl (decide (ns∈rows)),H,I,rfl,hQ⟩
theorem tG (hu:X.A.units+65 < cLine):OpR X (compareOp .NotIn) (AA X.K true):=by
 intro pins s σ H x y v u Q I rx ry h
 obtain ⟨p,q,ns,ps,rows,rfl,rfl,hp,hq,hr,hQ⟩:=h
 obtain ⟨as,r1⟩:=Dp.reads I _ _ v (lB hp) rx
 obtain ⟨bs,r2⟩:=Dp.reads I (.list (rows.map gh)) _ u (.lst hq (oC hr)) ry
 refine SeqAt.notIn_list_reads r2 r1 (kY rows) (ko ns) (zg hu rows ns) ?_
 rw [kM]
 exact ⟨.bl (!decide (ns∈rows)),H,I,rfl,hQ⟩
def DT (K:PySem.W.Frag) (neg:Bool):R2:=fun x y H Q=>∃ (p q:Addr) (ns ms:List Int),x = .ref p/\y = .ref q/\SqT K H p (ns.map V.int)/\SqT K H q (ms.map V.int)/\Q (.bl (if neg then !decide (ns=ms) else decide (ns=ms))) H
theorem lf (ns:List Int):SeqAt.shaped (gh ns)=true:=by
 unfold SeqAt.shaped
 rw [ko,Bool.true_and,decide_eq_true_eq]
 have:=my ns
 omega
theorem AQ (hu:X.A.units+65 < cLine):OpR X (compareOp .Eq) (DT X.K false):=by
 intro pins s σ H x y v u Q I rx ry h
 obtain ⟨p,q,ns,ms,rfl,rfl,hp,hq,hQ⟩:=h
 refine xm (by omega) pins s σ H _ _ v u Q I rx ry ⟨_,_,lB hp,lB hq,lf ns,lf ms,?_⟩
 rw [rV]
 exact hQ
end
end L2
namespace L2
open PySem PySem.Spec PyProof.Rows
def ItE (K:PySem.W.Frag):Bool->Addr->It
 | true,a=>ItT K a
 | false,a=>Ite K a
def Ao (K:PySem.W.Frag) (ta:TA):TI:=fun σ H R=>ta σ H fun vs H1=>∃ t a xs,vs=[.ref a]/\SqX K t H1 a xs/\R (ItE K t a) H1
theorem gc {X:Cx} {e:Expr} {ta:TA} {p pos tpos:Pos} {elts:List Expr} {kk:Nat} (hg:Gl X "enumerate") (hm:X.mg "enumerate" = none) (ha:PA X [e] ta) (hs:starEach [e] X.env=[(false,eval e X.env)]:=by rfl) :
  PI X (.Tuple elts kk tpos) (.Call (.Name "enumerate" p) [e] [] pos) (Ao X.K ta):=by
 intro pins s σ H R I h
 refine Call_ (gn I hg hm boot_enumerate (PyProof.Rows.callWith_type1 (thn (ha pos pins s σ H _ I h) fun us s1 ⟨vs,H1,I1,r1,q1⟩=>?_) hs rfl))
 obtain ⟨t,a,xs,ex,hq,q⟩:=q1
 subst ex
 cases r1 with
 | cons r rr=>
  cases rr
  cases r
  have fin:∀ {h':Heap},(∀ b o,s1.heap.get? b=some o->h'.get? b=some o)->∀ b∈[s1.heap.objs.size+1,s1.heap.objs.size],fT X pins H1 b:=by
   intro h' hk b hb
   have e':b=s1.heap.objs.size+1\/b=s1.heap.objs.size:=by simpa using hb
   have hle:s1.heap.objs.size<=b:=by
    rcases e' with z | z
    ·rw [z];exact Nat.le_add_right _ _
    ·rw [z];exact Nat.le_refl _
   exact I1.fpOk hle (I1.hok.fresh hle)
  cases t with
  | true=>
   obtain ⟨its,rv,p',hz⟩:=I1.tuple hq
   have hlt:a < s1.heap.objs.size:=p'.lt
   refine qC p' fun h' he hit hsz hk=>wpAny_pyIter_enum he ?_
   have I2:Inv X pins σ H1 { s1 with heap:=h' }:=I1.kept (t':=s1.toks) hk
   exact ⟨s1.heap.objs.size+1,[s1.heap.objs.size+1,s1.heap.objs.size],_,_,H1,rfl,I2,rL a (s1.heap.objs.size+1) s1.heap.objs.size (Nat.ne_of_lt hlt) (Nat.ne_of_gt (Nat.lt_succ_of_lt hlt)),⟨⟨.none,he⟩,hit,Nat.succ_ne_self _⟩,fin hk,q⟩
  | false=>
   obtain ⟨its,rv,p',hz⟩:=I1.list hq
   refine call_enumerate_list p'.isList fun h' he hit hsz hk=>wpAny_pyIter_enum he ?_
   have I2:Inv X pins σ H1 { s1 with heap:=h' }:=I1.kept (t':=s1.toks) hk
   exact ⟨s1.heap.objs.size+1,[s1.heap.objs.size+1,s1.heap.objs.size],_,_,H1,rfl,I2,tm a (s1.heap.objs.size+1) s1.heap.objs.size,⟨⟨.none,he⟩,hit,Nat.succ_ne_self _⟩,fin hk,q⟩
theorem eP {K:PySem.W.Frag} {t:Bool} {a:Addr} {xs:List V}:lX (ItE K t a) xs.length (fun H=>SqX K t H a xs) (vQ xs):=by
 cases t with
 | true=>exact ua
 | false=>exact vV
theorem ay.sqx {K:PySem.W.Frag} {t:Bool} {H H':Hp} {a:Addr} {xs:List V} (e:ay H H') (h:SqX K t H a xs):SqX K t H' a xs:=by
 cases t with
 | false=>exact e.seq h
 | true=>
  rcases h with (h | ⟨o,h⟩) | h
  ·exact .inl (.inl (e _ _ h))
  ·exact .inl (.inr ⟨o,e _ _ h⟩)
  ·exact .inr h
end L2
namespace L2
open PySem PySem.Spec PyProof.Rows
theorem p7 (l:Addr) (items:Array Value) (n:Nat) (b:Addr) (items2:Array Value) (hs0:¬(!items.isEmpty && Builtin.List.listTooLong (items.size+items2.size))=true) (hs1:items.size<=sizeLine) (hs2:items.size+items2.size<=sizeLine+1) :
  Meets (Builtin.«list.extend» ⟨[.ref l,.ref b],[]⟩) (fun _ R s=>s.heap.get? l=some { cls:= .type "list",dict:=none,data:= .seq items n,slots:=#[] }/\IsTup s.heap b items2/\R (.ok (.ret Value.none)) { s with heap:=s.heap.update l (Obj.mapSeq fun x=>x++items2),toks:=s.toks }):=
 .of_wp fun prog w A R s h=>by
  obtain ⟨hp,g,d,tk,os⟩:=s;obtain ⟨hl,⟨⟨oc,od,oda,osl⟩,hb,hc,n2,hd⟩,h⟩:=h
  cases hc
  cases hd
  have f1:=AutoSeq1.idx_int;have f2:=AutoSeq1.sub_tuple_tuple;have f3:=AutoSeq1.sub_list_list;have f4:=AutoSeq1.sub_tuple_list;have f5:=AutoSeq1.sub_list_tuple;
  have hz':(items++items2).size<=sizeLine+1:=by rw [Array.size_append];exact hs2
  wp_walk using (wpAny_updateSeq hl rfl (hz:=hs1) (_hz':=hz')),AutoSeq1.wpAny_loadPart' hl,AutoSeq1.wpAny_loadPart' hb;exact ⟨_,rfl,h⟩
section
variable {X:Cx}
def wv (K:PySem.W.Frag):V->List V->Hp->VK->Prop:=fun x vs H Q=>∃ l b xs zs,x = .ref l/\vs=[.ref b]/\H l=some (.lst xs)/\(H b=some (.lst zs)\/SqT K H b zs)/\xs.length+zs.length<=sizeLine/\Q .non (upd H l (.lst (xs++zs)))
theorem qr:MtM X "list.extend" (wv X.K):=by
 intro pins s σ H x vs v us Q I rx rv h
 obtain ⟨l,b,xs,zs,rfl,rfl,hH,hB,hz,q⟩:=h
 rcases hB with hB | hB
 ·exact dY pins s σ H _ _ v us Q I rx rv ⟨l,b,xs,zs,rfl,rfl,hH,hB,hz,q⟩
 cases rx
 obtain ⟨u,rfl,ru⟩:=rv.one
 cases ru
 obtain ⟨z,its,n,r,hl,e⟩:=I.lstM hH
 obtain ⟨its2,r2,ht,z2⟩:=I.tuple hB
 have hl2:=r2.length
 have hsz:its.toArray.size+its2.toArray.size<=sizeLine:=by rw [List.size_toArray,List.size_toArray];omega
 have hlong:¬ (!its.toArray.isEmpty && Builtin.List.listTooLong (its.toArray.size+its2.toArray.size))=true:=by
  rw [lN hsz,Bool.and_false]
  exact Bool.false_ne_true
 refine call_meets F.slot_list_extend ⟨_,e,rfl⟩ F.entry_list_extend (F.args_list_extend_2 _ _)
  (p7 l its.toArray n b its2.toArray hlong (by rw [List.size_toArray];omega) (by omega)) ⟨e,ht,?_⟩
 refine ⟨.non,_,I.lset (its':=its++its2) hH e (by simp) (r.append r2) ?_,rfl,q⟩
 rw [List.length_append]
 omega
end
end L2
namespace L2
open PySem PySem.Spec PyProof.Rows
section
variable {X:Cx}
def Cq (K:PySem.W.Frag):V->V->Hp->VK->Prop:=fun o i H Q=>∃ (p:Addr) (xs:List V) (j:Nat) (v:V),o = .ref p/\i = .int (j:Int)/\SqL K H p xs/\xs[j]?=some v/\Q v H
theorem tD:Da X (Cq X.K):=by
 intro pins s σ H o i ov iv Q I ro ri h
 obtain ⟨p,xs,j,z,rfl,rfl,hq,he,q⟩:=h
 cases ro
 obtain ⟨t,rfl⟩:=ri
 obtain ⟨its,r,pl,hz⟩:=I.list hq
 obtain ⟨w,ew,rw'⟩:=r.get he
 have hl:=r.length
 have hj:j < its.length:=(List.getElem?_eq_some_iff.mp ew).1
 have hn:=jE
 have fin:EP X pins σ Q w s:=⟨z,H,I,rw',q⟩
 exact wpAny_getItem_list pl.isList (by omega) (by omega) (by simpa using ew) fin
end
end L2
namespace NH
open PySem PySem.Spec PyProof.Rows L2
open Vbslag (Doing What Doings Name Known counting Copy Message House copyAt setCopy totalOf surely lacking ready timeOf doingAt spanOf labelOf isPut does takeOne comes knows Mark markRow before stable closed signsOf doneBy within isHand isSpan isPlace isName HANDS LENGTH LABELS DOINGS Call onHands takenBack no nums viewRow viewOf signedKnown nameOf unlike atMost whatRow hasMark)
variable {P:Program} {w:World} {K:PySem.W.Frag} {mg:Str->Option Value} {base:Heap}
def top (i:Nat):Stmt:=PySem.Challenge.pw_nighthands_s01_answers.main.body.getD i (.Pass ⟨0,0,0,0⟩)
def bz:What->Int
 | .put _ _ _=>0
 | .move _ _ _=>1
 | .label _ _=>2
 | .drop _=>3
 | .back _=>4
 | .sign=>5
 | .hello=>6
def dE:What->List Int
 | .put a b x=>[(a:Int),(b:Int),(x:Int)]
 | .move m a b=>[(m.by_:Int),(m.k:Int),(a:Int),(b:Int)]
 | .label m x=>[(m.by_:Int),(m.k:Int),(x:Int)]
 | .drop m=>[(m.by_:Int),(m.k:Int)]
 | .back k=>[(k:Int)]
 | .sign=>[]
 | .hello=>[]
def bp (l:List Nat):List Int:=l.map fun (n:Nat)=>(n:Int)
def dFs (c k:Nat) (d:Doing) (pt pb:Addr):List (Str×V):=
 [("hand",.int (c:Int)),("number",.int (k:Int)),("kind",.int (bz d.what)),("told",.ref pt),("bears",.ref pb),("time",.int (d.time:Int))]
theorem gx (c k:Nat) (d:Doing) (pt pb:Addr):(dFs c k d pt pb).lookup ("hand" : Str)=some (.int (c:Int)):=by kernel_rfl
theorem fA (c k:Nat) (d:Doing) (pt pb:Addr):(dFs c k d pt pb).lookup ("number" : Str)=some (.int (k:Int)):=by kernel_rfl
theorem bW (c k:Nat) (d:Doing) (pt pb:Addr):(dFs c k d pt pb).lookup ("kind" : Str)=some (.int (bz d.what)):=by kernel_rfl
theorem iP (c k:Nat) (d:Doing) (pt pb:Addr):(dFs c k d pt pb).lookup ("told" : Str)=some (.ref pt):=by kernel_rfl
theorem nT (c k:Nat) (d:Doing) (pt pb:Addr):(dFs c k d pt pb).lookup ("bears" : Str)=some (.ref pb):=by kernel_rfl
theorem rM (c k:Nat) (d:Doing) (pt pb:Addr):(dFs c k d pt pb).lookup ("time" : Str)=some (.int (d.time:Int)):=by kernel_rfl
def bG (C:Addr) (H:Hp) (p:Addr) (c k:Nat) (d:Doing):Prop:=∃ dx pt pb,H p=some (.ins C dx (dFs c k d pt pb))/\H pt=some (.tup ((dE d.what).map V.int))/\H pb=some (.tup ((bp d.knew).map V.int))
def im (C:Addr) (H:Hp) (l:Addr) (c:Nat) (own:List Doing):Prop:=∃ ps:List Addr,H l=some (.lst (ps.map V.ref))/\ps.length=own.length/\∀ k p d,ps[k]?=some p->own[k]?=some d->bG C H p c k d
theorem bG.same {C:Addr} {H H':Hp} {p:Addr} {c k:Nat} {d:Doing} (s:ay H H') (h:bG C H p c k d):bG C H' p c k d:=by
 obtain ⟨dx,pt,pb,h1,h2,h3⟩:=h
 exact ⟨dx,pt,pb,s _ _ h1,s _ _ h2,s _ _ h3⟩
theorem im.same {C:Addr} {H H':Hp} {l:Addr} {c:Nat} {own:List Doing} (s:ay H H') (h:im C H l c own):im C H' l c own:=by
 obtain ⟨ps,h1,h2,h3⟩:=h
 exact ⟨ps,s _ _ h1,h2,fun k p d e1 e2=>(h3 k p d e1 e2).same s⟩
structure dC (K:PySem.W.Frag) (C:Addr):Prop where
 cl:Cls K C
 nh:cf K C "hand"
 nn:cf K C "number"
 nk:cf K C "kind"
 nt:cf K C "told"
 nb:cf K C "bears"
 ni:cf K C "time"
section
abbrev zc:Stmt:=top 9
def vU (C:Addr):Sp:=fun vs H Q _=>∃ p c k d,vs=[.ref p]/\bG C H p c k d/\∀ t H',ay H H'->H' t=some (.tup ([(d.time:Int),(c:Int)].map V.int))->Q (.ref t) H'
theorem zT:aq ["doing"] ["doing"] (al zc):=⟨rfl,rfl,rfl,by decide +kernel,rfl,by decide +kernel,by decide +kernel⟩
theorem ac {H:Hp} {t:Addr} {o:HO} (h:H t=none):ay H (upd H t o):=fun b u e=>by rw [ah (ai e h)];exact e
theorem xZ {f C:Addr} {fd:FuncData} (F:Fun K "lateness" "lateness" zc f fd) (T:dC K C):az P w K mg base CX0 1 f fd ["doing"] (vU C):=by
 refine F.ok zT (fun vs H Q E h=>?_) (fun cdv A outer s H vs Q E hr h=>?_)
 ·obtain ⟨p,c,k,d,rfl,_⟩:=h
  rfl
 ·obtain ⟨p,c,k,d,rfl,⟨dx,pt,pb,h1,h2,h3⟩,q⟩:=h
  refine ⟨_,aj (ap (dz (aa (ao (pv 0) rfl) (aa (ao (pv 0) rfl) ad)))),?_⟩
  refine ⟨_,rfl,p,C,dx,_,_,rfl,h1,T.cl,T.ni,rM ..,_,rfl,p,C,dx,_,_,rfl,h1,T.cl,T.nh,gx ..,(by show 2<=sizeLine;decide),fun t ht=>?_⟩
  exact q t _ (ac ht) ab
theorem aP {X:Cx} {x:Str} {i:Int} {t:Tok} {pos:Pos} (hm:X.mg x=some (.int i t)) (hg:Gl X x:=by rfl) (hd:(x == ("__debug__" : Str))=false:=by decide):PE X (.Name x pos) (tC (.int i)):=gq hg hm ⟨t,rfl⟩ hd
structure Blt (mg:Str->Option Value):Prop where
 range:mg "range" = none
 len:mg "len" = none
 enum:mg "enumerate" = none
 zip:mg "zip" = none
 sorted:mg "sorted" = none
 max:mg "max" = none
 any:mg "any" = none
 all:mg "all" = none
 sum:mg "sum" = none
 list:mg "list" = none
 tuple:mg "tuple" = none
structure Kinds (mg:Str->Option Value):Prop where
 put:∃ t,mg "PUT" = some (.int 0 t)
 move:∃ t,mg "MOVE" = some (.int 1 t)
 label:∃ t,mg "LABEL" = some (.int 2 t)
 drop:∃ t,mg "DROP" = some (.int 3 t)
 back:∃ t,mg "BACK" = some (.int 4 t)
 sign:∃ t,mg "SIGN" = some (.int 5 t)
 hello:∃ t,mg "HELLO" = some (.int 6 t)
abbrev sTB:Stmt:=top 11
def bls (l:List Bool):List V:=l.map V.bl
def xD (C:Addr):Sp:=fun vs H Q _=>∃ l c own many,vs=[.ref l,.int ((many:Nat):Int)]/\im C H l c own/\many<=own.length/\many<=120/\rk (own.take many)/\
 ∀ p H',ay H H'->H p=none->H' p=some (.lst (bls ((List.range many).map (TB (own.take many)))))->Q (.ref p) H'
theorem yw:aq ["own","many","taken","number","doing"] ["own","many"] (al sTB):=⟨rfl,rfl,rfl,by decide +kernel,rfl,by decide +kernel,by decide +kernel⟩
theorem km (v:V):∀ n:Nat,(List.replicate n [v]).flatten=List.replicate n v
 | 0=>rfl
 | n+1=>by rw [List.replicate_succ,List.replicate_succ,List.flatten_cons,km v n];rfl
theorem sV (n:Nat):(List.replicate ((n:Int)).toNat [V.bl false]).flatten=bls (List.replicate n false):=by
 rw [Int.toNat_natCast,km]
 unfold bls
 rw [List.map_replicate]
theorem l7 {w:What}:bz w=4↔∃ i,w = .back i:=by
 cases w <;> simp [bz]
theorem wK {f C:Addr} {fd:FuncData} (F:Fun K "taken_back" "taken_back" sTB f fd) (T:dC K C) (B:Blt mg) (G:Kinds mg):az P w K mg base CX0 1 f fd ["own","many"] (xD C):=by
 obtain ⟨tb,hback⟩:=G.back
 refine F.ok yw (fun vs H Q E h=>?_) (fun cdv A outer s H vs Q E hr h=>?_)
 ·obtain ⟨l,c,own,many,rfl,_⟩:=h
  rfl
 ·obtain ⟨l,c,own,many,rfl,⟨ps,h1,h2,h3⟩,hm,hm2,hB,q⟩:=h
  refine ⟨_,ag (aB (i:=2) yw.nd rfl (Or.inl rfl) (bZ rn (aJ (aa lH ad)) (pv 1)))
   (ag (eZ PassesOwn.never rfl (tN rfl B.range (aa (bZ kQ (pv 1) am) (aa (ze wu am) (aa (ze wu am) ad)))) (aK (i:=3) yw.nd rfl (Or.inl rfl))
    (ag (aB (i:=4) yw.nd rfl (Or.inl rfl) (ax aE (pv 0) (pv 3) (fun _ _=>rfl)))
    (aj (cc (PW.pt (qQ (aU dJ (ao (pv 4) rfl) (aP hback) (aX _)) (oa (fV (cU (ax aE (pv 2) (pv 3) (fun _ _=>rfl)))))))
     (aj (rq lH (qY (pv 2) (ax aH (ao (pv 4) rfl) am (fun _ _=>rfl)) jj)))
     aZ))))
   (aj (ap (pv 2)))),?_⟩
  have hz:many<=sizeLine:=Nat.le_trans hm2 (by decide)
  refine ⟨(by show 1<=sizeLine;decide),fun p0 hp0=>⟨_,rfl,p0,_,_,rfl,rfl,ab,(by omega),(by omega),(by show 1 * _<=_;rw [Nat.one_mul,Int.toNat_natCast];exact hz),fun p hp=>?_⟩⟩
  have hHp:H p=none:=(ac hp0).free hp
  have e0:=sV many
  rw [e0]
  refine ⟨_,rfl,_,_,rfl,rfl,_,rfl,_,rfl,_,_,_,_,rfl,RgC.neg (by omega) (by omega) (by decide) (by decide),?_⟩
  have en:((many:Int) - 1 - -1).toNat=many:=by omega
  rw [en]
  have hlen:(own.take many).length=many:=by rw [List.length_take];omega
  refine rI (fun i σ H'=>∃ v3 v4,σ=[some (.ref l),some (.int (many:Int)),some (.ref p),v3,v4]/\ay H H'/\∃ t,H' p=some (.lst (bls t))/\pL (own.take many) (many - i) t)
   ⟨none,none,rfl,(ac hp0).trans (ac hp),_,ab,?_⟩ ?_ ?_
  ·have:=vh (own.take many)
   rw [hlen] at this
   exact this
  ·rintro i σ H' hi ⟨v3,v4,rfl,sm,t,ht,hT⟩
   obtain ⟨j,hj⟩:∃ j,many - i=j+1:=⟨many - i - 1,by omega⟩
   have ej:(many:Int) - 1+(i:Nat) * (-1)=(j:Int):=by omega
   rw [hj] at hT
   have hjm:j < many:=by omega
   obtain ⟨pd,hpd⟩:∃ pd,ps[j]?=some pd:=⟨_,List.getElem?_eq_getElem (by omega)⟩
   obtain ⟨d,hd⟩:∃ d,own[j]?=some d:=⟨_,List.getElem?_eq_getElem (by omega)⟩
   have hdt:(own.take many)[j]?=some d:=by rw [List.getElem?_take,if_pos hjm];exact hd
   obtain ⟨dx,pt,pb,k1,k2,k3⟩:=(h3 j pd d hpd hd).same sm
   have hnow:=zH hT (by rw [hlen];exact hjm)
   refine ⟨_,rfl,_,rfl,l,_,_,_,rfl,rfl,SqL.of (sm _ _ h1),b7 (j:=j) (v:=V.ref pd) ej (by rw [List.getElem?_map,hpd];rfl),?_⟩
   refine ⟨_,rfl,pd,C,dx,_,_,rfl,k1,T.cl,T.nk,bW ..,rfl,_,rfl,?_⟩
   have hend:many - (i+1)=j:=by omega
   by_cases hb:∃ i,d.what = .back i
   ·obtain ⟨i',hb⟩:=hb
    have e4:bz d.what=4:=l7.mpr ⟨i',hb⟩
    rw [e4]
    refine bV ?_
    refine ⟨_,rfl,_,rfl,p,_,_,_,rfl,rfl,SqL.of ht,b7 (j:=j) (v:=V.bl (TB (own.take many) j)) ej (by unfold bls;rw [List.getElem?_map,hnow];rfl),_,rfl,?_⟩
    cases hTB:TB (own.take many) j with
    | true=>
     refine bB ?_
     exact ⟨_,_,rfl,sm,t,ht,by rw [hend];exact sH hT hdt (Or.inr hTB)⟩
    | false=>
     refine bV ?_
     have hij:i' < j:=hB j d i' hdt hb
     have htold:(dE d.what).map V.int=[V.int (i':Int)]:=by rw [hb];rfl
     rw [htold] at k2
     refine ⟨_,rfl,_,rfl,pd,C,dx,_,_,rfl,k1,T.cl,T.nt,iP ..,pt,_,_,_,rfl,rfl,SqT.of k2,b7 (j:=0) (v:=V.int (i':Int)) rfl rfl,p,_,_,i',rfl,rfl,ht,?_,?_⟩
     ·have:(bls t).length=many:=by unfold bls;rw [List.length_map,hT.len,hlen]
      rw [this]
      unfold ixN
      rw [if_pos (by omega),if_pos (by omega),Int.toNat_natCast]
     ·refine ⟨_,_,rfl,fun b o e=>?_,t.set i' true,?_,?_⟩
      ·rw [ah (ai e hHp)];exact sm b o e
      ·rw [ab];unfold bls;rw [List.map_set]
      ·rw [hend];exact Aw hT hdt hb hTB
   ·have e4:¬ bz d.what=4:=fun z=>hb (l7.mp z)
    have e5:decide (V.int (bz d.what)=V.int 4)=false:=decide_eq_false fun z=>e4 (V.int.inj z)
    rw [e5]
    refine bB ?_
    exact ⟨_,_,rfl,sm,t,ht,by rw [hend];exact sH hT hdt (Or.inl fun i z=>hb ⟨i,z⟩)⟩
  ·rintro σ H' ⟨v3,v4,rfl,sm,t,ht,hT⟩
   refine ⟨_,rfl,?_⟩
   rw [Nat.sub_self] at hT
   have:=AH hB hT
   rw [hlen] at this
   rw [this] at ht
   exact q p H' sm hHp ht
end
def gb (C:Addr) (H:Hp) (l:Addr) (ds:Doings):Prop:=∃ ls:List Addr,H l=some (.lst (ls.map V.ref))/\ls.length=ds.length/\∀ c p own,ls[c]?=some p->ds[c]?=some own->im C H p c own
theorem gb.same {C:Addr} {H H':Hp} {l:Addr} {ds:Doings} (s:ay H H') (h:gb C H l ds):gb C H' l ds:=by
 obtain ⟨ls,h1,h2,h3⟩:=h
 exact ⟨ls,s _ _ h1,h2,fun c p o e1 e2=>(h3 c p o e1 e2).same s⟩
def b6 (C:Addr) (H:Hp):List Addr->List (Name×Doing)->Prop:=Paired fun p x=>bG C H p x.1.by_ x.1.k x.2
theorem b6.same {C:Addr} {H H':Hp} (s:ay H H') {ps:List Addr} {L:List (Name×Doing)} (h:b6 C H ps L):b6 C H' ps L:=Paired.mapP h fun _ _ z=>z.same s
theorem b6.append {C:Addr} {H:Hp}:∀ {ps qs:List Addr} {L M:List (Name×Doing)},b6 C H ps L->b6 C H qs M->b6 C H (ps++qs) (L++M)
 | _,_,_,_,.nil,h=>h
 | _,_,_,_,.cons a t,h=> .cons a (b6.append t h)
theorem b6.length {C:Addr} {H:Hp} {ps:List Addr} {L:List (Name×Doing)} (h:b6 C H ps L):ps.length=L.length:=Paired.length h
theorem bG.updL {C:Addr} {H:Hp} {b:Addr} {xs:List V} {o:HO} (hb:H b=some (.lst xs)) {p:Addr} {c k:Nat} {d:Doing} (h:bG C H p c k d):bG C (upd H b o) p c k d:=by
 obtain ⟨dx,p1,p2,z1,z2,z3⟩:=h
 exact ⟨dx,p1,p2,by rw [ah (bS z1 hb (by intro z;cases z))];exact z1,by rw [ah (bS z2 hb (by intro z;cases z))];exact z2,by rw [ah (bS z3 hb (by intro z;cases z))];exact z3⟩
theorem b6.updL {C:Addr} {H:Hp} {b:Addr} {xs:List V} {o:HO} (hb:H b=some (.lst xs)) {ps:List Addr} {L:List (Name×Doing)} (h:b6 C H ps L):b6 C (upd H b o) ps L:=Paired.mapP h fun _ _ z=>z.updL hb
section
abbrev CT:Stmt:=top 12
def aL (v:List Nat):List V:=(bp v).map V.int
theorem eV {v:List Nat} {i:Nat} {x:V} (h:(aL v)[i]?=some x):x = .int ((v.getD i 0:Nat):Int)/\i < v.length:=by
 unfold aL bp at h
 rw [List.getElem?_map,List.getElem?_map] at h
 cases e:v[i]? with
 | none=>rw [e] at h;cases h
 | some n=>
  rw [e] at h
  rw [List.getD_eq_getElem?_getD,e]
  exact ⟨(Option.some.inj h).symm,(List.getElem?_eq_some_iff.mp e).1⟩
theorem bH (v:List Nat):(aL v).length=v.length:=by
 unfold aL bp;rw [List.length_map,List.length_map]
def yX (K:PySem.W.Frag) (C:Addr):Sp:=fun vs H Q _=>∃ l ds t lk v n,vs=[.ref l,.ref lk]/\gb C H l ds/\SqX K t H lk (aL v)/\v.length=ds.length/\fB n ds/\n<=5/\(∀ g,v.getD g 0<=bg ds g)/\(∀ g,v.getD g 0<=120)/\
 ∀ p H' ps,ay H H'->H p=none->H' p=some (.lst (ps.map V.ref))->b6 C H' ps (counting ds v)->Q (.ref p) H'
theorem j4:aq ["doings","knowledge","found","hand","many","own","taken","number"] ["doings","knowledge"] (al CT):=⟨rfl,rfl,rfl,by decide +kernel,rfl,by decide +kernel,by decide +kernel⟩
theorem Ac {f ft C:Addr} {fd fdt:FuncData} (F:Fun K "counting" "counting" CT f fd) (Ft:Fun K "taken_back" "taken_back" sTB ft fdt) (bt:aG K fdt ["own","many"] []) (mt:mg "taken_back" = some (.ref ft))
  (T:dC K C) (B:Blt mg) (G:Kinds mg):az P w K mg base CX0 2 f fd ["doings","knowledge"] (yX K C):=by
 have GT:az P w K mg base CX0 1 ft fdt ["own","many"] (xD C):=wK Ft T B G
 refine F.ok j4 (fun vs H Q E h=>?_) (fun cdv A outer s H vs Q E hr h=>?_)
 ·obtain ⟨l,ds,t,lk,v,n,rfl,_⟩:=h
  rfl
 ·obtain ⟨l,ds,t,lk,v,n,rfl,⟨ls,g1,g2,g3⟩,hk,hvl,hD,hn5,hv,hv2,q⟩:=h
  refine ⟨_,ag (aB (i:=2) j4.nd rfl (Or.inl rfl) (aJ ad))
   (ag (eZ PassesOwn.never rfl (gc rfl B.enum (aa (pv 1) ad)) (gU rfl (b9 (aK (i:=3) j4.nd rfl (Or.inl rfl)) (b9 (aK (i:=4) j4.nd rfl (Or.inl rfl)) fC)))
    (ag (aB (i:=5) j4.nd rfl (Or.inr rfl) (ax aE (pv 0) (pv 3) (fun _ _=>rfl)))
    (ag (aB (i:=6) j4.nd rfl (Or.inr rfl) (au GT hr rfl mt Ft.kp bt .nil aD (aa (pv 5) (aa (pv 4) ad))))
    (aj (cB (eJ PySem.F.plainAttrs_list PySem.F.slot_list_extend PySem.F.type_list_extend dY (pv 2)
     (aa (dD (own:=[("number",7)]) (tt:=Af (tB (tOp (oT K) (aV 6) (aV 7)))) (te:=tOp (oT K) (aV 5) (aV 7)) rfl j4.nd (dQ rfl B.range (aa (pv 4) ad)) (bO rfl)
      (fun _ _ _ _ _=>aK (i:=7) j4.nd rfl (Or.inl rfl)) (fun _ _ _ _ _=>gk (fV (cU (ax aE (pv 6) (pv 7) (fun _ _=>rfl)))))
      (fun _ _ _ _ _=>ax aE (pv 5) (pv 7) (fun _ _=>rfl))) ad)))))))
   (aj (ap (pv 2)))),?_⟩
  have hsz:∀ m:Nat,m<=600->m<=sizeLine:=fun m h=>Nat.le_trans h (by decide)
  have hlen5:ds.length<=5:=by rw [hD.len];exact hn5
  refine ⟨Nat.zero_le _,fun pf hpf=>?_⟩
  have hHf:H pf=none:=hpf
  have s0:ay H (upd H pf (.lst [])):=ac hpf
  refine ⟨_,rfl,t,lk,aL v,rfl,s0.sqx hk,eO eP (fun i σ H'=>∃ v3 v4 v5 v6 v7,σ=[some (.ref l),some (.ref lk),some (.ref pf),v3,v4,v5,v6,v7]/\ay H H'/\∃ ps,H' pf=some (.lst (ps.map V.ref))/\b6 C H' ps (fK ds v i))
   ⟨none,none,none,none,none,rfl,s0,[],ab,.nil⟩ (fun i σ H' _ ⟨_,_,_,_,_,_,sm,_⟩=>sm.sqx hk) ?_ ?_⟩
  ·rintro i x σ H1 H2 hi ⟨TT,x',rfl,hT,rfl,hx⟩ ⟨v3,v4,v5,v6,v7,rfl,sm,ps,hps,hrow⟩
   obtain ⟨rfl,hiv⟩:=eV hx
   have hid:i < ds.length:=by rw [<- hvl];exact hiv
   have smT:ay H1 (upd H1 TT (.tup [.int (i:Nat),.int ((v.getD i 0:Nat):Int)])):=ac hT
   obtain ⟨po,hpo⟩:∃ po,ls[i]?=some po:=⟨_,List.getElem?_eq_getElem (by omega)⟩
   have hown:ds[i]?=some (ds.getD i []):=by rw [List.getD_eq_getElem?_getD,List.getElem?_eq_getElem hid];rfl
   have hO:=g3 i po _ hpo hown
   refine ⟨TT,_,rfl,SqT.of ab,rfl,_,_,rfl,_,_,rfl,rfl,?_⟩
   have sm2:=sm.trans smT
   refine ⟨_,rfl,_,rfl,l,_,_,_,rfl,rfl,SqL.of (sm2 _ _ g1),b7 (j:=i) (v:=V.ref po) rfl (by rw [List.getElem?_map,hpo];rfl),?_⟩
   refine ⟨_,rfl,_,rfl,po,i,_,v.getD i 0,rfl,hO.same sm2,hv i,hv2 i,hD.backOk i _,fun pt H3 sm3 hnt ht=>?_⟩
   have sm4:=sm2.trans sm3
   have hf3:H3 pf=some (.lst (ps.map V.ref)):=sm3 _ _ (smT _ _ hps)
   refine ⟨_,rfl,.inl ⟨rfl,_,SqL.of hf3⟩,_,rfl,_,rfl,(by have:=hv2 i;omega),(by have:=hv2 i;omega),fun D hnD=>?_⟩
   obtain ⟨ps',o1,o2,o3⟩:=hO.same sm4
   have e1:((v.getD i 0:Nat):Int).toNat=v.getD i 0:=Int.toNat_natCast _
   rw [e1]
   refine gg (fun j H4=>ay H3 H4/\∃ qs,H4 D=some (.lst (qs.map V.ref))/\b6 C H4 qs ((List.range j).filterMap (jT (own ds v i) i))) ⟨ac hnD,[],ab,.nil⟩ ?_ ?_
   ·rintro j H4 hj ⟨sm5,qs,hq,hr4⟩
    have hjl:j < (ds.getD i []).length:=Nat.lt_of_lt_of_le hj (hv i)
    obtain ⟨pd,hpd⟩:∃ pd,ps'[j]?=some pd:=⟨_,List.getElem?_eq_getElem (by omega)⟩
    obtain ⟨d,hd⟩:∃ d,(ds.getD i [])[j]?=some d:=⟨_,List.getElem?_eq_getElem hjl⟩
    have ej:(0:Int)+(j:Nat)=((j:Nat):Int):=by omega
    have hlq:=hr4.length
    have hcl:((List.range j).filterMap (jT (own ds v i) i)).length<=j:=Nat.le_trans (List.length_filterMap_le _ _) (by rw [List.length_range];exact Nat.le_refl _)
    refine ⟨rfl,_,rfl,_,rfl,pt,_,_,_,rfl,rfl,SqL.of (sm5 _ _ ht),b7 (j:=j) (v:=V.bl (TB (own ds v i) j)) ej (by unfold bls;rw [List.getElem?_map,List.getElem?_map,List.getElem?_range hj];rfl),_,rfl,?_⟩
    cases hTB:TB (own ds v i) j with
    | true=>
     refine bB ?_
     refine ⟨sm5,qs,hq,?_⟩
     have:jT (own ds v i) i j=none:=by unfold jT;rw [hTB];rfl
     rw [List.range_succ,List.filterMap_append]
     simp only [List.filterMap_cons,this,List.filterMap_nil,List.append_nil]
     exact hr4
    | false=>
     refine bV ?_
     refine ⟨_,rfl,_,rfl,po,_,_,_,rfl,rfl,SqL.of (sm5 _ _ o1),b7 (j:=j) (v:=V.ref pd) ej (by rw [List.getElem?_map,hpd];rfl),_,hq,?_,?_⟩
     ·rw [List.length_map,hlq]
      have:=hv2 i
      have:=hsz 121 (by omega)
      omega
     ·have nD:∀ b o,H4 b=some o->b≠D->upd H4 D (.lst (qs.map V.ref++[V.ref pd])) b=some o:=fun b o e hb=>by rw [ah hb];exact e
      have s6:ay H3 (upd H4 D (.lst (qs.map V.ref++[V.ref pd]))):=fun b o e=>nD b o (sm5 b o e) (ai e hnD)
      refine ⟨s6,qs++[pd],by rw [ab,List.map_append];rfl,?_⟩
      have hat:(own ds v i)[j]?=some d:=by unfold own;rw [List.getElem?_take,if_pos hj];exact hd
      have:jT (own ds v i) i j=some (⟨i,j⟩,d):=by unfold jT;rw [hTB,hat];rfl
      rw [List.range_succ,List.filterMap_append]
      simp only [List.filterMap_cons,this,List.filterMap_nil]
      exact b6.append (hr4.updL hq) (.cons ((o3 j pd d hpd hd).same s6) .nil)
   ·rintro H4 ⟨sm5,qs,hq,hr4⟩
    have hf4:=sm5 _ _ hf3
    have hlq:=hr4.length
    have hlp:=hrow.length
    have hb1:=g7 ds v hv2 i
    have hb2:i * 120<=480:=by omega
    have hb3:=lM ds v i
    have hb4:=hv2 i
    have hq':b6 C H4 qs (fO ds v i):=hr4
    have hlq':=hq'.length
    refine ⟨pf,D,_,_,rfl,rfl,hf4,hq,by rw [List.length_map,List.length_map];have:=hsz 600 (by omega);omega,?_⟩
    have sm6:ay H (upd H4 pf (.lst (ps.map V.ref++qs.map V.ref))):=fun b o e=>by rw [ah (ai e hHf)];exact sm5 _ _ (sm4 _ _ e)
    refine ⟨_,_,_,_,_,rfl,sm6,ps++qs,by rw [ab,List.map_append],?_⟩
    rw [je]
    exact b6.append ((hrow.same ((smT.trans sm3).trans sm5)).updL hf4) (hq'.updL hf4)
  ·rintro σ H' ⟨v3,v4,v5,v6,v7,rfl,sm,ps,hps,hrow⟩
   refine ⟨_,rfl,?_⟩
   refine q pf H' ps sm hHf hps ?_
   rw [bH,hvl] at hrow
   rw [iz hv]
   exact hrow
end
def lFs (h:House) (D N W B:Addr):List (Str×V):=
 [("hands",.int (h.hands:Int)),("length",.int (h.length:Int)),("doings",.ref D),("known",.ref N),("waiting",.ref W),("bag",.ref B)]
theorem fQ (h:House) (D N W B:Addr):(lFs h D N W B).lookup ("hands" : Str)=some (.int (h.hands:Int)):=by kernel_rfl
theorem kK (h:House) (D N W B:Addr):(lFs h D N W B).lookup ("length" : Str)=some (.int (h.length:Int)):=by kernel_rfl
theorem cu (h:House) (D N W B:Addr):(lFs h D N W B).lookup ("doings" : Str)=some (.ref D):=by kernel_rfl
theorem cA (h:House) (D N W B:Addr):(lFs h D N W B).lookup ("known" : Str)=some (.ref N):=by kernel_rfl
theorem eU (h:House) (D N W B:Addr):(lFs h D N W B).lookup ("waiting" : Str)=some (.ref W):=by kernel_rfl
theorem i5 (h:House) (D N W B:Addr):(lFs h D N W B).lookup ("bag" : Str)=some (.ref B):=by kernel_rfl
structure cR (K:PySem.W.Frag) (C:Addr):Prop where
 cl:Cls K C
 nh:cf K C "hands"
 nl:cf K C "length"
 nd:cf K C "doings"
 nk:cf K C "known"
 nw:cf K C "waiting"
 nb:cf K C "bag"
def bj (n:Name):List Int:=[(n.by_:Int),(n.k:Int)]
def ly (m:Message):List Int:=[(m.to:Int),(m.name.by_:Int),(m.name.k:Int)]
structure LA where
 dx:Addr
 D:Addr
 N:Addr
 W:Addr
 B:Addr
 owns:List Addr
 knowns:List Addr
 waits:List Addr
def LA.mut (a:LA):List Addr:=a.D::a.N::a.W::a.B::(a.owns++(a.knowns++a.waits))
def cC (H:Hp) (l:Addr) (rows:List (List Int)):Prop:=∃ ps,H l=some (.lst (ps.map V.ref))/\Rows H ps rows
theorem Rows.same {H H':Hp} (s:ay H H') {ps:List Addr} {rows:List (List Int)} (h:Rows H ps rows):Rows H' ps rows:=Paired.mapP h fun _ _ z=>s _ _ z
theorem Rows.updL {H:Hp} {b:Addr} {xs:List V} {o:HO} (hb:H b=some (.lst xs)) {ps:List Addr} {rows:List (List Int)} (h:Rows H ps rows):Rows (upd H b o) ps rows:=
 Paired.mapP h fun _ _ z=>by rw [ah (bS z hb (by intro q;cases q))];exact z
theorem cC.same {H H':Hp} (s:ay H H') {l:Addr} {rows:List (List Int)} (h:cC H l rows):cC H' l rows:=by
 obtain ⟨ps,h1,h2⟩:=h
 exact ⟨ps,s _ _ h1,Rows.same s h2⟩
theorem cC.updL {H:Hp} {b l:Addr} {xs:List V} {o:HO} (hb:H b=some (.lst xs)) (hn:l≠b) {rows:List (List Int)} (h:cC H l rows):cC (upd H b o) l rows:=by
 obtain ⟨ps,h1,h2⟩:=h
 exact ⟨ps,by rw [ah hn];exact h1,Rows.updL hb h2⟩
theorem im.updL {C:Addr} {H:Hp} {b l:Addr} {xs:List V} {o:HO} (hb:H b=some (.lst xs)) (hn:l≠b) {c:Nat} {own:List Doing} (h:im C H l c own):im C (upd H b o) l c own:=by
 obtain ⟨ps,h1,h2,h3⟩:=h
 exact ⟨ps,by rw [ah hn];exact h1,h2,fun k p d e1 e2=>(h3 k p d e1 e2).updL hb⟩
structure aw (C Cd:Addr) (H:Hp) (p:Addr) (h:House) (a:LA):Prop where
 obj:H p=some (.ins C a.dx (lFs h a.D a.N a.W a.B))
 dl:H a.D=some (.lst (a.owns.map V.ref))
 nl:H a.N=some (.lst (a.knowns.map V.ref))
 wl:H a.W=some (.lst (a.waits.map V.ref))
 olen:a.owns.length=h.doings.length
 klen:a.knowns.length=h.copies.length
 wlen:a.waits.length=h.copies.length
 own:∀ (c:Nat) (q:Addr) (o:List Doing),a.owns[c]?=some q->h.doings[c]?=some o->im Cd H q c o
 kn:∀ (c:Nat) (q:Addr) (x:Copy),a.knowns[c]?=some q->h.copies[c]?=some x->H q=some (.lst (aL x.known))
 wt:∀ (c:Nat) (q:Addr) (x:Copy),a.waits[c]?=some q->h.copies[c]?=some x->cC H q (x.pool.map bj)
 bag:cC H a.B (h.bag.map ly)
 nd:a.mut.Nodup
theorem aw.same {C Cd:Addr} {H H':Hp} {p:Addr} {h:House} {a:LA} (s:ay H H') (L:aw C Cd H p h a):aw C Cd H' p h a:=
 ⟨s _ _ L.obj,s _ _ L.dl,s _ _ L.nl,s _ _ L.wl,L.olen,L.klen,L.wlen,fun c q o e1 e2=>(L.own c q o e1 e2).same s,fun c q x e1 e2=>s _ _ (L.kn c q x e1 e2),fun c q x e1 e2=>(L.wt c q x e1 e2).same s,L.bag.same s,L.nd⟩
theorem aw.doings {C Cd:Addr} {H:Hp} {p:Addr} {h:House} {a:LA} (L:aw C Cd H p h a):gb Cd H a.D h.doings:=⟨a.owns,L.dl,L.olen,L.own⟩
section
variable {C Cd:Addr} {H:Hp} {p:Addr} {h:House} {a:LA}
theorem aw.obj_ne (L:aw C Cd H p h a) {b:Addr} {xs:List V} (hb:H b=some (.lst xs)):p≠b:=bS L.obj hb (by intro z;cases z)
theorem jo {D N W B:Addr} {o k w:List Addr} (n:(D::N::W::B::(o++(k++w))).Nodup) :
  (D≠N/\D≠W/\D≠B/\N≠W/\N≠B/\W≠B)/\(∀ x,x∈o\/x∈k\/x∈w->x≠D/\x≠N/\x≠W/\x≠B)/\(o.Nodup/\k.Nodup/\w.Nodup)/\(∀ x y,x∈o->y∈k->x≠y)/\(∀ x y,x∈o->y∈w->x≠y)/\(∀ x y,x∈k->y∈w->x≠y):=by
 obtain ⟨n1,n⟩:=List.nodup_cons.mp n
 obtain ⟨n2,n⟩:=List.nodup_cons.mp n
 obtain ⟨n3,n⟩:=List.nodup_cons.mp n
 obtain ⟨n4,n⟩:=List.nodup_cons.mp n
 obtain ⟨n5,n6,n7⟩:=List.nodup_append.mp n
 obtain ⟨n8,n9,n10⟩:=List.nodup_append.mp n6
 simp only [List.mem_cons,List.mem_append,not_or] at n1 n2 n3 n4
 refine ⟨⟨n1.1,n1.2.1,n1.2.2.1,n2.1,n2.2.1,n3.1⟩,fun x hx=>?_,⟨n5,n8,n9⟩,fun x y h1 h2=>n7 x h1 y (List.mem_append_left _ h2),fun x y h1 h2=>n7 x h1 y (List.mem_append_right _ h2),fun x y h1 h2=>n10 x h1 y h2⟩
 refine ⟨fun e=>?_,fun e=>?_,fun e=>?_,fun e=>?_⟩ <;> subst e
 ·rcases hx with z | z | z
  ·exact n1.2.2.2.1 z
  ·exact n1.2.2.2.2.1 z
  ·exact n1.2.2.2.2.2 z
 ·rcases hx with z | z | z
  ·exact n2.2.2.1 z
  ·exact n2.2.2.2.1 z
  ·exact n2.2.2.2.2 z
 ·rcases hx with z | z | z
  ·exact n3.2.1 z
  ·exact n3.2.2.1 z
  ·exact n3.2.2.2 z
 ·rcases hx with z | z | z
  ·exact n4.1 z
  ·exact n4.2.1 z
  ·exact n4.2.2 z
end
theorem dL {σ:L2.St} {H:Hp} {A B:Hp->Prop} (h:A H):hJ σ H (fun b H3=>if b=true then A H3 else B H3):=by
 show (if true=true then A H else B H)
 exact bV h
theorem jC (v:List Nat) (i n:Nat):(aL v).set i (.int (n:Int))=aL (v.set i n):=by
 unfold aL bp
 rw [List.map_set,List.map_set]
theorem nX {n i:Nat} (h:i < n):ixN n (i:Int)=some i:=by
 unfold ixN
 rw [if_pos (by omega),if_pos (by omega),Int.toNat_natCast]
def Has (K:PySem.W.Frag) (mg:Str->Option Value) (x:Str) (i:Nat) (ps:List Str):Prop:=∃ (f:Addr) (fd:FuncData),Fun K x x (top i) f fd/\aG K fd ps []/\mg x=some (.ref f)
structure Helps (K:PySem.W.Frag) (mg:Str->Option Value):Prop where
 wi:Has K mg "with_itself" 10 ["doing"]
 win:Has K mg "is_within" 18 ["part","knowledge"]
 kn:Has K mg "knows" 19 ["line","hand","name"]
section
abbrev sWI:Stmt:=top 10
def xN (C:Addr):Sp:=fun vs H Q _=>∃ p c k d,vs=[.ref p]/\bG C H p c k d/\c < d.knew.length/\∀ r H',ay H H'->H r=none->H' r=some (.lst (aL (d.knew.set c (k+1))))->Q (.ref r) H'
theorem Bt:aq ["doing","knowledge"] ["doing"] (al sWI):=⟨rfl,rfl,rfl,by decide +kernel,rfl,by decide +kernel,by decide +kernel⟩
theorem zi {f C:Addr} {fd:FuncData} (F:Fun K "with_itself" "with_itself" sWI f fd) (T:dC K C) (B:Blt mg):az P w K mg base CX0 1 f fd ["doing"] (xN C):=by
 refine F.ok Bt (fun vs H Q E h=>?_) (fun cdv A outer s H vs Q E hr h=>?_)
 ·obtain ⟨p,c,k,d,rfl,_⟩:=h
  rfl
 ·obtain ⟨p,c,k,d,rfl,⟨dx,pt,pb,h1,h2,h3⟩,hc,q⟩:=h
  refine ⟨_,ag (aB (i:=1) Bt.nd rfl (Or.inl rfl) (dZ eN rfl B.list (by kernel_rfl) (aa (ao (pv 0) rfl) ad)))
   (ag (rq (bZ iL (ao (pv 0) rfl) am) (qY (pv 1) (ao (pv 0) rfl) jj))
   (aj (ap (pv 1)))),?_⟩
  refine ⟨_,rfl,p,C,dx,_,_,rfl,h1,T.cl,T.nb,nT ..,pb,_,rfl,.inr (SqT.of h3),fun r hr2=>?_⟩
  have s1:=ac (o:= .lst ((bp d.knew).map V.int)) hr2
  have h1':=s1 _ _ h1
  refine ⟨_,rfl,p,C,dx,_,_,rfl,h1',T.cl,T.nn,fA ..,_,_,rfl,rfl,_,rfl,_,rfl,p,C,dx,_,_,rfl,h1',T.cl,T.nh,gx ..,r,_,_,c,rfl,rfl,ab,?_,?_⟩
  ·have e1:(List.map V.int (bp d.knew)).length=d.knew.length:=bH d.knew
   rw [e1]
   exact nX hc
  ·refine ⟨_,rfl,?_⟩
   refine q r _ ?_ hr2 ?_
   ·exact fun b o e=>by rw [ah (ai e hr2),ah (ai e hr2)];exact e
   ·rw [ab]
    exact congrArg (fun z=>some (HO.lst z)) (jC d.knew c (k+1))
abbrev Bz:Stmt:=top 18
def si (K:PySem.W.Frag):Sp:=fun vs H Q _=>∃ p q t1 t2 v1 v2,vs=[.ref p,.ref q]/\SqX K t1 H p (aL v1)/\SqX K t2 H q (aL v2)/\v1.length=v2.length/\v1.length<=1000/\∀ H',ay H H'->Q (.bl (cZ v1 v2)) H'
theorem sj:aq ["part","knowledge","few","many"] ["part","knowledge"] (al Bz):=⟨rfl,rfl,rfl,by decide +kernel,rfl,by decide +kernel,by decide +kernel⟩
theorem rD {f:Addr} {fd:FuncData} (F:Fun K "is_within" "is_within" Bz f fd) (B:Blt mg):az P w K mg base CX0 1 f fd ["part","knowledge"] (si K):=by
 refine F.ok sj (fun vs H Q E h=>?_) (fun cdv A outer s H vs Q E hr h=>?_)
 ·obtain ⟨p,q,t1,t2,v1,v2,rfl,_⟩:=h
  rfl
 ·obtain ⟨p,q,t1,t2,v1,v2,rfl,hp,hq,hl,hl2,qq⟩:=h
  refine ⟨_,aj (ap (bM (rE rfl) rfl B.all (by kernel_rfl) (aa (dD (own:=[("few",2),("many",3)]) (g:=Aa K 2 (pz (g0 2) (pz (g0 3) zw))) (tt:=hJ) (te:=tOp (rI0 fun i j=> .bl (decide (i<=j))) (aV 2) (aV 3)) rfl sj.nd
    (rW t1 t2 rfl B.zip (aa (pv 0) (aa (pv 1) ad))) (bO rfl)
    (fun _ _ _ _ _=>gU rfl (b9 (aK (i:=2) sj.nd rfl (Or.inl rfl)) (b9 (aK (i:=3) sj.nd rfl (Or.inl rfl)) fC))) (fun _ _ _ _ _=>cT)
    (fun _ _ _ _ _=>fI ll (pv 2) (pv 3) (aX _))) ad))),?_⟩
  refine ⟨_,rfl,_,rfl,p,q,_,_,rfl,hp,hq,fun D hD=>?_⟩
  have hz:min (aL v1).length (aL v2).length=v1.length:=by rw [bH,bH,<- hl,Nat.min_self]
  refine ph (su (t1:=t1) (t2:=t2) (xs:=aL v1) (ys:=aL v2)) (fun i H'=>ay H H'/\H' D=some (.lst (bls (((v1.zip v2).map fun x=>decide (x.1<=x.2)).take i)))) ⟨ac hD,ab⟩ (fun i H' _ ⟨sm,_⟩=>⟨sm.sqx hp,sm.sqx hq⟩) ?_ ?_
  ·rintro i x H1 H2 hi ⟨TT,x1,x2,rfl,hT,rfl,hx1,hx2⟩ ⟨sm,hDl⟩
   obtain ⟨rfl,hi1⟩:=eV hx1
   obtain ⟨rfl,hi2⟩:=eV hx2
   have smT:ay H1 (upd H1 TT (.tup [.int ((v1.getD i 0:Nat):Int),.int ((v2.getD i 0:Nat):Int)])):=ac hT
   refine ⟨TT,_,rfl,SqT.of ab,rfl,_,_,rfl,_,_,rfl,rfl,rfl,dL ?_⟩
   refine ⟨_,rfl,_,rfl,_,_,rfl,rfl,_,smT _ _ hDl,?_,?_⟩
   ·unfold bls
    rw [List.length_map,List.length_take,List.length_map,List.length_zip]
    have:1001<=sizeLine:=by decide
    omega
   ·refine ⟨fun b o e=>by rw [ah (ai e hD)];exact smT _ _ (sm b o e),?_⟩
    rw [ab]
    have ez:(v1.zip v2)[i]?=some (v1.getD i 0,v2.getD i 0):=by
     rw [List.getElem?_zip_eq_some]
     have gd:∀ (l:List Nat),i < l.length->l[i]?=some (l.getD i 0):=fun l hl=>by rw [List.getD_eq_getElem?_getD,List.getElem?_eq_getElem hl];rfl
     exact ⟨gd _ hi1,gd _ hi2⟩
    have:((v1.zip v2).map fun x=>decide (x.1<=x.2)).take (i+1)=((v1.zip v2).map fun x=>decide (x.1<=x.2)).take i++[decide (v1.getD i 0<=v2.getD i 0)]:=by
     rw [List.take_add_one,List.getElem?_map,ez];rfl
    rw [this]
    unfold bls
    rw [List.map_append]
    have e2:decide (((v1.getD i 0:Nat):Int)<=((v2.getD i 0:Nat):Int))=decide (v1.getD i 0<=v2.getD i 0):=by
     rw [decide_eq_decide];omega
    show some (HO.lst (_++[V.bl (decide (((v1.getD i 0:Nat):Int)<=((v2.getD i 0:Nat):Int)))]))=_
    rw [e2]
    rfl
  ·rintro H' ⟨sm,hDl⟩
   rw [hz,List.take_of_length_le (by rw [List.length_map,List.length_zip,<- hl,Nat.min_self];exact Nat.le_refl _)] at hDl
   refine ⟨D,_,rfl,SqL.of hDl,?_⟩
   have:=qq H' sm
   have e3:(List.map (fun x:Nat×Nat=>decide (x.1<=x.2)) (v1.zip v2)).all id=cZ v1 v2:=by rw [List.all_map];rfl
   rw [e3]
   exact this
end
theorem ixX {K:PySem.W.Frag} {t:Bool} {H:Hp} {p:Addr} {xs:List V} {i:Int} {v:V} {Q:VK} (h:SqX K t H p xs) (e:atI xs i=some v) (q:Q v H):rIx K (.ref p) (.int i) H Q:=by
 cases t with
 | true=>exact .inr (.inl ⟨p,xs,i,v,rfl,rfl,h,e,q⟩)
 | false=>exact .inl ⟨p,xs,i,v,rfl,rfl,h,e,q⟩
theorem d6 {v:List Nat} {i:Nat} (h:i < v.length):atI (aL v) (i:Int)=some (.int ((v.getD i 0:Nat):Int)):=by
 refine sh ?_
 unfold aL bp
 rw [List.getElem?_map,List.getElem?_map,List.getD_eq_getElem?_getD,List.getElem?_eq_getElem h]
 rfl
theorem pK:∀ l:List Nat,(l.map fun (n:Nat)=>(n:Int)).sum=((l.sum:Nat):Int)
 | []=>rfl
 | n::l=>by rw [List.map_cons,List.sum_cons,List.sum_cons,pK l];omega
section
abbrev zK:Stmt:=top 15
def vp (C Cd:Addr):Sp:=fun vs H Q _=>∃ p h a,vs=[.ref p]/\aw C Cd H p h a/\h.doings.length<=5/\∀ H',ay H H'->Q (.int ((totalOf h:Nat):Int)) H'
theorem vW:aq ["line","own"] ["line"] (al zK):=⟨rfl,rfl,rfl,by decide +kernel,rfl,by decide +kernel,by decide +kernel⟩
abbrev DK (K:PySem.W.Frag):List V->Hp->VK->Prop:=fun xs H Q=>∃ p ys,xs=[.ref p]/\(SqL K H p ys\/SqT K H p ys)/\Q (.int ys.length) H
theorem uZ {f C Cd:Addr} {fd:FuncData} (F:Fun K "doings_in_all" "doings_in_all" zK f fd) (T:cR K C) (B:Blt mg):az P w K mg base CX0 1 f fd ["line"] (vp C Cd):=by
 refine F.ok vW (fun vs H Q E h=>?_) (fun cdv A outer s H vs Q E hr h=>?_)
 ·obtain ⟨p,h,a,rfl,_⟩:=h
  rfl
 ·obtain ⟨p,h,a,rfl,L,h5,q⟩:=h
  refine ⟨_,aj (ap (bM (As rfl) rfl B.sum (by kernel_rfl) (aa (dD (own:=[("own",1)]) (tt:=hJ) (te:=tCB (DK K) (aY (aV 1) cF)) rfl vW.nd (c5 (ao (pv 0) rfl)) (bO rfl)
   (fun _ _ _ _ _=>aK (i:=1) vW.nd rfl (Or.inl rfl)) (fun _ _ _ _ _=>cT) (fun _ _ _ _ _=>bM bC rfl B.len PySem.boot_len (aa (pv 1) ad))) ad))),?_⟩
  refine ⟨_,rfl,p,C,a.dx,_,_,rfl,L.obj,T.cl,T.nd,cu ..,a.D,rfl,⟨_,SqL.of L.dl⟩,fun D hD=>?_⟩
  refine eL (K:=K) (a:=a.D) (xs:=a.owns.map V.ref) (fun i H'=>ay H H'/\H' D=some (.lst (aL ((h.doings.map List.length).take i)))) ⟨ac hD,ab⟩ (fun i H' _ ⟨sm,_⟩=>SqL.of (sm _ _ L.dl)) ?_ ?_
  ·rintro i x H' hx ⟨sm,hd⟩
   rw [List.getElem?_map] at hx
   cases e:a.owns[i]? with
   | none=>rw [e] at hx;cases hx
   | some po=>
    rw [e] at hx
    cases hx
    have hi:i < a.owns.length:=(List.getElem?_eq_some_iff.mp e).1
    have hid:i < h.doings.length:=by rw [<- L.olen];exact hi
    obtain ⟨ps,o1,o2,o3⟩:=(L.own i po _ e (List.getElem?_eq_getElem hid)).same sm
    refine ⟨rfl,dL ?_⟩
    refine ⟨_,rfl,po,_,rfl,.inl (SqL.of o1),_,hd,?_,?_⟩
    ·rw [bH,List.length_take]
     exact Nat.lt_of_le_of_lt (Nat.min_le_right _ _) (by rw [List.length_map];exact Nat.lt_of_le_of_lt h5 (by decide))
    ·refine ⟨fun b o e=>by rw [ah (ai e hD)];exact sm b o e,?_⟩
     rw [ab,List.length_map,o2]
     have:(h.doings.map List.length).take (i+1)=(h.doings.map List.length).take i++[(h.doings[i]).length]:=by
      rw [List.take_add_one,List.getElem?_map,List.getElem?_eq_getElem hid];rfl
     rw [this]
     unfold aL bp
     rw [List.map_append,List.map_append]
     rfl
  ·rintro H' ⟨sm,hd⟩
   rw [List.length_map,List.take_of_length_le (by rw [List.length_map,L.olen];exact Nat.le_refl _)] at hd
   refine ⟨D,_,rfl,SqL.of hd,?_⟩
   have e:(bp (h.doings.map List.length)).sum=((totalOf h:Nat):Int):=by
    unfold bp
    rw [pK]
    show _=(((h.doings.map fun l=>l.length).foldl (fun a b=>a+b) 0:Nat):Int)
    rw [fv]
   rw [e]
   exact q H' sm
abbrev mH:Stmt:=top 22
def oi (K:PySem.W.Frag) (C Cd:Addr):Sp:=fun vs H Q _=>∃ p h a t lk v g,vs=[.ref p,.int ((g:Nat):Int),.ref lk]/\aw C Cd H p h a/\SqX K t H lk (aL v)/\v.length=h.hands/\g < h.hands/\h.hands<=5/\fB h.hands h.doings/\v.getD g 0<=bg h.doings g/\
 ∀ r H',ay H H'->H r=none->H' r=some (.lst (aL (surely h.doings v g)))->Q (.ref r) H'
theorem we:aq ["line","hand","knowledge","many"] ["line","hand","knowledge"] (al mH):=⟨rfl,rfl,rfl,by decide +kernel,rfl,by decide +kernel,by decide +kernel⟩
theorem nN {f C Cd:Addr} {fd:FuncData} (HP:Helps K mg) (F:Fun K "surely_known" "surely_known" mH f fd) (T:cR K C) (Td:dC K Cd) (B:Blt mg):az P w K mg base CX0 2 f fd ["line","hand","knowledge"] (oi K C Cd):=by
 obtain ⟨fw,fdw,Fw,bw,mw⟩:=HP.wi
 have GW:az P w K mg base CX0 1 fw fdw ["doing"] (xN Cd):=zi Fw Td B
 refine F.ok we (fun vs H Q E h=>?_) (fun cdv A outer s H vs Q E hr h=>?_)
 ·obtain ⟨p,h,a,t,lk,v,g,rfl,_⟩:=h
  rfl
 ·obtain ⟨p,h,a,t,lk,v,g,rfl,L,hk,hvl,hg,h5,hD,hv,q⟩:=h
  refine ⟨_,ag (aB (i:=3) we.nd rfl (Or.inl rfl) (ax AV (pv 2) (pv 1) (fun _ _=>rfl)))
   (ag (cc (aU dJ (pv 3) am (aX _)) (aj (ap (bZ rn (aJ (aa am ad)) (ao (pv 0) rfl)))) aZ)
   (aj (ap (au GW hr rfl mw Fw.kp bw .nil aD (aa (ax aE (ax aE (ao (pv 0) rfl) (pv 1) (fun _ _=>rfl)) (bZ kQ (pv 3) am) (fun _ _=>rfl)) ad))))),?_⟩
  refine ⟨_,rfl,_,rfl,ixX hk (d6 (by omega)) ?_⟩
  refine ⟨_,rfl,rfl,_,rfl,?_⟩
  by_cases h0:v.getD g 0=0
  ·have e0:decide (V.int ((v.getD g 0:Nat):Int)=V.int 0)=true:=by rw [h0];rfl
   rw [e0]
   refine bV ?_
   refine ⟨(by show 1<=sizeLine;decide),fun p0 hp0=>⟨_,rfl,p,C,a.dx,_,_,rfl,ac hp0 _ _ L.obj,T.cl,T.nh,fQ ..,p0,_,_,rfl,rfl,ab,by omega,by omega,(by show 1 * _<=_;rw [Nat.one_mul,Int.toNat_natCast];exact Nat.le_trans h5 (by decide)),fun r hr2=>?_⟩⟩
   refine q r _ ((ac hp0).trans (ac hr2)) ((ac hp0).free hr2) ?_
   rw [ab,Int.toNat_natCast,km,fM h0,hvl]
   unfold aL bp
   rw [List.map_replicate,List.map_replicate]
   rfl
  ·have e0:decide (V.int ((v.getD g 0:Nat):Int)=V.int 0)=false:=decide_eq_false fun z=>h0 (by have:=V.int.inj z;omega)
   rw [e0]
   refine bB ?_
   have hgd:g < h.doings.length:=by rw [hD.len];exact hg
   obtain ⟨po,hpo⟩:∃ po,a.owns[g]?=some po:=⟨_,List.getElem?_eq_getElem (by rw [L.olen];exact hgd)⟩
   have hown:h.doings[g]?=some (h.doings.getD g []):=by rw [List.getD_eq_getElem?_getD,List.getElem?_eq_getElem hgd];rfl
   obtain ⟨ps,o1,o2,o3⟩:=L.own g po _ hpo hown
   have hle:v.getD g 0 - 1 < (h.doings.getD g []).length:=by have:bg h.doings g=(h.doings.getD g []).length:=rfl;omega
   obtain ⟨pd,hpd⟩:∃ pd,ps[v.getD g 0 - 1]?=some pd:=⟨_,List.getElem?_eq_getElem (by rw [o2];exact hle)⟩
   obtain ⟨d,hd⟩:∃ d,(h.doings.getD g [])[v.getD g 0 - 1]?=some d:=⟨_,List.getElem?_eq_getElem hle⟩
   have hkl:=(hD.ok g _ d hd).klen
   refine ⟨_,rfl,p,C,a.dx,_,_,rfl,L.obj,T.cl,T.nd,cu ..,_,rfl,a.D,_,_,_,rfl,rfl,SqL.of L.dl,b7 (j:=g) (v:=V.ref po) rfl (by rw [List.getElem?_map,hpo];rfl),
    _,rfl,_,_,rfl,rfl,po,_,_,_,rfl,rfl,SqL.of o1,b7 (j:=v.getD g 0 - 1) (v:=V.ref pd) (by omega) (by rw [List.getElem?_map,hpd];rfl),
    pd,g,_,d,rfl,o3 _ pd d hpd hd,by rw [hkl];exact hg,fun r H' s1 hnr hr2=>?_⟩
   refine q r H' s1 hnr ?_
   rw [hr2,fz (by omega) hv hd]
   have e1:v.getD g 0 - 1+1=v.getD g 0:=by omega
   rw [e1]
end
section
theorem aw.known {C Cd:Addr} {H:Hp} {p:Addr} {h:House} {a:LA} (L:aw C Cd H p h a) (I:NH.Inv h) {c:Nat} (hc:c < h.hands):∃ q,a.knowns[c]?=some q/\H q=some (.lst (aL (copyAt h c).known)):=by
 have hl:c < a.knowns.length:=by rw [L.klen,I.clen];exact hc
 exact ⟨a.knowns[c],List.getElem?_eq_getElem hl,L.kn c _ _ (List.getElem?_eq_getElem hl) (cO I hc)⟩
theorem aw.wait {C Cd:Addr} {H:Hp} {p:Addr} {h:House} {a:LA} (L:aw C Cd H p h a) (I:NH.Inv h) {c:Nat} (hc:c < h.hands):∃ q,a.waits[c]?=some q/\cC H q ((copyAt h c).pool.map bj):=by
 have hl:c < a.waits.length:=by rw [L.wlen,I.clen];exact hc
 exact ⟨a.waits[c],List.getElem?_eq_getElem hl,L.wt c _ _ (List.getElem?_eq_getElem hl) (cO I hc)⟩
theorem aw.ownAt {C Cd:Addr} {H:Hp} {p:Addr} {h:House} {a:LA} (L:aw C Cd H p h a) (I:NH.Inv h) {c:Nat} (hc:c < h.hands):∃ q,a.owns[c]?=some q/\im Cd H q c (h.doings.getD c []):=by
 have hd:c < h.doings.length:=by rw [I.ds.len];exact hc
 have hl:c < a.owns.length:=by rw [L.olen];exact hd
 exact ⟨a.owns[c],List.getElem?_eq_getElem hl,L.own c _ _ (List.getElem?_eq_getElem hl) (by rw [List.getD_eq_getElem?_getD,List.getElem?_eq_getElem hd];rfl)⟩
theorem aR {ls:List Addr} {z:Int} {j:Nat} {q:Addr} (e:z=(j:Int)) (h:ls[j]?=some q):atI (ls.map V.ref) z=some (.ref q):=b7 e (by rw [List.getElem?_map,h];rfl)
abbrev w9:Stmt:=top 25
def xb (C Cd:Addr):Sp:=fun vs H Q _=>∃ p h a c g,vs=[.ref p,.int ((c:Nat):Int),.int ((g:Nat):Int)]/\aw C Cd H p h a/\NH.Inv h/\c < h.hands/\g < h.hands/\
 ∀ r H',ay H H'->H r=none->cC H' r ((lacking h.doings (copyAt h c).known g).map bj)->Q (.ref r) H'
theorem gL:aq ["line","hand","other","knowledge","sure","names","maker","many","number"] ["line","hand","other"] (al w9):=⟨rfl,rfl,rfl,by decide +kernel,rfl,by decide +kernel,by decide +kernel⟩
theorem Rows.append {H:Hp}:∀ {ps qs:List Addr} {a b:List (List Int)},Rows H ps a->Rows H qs b->Rows H (ps++qs) (a++b)
 | _,_,_,_,.nil,h=>h
 | _,_,_,_,.cons x t,h=> .cons x (Rows.append t h)
theorem yy {f fs C Cd:Addr} {fd fds:FuncData} (HP:Helps K mg) (F:Fun K "lacks" "lacks" w9 f fd) (Fs:Fun K "surely_known" "surely_known" mH fs fds) (bs:aG K fds ["line","hand","knowledge"] []) (ms:mg "surely_known" = some (.ref fs))
  (T:cR K C) (Td:dC K Cd) (B:Blt mg):az P w K mg base CX0 3 f fd ["line","hand","other"] (xb C Cd):=by
 have GS:az P w K mg base CX0 2 fs fds ["line","hand","knowledge"] (oi K C Cd):=nN HP Fs T Td B
 refine F.ok gL (fun vs H Q E h=>?_) (fun cdv A outer s H vs Q E hr h=>?_)
 ·obtain ⟨p,h,a,c,g,rfl,_⟩:=h
  rfl
 ·obtain ⟨p,h,a,c,g,rfl,L,I,hc,hg,q⟩:=h
  refine ⟨_,ag (aB (i:=3) gL.nd rfl (Or.inl rfl) (ax aE (ao (pv 0) rfl) (pv 1) (fun _ _=>rfl)))
   (ag (aB (i:=4) gL.nd rfl (Or.inl rfl) (au GS hr rfl ms Fs.kp bs .nil aD (aa (pv 0) (aa (pv 2) (aa (pv 3) ad)))))
   (ag (aB (i:=5) gL.nd rfl (Or.inl rfl) (aJ ad))
   (ag (eZ PassesOwn.never rfl (gc rfl B.enum (aa (pv 3) ad)) (gU rfl (b9 (aK (i:=6) gL.nd rfl (Or.inr rfl)) (b9 (aK (i:=7) gL.nd rfl (Or.inl rfl)) fC)))
    (aj (cB (eJ PySem.F.plainAttrs_list PySem.F.slot_list_extend PySem.F.type_list_extend dY (pv 5)
     (aa (dD (own:=[("number",8)]) (tt:=hJ) (te:=yC (aY (aV 6) (aY (aV 8) cF))) rfl gL.nd (tE rfl B.range (aa (ax aE (pv 4) (pv 6) (fun _ _=>rfl)) (aa (pv 7) ad))) (bO rfl)
      (fun _ _ _ _ _=>aK (i:=8) gL.nd rfl (Or.inl rfl)) (fun _ _ _ _ _=>cT)
      (fun _ _ _ _ _=>dz (aa (pv 6) (aa (pv 8) ad)))) ad)))))
   (aj (ap (pv 5)))))),?_⟩
  have CO:=I.copy hc
  obtain ⟨qk,hqk,hkn⟩:=L.known I hc
  generalize hv:(copyAt h c).known=v at hkn q CO
  have h120:∀ g,v.getD g 0<=120:=fun g=>by rw [<- hv];exact I.known120 hc g
  have hle:∀ g,v.getD g 0<=bg h.doings g:=fun g=>by rw [<- hv];exact CO.le g
  have hvl:v.length=h.hands:=by rw [<- hv];exact CO.klen
  have h5:=I.hands
  have hsl:=c6 I.ds hvl (hle g)
  refine ⟨_,rfl,p,C,a.dx,_,_,rfl,L.obj,T.cl,T.nk,cA ..,_,rfl,a.N,_,_,_,rfl,rfl,SqL.of L.nl,aR rfl hqk,?_⟩
  refine ⟨_,rfl,_,rfl,_,rfl,p,h,a,false,qk,v,g,rfl,L,SqL.of hkn,hvl,hg,h5,I.ds,hle g,fun ps H1 s1 hnps hps=>?_⟩
  refine ⟨Nat.zero_le _,fun pn hpn=>?_⟩
  have hHn:H pn=none:=s1.free hpn
  have s2:ay H (upd H1 pn (.lst [])):=s1.trans (ac hpn)
  have hps2:(upd H1 pn (.lst [])) ps=some (.lst (aL (surely h.doings v g))):=ac hpn _ _ hps
  have npn:pn≠ps:=(ai hps hpn).symm
  refine ⟨_,rfl,false,qk,aL v,rfl,SqL.of (s2 _ _ hkn),eO eP (fun i σ H'=>∃ v6 v7 v8,σ=[some (.ref p),some (.int (c:Int)),some (.int (g:Int)),some (.ref qk),some (.ref ps),some (.ref pn),v6,v7,v8]/\ay H H'/\H' ps=some (.lst (aL (surely h.doings v g)))/\
    cC H' pn ((eY (surely h.doings v g) v i).map bj))
   ⟨none,none,none,rfl,s2,hps2,[],ab,.nil⟩ (fun i σ H' _ ⟨_,_,_,_,sm,_⟩=>SqL.of (sm _ _ hkn)) ?_ ?_⟩
  ·rintro i x σ H2 H3 hi ⟨TT,x',rfl,hT,rfl,hx⟩ ⟨v6,v7,v8,rfl,sm,hps3,rs,hrs,hrow⟩
   obtain ⟨rfl,hiv⟩:=eV hx
   have smT:ay H2 (upd H2 TT (.tup [.int (i:Nat),.int ((v.getD i 0:Nat):Int)])):=ac hT
   refine ⟨TT,_,rfl,SqT.of ab,rfl,_,_,rfl,_,_,rfl,rfl,?_⟩
   have hrs3:=smT _ _ hrs
   have hps4:=smT _ _ hps3
   generalize hsv:(surely h.doings v g).getD i 0=sv
   have hs120:sv<=120\/v.getD i 0 - sv=0:=by have:=h120 i;omega
   have hat:=d6 (v:=surely h.doings v g) (i:=i) (by omega)
   rw [hsv] at hat
   refine ⟨_,rfl,.inl ⟨rfl,_,SqL.of hrs3⟩,_,rfl,_,rfl,ps,_,_,_,rfl,rfl,SqL.of hps4,hat,_,rfl,_,_,rfl,?_,fun D hnD=>?_⟩
   ·have:sv<=120:=by rw [<- hsv];exact tL I.ds (hle g) I.len120 i
    have:=h120 i
    refine ⟨by omega,by omega,by omega,by omega⟩
   ·have e1:(((v.getD i 0:Nat):Int) - ((sv:Nat):Int)).toNat=v.getD i 0 - sv:=by omega
    rw [e1]
    refine gg (fun j H4=>ay (upd H2 TT (.tup [.int (i:Nat),.int ((v.getD i 0:Nat):Int)])) H4/\∃ qs,H4 D=some (.lst (qs.map V.ref))/\Rows H4 qs (((List.range' sv j).map fun k=>({ by_:=i,k:=k }:Name)).map bj)) ⟨ac hnD,[],ab,.nil⟩ ?_ ?_
    ·rintro j H4 hj ⟨sm5,qs,hq,hr4⟩
     have hlq:=hr4.length
     rw [List.length_map,List.length_map,List.length_range'] at hlq
     refine ⟨rfl,dL ?_⟩
     refine ⟨_,rfl,_,rfl,(by show 2<=sizeLine;decide),fun tp htp=>?_⟩
     have smt:ay H4 (upd H4 tp (.tup [.int (i:Int),.int ((sv:Int)+(j:Nat))])):=ac htp
     refine ⟨_,smt _ _ hq,?_,?_⟩
     ·rw [List.length_map,hlq]
      have:=h120 i
      have:121<=sizeLine:=by decide
      omega
     ·have hD4:=smt _ _ hq
      have s6:ay (upd H2 TT (.tup [.int (i:Nat),.int ((v.getD i 0:Nat):Int)])) (upd (upd H4 tp (.tup [.int (i:Int),.int ((sv:Int)+(j:Nat))])) D (.lst (qs.map V.ref++[V.ref tp]))):=fun b o e=>by
       rw [ah (ai e hnD)];exact smt _ _ (sm5 b o e)
      refine ⟨s6,qs++[tp],by rw [ab,List.map_append];rfl,?_⟩
      rw [List.range'_concat,List.map_append,List.map_append]
      refine Rows.append (Rows.updL hD4 (Rows.same smt hr4)) (.cons ?_ .nil)
      rw [ah (bS (ab) hD4 (by intro z;cases z)),ab]
      have:(sv:Int)+(j:Nat)=((sv+1 * j:Nat):Int):=by omega
      rw [this]
      rfl
    ·rintro H4 ⟨sm5,qs,hq,hr4⟩
     have hrs4:=sm5 _ _ hrs3
     have hq':Rows H4 qs ((gi (surely h.doings v g) v i).map bj):=by
      unfold gi
      rw [hsv]
      exact hr4
     have l1:=hrow.length
     have l2:=hq'.length
     rw [List.length_map] at l1 l2
     have b1:=jf (surely h.doings v g) v h120 i
     have b2:=i9 (surely h.doings v g) v i
     have b3:=h120 i
     refine ⟨pn,D,_,_,rfl,rfl,hrs4,hq,?_,?_⟩
     ·rw [List.length_map,List.length_map]
      have:600<=sizeLine:=by decide
      omega
     ·refine ⟨_,_,_,rfl,fun b o e=>by rw [ah (ai e hHn)];exact sm5 _ _ (smT _ _ (sm b o e)),?_,rs++qs,by rw [ab,List.map_append],?_⟩
      ·rw [ah npn.symm]
       exact sm5 _ _ hps4
      ·rw [io,List.map_append]
       exact Rows.append (Rows.updL hrs4 (Rows.same (smT.trans sm5) hrow)) (Rows.updL hrs4 hq')
  ·rintro σ H' ⟨v6,v7,v8,rfl,sm,_,hrow⟩
   refine ⟨_,rfl,q pn H' sm hHn ?_⟩
   rw [bH,hvl,<- I.ds.len,<- oH hle g] at hrow
   exact hrow
end
section
theorem aw.doing {C Cd:Addr} {H:Hp} {p:Addr} {h:House} {a:LA} (L:aw C Cd H p h a) (I:NH.Inv h) {m:Name} {d:Doing} (hd:doingAt h.doings m=some d) :
  ∃ (po:Addr) (ps:List Addr) (pd:Addr),a.owns[m.by_]?=some po/\H po=some (.lst (ps.map V.ref))/\ps[m.k]?=some pd/\bG Cd H pd m.by_ m.k d:=by
 have hx:m.k < bg h.doings m.by_:=(List.getElem?_eq_some_iff.mp (show (h.doings.getD m.by_ [])[m.k]?=some d from hd)).1
 obtain ⟨po,h1,ps,o1,o2,o3⟩:=L.ownAt I (fH I.ds.len hx)
 have hl:m.k < ps.length:=by rw [o2];exact hx
 exact ⟨po,ps,ps[m.k],h1,o1,List.getElem?_eq_getElem hl,o3 _ _ d (List.getElem?_eq_getElem hl) hd⟩
abbrev sX:Stmt:=top 26
def yW (C Cd:Addr):Sp:=fun vs H Q _=>∃ p h a c t m,vs=[.ref p,.int ((c:Nat):Int),.ref t]/\aw C Cd H p h a/\NH.Inv h/\c < h.hands/\H t=some (.tup ((bj m).map V.int))/\Ex h.doings m/\
 ∀ H',ay H H'->Q (.bl (ready h.doings (copyAt h c).known m)) H'
theorem uG:aq ["line","hand","name","known","doing"] ["line","hand","name"] (al sX):=⟨rfl,rfl,rfl,by decide +kernel,rfl,by decide +kernel,by decide +kernel⟩
theorem zt {f C Cd:Addr} {fd:FuncData} (HP:Helps K mg) (F:Fun K "is_ready" "is_ready" sX f fd) (T:cR K C) (Td:dC K Cd) (B:Blt mg):az P w K mg base CX0 2 f fd ["line","hand","name"] (yW C Cd):=by
 obtain ⟨fw,fdw,Fw,bw,mw⟩:=HP.win
 have GW:az P w K mg base CX0 1 fw fdw ["part","knowledge"] (si K):=rD Fw B
 refine F.ok uG (fun vs H Q E h=>?_) (fun cdv A outer s H vs Q E hr h=>?_)
 ·obtain ⟨p,h,a,c,t,m,rfl,_⟩:=h
  rfl
 ·obtain ⟨p,h,a,c,t,m,rfl,L,I,hc,ht,hx,q⟩:=h
  refine ⟨_,ag (aB (i:=3) uG.nd rfl (Or.inl rfl) (ax aE (ao (pv 0) rfl) (pv 1) (fun _ _=>rfl)))
   (ag (aB (i:=4) uG.nd rfl (Or.inl rfl) (ax aE (ax aE (ao (pv 0) rfl) (ax aH (pv 2) am (fun _ _=>rfl)) (fun _ _=>rfl)) (ax aH (pv 2) am (fun _ _=>rfl)) (fun _ _=>rfl)))
   (ag (cc (aU sL (ao (pv 4) rfl) (ax aE (pv 3) (ao (pv 4) rfl) (fun _ _=>rfl)) (aX _)) (aj (ap lH)) aZ)
   (aj (ap (au GW hr rfl mw Fw.kp bw .nil aD (aa (ao (pv 4) rfl) (aa (pv 3) ad))))))),?_⟩
  have CO:=I.copy hc
  obtain ⟨qk,hqk,hkn⟩:=L.known I hc
  obtain ⟨d,hd⟩:=kE hx
  obtain ⟨po,ps,pd,h1,h2,h3,dx,p1,p2,z1,z2,z3⟩:=L.doing I hd
  have hby:m.by_ < h.hands:=fH I.ds.len hx
  have hkl:=(I.ds.ok m.by_ m.k d hd).klen
  rw [sZ I.ds CO.klen hd] at q
  generalize hv:(copyAt h c).known=v at hkn q CO
  have hvl:v.length=h.hands:=by rw [<- hv];exact CO.klen
  refine ⟨_,rfl,p,C,a.dx,_,_,rfl,L.obj,T.cl,T.nk,cA ..,_,rfl,a.N,_,_,_,rfl,rfl,SqL.of L.nl,aR rfl hqk,?_⟩
  refine ⟨_,rfl,p,C,a.dx,_,_,rfl,L.obj,T.cl,T.nd,cu ..,_,rfl,t,_,_,_,rfl,rfl,SqT.of ht,b7 (j:=0) (v:=V.int (m.by_:Int)) rfl rfl,a.D,_,_,_,rfl,rfl,SqL.of L.dl,aR rfl h1,
   _,rfl,t,_,_,_,rfl,rfl,SqT.of ht,b7 (j:=1) (v:=V.int (m.k:Int)) rfl rfl,po,_,_,_,rfl,rfl,SqL.of h2,aR rfl h3,?_⟩
  refine ⟨_,rfl,pd,Cd,dx,_,_,rfl,z1,Td.cl,Td.nn,fA ..,_,rfl,_,rfl,pd,Cd,dx,_,_,rfl,z1,Td.cl,Td.nh,gx ..,qk,_,_,_,rfl,rfl,SqL.of hkn,d6 (by omega),rfl,_,rfl,?_⟩
  by_cases hk:m.k=v.getD m.by_ 0
  ·have e0:(!decide (V.int (m.k:Int)=V.int ((v.getD m.by_ 0:Nat):Int)))=false:=by rw [hk];simp
   rw [e0]
   refine bB ?_
   refine ⟨_,rfl,pd,Cd,dx,_,_,rfl,z1,Td.cl,Td.nb,nT ..,_,rfl,p2,qk,true,false,d.knew,v,rfl,SqT.of z3,SqL.of hkn,by rw [hkl,hvl],by rw [hkl];have:=I.hands;omega,fun H' sm=>?_⟩
   have:=q H' sm
   rw [hk,beq_self_eq_true,Bool.true_and] at this
   exact this
  ·have e0:(!decide (V.int (m.k:Int)=V.int ((v.getD m.by_ 0:Nat):Int)))=true:=by
    rw [decide_eq_false fun z=>hk (by have:=V.int.inj z;omega)];rfl
   rw [e0]
   refine bV ?_
   have:=q H (ay.refl H)
   have e1:(m.k == v.getD m.by_ 0)=false:=beq_eq_false_iff_ne.mpr hk
   rw [e1,Bool.false_and] at this
   exact this
abbrev BL:Stmt:=top 19
def uz (C Cd:Addr):Sp:=fun vs H Q _=>∃ p h a c t m,vs=[.ref p,.int ((c:Nat):Int),.ref t]/\aw C Cd H p h a/\NH.Inv h/\c < h.hands/\H t=some (.tup ((bj m).map V.int))/\m.by_ < h.hands/\∀ H',ay H H'->Q (.bl (Vbslag.knows (copyAt h c).known m)) H'
theorem B3:aq ["line","hand","name"] ["line","hand","name"] (al BL):=⟨rfl,rfl,rfl,by decide +kernel,rfl,by decide +kernel,by decide +kernel⟩
theorem vi {f C Cd:Addr} {fd:FuncData} (F:Fun K "knows" "knows" BL f fd) (T:cR K C):az P w K mg base CX0 1 f fd ["line","hand","name"] (uz C Cd):=by
 refine F.ok B3 (fun vs H Q E h=>?_) (fun cdv A outer s H vs Q E hr h=>?_)
 ·obtain ⟨p,h,a,c,t,m,rfl,_⟩:=h
  rfl
 ·obtain ⟨p,h,a,c,t,m,rfl,L,I,hc,ht,hby,q⟩:=h
  refine ⟨_,aj (ap (fI y9 (ax aH (pv 2) am (fun _ _=>rfl)) (ax aE (ax aE (ao (pv 0) rfl) (pv 1) (fun _ _=>rfl)) (ax aH (pv 2) am (fun _ _=>rfl)) (fun _ _=>rfl)) (aX _))),?_⟩
  have CO:=I.copy hc
  obtain ⟨qk,hqk,hkn⟩:=L.known I hc
  refine ⟨_,rfl,t,_,_,_,rfl,rfl,SqT.of ht,b7 (j:=1) (v:=V.int (m.k:Int)) rfl rfl,_,rfl,p,C,a.dx,_,_,rfl,L.obj,T.cl,T.nk,cA ..,_,rfl,a.N,_,_,_,rfl,rfl,SqL.of L.nl,aR rfl hqk,
   _,rfl,t,_,_,_,rfl,rfl,SqT.of ht,b7 (j:=0) (v:=V.int (m.by_:Int)) rfl rfl,qk,_,_,_,rfl,rfl,SqL.of hkn,d6 (by rw [CO.klen];exact hby),_,_,rfl,rfl,?_⟩
  have e2:decide (((m.k:Nat):Int) < (((copyAt h c).known.getD m.by_ 0:Nat):Int))=Vbslag.knows (copyAt h c).known m:=by
   unfold Vbslag.knows
   rw [decide_eq_decide];omega
  show Q (V.bl (decide (((m.k:Nat):Int) < (((copyAt h c).known.getD m.by_ 0:Nat):Int)))) H
  rw [e2]
  exact q H (ay.refl H)
end
theorem Rows.get {H:Hp}:∀ {ps:List Addr} {rows:List (List Int)} {i:Nat} {p:Addr},Rows H ps rows->ps[i]?=some p->∃ r,rows[i]?=some r/\H p=some (.tup (r.map V.int))
 | _,_,_,_,.nil,e=>by simp at e
 | _,_,0,_,.cons h t,e=>by
  simp at e
  subst e
  exact ⟨_,rfl,h⟩
 | _,_,i+1,p,.cons h t,e=>by
  obtain ⟨r,h1,h2⟩:=Rows.get (i:=i) (p:=p) t (by simpa using e)
  exact ⟨r,by simpa using h1,h2⟩
section
abbrev wj:Stmt:=top 27
def vB (C Cd:Addr):Sp:=fun vs H Q _=>∃ p h a c,vs=[.ref p,.int ((c:Nat):Int)]/\aw C Cd H p h a/\NH.Inv h/\c < h.hands/\
 (∀ (i:Nat) (m:Name) H',ay H H'->(copyAt h c).pool[i]?=some m->(copyAt h c).pool.find? (ready h.doings (copyAt h c).known)=some m->Q (.int (i:Int)) H')/\
 (∀ H',ay H H'->(copyAt h c).pool.find? (ready h.doings (copyAt h c).known)=none->Q .non H')
theorem uE:aq ["line","hand","place","name"] ["line","hand"] (al wj):=⟨rfl,rfl,rfl,by decide +kernel,rfl,by decide +kernel,by decide +kernel⟩
theorem Au {f fr C Cd:Addr} {fd fdr:FuncData} (HP:Helps K mg) (F:Fun K "first_ready" "first_ready" wj f fd) (Fr:Fun K "is_ready" "is_ready" sX fr fdr) (br:aG K fdr ["line","hand","name"] []) (mr:mg "is_ready" = some (.ref fr))
  (T:cR K C) (Td:dC K Cd) (B:Blt mg):az P w K mg base CX0 3 f fd ["line","hand"] (vB C Cd):=by
 have GR:az P w K mg base CX0 2 fr fdr ["line","hand","name"] (yW C Cd):=zt HP Fr T Td B
 refine F.ok uE (fun vs H Q E h=>?_) (fun cdv A outer s H vs Q E hr h=>?_)
 ·obtain ⟨p,h,a,c,rfl,_⟩:=h
  rfl
 ·obtain ⟨p,h,a,c,rfl,L,I,hc,q1,q2⟩:=h
  refine ⟨_,ag (eZ PassesOwn.never rfl (gc rfl B.enum (aa (ax aE (ao (pv 0) rfl) (pv 1) (fun _ _=>rfl)) ad)) (gU rfl (b9 (aK (i:=2) uE.nd rfl (Or.inl rfl)) (b9 (aK (i:=3) uE.nd rfl (Or.inl rfl)) fC)))
    (aj (cc (cU (au GR hr rfl mr Fr.kp br .nil aD (aa (pv 0) (aa (pv 1) (aa (pv 3) ad))))) (aj (ap (pv 2))) aZ)))
   (aj (ap gK)),?_⟩
  obtain ⟨qw,hqw,rs,hrs,hrow⟩:=L.wait I hc
  have CO:=I.copy hc
  have hlen:=hrow.length
  rw [List.length_map] at hlen
  generalize hpl:(copyAt h c).pool=pool at *
  refine ⟨_,rfl,p,C,a.dx,_,_,rfl,L.obj,T.cl,T.nw,eU ..,_,rfl,a.W,_,_,_,rfl,rfl,SqL.of L.wl,aR rfl hqw,false,qw,rs.map V.ref,rfl,SqL.of hrs,
   eO eP (fun i σ H'=>∃ v2 v3,σ=[some (.ref p),some (.int (c:Int)),v2,v3]/\ay H H'/\∀ (j:Nat) (m:Name),j < i->pool[j]?=some m->ready h.doings (copyAt h c).known m=false)
   ⟨none,none,rfl,ay.refl H,fun j m hj=>absurd hj (Nat.not_lt_zero j)⟩ (fun i σ H' _ ⟨_,_,_,sm,_⟩=>SqL.of (sm _ _ hrs)) ?_ ?_⟩
  ·rintro i x σ H1 H2 hi ⟨TT,x',rfl,hT,rfl,hx⟩ ⟨v2,v3,rfl,sm,hno⟩
   rw [List.getElem?_map] at hx
   cases e:rs[i]? with
   | none=>rw [e] at hx;cases hx
   | some pt=>
    rw [e] at hx
    have ex':V.ref pt=x':=Option.some.inj hx
    subst ex'
    obtain ⟨r,hr1,hr2⟩:=Rows.get hrow e
    rw [List.getElem?_map] at hr1
    cases em:pool[i]? with
    | none=>rw [em] at hr1;cases hr1
    | some m=>
     rw [em] at hr1
     have er:bj m=r:=Option.some.inj hr1
     subst er
     have smT:=sm.trans (ac (o:= .tup [.int (i:Nat),.ref pt]) hT)
     refine ⟨TT,_,rfl,SqT.of ab,rfl,_,_,rfl,_,_,rfl,rfl,?_⟩
     refine ⟨_,rfl,_,rfl,_,rfl,p,h,a,c,pt,m,rfl,L.same smT,I,hc,smT _ _ hr2,CO.ex m (by rw [hpl];exact List.mem_of_getElem? em),fun H3 s3=>⟨_,rfl,?_⟩⟩
     cases hrd:ready h.doings (copyAt h c).known m with
     | true=>
      refine bV ?_
      refine ⟨_,rfl,?_⟩
      refine q1 i m H3 (smT.trans s3) em ?_
      refine List.find?_eq_some_iff_getElem.mpr ⟨hrd,i,(List.getElem?_eq_some_iff.mp em).1,(List.getElem?_eq_some_iff.mp em).2,fun j hj=>?_⟩
      have hj2:j < pool.length:=Nat.lt_trans hj (List.getElem?_eq_some_iff.mp em).1
      rw [hno j pool[j] hj (List.getElem?_eq_getElem hj2)]
      rfl
     | false=>
      refine bB ?_
      refine ⟨_,_,rfl,smT.trans s3,fun j m' hj hm'=>?_⟩
      rcases Nat.lt_succ_iff_lt_or_eq.mp hj with z | z
      ·exact hno j m' z hm'
      ·subst z
       rw [em] at hm'
       cases hm'
       exact hrd
  ·rintro σ H' ⟨v2,v3,rfl,sm,hno⟩
   refine q2 H' sm (List.find?_eq_none.mpr fun m hm=>?_)
   obtain ⟨j,hj⟩:=List.getElem?_of_mem hm
   rw [hno j m (by rw [List.length_map,hlen];exact (List.getElem?_eq_some_iff.mp hj).1) hj]
   exact Bool.false_ne_true
abbrev sR:Stmt:=top 16
def wA (K:PySem.W.Frag) (C Cd:Addr):Sp:=fun vs H Q _=>∃ p h a t lk v,vs=[.ref p,.ref lk]/\aw C Cd H p h a/\NH.Inv h/\SqX K t H lk (aL v)/\v.length=h.hands/\(∀ g,v.getD g 0<=bg h.doings g)/\
 ∀ H',ay H H'->Q (.int (((timeOf h.doings v+1:Nat)):Int)) H'
theorem nO:aq ["line","bears","times","hand","many"] ["line","bears"] (al sR):=⟨rfl,rfl,rfl,by decide +kernel,rfl,by decide +kernel,by decide +kernel⟩
theorem xy {f C Cd:Addr} {fd:FuncData} (F:Fun K "time_behind" "time_behind" sR f fd) (T:cR K C) (Td:dC K Cd) (B:Blt mg):az P w K mg base CX0 1 f fd ["line","bears"] (wA K C Cd):=by
 refine F.ok nO (fun vs H Q E h=>?_) (fun cdv A outer s H vs Q E hr h=>?_)
 ·obtain ⟨p,h,a,t,lk,v,rfl,_⟩:=h
  rfl
 ·obtain ⟨p,h,a,t,lk,v,rfl,L,I,hk,hvl,hle,q⟩:=h
  refine ⟨_,ag (u9 (i:=2) (own:=[("hand",3),("many",4)]) (g:=Aa K 2 (pz (g0 3) (pz (g0 4) zw))) (tt:=mK (tOp (rI0 fun i j=> .bl (decide (j < i))) (aV 4) (tC (.int 0))))
     (te:=j9 K (tOp (oT K) (tOp (oT K) (j9 K (aV 0) "doings") (aV 3)) (tOp (rI0 fun i j=> .int (i - j)) (aV 4) (tC (.int 1)))) "time") rfl nO.nd rfl rfl rfl (gc rfl B.enum (aa (pv 1) ad)) (bO rfl)
    (fun _ _ _ _ _=>gU rfl (b9 (aK (i:=3) nO.nd rfl (Or.inl rfl)) (b9 (aK (i:=4) nO.nd rfl (Or.inl rfl)) fC)))
    (fun _ _ _ _ _=>gk (aU CU (pv 4) am (aX _)))
    (fun _ _ _ _ _=>ao (ax aE (ax aE (ao (pv 0) rfl) (pv 3) (fun _ _=>rfl)) (bZ kQ (pv 4) am) (fun _ _=>rfl)) rfl))
   (aj (ap (bZ iL am (yh rfl rfl B.max (pv 2) am)))),?_⟩
  refine ⟨_,rfl,t,lk,aL v,rfl,hk,fun D hD=>?_⟩
  refine ph eP (fun i H'=>ay H H'/\H' D=some (.lst (aL (tms h.doings v i)))) ⟨ac hD,ab⟩ (fun i H' _ ⟨sm,_⟩=>sm.sqx hk) ?_ ?_
  ·rintro i x H1 H2 hi ⟨TT,x',rfl,hT,rfl,hx⟩ ⟨sm,hDl⟩
   obtain ⟨rfl,hiv⟩:=eV hx
   have smT:ay H1 (upd H1 TT (.tup [.int (i:Nat),.int ((v.getD i 0:Nat):Int)])):=ac hT
   have sm2:=sm.trans smT
   refine ⟨TT,_,rfl,SqT.of ab,rfl,_,_,rfl,_,_,rfl,rfl,rfl,_,rfl,_,_,rfl,rfl,_,rfl,?_⟩
   by_cases h0:0 < v.getD i 0
   ·have e0:decide ((0:Int) < ((v.getD i 0:Nat):Int))=true:=decide_eq_true (by omega)
    rw [e0]
    refine bV ?_
    obtain ⟨d,hd⟩:=kE (ds:=h.doings) (m:=⟨i,v.getD i 0 - 1⟩) (by show v.getD i 0 - 1 < bg h.doings i;have:=hle i;omega)
    obtain ⟨po,ps,pd,h1,h2,h3,dx,p1,p2,z1,z2,z3⟩:=(L.same sm2).doing I hd
    have L2:=L.same sm2
    refine ⟨_,rfl,p,C,a.dx,_,_,rfl,L2.obj,T.cl,T.nd,cu ..,_,rfl,a.D,_,_,_,rfl,rfl,SqL.of L2.dl,aR rfl h1,_,rfl,_,_,rfl,rfl,po,_,_,_,rfl,rfl,SqL.of h2,aR (by show ((v.getD i 0:Nat):Int) - 1=((v.getD i 0 - 1:Nat):Int);omega) h3,
     pd,Cd,dx,_,_,rfl,z1,Td.cl,Td.ni,rM ..,_,smT _ _ hDl,?_,?_⟩
    ·rw [bH]
     have:=yl h.doings v i
     have:=I.hands
     have:6<=sizeLine:=by decide
     omega
    ·refine ⟨fun b o e=>by rw [ah (ai e hD)];exact sm2 b o e,?_⟩
     have e1:oF h.doings v i=some d.time:=by unfold oF;rw [if_pos h0,hd];rfl
     rw [ab,wE e1]
     unfold aL bp
     rw [List.map_append,List.map_append]
     rfl
   ·have e0:decide ((0:Int) < ((v.getD i 0:Nat):Int))=false:=decide_eq_false (by omega)
    rw [e0]
    refine bB ?_
    have e1:oF h.doings v i=none:=by unfold oF;rw [if_neg h0]
    rw [xj e1]
    exact ⟨sm2,smT _ _ hDl⟩
  ·rintro H' ⟨sm,hDl⟩
   rw [bH,hvl] at hDl
   have eT:=qV I.ds hvl hle
   generalize hts:tms h.doings v h.hands=ts at hDl eT
   refine ⟨_,rfl,D,_,rfl,SqL.of hDl,fun e0=>?_,fun m hm hmax=>?_⟩
   ·have e1:ts=[]:=by
     unfold bp at e0
     exact List.map_eq_nil_iff.mp e0
    rw [e1] at eT
    refine ⟨_,_,rfl,rfl,?_⟩
    have:=q H' sm
    rw [eT] at this
    exact this
   ·obtain ⟨k,hk1,hk2⟩:=List.mem_map.mp hm
    subst hk2
    rw [pM hk1 fun y hy=>by have:=hmax _ (List.mem_map.mpr ⟨y,hy,rfl⟩);omega] at eT
    refine ⟨_,_,rfl,rfl,?_⟩
    have:=q H' sm
    rw [eT] at this
    have e2:(1:Int)+(k:Int)=((k+1:Nat):Int):=by omega
    show Q (V.int (1+(k:Int))) H'
    rw [e2]
    exact this
end
def aN (M:List Addr) (H H':Hp):Prop:=∀ b o,H b=some o->b∉M->H' b=some o
theorem aN.of {M:List Addr} {H H':Hp} (s:ay H H'):aN M H H':=fun b o e _=>s b o e
theorem aN.trans {M:List Addr} {H H1 H2:Hp} (a:aN M H H1) (b:aN M H1 H2):aN M H H2:=fun c o e n=>b c o (a c o e n) n
theorem aN.upd {M:List Addr} {H:Hp} {q:Addr} {o:HO} (h:q∈M):aN M H (upd H q o):=fun b u e n=>by rw [ah (fun z=>n (by rw [z];exact h))];exact e
section
variable {C Cd:Addr} {H:Hp} {p:Addr} {h:House} {a:LA}
theorem Cl:a.D∈a.mut:=List.mem_cons_self ..
theorem pj:a.B∈a.mut:=by unfold LA.mut;simp
theorem sP {q:Addr} (h:q∈a.owns):q∈a.mut:=by unfold LA.mut;simp [h]
theorem jN {q:Addr} (h:q∈a.knowns):q∈a.mut:=by unfold LA.mut;simp [h]
theorem lI {q:Addr} (h:q∈a.waits):q∈a.mut:=by unfold LA.mut;simp [h]
theorem aw.setBag (L:aw C Cd H p h a) {ps:List Addr} {b:List Message} (hr:Rows H ps (b.map ly)):aw C Cd (upd H a.B (.lst (ps.map V.ref))) p { h with bag:=b } a:=by
 obtain ⟨⟨e1,e2,e3,e4,e5,e6⟩,n1,⟨k1,k2,k3⟩,m1,m2,m3⟩:=jo L.nd
 obtain ⟨ps0,hB,_⟩:=L.bag
 have el:∀ {q:Addr} {c:Nat} {l:List Addr},l[c]?=some q->q∈l:=fun z=>List.mem_of_getElem? z
 refine ⟨?_,?_,?_,?_,L.olen,L.klen,L.wlen,fun c q o z1 z2=>?_,fun c q x z1 z2=>?_,fun c q x z1 z2=>?_,⟨ps,ab,Rows.updL hB hr⟩,L.nd⟩
 ·rw [ah (L.obj_ne hB)];exact L.obj
 ·rw [ah e3];exact L.dl
 ·rw [ah e5];exact L.nl
 ·rw [ah e6];exact L.wl
 ·exact (L.own c q o z1 z2).updL hB (n1 q (.inl (el z1))).2.2.2
 ·rw [ah (n1 q (.inr (.inl (el z1)))).2.2.2];exact L.kn c q x z1 z2
 ·exact (L.wt c q x z1 z2).updL hB (n1 q (.inr (.inr (el z1)))).2.2.2
theorem gj {cs:List Copy} {c c':Nat} {x y:Copy} (h:(cs.set c x)[c']?=some y):(c'=c/\y=x)\/(c'≠c/\cs[c']?=some y):=by
 rw [List.getElem?_set] at h
 by_cases e:c=c'
 ·rw [if_pos e] at h
  split at h
  ·exact .inl ⟨e.symm,(Option.some.inj h).symm⟩
  ·cases h
 ·rw [if_neg e] at h
  exact .inr ⟨fun z=>e z.symm,h⟩
theorem jv {l:List Addr} (n:l.Nodup) {i j:Nat} {q:Addr} (h1:l[i]?=some q) (h2:l[j]?=some q):i=j:=A2 n h1 h2
theorem aw.setKnown (L:aw C Cd H p h a) {c:Nat} (hx:h.copies[c]?=some (copyAt h c)) {q:Addr} (hq:a.knowns[c]?=some q) (v:List Nat) :
  aw C Cd (upd H q (.lst (aL v))) p (setCopy h c { copyAt h c with known:=v }) a:=by
 obtain ⟨⟨e1,e2,e3,e4,e5,e6⟩,n1,⟨k1,k2,k3⟩,m1,m2,m3⟩:=jo L.nd
 have el:∀ {q:Addr} {c:Nat} {l:List Addr},l[c]?=some q->q∈l:=fun z=>List.mem_of_getElem? z
 have hQ:=L.kn c q _ hq hx
 have nq:=n1 q (.inr (.inl (el hq)))
 refine ⟨?_,?_,?_,?_,L.olen,?_,?_,fun c' q' o z1 z2=>?_,fun c' q' x z1 z2=>?_,fun c' q' x z1 z2=>?_,L.bag.updL hQ nq.2.2.2.symm,L.nd⟩
 ·rw [ah (L.obj_ne hQ)];exact L.obj
 ·rw [ah nq.1.symm];exact L.dl
 ·rw [ah nq.2.1.symm];exact L.nl
 ·rw [ah nq.2.2.1.symm];exact L.wl
 ·show _=(h.copies.set c _).length
  rw [List.length_set];exact L.klen
 ·show _=(h.copies.set c _).length
  rw [List.length_set];exact L.wlen
 ·exact (L.own c' q' o z1 z2).updL hQ (m1 q' q (el z1) (el hq))
 ·rcases gj z2 with ⟨rfl,rfl⟩ | ⟨z3,z4⟩
  ·rw [hq] at z1
   cases z1
   exact ab
  ·have:q'≠q:=fun z=>z3 (jv k2 z1 (by rw [z];exact hq))
   rw [ah this]
   exact L.kn c' q' x z1 z4
 ·have nw:q'≠q:=fun z=>m3 q q' (el hq) (el z1) z.symm
  rcases gj z2 with ⟨rfl,rfl⟩ | ⟨z3,z4⟩
  ·exact (L.wt c' q' _ z1 hx).updL hQ nw
  ·exact (L.wt c' q' x z1 z4).updL hQ nw
theorem aw.setWait (L:aw C Cd H p h a) {c:Nat} (hx:h.copies[c]?=some (copyAt h c)) {q:Addr} (hq:a.waits[c]?=some q) {ps:List Addr} {pool:List Name} (hr:Rows H ps (pool.map bj)) :
  aw C Cd (upd H q (.lst (ps.map V.ref))) p (setCopy h c { copyAt h c with pool:=pool }) a:=by
 obtain ⟨⟨e1,e2,e3,e4,e5,e6⟩,n1,⟨k1,k2,k3⟩,m1,m2,m3⟩:=jo L.nd
 have el:∀ {q:Addr} {c:Nat} {l:List Addr},l[c]?=some q->q∈l:=fun z=>List.mem_of_getElem? z
 obtain ⟨ps0,hQ,_⟩:=L.wt c q _ hq hx
 have nq:=n1 q (.inr (.inr (el hq)))
 refine ⟨?_,?_,?_,?_,L.olen,?_,?_,fun c' q' o z1 z2=>?_,fun c' q' x z1 z2=>?_,fun c' q' x z1 z2=>?_,L.bag.updL hQ nq.2.2.2.symm,L.nd⟩
 ·rw [ah (L.obj_ne hQ)];exact L.obj
 ·rw [ah nq.1.symm];exact L.dl
 ·rw [ah nq.2.1.symm];exact L.nl
 ·rw [ah nq.2.2.1.symm];exact L.wl
 ·show _=(h.copies.set c _).length
  rw [List.length_set];exact L.klen
 ·show _=(h.copies.set c _).length
  rw [List.length_set];exact L.wlen
 ·exact (L.own c' q' o z1 z2).updL hQ (m2 q' q (el z1) (el hq))
 ·have nk:q'≠q:=m3 q' q (el z1) (el hq)
  rw [ah nk]
  rcases gj z2 with ⟨rfl,rfl⟩ | ⟨z3,z4⟩
  ·exact L.kn c' q' (copyAt h c') z1 hx
  ·exact L.kn c' q' x z1 z4
 ·rcases gj z2 with ⟨rfl,rfl⟩ | ⟨z3,z4⟩
  ·rw [hq] at z1
   cases z1
   exact ⟨ps,ab,Rows.updL hQ hr⟩
  ·have:q'≠q:=fun z=>z3 (jv k3 z1 (by rw [z];exact hq))
   exact (L.wt c' q' x z1 z4).updL hQ this
theorem qf:∀ {ps qs:List Addr},ps.map V.ref=qs.map V.ref->ps=qs
 | [],[],_=>rfl
 | [],_::_,h=>by simp at h
 | _::_,[],h=>by simp at h
 | p::ps,q::qs,h=>by
  rw [List.map_cons,List.map_cons] at h
  injection h with h1 h2
  injection h1 with h1
  rw [h1,qf h2]
theorem aw.addDoing (L:aw C Cd H p h a) {c:Nat} (hcd:c < h.doings.length) {q:Addr} (hq:a.owns[c]?=some q) {ps:List Addr} (hps:H q=some (.lst (ps.map V.ref))) {pd:Addr} {d:Doing} (hd:bG Cd H pd c (bg h.doings c) d) :
  aw C Cd (upd H q (.lst (ps.map V.ref++[V.ref pd]))) p { h with doings:=iE h.doings c d } a:=by
 obtain ⟨⟨e1,e2,e3,e4,e5,e6⟩,n1,⟨k1,k2,k3⟩,m1,m2,m3⟩:=jo L.nd
 have el:∀ {q:Addr} {c:Nat} {l:List Addr},l[c]?=some q->q∈l:=fun z=>List.mem_of_getElem? z
 have nq:=n1 q (.inl (el hq))
 refine ⟨?_,?_,?_,?_,?_,L.klen,L.wlen,fun c' q' o z1 z2=>?_,fun c' q' x z1 z2=>?_,fun c' q' x z1 z2=>?_,L.bag.updL hps nq.2.2.2.symm,L.nd⟩
 ·rw [ah (L.obj_ne hps)];exact L.obj
 ·rw [ah nq.1.symm];exact L.dl
 ·rw [ah nq.2.1.symm];exact L.nl
 ·rw [ah nq.2.2.1.symm];exact L.wl
 ·show _=(iE h.doings c d).length
  unfold iE
  rw [List.length_set];exact L.olen
 ·have z2:(h.doings.set c (h.doings.getD c []++[d]))[c']?=some o:=z2
  rw [List.getElem?_set] at z2
  by_cases e:c=c'
  ·subst e
   rw [if_pos rfl,if_pos hcd] at z2
   cases z2
   rw [hq] at z1
   cases z1
   have hown:h.doings[c]?=some (h.doings.getD c []):=by rw [List.getD_eq_getElem?_getD,List.getElem?_eq_getElem hcd];rfl
   obtain ⟨ps',o1,o2,o3⟩:=L.own c q _ hq hown
   rw [hps] at o1
   injection o1 with o1
   injection o1 with o1
   have ep:ps=ps':=qf o1
   subst ep
   refine ⟨ps++[pd],by rw [ab,List.map_append];rfl,by rw [List.length_append,List.length_append,o2];rfl,fun k p' d' y1 y2=>?_⟩
   have hlen:(h.doings.getD c []).length=bg h.doings c:=rfl
   rw [List.getElem?_append] at y1 y2
   by_cases hk:k < (h.doings.getD c []).length
   ·rw [if_pos (by rw [o2];exact hk)] at y1
    rw [if_pos hk] at y2
    exact (o3 k p' d' y1 y2).updL hps
   ·rw [if_neg (by rw [o2];exact hk)] at y1
    rw [if_neg hk] at y2
    have hk0:k - (h.doings.getD c []).length=0:=by
     have:=(List.getElem?_eq_some_iff.mp y2).1
     rw [List.length_singleton] at this
     omega
    rw [o2,hk0] at y1
    rw [hk0] at y2
    have y1:pd=p':=by simpa using y1
    have y2:d=d':=by simpa using y2
    subst y1 y2
    have:k=bg h.doings c:=by omega
    rw [this]
    exact hd.updL hps
  ·rw [if_neg e] at z2
   have:q'≠q:=fun z=>e (jv k1 hq (by rw [<- z];exact z1))
   exact (L.own c' q' o z1 z2).updL hps this
 ·rw [ah (fun z=>m1 q q' (el hq) (el z1) z.symm)]
  exact L.kn c' q' x z1 z2
 ·exact (L.wt c' q' x z1 z2).updL hps (fun z=>m2 q q' (el hq) (el z1) z.symm)
end
structure qZ (K:PySem.W.Frag) (C:Addr):Prop where
 cl:Cls K C
 nn:cf K C "name"
 ns:cf K C "stretcher"
 nl:cf K C "labeller"
def mFs (v1 v2 v3:V):List (Str×V):=[("name",v1),("stretcher",v2),("labeller",v3)]
theorem xg (v1 v2 v3:V):(mFs v1 v2 v3).lookup ("name" : Str)=some v1:=by kernel_rfl
theorem rT (v1 v2 v3:V):(mFs v1 v2 v3).lookup ("stretcher" : Str)=some v2:=by kernel_rfl
theorem vD (v1 v2 v3:V):(mFs v1 v2 v3).lookup ("labeller" : Str)=some v3:=by kernel_rfl
def e8 (Cm Cd:Addr) (H:Hp) (p:Addr) (f:Fm):Prop:=∃ dx pn ps pt,H p=some (.ins Cm dx (mFs (.ref pn) (.ref ps) (.ref pt)))/\H pn=some (.tup ((bj f.name).map V.int))/\bG Cd H ps f.s.1.by_ f.s.1.k f.s.2/\bG Cd H pt f.t.1.by_ f.t.1.k f.t.2
theorem e8.same {Cm Cd:Addr} {H H':Hp} {p:Addr} {f:Fm} (s:ay H H') (h:e8 Cm Cd H p f):e8 Cm Cd H' p f:=by
 obtain ⟨dx,pn,ps,pt,h1,h2,h3,h4⟩:=h
 exact ⟨dx,pn,ps,pt,s _ _ h1,s _ _ h2,h3.same s,h4.same s⟩
theorem e8.updL {Cm Cd:Addr} {H:Hp} {b:Addr} {xs:List V} {o:HO} (hb:H b=some (.lst xs)) {p:Addr} {f:Fm} (h:e8 Cm Cd H p f):e8 Cm Cd (upd H b o) p f:=by
 obtain ⟨dx,pn,ps,pt,h1,h2,h3,h4⟩:=h
 exact ⟨dx,pn,ps,pt,by rw [ah (bS h1 hb (by intro z;cases z))];exact h1,by rw [ah (bS h2 hb (by intro z;cases z))];exact h2,h3.updL hb,h4.updL hb⟩
def bY (Cm Cd:Addr) (H:Hp):List Addr->List Fm->Prop:=Paired fun p f=>e8 Cm Cd H p f
theorem bY.same {Cm Cd:Addr} {H H':Hp} (s:ay H H') {ps:List Addr} {l:List Fm} (h:bY Cm Cd H ps l):bY Cm Cd H' ps l:=Paired.mapP h fun _ _ z=>z.same s
theorem bY.updL {Cm Cd:Addr} {H:Hp} {b:Addr} {xs:List V} {o:HO} (hb:H b=some (.lst xs)) {ps:List Addr} {l:List Fm} (h:bY Cm Cd H ps l):bY Cm Cd (upd H b o) ps l:=Paired.mapP h fun _ _ z=>z.updL hb
theorem bY.append {Cm Cd:Addr} {H:Hp}:∀ {ps qs:List Addr} {l m:List Fm},bY Cm Cd H ps l->bY Cm Cd H qs m->bY Cm Cd H (ps++qs) (l++m)
 | _,_,_,_,.nil,h=>h
 | _,_,_,_,.cons a t,h=> .cons a (bY.append t h)
theorem bY.length {Cm Cd:Addr} {H:Hp} {ps:List Addr} {l:List Fm} (h:bY Cm Cd H ps l):ps.length=l.length:=Paired.length h
theorem bY.get {Cm Cd:Addr} {H:Hp}:∀ {ps:List Addr} {l:List Fm} {i:Nat} {p:Addr},bY Cm Cd H ps l->ps[i]?=some p->∃ f,l[i]?=some f/\e8 Cm Cd H p f
 | _,_,_,_,.nil,e=>by simp at e
 | _,_,0,_,.cons h t,e=>by
  simp at e
  subst e
  exact ⟨_,rfl,h⟩
 | _,_,i+1,p,.cons h t,e=>by
  obtain ⟨r,h1,h2⟩:=bY.get (i:=i) (p:=p) t (by simpa using e)
  exact ⟨r,by simpa using h1,h2⟩
theorem b6.get {C:Addr} {H:Hp}:∀ {ps:List Addr} {L:List (Name×Doing)} {i:Nat} {p:Addr},b6 C H ps L->ps[i]?=some p->∃ x,L[i]?=some x/\bG C H p x.1.by_ x.1.k x.2
 | _,_,_,_,.nil,e=>by simp at e
 | _,_,0,_,.cons h t,e=>by
  simp at e
  subst e
  exact ⟨_,rfl,h⟩
 | _,_,i+1,p,.cons h t,e=>by
  obtain ⟨r,h1,h2⟩:=b6.get (i:=i) (p:=p) t (by simpa using e)
  exact ⟨r,by simpa using h1,h2⟩
theorem bG.keep {C:Addr} {H H':Hp} {M:List Addr} (k:aN M H H') (hm:∀ b,b∈M->(∃ xs,H b=some (.lst xs))\/∃ ks,H b=some (.dT ks)) {p:Addr} {c n:Nat} {d:Doing} (h:bG C H p c n d):bG C H' p c n d:=by
 obtain ⟨dx,p1,p2,z1,z2,z3⟩:=h
 have ni:∀ {b:Addr} {C dx:Addr} {fs:List (Str×V)},H b=some (.ins C dx fs)->b∉M:=fun e z=>by
  rcases hm _ z with ⟨_,q⟩ | ⟨_,q⟩ <;> (rw [e] at q;cases q)
 have nt:∀ {b:Addr} {xs:List V},H b=some (.tup xs)->b∉M:=fun e z=>by
  rcases hm _ z with ⟨_,q⟩ | ⟨_,q⟩ <;> (rw [e] at q;cases q)
 exact ⟨dx,p1,p2,k _ _ z1 (ni z1),k _ _ z2 (nt z2),k _ _ z3 (nt z3)⟩
theorem Rows.upd1 {H:Hp} {b:Addr} {o0 o:HO} (hb:H b=some o0) (hn:∀ xs,o0≠ .tup xs) {ps:List Addr} {rows:List (List Int)} (h:Rows H ps rows):Rows (upd H b o) ps rows:=
 Paired.mapP h fun _ _ z=>by rw [ah (bS z hb (fun q=>hn _ q.symm))];exact z
def nk (m:Name):List Key:=[.inl (m.by_:Int),.inl (m.k:Int)]
theorem xh {m n:Name} (h:nk m=nk n):m=n:=by
 unfold nk at h
 obtain ⟨a,b⟩:=m
 obtain ⟨c,d⟩:=n
 simp only [List.cons.injEq,Sum.inl.injEq,and_true] at h
 have h1:a=c:=by have:=h.1;omega
 have h2:b=d:=by have:=h.2;omega
 rw [h1,h2]
def h9 (Cd:Addr) (H:Hp) (kvs:List (List Key×V)) (f:Name->Option (Name×Doing)):Prop:=
 ∀ m,(f m=none/\cx kvs (nk m)=none)\/∃ x q,f m=some x/\cx kvs (nk m)=some (.ref q)/\bG Cd H q x.1.by_ x.1.k x.2
theorem h9.put {Cd:Addr} {H:Hp} {kvs:List (List Key×V)} {f g:Name->Option (Name×Doing)} {n:Name} {q:Addr} {x:Name×Doing} (D:h9 Cd H kvs f) (hx:bG Cd H q x.1.by_ x.1.k x.2) (hg:∀ m,g m=if m=n then some x else f m):h9 Cd H (fX kvs (nk n) (.ref q)) g:=by
 intro m
 rw [pV,hg m]
 by_cases e:m=n
 ·subst e
  rw [if_pos rfl,if_pos rfl]
  exact .inr ⟨x,q,rfl,rfl,hx⟩
 ·rw [if_neg e,if_neg (fun z=>e (xh z))]
  exact D m
theorem h9.eq {Cd:Addr} {H:Hp} {kvs:List (List Key×V)} {f g:Name->Option (Name×Doing)} (D:h9 Cd H kvs f) (hg:∀ m,g m=f m):h9 Cd H kvs g:=by
 intro m
 rw [hg m]
 exact D m
section
abbrev sMI:Stmt:=aS (top 37) 0
def BX (C:Addr):Sp:=fun vs H Q _=>∃ (p dx:Addr) (v1 v2 v3:V),vs=[.ref p,v1,v2,v3]/\H p=some (.ins C dx [])/\
 ∀ H',H' p=some (.ins C dx (mFs v1 v2 v3))->(∀ b o,H b=some o->b≠p->H' b=some o)->Q .non H'
theorem DU:aq ["self","name","stretcher","labeller"] ["self","name","stretcher","labeller"] (al sMI):=⟨rfl,rfl,rfl,by decide +kernel,rfl,by decide +kernel,by decide +kernel⟩
theorem CI {f C:Addr} {fd:FuncData} (F:Fun K "__init__" "Mark.__init__" sMI f fd) (T:qZ K C):az P w K mg base CX0 1 f fd ["self","name","stretcher","labeller"] (BX C):=by
 refine F.ok DU (fun vs H Q E h=>?_) (fun cdv A outer s H vs Q E hr h=>?_)
 ·obtain ⟨p,dx,v1,v2,v3,rfl,_⟩:=h
  rfl
 ·obtain ⟨p,dx,v1,v2,v3,rfl,hp,q⟩:=h
  refine ⟨_,ag (cI (pv 0) (pv 1) rfl) (ag (cI (pv 0) (pv 2) rfl) (aj (cI (pv 0) (pv 3) rfl))),?_⟩
  refine ⟨_,rfl,_,rfl,p,C,dx,_,rfl,hp,T.cl,T.nn,(by show 0 < 1000;decide),?_⟩
  refine ⟨_,rfl,_,rfl,p,C,dx,_,rfl,ab,T.cl,T.ns,(by show 1 < 1000;decide),?_⟩
  refine ⟨_,rfl,_,rfl,p,C,dx,_,rfl,ab,T.cl,T.nl,(by show 2 < 1000;decide),?_⟩
  refine q _ (by rw [ab];kernel_rfl) fun b o e hb=>?_
  rw [ah hb,ah hb,ah hb]
  exact e
abbrev ye:Stmt:=top 38
structure VEnv (K:PySem.W.Frag) (mg:Str->Option Value) (Cm:Addr):Prop where
 late:Has K mg "lateness" 9 ["doing"]
 tb:Has K mg "taken_back" 11 ["own","many"]
 cnt:Has K mg "counting" 12 ["doings","knowledge"]
 mark:∃ (fi:Addr) (di:FuncData),Fun K "__init__" "Mark.__init__" sMI fi di/\aG K di ["self","name","stretcher","labeller"] []/\Mk K Cm fi/\mg "Mark" = some (.ref Cm)
structure yu (K:PySem.W.Frag) (Cd:Addr) (H:Hp) (l:Addr) (ds:Doings) (t:Bool) (lk:Addr) (v:Known) (n:Nat):Prop where
 dat:gb Cd H l ds
 kn:SqX K t H lk (aL v)
 len:v.length=ds.length
 ok:fB n ds
 n5:n<=5
 le:∀ g,v.getD g 0<=bg ds g
 le120:∀ g,v.getD g 0<=120
def wD (K:PySem.W.Frag) (Cm Cd:Addr):Sp:=fun vs H Q _=>∃ l ds t lk v n,vs=[.ref l,.ref lk]/\yu K Cd H l ds t lk v n/\
 ∀ p H' ps L,ay H H'->H p=none->H' p=some (.lst (ps.map V.ref))->i0 ds v L->bY Cm Cd H' ps (cE L)->Q (.ref p) H'
theorem iY:aq ["doings","knowledge","stretchers","labellers","put","dropped","doing","name"] ["doings","knowledge"] (al ye):=⟨rfl,rfl,rfl,by decide +kernel,rfl,by decide +kernel,by decide +kernel⟩
theorem c9 {x y:Int} {r t:List Int} (h:k9 (x::r) (y::t)):x<=y/\(x=y->k9 r t):=by
 unfold k9 at h ⊢
 have h:(decide (y < x) || (!decide (x < y) && PyProof.Rows.lexLt itemOrd (t.map Sum.inl) (r.map Sum.inl)))=false:=h
 rw [Bool.or_eq_false_iff] at h
 have h1:=of_decide_eq_false h.1
 refine ⟨by omega,fun e=>?_⟩
 subst e
 have h2:=h.2
 rw [decide_eq_false (Int.lt_irrefl x),Bool.not_false,Bool.true_and] at h2
 exact h2
theorem j3 {α β:Type} {f:α->β} {zs ys:List β} (p:zs.Perm ys):∀ l:List α,ys=l.map f->∃ ws:List α,ws.Perm l/\zs=ws.map f:=by
 induction p with
 | nil=>intro l h;cases l with
  | nil=>exact ⟨[],List.Perm.refl _,rfl⟩
  | cons=>cases h
 | cons x _ ih=>
  intro l h
  cases l with
  | nil=>cases h
  | cons a l=>
   rw [List.map_cons] at h
   injection h with h1 h2
   obtain ⟨ws,p1,p2⟩:=ih l h2
   exact ⟨a::ws,p1.cons a,by rw [List.map_cons,<- h1,p2]⟩
 | swap x y l0=>
  intro l h
  cases l with
  | nil=>cases h
  | cons a l=>
   cases l with
   | nil=>cases h
   | cons b l=>
    rw [List.map_cons,List.map_cons] at h
    injection h with h1 h2
    injection h2 with h2 h3
    exact ⟨b::a::l,List.Perm.swap _ _ _,by rw [List.map_cons,List.map_cons,<- h1,<- h2,<- h3]⟩
 | trans _ _ ih1 ih2=>
  intro l h
  obtain ⟨w2,p2,e2⟩:=ih2 l h
  obtain ⟨w1,p1,e1⟩:=ih1 w2 e2
  exact ⟨w1,p1.trans p2,e1⟩
theorem wP {ps:List Addr} {L0:List (Name×Doing)} {Cd:Addr} {H:Hp} (hr:b6 Cd H ps L0) {ys:List V} (ho:iC (L0.map fun x=>[(x.2.time:Int),(x.1.by_:Int)]) (ps.map V.ref) ys) :
  ∃ (qs:List Addr) (L:List (Name×Doing)),ys=qs.map V.ref/\b6 Cd H qs L/\L.Perm L0/\L.Pairwise fun a b=>a.2.time < b.2.time\/(a.2.time=b.2.time/\a.1.by_<=b.1.by_):=by
 obtain ⟨zs,p,rfl,s⟩:=ho
 have hz:(L0.map fun x=>[(x.2.time:Int),(x.1.by_:Int)]).zip (ps.map V.ref)=(L0.zip ps).map fun z=>([(z.1.2.time:Int),(z.1.1.by_:Int)],V.ref z.2):=by
  rw [List.zip_map]
  rfl
 rw [hz] at p
 obtain ⟨ws,hp2,rfl⟩:=j3 p _ rfl
 have hall:∀ z,z∈ws->bG Cd H z.2 z.1.1.by_ z.1.1.k z.1.2:=by
  intro z hzm
  have hm:=hp2.mem_iff.mp hzm
  obtain ⟨i,hi⟩:=List.getElem?_of_mem hm
  obtain ⟨h1,h2⟩:=List.getElem?_zip_eq_some.mp hi
  obtain ⟨x,h3,h4⟩:=b6.get hr h2
  rw [h1] at h3
  cases h3
  exact h4
 refine ⟨ws.map (·.2),ws.map (·.1),by rw [List.map_map,List.map_map];rfl,?_,?_,?_⟩
 ·have:∀ l:List ((Name×Doing)×Addr),(∀ z,z∈l->bG Cd H z.2 z.1.1.by_ z.1.1.k z.1.2)->b6 Cd H (l.map (·.2)) (l.map (·.1)):=by
   intro l
   induction l with
   | nil=>intro _;exact .nil
   | cons z l ih=>intro h;exact .cons (h z (List.mem_cons_self ..)) (ih fun y hy=>h y (List.mem_cons_of_mem _ hy))
  exact this ws hall
 ·have:=hp2.map (·.1)
  rw [List.map_fst_zip (by rw [hr.length];exact Nat.le_refl _)] at this
  exact this
 ·rw [List.pairwise_map] at s ⊢
  refine s.imp fun {a b} h=>?_
  obtain ⟨h1,h2⟩:=c9 (show k9 ((a.1.2.time:Int)::[(a.1.1.by_:Int)]) ((b.1.2.time:Int)::[(b.1.1.by_:Int)]) from h)
  by_cases e:a.1.2.time=b.1.2.time
  ·have:=(c9 (h2 (by omega))).1
   omega
  ·omega
end
theorem h8 (v1 v2:V) (vs:List V):dG (v1::v2::vs) none (some 2)=[v1,v2]:=by
 unfold dG
 have e1:HT.sIx (v1::v2::vs).length (v1::v2::vs).length (some 2)=2:=by
  have:=HT.sIx_nat (v1::v2::vs).length (v1::v2::vs).length 2
  rw [show ((2:Nat):Int)=2 from rfl] at this
  rw [this,List.length_cons,List.length_cons]
  omega
 rw [e1,HT.sIx_none]
 rfl
theorem ge (v1 v2 v3:V) (vs:List V):¬ (HT.sIx (v1::v2::v3::vs).length 0 none=0/\HT.sIx (v1::v2::v3::vs).length (v1::v2::v3::vs).length (some 2)=(v1::v2::v3::vs).length):=by
 have:=HT.sIx_nat (v1::v2::v3::vs).length (v1::v2::v3::vs).length 2
 rw [show ((2:Nat):Int)=2 from rfl] at this
 rw [this,List.length_cons,List.length_cons,List.length_cons]
 omega
theorem il {α β:Type} (f:α->Option β) {l:List α} {j:Nat} {m:α} (h:l[j]?=some m):(l.take (j+1)).filterMap f=(l.take j).filterMap f++(f m).toList:=by
 rw [List.take_add_one,h,List.filterMap_append]
 have:List.filterMap f [m]=(f m).toList:=by
  rw [List.filterMap_cons]
  cases f m <;> rfl
 rw [show (some m).toList=[m] from rfl,this]
structure DN (Cd:Addr) (H H1 H':Hp) (S Lb pt Dr:Addr) (L:List (Name×Doing)) (i:Nat):Prop where
 keep:aN [S,Lb,pt,Dr] H1 H'
 s:∃ ks,H' S=some (.dT ks)/\ks.length<=i/\h9 Cd H1 ks (cj (L.take i))
 l:∃ ks,H' Lb=some (.dT ks)/\ks.length<=i/\h9 Cd H1 ks (b0 (L.take i))
 d:∃ ks,H' Dr=some (.dT ks)/\ks.length<=i/\∀ m,(cx ks (nk m)).isSome=cK (L.take i) m
 p:cC H' pt ((bD (L.take i)).map bj)
section
theorem uH {f Cm Cd:Addr} {fd:FuncData} (VE:VEnv K mg Cm) (F:Fun K "find_marks" "find_marks" ye f fd) (Td:dC K Cd) (Tm:qZ K Cm) (B:Blt mg) (G:Kinds mg):az P w K mg base CX0 5 f fd ["doings","knowledge"] (wD K Cm Cd):=by
 obtain ⟨fl,fdl,Fl,bl,ml⟩:=VE.late
 obtain ⟨ft,fdt,Ft,bt,mt⟩:=VE.tb
 obtain ⟨fc,fdc,Fc,bc,mc⟩:=VE.cnt
 obtain ⟨fi,fdi,Fi,bi,M,mM⟩:=VE.mark
 have GL:az P w K mg base CX0 1 fl fdl ["doing"] (vU Cd):=xZ Fl Td
 have GC:az P w K mg base CX0 2 fc fdc ["doings","knowledge"] (yX K Cd):=Ac Fc Ft bt mt Td B G
 obtain ⟨t0,w0⟩:=G.put
 obtain ⟨t1,w1⟩:=G.move
 obtain ⟨t2,w2⟩:=G.label
 obtain ⟨t3,w3⟩:=G.drop
 refine F.ok iY (fun vs H Q E h=>?_) (fun cdv A outer s H vs Q E hr h=>?_)
 ·obtain ⟨l,ds,t,lk,v,n,rfl,_⟩:=h
  rfl
 ·obtain ⟨l,ds,t,lk,v,n,rfl,VA,q⟩:=h
  have hu:=B0 hr
  have hr2:bP 2 _:=hr.mono (by decide)
  have hr3:bP 3 _:=hr.mono (by decide)
  refine ⟨_,ag (aB (i:=2) iY.nd rfl (Or.inr rfl) kH)
   (ag (aB (i:=3) iY.nd rfl (Or.inr rfl) kH)
   (ag (aB (i:=4) iY.nd rfl (Or.inl rfl) (aJ ad))
   (ag (aB (i:=5) iY.nd rfl (Or.inr rfl) kH)
   (ag (eZ PassesOwn.never rfl (c5 (pS GL hr3 bl rfl B.sorted rfl ml (au GC hr2 rfl mc Fc.kp bc .nil aD (aa (pv 0) (aa (pv 1) ad))))) (aK (i:=6) iY.nd rfl (Or.inl rfl))
    (aj (cc (aU dJ (ao (pv 6) rfl) (aP w0) (aX _))
     (ag (aB (i:=7) iY.nd rfl (Or.inl rfl) (dz (aa (ao (pv 6) rfl) (aa (ao (pv 6) rfl) ad))))
     (ag (cB (eJ PySem.F.plainAttrs_list PySem.F.slot_list_append PySem.F.type_list_append eR (pv 4) (aa (pv 7) ad)))
     (ag (iV hu (pv 2) (pv 7) (pv 6) rfl)
     (aj (iV hu (pv 3) (pv 7) (pv 6) rfl)))))
     (aj (cc (aU dJ (ao (pv 6) rfl) (aP w1) (aX _))
      (aj (iV hu (pv 2) (b8 dS (ao (pv 6) rfl) cJ (ck am)) (pv 6) rfl))
      (aj (cc (aU dJ (ao (pv 6) rfl) (aP w2) (aX _))
       (aj (iV hu (pv 3) (b8 dS (ao (pv 6) rfl) cJ (ck am)) (pv 6) rfl))
       (aj (cc (aU dJ (ao (pv 6) rfl) (aP w3) (aX _))
        (aj (iV hu (pv 5) (ao (pv 6) rfl) lH rfl))
        aZ)))))))))
   (aj (ap (dD (own:=[("name",7)]) (tt:=tB (sN (aV 7) (aV 5))) (te:=wk Cm (BX Cm) [] E0 (aY (aV 7) (aY (wR (aV 2) (aV 7)) (aY (wR (aV 3) (aV 7)) cF)))) rfl iY.nd (c5 (pv 4)) (bO rfl)
    (fun _ _ _ _ _=>aK (i:=7) iY.nd rfl (Or.inl rfl)) (fun _ _ _ _ _=>gk (Ap (tI hu (pv 7) (pv 5))))
    (fun _ _ _ _ _=>nH M (CI Fi Tm) hr2 rfl mM bi .nil aD (aa (pv 7) (aa (sS hu (pv 2) (pv 7) (fun _ _=>rfl)) (aa (sS hu (pv 3) (pv 7) (fun _ _=>rfl)) ad))))))))))),?_⟩
  intro S nS
  intro Lb nLb
  refine ⟨Nat.zero_le _,fun pt npt=>?_⟩
  intro Dr nDr
  generalize eA:upd H S (.dT [])=HA at nLb npt nDr
  have sA:ay H HA:=by rw [<- eA];exact ac nS
  have hSA:HA S=some (.dT []):=by rw [<- eA];exact ab
  generalize eB:upd HA Lb (.dT [])=HB at npt nDr
  have sB:ay HA HB:=by rw [<- eB];exact ac nLb
  have hLB:HB Lb=some (.dT []):=by rw [<- eB];exact ab
  generalize eC:upd HB pt (.lst [])=HC at nDr
  have sC:ay HB HC:=by rw [<- eC];exact ac npt
  have hPC:HC pt=some (.lst []):=by rw [<- eC];exact ab
  generalize eD:upd HC Dr (.dT [])=HD
  have sD:ay HC HD:=by rw [<- eD];exact ac nDr
  have hDD:HD Dr=some (.dT []):=by rw [<- eD];exact ab
  have s0:ay H HD:=((sA.trans sB).trans sC).trans sD
  refine ⟨_,rfl,_,rfl,l,ds,t,lk,v,n,rfl,VA.dat.same s0,s0.sqx VA.kn,VA.len,VA.ok,VA.n5,VA.le,VA.le120,fun pc HE psc sE npc hpc hrow=>?_⟩
  refine ⟨pc,psc.map V.ref,(counting ds v).map fun x=>[(x.2.time:Int),(x.1.by_:Int)],rfl,SqL.of hpc,by rw [List.length_map,List.length_map,hrow.length],fun i x k HF hx hk sF=>?_,fun ys po H1 ho s1 npo hpo=>?_⟩
  ·rw [List.getElem?_map] at hx hk
   cases e:psc[i]? with
   | none=>rw [e] at hx;cases hx
   | some pd=>
    rw [e] at hx
    cases hx
    obtain ⟨y,hy,hd⟩:=b6.get hrow e
    rw [hy] at hk
    cases hk
    exact ⟨pd,_,_,y.2,rfl,hd.same sF,fun t H' sm ht=>⟨sm,t,_,_,rfl,rfl,ht⟩⟩
  obtain ⟨qs,L,rfl,hL,hperm,hsort⟩:=wP (hrow.same s1) ho
  have EA:i0 ds v L:=uY VA.ok hperm hsort
  have hLl:L.length<=600:=by rw [hperm.length_eq];exact gw VA.ok VA.le VA.le120 VA.n5
  have hql:=hL.length
  have s2:ay H H1:=(s0.trans sE).trans s1
  have s3:ay HD H1:=sE.trans s1
  have hS1:H1 S=some (.dT []):=s3 _ _ (sD _ _ (sC _ _ (sB _ _ hSA)))
  have hL1:H1 Lb=some (.dT []):=s3 _ _ (sD _ _ (sC _ _ hLB))
  have hP1:H1 pt=some (.lst []):=s3 _ _ (sD _ _ hPC)
  have hD1:H1 Dr=some (.dT []):=s3 _ _ hDD
  have nLb0:H Lb=none:=sA.free nLb
  have npt0:H pt=none:=(sA.trans sB).free npt
  have nDr0:H Dr=none:=((sA.trans sB).trans sC).free nDr
  have dSL:S≠Lb:=ai hSA nLb
  have dSP:S≠pt:=ai (sB _ _ hSA) npt
  have dSD:S≠Dr:=ai (sC _ _ (sB _ _ hSA)) nDr
  have dLP:Lb≠pt:=ai hLB npt
  have dLD:Lb≠Dr:=ai (sC _ _ hLB) nDr
  have dPD:pt≠Dr:=ai hPC nDr
  have hM:∀ b,b∈[S,Lb,pt,Dr]->(∃ xs,H1 b=some (.lst xs))\/∃ ks,H1 b=some (.dT ks):=by
   intro b hb
   simp only [List.mem_cons,List.not_mem_nil,or_false] at hb
   rcases hb with rfl | rfl | rfl | rfl
   ·exact .inr ⟨_,hS1⟩
   ·exact .inr ⟨_,hL1⟩
   ·exact .inl ⟨_,hP1⟩
   ·exact .inr ⟨_,hD1⟩
  have hnM:∀ b o,H b=some o->b∉[S,Lb,pt,Dr]:=by
   intro b o e hb
   simp only [List.mem_cons,List.not_mem_nil,or_false] at hb
   rcases hb with rfl | rfl | rfl | rfl
   ·rw [nS] at e;cases e
   ·rw [nLb0] at e;cases e
   ·rw [npt0] at e;cases e
   ·rw [nDr0] at e;cases e
  have hSE:HE S=some (.dT []):=sE _ _ (sD _ _ (sC _ _ (sB _ _ hSA)))
  have hLE:HE Lb=some (.dT []):=sE _ _ (sD _ _ (sC _ _ hLB))
  have hPE:HE pt=some (.lst []):=sE _ _ (sD _ _ hPC)
  have hDE:HE Dr=some (.dT []):=sE _ _ hDD
  have npoM:po∉[S,Lb,pt,Dr]:=by
   intro hb
   simp only [List.mem_cons,List.not_mem_nil,or_false] at hb
   rcases hb with rfl | rfl | rfl | rfl
   ·rw [hSE] at npo;cases npo
   ·rw [hLE] at npo;cases npo
   ·rw [hPE] at npo;cases npo
   ·rw [hDE] at npo;cases npo
  have mS:S∈[S,Lb,pt,Dr]:=by simp
  have mL:Lb∈[S,Lb,pt,Dr]:=by simp
  have mP:pt∈[S,Lb,pt,Dr]:=by simp
  have mD:Dr∈[S,Lb,pt,Dr]:=by simp
  have h601:601<=sizeLine:=by decide
  refine ⟨po,rfl,⟨_,SqL.of hpo⟩,kC (K:=K) (a:=po) (xs:=qs.map V.ref) (fun i σ H'=>∃ v6 v7,σ=[some (.ref l),some (.ref lk),some (.ref S),some (.ref Lb),some (.ref pt),some (.ref Dr),v6,v7]/\DN Cd H H1 H' S Lb pt Dr L i)
   ⟨none,none,rfl,fun b o e _=>e,⟨[],hS1,Nat.zero_le _,fun m=> .inl ⟨rfl,rfl⟩⟩,⟨[],hL1,Nat.zero_le _,fun m=> .inl ⟨rfl,rfl⟩⟩,⟨[],hD1,Nat.zero_le _,fun m=>rfl⟩,[],hP1,.nil⟩
   (fun i σ H' _ ⟨_,_,_,I⟩=>SqL.of (I.keep _ _ hpo npoM)) ?_ ?_⟩
  ·rintro i x σ H2 hx ⟨v6,v7,rfl,I⟩
   rw [List.getElem?_map] at hx
   cases e:qs[i]? with
   | none=>rw [e] at hx;cases hx
   | some pd=>
    rw [e] at hx
    cases hx
    obtain ⟨y,hy,hd⟩:=b6.get hL e
    have hil:i < L.length:=(List.getElem?_eq_some_iff.mp hy).1
    have etk:L.take (i+1)=L.take i++[y]:=by rw [List.take_add_one,hy];rfl
    obtain ⟨ks,hks,lks,Dks⟩:=I.s
    obtain ⟨kl,hkl,lkl,Dkl⟩:=I.l
    obtain ⟨kd,hkd,lkd,Dkd⟩:=I.d
    obtain ⟨rs,hrs,hrr⟩:=I.p
    have hrl:=hrr.length
    rw [List.length_map] at hrl
    have hpl:=gA (L.take i)
    rw [List.length_take] at hpl
    obtain ⟨dx,p1,p2,z1,z2,z3⟩:=hd.keep I.keep hM
    have a1:=eE ks
    have a2:=eE kl
    have a3:=eE kd
    cases hw:y.2.what with
    | put a b x=>
     refine ⟨_,rfl,pd,Cd,dx,_,_,rfl,z1,Td.cl,Td.nk,bW ..,rfl,_,rfl,?_⟩
     have e0:decide (V.int (bz y.2.what)=V.int 0)=true:=by rw [hw];rfl
     rw [e0]
     refine bV ?_
     refine ⟨_,rfl,pd,Cd,dx,_,_,rfl,z1,Td.cl,Td.nh,gx ..,_,rfl,pd,Cd,dx,_,_,rfl,z1,Td.cl,Td.nn,fA ..,(by show 2<=sizeLine;decide),fun tn htn=>?_⟩
     have st:=ac (o:= .tup [V.int (y.1.by_:Int),V.int (y.1.k:Int)]) htn
     have hrs3:=st _ _ hrs
     refine ⟨_,rfl,.inl ⟨rfl,_,SqL.of hrs3⟩,_,rfl,pt,_,_,rfl,rfl,hrs3,?_,?_⟩
     ·rw [List.length_map,hrl]
      omega
     have hks4:upd (upd H2 tn (.tup [V.int (y.1.by_:Int),V.int (y.1.k:Int)])) pt (.lst (rs.map V.ref++[V.ref tn])) S=some (.dT ks):=by rw [ah dSP];exact st _ _ hks
     have htn4:upd (upd H2 tn (.tup [V.int (y.1.by_:Int),V.int (y.1.k:Int)])) pt (.lst (rs.map V.ref++[V.ref tn])) tn=some (.tup ((nk y.1).map kV)):=by
      rw [ah (bS ab hrs3 (by intro z;cases z)),ab];rfl
     refine ⟨_,rfl,_,rfl,_,rfl,S,_,rfl,nY.t (k:=nk y.1) hks4 htn4 (by omega),?_⟩
     generalize eH4:upd (upd H2 tn (.tup [V.int (y.1.by_:Int),V.int (y.1.k:Int)])) pt (.lst (rs.map V.ref++[V.ref tn]))=H4 at hks4 htn4
     have hkl4:H4 Lb=some (.dT kl):=by rw [<- eH4,ah dLP];exact st _ _ hkl
     have hkd4:H4 Dr=some (.dT kd):=by rw [<- eH4,ah dPD.symm];exact st _ _ hkd
     have hrs4:H4 pt=some (.lst (rs.map V.ref++[V.ref tn])):=by rw [<- eH4,ab]
     have hrr4:Rows H4 (rs++[tn]) ((bD (L.take i)).map bj++[bj y.1]):=by
      refine Rows.append ?_ (.cons htn4 .nil)
      rw [<- eH4]
      exact Rows.updL hrs3 (Rows.same st hrr)
     have K4:aN [S,Lb,pt,Dr] H1 H4:=by rw [<- eH4];exact (I.keep.trans (aN.of st)).trans (aN.upd mP)
     have hkl5:upd H4 S (.dT (fX ks (nk y.1) (V.ref pd))) Lb=some (.dT kl):=by rw [ah dSL.symm];exact hkl4
     have htn5:upd H4 S (.dT (fX ks (nk y.1) (V.ref pd))) tn=some (.tup ((nk y.1).map kV)):=by rw [ah (bS htn4 hks4 (by intro z;cases z))];exact htn4
     refine ⟨_,rfl,_,rfl,_,rfl,Lb,_,rfl,nY.t (k:=nk y.1) hkl5 htn5 (by omega),?_⟩
     refine ⟨_,_,rfl,(K4.trans (aN.upd mS)).trans (aN.upd mL),⟨fX ks (nk y.1) (V.ref pd),by rw [ah dSL,ab],by have:=a1 (nk y.1) (V.ref pd);omega,Dks.put hd (by rw [etk];exact jm (vq hw))⟩,
      ⟨fX kl (nk y.1) (V.ref pd),ab,by have:=a2 (nk y.1) (V.ref pd);omega,Dkl.put hd (by rw [etk];exact ir (tJ hw))⟩,
      ⟨kd,by rw [ah dLD.symm,ah dSD.symm];exact hkd4,by omega,fun m=>by rw [etk,dW (fun m z=>by rw [hw] at z;cases z)];exact Dkd m⟩,
      rs++[tn],by rw [ah dLP.symm,ah dSP.symm,hrs4,List.map_append];rfl,?_⟩
     rw [etk,nL hw,List.map_append]
     exact Rows.upd1 hkl5 (by intro xs z;cases z) (Rows.upd1 hks4 (by intro xs z;cases z) hrr4)
    | move nm a b=>
     have htold:(dE y.2.what).map V.int=[V.int (nm.by_:Int),V.int (nm.k:Int),V.int (a:Int),V.int (b:Int)]:=by rw [hw];rfl
     rw [htold] at z2
     refine ⟨_,rfl,pd,Cd,dx,_,_,rfl,z1,Td.cl,Td.nk,bW ..,rfl,_,rfl,?_⟩
     have e0:decide (V.int (bz y.2.what)=V.int 0)=false:=by rw [hw];rfl
     rw [e0]
     refine bB ?_
     refine ⟨_,rfl,pd,Cd,dx,_,_,rfl,z1,Td.cl,Td.nk,bW ..,rfl,_,rfl,?_⟩
     have e1:decide (V.int (bz y.2.what)=V.int 1)=true:=by rw [hw];rfl
     rw [e1]
     refine bV ?_
     refine ⟨_,rfl,_,rfl,_,rfl,pd,Cd,dx,_,_,rfl,z1,Td.cl,Td.nt,iP ..,2,rfl,p1,_,rfl,SqT.of z2,ge _ _ _ _,fun tn htn=>?_⟩
     rw [h8]
     have st:=ac (o:= .tup [V.int (nm.by_:Int),V.int (nm.k:Int)]) htn
     have hks3:=st _ _ hks
     refine ⟨S,_,rfl,nY.t (k:=nk nm) hks3 ab (by omega),?_⟩
     refine ⟨_,_,rfl,(I.keep.trans (aN.of st)).trans (aN.upd mS),⟨fX ks (nk nm) (V.ref pd),ab,by have:=a1 (nk nm) (V.ref pd);omega,Dks.put hd (by rw [etk];exact jm (ux hw))⟩,
      ⟨kl,by rw [ah dSL.symm];exact st _ _ hkl,by omega,Dkl.eq (by rw [etk];exact dN (fun m=>by rw [hw];rfl))⟩,
      ⟨kd,by rw [ah dSD.symm];exact st _ _ hkd,by omega,fun m=>by rw [etk,dW (fun m z=>by rw [hw] at z;cases z)];exact Dkd m⟩,
      rs,by rw [ah dSP.symm];exact st _ _ hrs,?_⟩
     rw [etk,dv (by rw [hw];rfl)]
     exact Rows.upd1 hks3 (by intro xs z;cases z) (Rows.same st hrr)
    | label nm x=>
     have htold:(dE y.2.what).map V.int=[V.int (nm.by_:Int),V.int (nm.k:Int),V.int (x:Int)]:=by rw [hw];rfl
     rw [htold] at z2
     refine ⟨_,rfl,pd,Cd,dx,_,_,rfl,z1,Td.cl,Td.nk,bW ..,rfl,_,rfl,?_⟩
     have e0:decide (V.int (bz y.2.what)=V.int 0)=false:=by rw [hw];rfl
     rw [e0]
     refine bB ?_
     refine ⟨_,rfl,pd,Cd,dx,_,_,rfl,z1,Td.cl,Td.nk,bW ..,rfl,_,rfl,?_⟩
     have e1:decide (V.int (bz y.2.what)=V.int 1)=false:=by rw [hw];rfl
     rw [e1]
     refine bB ?_
     refine ⟨_,rfl,pd,Cd,dx,_,_,rfl,z1,Td.cl,Td.nk,bW ..,rfl,_,rfl,?_⟩
     have e2:decide (V.int (bz y.2.what)=V.int 2)=true:=by rw [hw];rfl
     rw [e2]
     refine bV ?_
     refine ⟨_,rfl,_,rfl,_,rfl,pd,Cd,dx,_,_,rfl,z1,Td.cl,Td.nt,iP ..,2,rfl,p1,_,rfl,SqT.of z2,ge _ _ _ _,fun tn htn=>?_⟩
     rw [h8]
     have st:=ac (o:= .tup [V.int (nm.by_:Int),V.int (nm.k:Int)]) htn
     have hkl3:=st _ _ hkl
     refine ⟨Lb,_,rfl,nY.t (k:=nk nm) hkl3 ab (by omega),?_⟩
     refine ⟨_,_,rfl,(I.keep.trans (aN.of st)).trans (aN.upd mL),⟨ks,by rw [ah dSL];exact st _ _ hks,by omega,Dks.eq (by rw [etk];exact ee (fun m=>by rw [hw];rfl))⟩,
      ⟨fX kl (nk nm) (V.ref pd),ab,by have:=a2 (nk nm) (V.ref pd);omega,Dkl.put hd (by rw [etk];exact ir (pP hw))⟩,
      ⟨kd,by rw [ah dLD.symm];exact st _ _ hkd,by omega,fun m=>by rw [etk,dW (fun m z=>by rw [hw] at z;cases z)];exact Dkd m⟩,
      rs,by rw [ah dLP.symm];exact st _ _ hrs,?_⟩
     rw [etk,dv (by rw [hw];rfl)]
     exact Rows.upd1 hkl3 (by intro xs z;cases z) (Rows.same st hrr)
    | drop nm=>
     have htold:(dE y.2.what).map V.int=(nk nm).map kV:=by rw [hw];rfl
     rw [htold] at z2
     refine ⟨_,rfl,pd,Cd,dx,_,_,rfl,z1,Td.cl,Td.nk,bW ..,rfl,_,rfl,?_⟩
     have e0:decide (V.int (bz y.2.what)=V.int 0)=false:=by rw [hw];rfl
     rw [e0]
     refine bB ?_
     refine ⟨_,rfl,pd,Cd,dx,_,_,rfl,z1,Td.cl,Td.nk,bW ..,rfl,_,rfl,?_⟩
     have e1:decide (V.int (bz y.2.what)=V.int 1)=false:=by rw [hw];rfl
     rw [e1]
     refine bB ?_
     refine ⟨_,rfl,pd,Cd,dx,_,_,rfl,z1,Td.cl,Td.nk,bW ..,rfl,_,rfl,?_⟩
     have e2:decide (V.int (bz y.2.what)=V.int 2)=false:=by rw [hw];rfl
     rw [e2]
     refine bB ?_
     refine ⟨_,rfl,pd,Cd,dx,_,_,rfl,z1,Td.cl,Td.nk,bW ..,rfl,_,rfl,?_⟩
     have e3:decide (V.int (bz y.2.what)=V.int 3)=true:=by rw [hw];rfl
     rw [e3]
     refine bV ?_
     refine ⟨_,rfl,_,rfl,pd,Cd,dx,_,_,rfl,z1,Td.cl,Td.nt,iP ..,Dr,_,rfl,nY.t (k:=nk nm) hkd z2 (by omega),?_⟩
     refine ⟨_,_,rfl,I.keep.trans (aN.upd mD),⟨ks,by rw [ah dSD];exact hks,by omega,Dks.eq (by rw [etk];exact ee (fun m=>by rw [hw];rfl))⟩,
      ⟨kl,by rw [ah dLD];exact hkl,by omega,Dkl.eq (by rw [etk];exact dN (fun m=>by rw [hw];rfl))⟩,
      ⟨fX kd (nk nm) (V.bl true),ab,by have:=a3 (nk nm) (V.bl true);omega,fun m=>?_⟩,
      rs,by rw [ah dPD];exact hrs,?_⟩
     ·rw [pV,etk,oo hw]
      by_cases em:m=nm
      ·rw [if_pos em,if_pos (by rw [em])];rfl
      ·rw [if_neg em,if_neg (fun z=>em (xh z))];exact Dkd m
     ·rw [etk,dv (by rw [hw];rfl)]
      exact Rows.upd1 hkd (by intro xs z;cases z) hrr
    | back k=>
     refine ⟨_,rfl,pd,Cd,dx,_,_,rfl,z1,Td.cl,Td.nk,bW ..,rfl,_,rfl,?_⟩
     have e0:decide (V.int (bz y.2.what)=V.int 0)=false:=by rw [hw];rfl
     rw [e0]
     refine bB ?_
     refine ⟨_,rfl,pd,Cd,dx,_,_,rfl,z1,Td.cl,Td.nk,bW ..,rfl,_,rfl,?_⟩
     have e1:decide (V.int (bz y.2.what)=V.int 1)=false:=by rw [hw];rfl
     rw [e1]
     refine bB ?_
     refine ⟨_,rfl,pd,Cd,dx,_,_,rfl,z1,Td.cl,Td.nk,bW ..,rfl,_,rfl,?_⟩
     have e2:decide (V.int (bz y.2.what)=V.int 2)=false:=by rw [hw];rfl
     rw [e2]
     refine bB ?_
     refine ⟨_,rfl,pd,Cd,dx,_,_,rfl,z1,Td.cl,Td.nk,bW ..,rfl,_,rfl,?_⟩
     have e3:decide (V.int (bz y.2.what)=V.int 3)=false:=by rw [hw];rfl
     rw [e3]
     refine bB ?_
     exact ⟨_,_,rfl,I.keep,⟨ks,hks,by omega,Dks.eq (by rw [etk];exact ee (fun m=>by rw [hw];rfl))⟩,⟨kl,hkl,by omega,Dkl.eq (by rw [etk];exact dN (fun m=>by rw [hw];rfl))⟩,
      ⟨kd,hkd,by omega,fun m=>by rw [etk,dW (fun m z=>by rw [hw] at z;cases z)];exact Dkd m⟩,rs,hrs,by rw [etk,dv (by rw [hw];rfl)];exact hrr⟩
    | sign=>
     refine ⟨_,rfl,pd,Cd,dx,_,_,rfl,z1,Td.cl,Td.nk,bW ..,rfl,_,rfl,?_⟩
     have e0:decide (V.int (bz y.2.what)=V.int 0)=false:=by rw [hw];rfl
     rw [e0]
     refine bB ?_
     refine ⟨_,rfl,pd,Cd,dx,_,_,rfl,z1,Td.cl,Td.nk,bW ..,rfl,_,rfl,?_⟩
     have e1:decide (V.int (bz y.2.what)=V.int 1)=false:=by rw [hw];rfl
     rw [e1]
     refine bB ?_
     refine ⟨_,rfl,pd,Cd,dx,_,_,rfl,z1,Td.cl,Td.nk,bW ..,rfl,_,rfl,?_⟩
     have e2:decide (V.int (bz y.2.what)=V.int 2)=false:=by rw [hw];rfl
     rw [e2]
     refine bB ?_
     refine ⟨_,rfl,pd,Cd,dx,_,_,rfl,z1,Td.cl,Td.nk,bW ..,rfl,_,rfl,?_⟩
     have e3:decide (V.int (bz y.2.what)=V.int 3)=false:=by rw [hw];rfl
     rw [e3]
     refine bB ?_
     exact ⟨_,_,rfl,I.keep,⟨ks,hks,by omega,Dks.eq (by rw [etk];exact ee (fun m=>by rw [hw];rfl))⟩,⟨kl,hkl,by omega,Dkl.eq (by rw [etk];exact dN (fun m=>by rw [hw];rfl))⟩,
      ⟨kd,hkd,by omega,fun m=>by rw [etk,dW (fun m z=>by rw [hw] at z;cases z)];exact Dkd m⟩,rs,hrs,by rw [etk,dv (by rw [hw];rfl)];exact hrr⟩
    | hello=>
     refine ⟨_,rfl,pd,Cd,dx,_,_,rfl,z1,Td.cl,Td.nk,bW ..,rfl,_,rfl,?_⟩
     have e0:decide (V.int (bz y.2.what)=V.int 0)=false:=by rw [hw];rfl
     rw [e0]
     refine bB ?_
     refine ⟨_,rfl,pd,Cd,dx,_,_,rfl,z1,Td.cl,Td.nk,bW ..,rfl,_,rfl,?_⟩
     have e1:decide (V.int (bz y.2.what)=V.int 1)=false:=by rw [hw];rfl
     rw [e1]
     refine bB ?_
     refine ⟨_,rfl,pd,Cd,dx,_,_,rfl,z1,Td.cl,Td.nk,bW ..,rfl,_,rfl,?_⟩
     have e2:decide (V.int (bz y.2.what)=V.int 2)=false:=by rw [hw];rfl
     rw [e2]
     refine bB ?_
     refine ⟨_,rfl,pd,Cd,dx,_,_,rfl,z1,Td.cl,Td.nk,bW ..,rfl,_,rfl,?_⟩
     have e3:decide (V.int (bz y.2.what)=V.int 3)=false:=by rw [hw];rfl
     rw [e3]
     refine bB ?_
     exact ⟨_,_,rfl,I.keep,⟨ks,hks,by omega,Dks.eq (by rw [etk];exact ee (fun m=>by rw [hw];rfl))⟩,⟨kl,hkl,by omega,Dkl.eq (by rw [etk];exact dN (fun m=>by rw [hw];rfl))⟩,
      ⟨kd,hkd,by omega,fun m=>by rw [etk,dW (fun m z=>by rw [hw] at z;cases z)];exact Dkd m⟩,rs,hrs,by rw [etk,dv (by rw [hw];rfl)];exact hrr⟩
  ·rintro σ H2 ⟨v6,v7,rfl,I⟩
   rw [List.length_map,hql] at I
   obtain ⟨ks,hks,lks,Dks⟩:=I.s
   obtain ⟨kl,hkl,lkl,Dkl⟩:=I.l
   obtain ⟨kd,hkd,lkd,Dkd⟩:=I.d
   obtain ⟨rs,hrs,hrr⟩:=I.p
   rw [List.take_length] at Dks Dkl hrr
   have Dkd:∀ m,(cx kd (nk m)).isSome=cK L m:=fun m=>by have:=Dkd m;rw [List.take_length] at this;exact this
   have hrl:=hrr.length
   rw [List.length_map] at hrl
   have hpl:=gA L
   have sH2:ay H H2:=fun b o e=>I.keep b o (s2 b o e) (hnM b o e)
   refine ⟨_,rfl,pt,rfl,⟨_,SqL.of hrs⟩,fun D hD=>?_⟩
   refine eL (K:=K) (a:=pt) (xs:=rs.map V.ref) (fun j H'=>ay H2 H'/\∃ us,H' D=some (.lst (us.map V.ref))/\bY Cm Cd H' us (((bD L).take j).filterMap (iD L))) ⟨ac hD,[],ab,.nil⟩ (fun j H' _ ⟨sm,_⟩=>SqL.of (sm _ _ hrs)) ?_ ?_
   ·rintro j x H3 hx ⟨sm,us,hus,hmk⟩
    rw [List.getElem?_map] at hx
    cases e:rs[j]? with
    | none=>rw [e] at hx;cases hx
    | some pn=>
     rw [e] at hx
     cases hx
     obtain ⟨r0,hr0,hpn⟩:=Rows.get hrr e
     rw [List.getElem?_map] at hr0
     cases em:(bD L)[j]? with
     | none=>rw [em] at hr0;cases hr0
     | some m=>
      rw [em] at hr0
      have er:bj m=r0:=Option.some.inj hr0
      subst er
      have hjl:j < (bD L).length:=(List.getElem?_eq_some_iff.mp em).1
      have etk:((bD L).take (j+1)).filterMap (iD L)=((bD L).take j).filterMap (iD L)++(iD L m).toList:=il _ em
      have hpn3:H3 pn=some (.tup ((nk m).map kV)):=sm _ _ hpn
      have hkd3:=sm _ _ hkd
      refine ⟨rfl,_,rfl,_,rfl,Dr,_,rfl,j6.t (k:=nk m) hkd3 hpn3,_,rfl,?_⟩
      rw [Dkd m]
      cases hdr:cK L m with
      | true=>
       refine bB ?_
       refine ⟨sm,us,hus,?_⟩
       have:iD L m=none:=by unfold iD;rw [if_pos hdr]
       rw [etk,this]
       simpa using hmk
      | false=>
       refine bV ?_
       obtain ⟨sx,tx,hsx,htx⟩:=xq (List.mem_of_getElem? em)
       have hfm:iD L m=some ⟨m,sx,tx⟩:=by
        unfold iD
        rw [if_neg (by rw [hdr];exact Bool.false_ne_true),hsx,htx]
       have g1:∃ q1,cx ks (nk m)=some (.ref q1)/\bG Cd H1 q1 sx.1.by_ sx.1.k sx.2:=by
        rcases Dks m with ⟨z,_⟩ | ⟨x,q,z1,z2,z3⟩
        ·rw [hsx] at z;cases z
        ·rw [hsx] at z1;cases z1;exact ⟨q,z2,z3⟩
       have g2:∃ q1,cx kl (nk m)=some (.ref q1)/\bG Cd H1 q1 tx.1.by_ tx.1.k tx.2:=by
        rcases Dkl m with ⟨z,_⟩ | ⟨x,q,z1,z2,z3⟩
        ·rw [htx] at z;cases z
        ·rw [htx] at z1;cases z1;exact ⟨q,z2,z3⟩
       obtain ⟨q1,v1,d1⟩:=g1
       obtain ⟨q2,v2,d2⟩:=g2
       have D1:j6 H3 S (.ref pn) (some (.ref q1)):=by have:=j6.t (k:=nk m) (sm _ _ hks) hpn3;rw [v1] at this;exact this
       have D2:j6 H3 Lb (.ref pn) (some (.ref q2)):=by have:=j6.t (k:=nk m) (sm _ _ hkl) hpn3;rw [v2] at this;exact this
       refine ⟨_,rfl,_,rfl,_,rfl,S,_,rfl,D1,_,rfl,_,rfl,Lb,_,rfl,D2,?_⟩
       intro x dx nx ndx nex
       refine ⟨x,dx,_,_,_,rfl,ab,fun H4 hx4 k4=>?_⟩
       have s4:ay H3 H4:=ay.made nx ndx k4
       have hD4:=s4 _ _ hus
       have hul:=hmk.length
       have hfl:(((bD L).take j).filterMap (iD L)).length<=j:=Nat.le_trans (List.length_filterMap_le _ _) (by rw [List.length_take];omega)
       refine ⟨rfl,_,hD4,?_,?_⟩
       ·rw [List.length_map,hul]
        omega
       ·refine ⟨fun b o e=>by rw [ah (ai e hD)];exact s4 _ _ (sm b o e),us++[x],by rw [ab,List.map_append];rfl,?_⟩
        rw [etk,hfm]
        refine bY.append (bY.updL hD4 (hmk.same s4)) (.cons ?_ .nil)
        refine e8.updL hD4 ⟨dx,pn,q1,q2,hx4,s4 _ _ (sm _ _ hpn),?_,?_⟩
        ·exact ((d1.keep I.keep hM).same sm).same s4
        ·exact ((d2.keep I.keep hM).same sm).same s4
   ·rintro H3 ⟨sm,us,hus,hmk⟩
    rw [List.length_map,hrl,List.take_length] at hmk
    exact q D H3 us L (sH2.trans sm) (sH2.free hD) hus EA hmk
end
section
abbrev sDI:Stmt:=aS (top 8) 0
def B9 (C:Addr):Sp:=fun vs H Q _=>∃ (p dx:Addr) (v1 v2 v3 v4 v5 v6:V),vs=[.ref p,v1,v2,v3,v4,v5,v6]/\H p=some (.ins C dx [])/\
 ∀ H',H' p=some (.ins C dx [("hand",v1),("number",v2),("kind",v3),("told",v4),("bears",v5),("time",v6)])->(∀ b o,H b=some o->b≠p->H' b=some o)->Q .non H'
theorem Ds:aq ["self","hand","number","kind","told","bears","time"] ["self","hand","number","kind","told","bears","time"] (al sDI):=⟨rfl,rfl,rfl,by decide +kernel,rfl,by decide +kernel,by decide +kernel⟩
theorem Df {f C:Addr} {fd:FuncData} (F:Fun K "__init__" "Doing.__init__" sDI f fd) (T:dC K C):az P w K mg base CX0 1 f fd ["self","hand","number","kind","told","bears","time"] (B9 C):=by
 refine F.ok Ds (fun vs H Q E h=>?_) (fun cdv A outer s H vs Q E hr h=>?_)
 ·obtain ⟨p,dx,v1,v2,v3,v4,v5,v6,rfl,_⟩:=h
  rfl
 ·obtain ⟨p,dx,v1,v2,v3,v4,v5,v6,rfl,hp,q⟩:=h
  refine ⟨_,ag (cI (pv 0) (pv 1) rfl) (ag (cI (pv 0) (pv 2) rfl) (ag (cI (pv 0) (pv 3) rfl) (ag (cI (pv 0) (pv 4) rfl) (ag (cI (pv 0) (pv 5) rfl) (aj (cI (pv 0) (pv 6) rfl)))))),?_⟩
  refine ⟨_,rfl,_,rfl,p,C,dx,_,rfl,hp,T.cl,T.nh,(by show 0 < 1000;decide),?_⟩
  refine ⟨_,rfl,_,rfl,p,C,dx,_,rfl,ab,T.cl,T.nn,(by show 1 < 1000;decide),?_⟩
  refine ⟨_,rfl,_,rfl,p,C,dx,_,rfl,ab,T.cl,T.nk,(by show 2 < 1000;decide),?_⟩
  refine ⟨_,rfl,_,rfl,p,C,dx,_,rfl,ab,T.cl,T.nt,(by show 3 < 1000;decide),?_⟩
  refine ⟨_,rfl,_,rfl,p,C,dx,_,rfl,ab,T.cl,T.nb,(by show 4 < 1000;decide),?_⟩
  refine ⟨_,rfl,_,rfl,p,C,dx,_,rfl,ab,T.cl,T.ni,(by show 5 < 1000;decide),?_⟩
  refine q _ (by rw [ab];kernel_rfl) fun b o e hb=>?_
  rw [ah hb,ah hb,ah hb,ah hb,ah hb,ah hb]
  exact e
end
section
abbrev sDo:Stmt:=top 17
def Cj (C Cd:Addr):Sp:=fun vs H Q _=>∃ p h a c wh pt,vs=[.ref p,.int ((c:Nat):Int),.int (bz wh),.ref pt]/\aw C Cd H p h a/\NH.Inv h/\c < h.hands/\H pt=some (.tup ((dE wh).map V.int))/\
 ∀ H',aw C Cd H' p (does h c wh) a->aN a.mut H H'->Q (.int ((bg h.doings c:Nat):Int)) H'
theorem AC:aq ["line","hand","kind","told","bears","number"] ["line","hand","kind","told"] (al sDo):=⟨rfl,rfl,rfl,by decide +kernel,rfl,by decide +kernel,by decide +kernel⟩
theorem A1 {f fi ft C Cd:Addr} {fd fdi fdt:FuncData} (F:Fun K "do" "do" sDo f fd) (Fi:Fun K "__init__" "Doing.__init__" sDI fi fdi) (bi:aG K fdi ["self","hand","number","kind","told","bears","time"] []) (M:Mk K Cd fi) (mD:mg "Doing" = some (.ref Cd))
  (Ft:Fun K "time_behind" "time_behind" sR ft fdt) (bt:aG K fdt ["line","bears"] []) (mt:mg "time_behind" = some (.ref ft))
  (T:cR K C) (Td:dC K Cd) (B:Blt mg):az P w K mg base CX0 3 f fd ["line","hand","kind","told"] (Cj C Cd):=by
 have GI:az P w K mg base CX0 1 fi fdi ["self","hand","number","kind","told","bears","time"] (B9 Cd):=Df Fi Td
 have GT:az P w K mg base CX0 1 ft fdt ["line","bears"] (wA K C Cd):=xy Ft T Td B
 refine F.ok AC (fun vs H Q E h=>?_) (fun cdv A outer s H vs Q E hr h=>?_)
 ·obtain ⟨p,h,a,c,wh,pt,rfl,_⟩:=h
  rfl
 ·obtain ⟨p,h,a,c,wh,pt,rfl,L,I,hc,hpt,q⟩:=h
  have hr1:bP 1 _:=hr.mono (by decide)
  refine ⟨_,ag (aB (i:=4) AC.nd rfl (Or.inl rfl) (dZ fZ rfl B.tuple (by kernel_rfl) (aa (ax aE (ao (pv 0) rfl) (pv 1) (fun _ _=>rfl)) ad)))
   (ag (aB (i:=5) AC.nd rfl (Or.inl rfl) (ax aH (pv 4) (pv 1) (fun _ _=>rfl)))
   (ag (cB (eJ PySem.F.plainAttrs_list PySem.F.slot_list_append PySem.F.type_list_append eR (ax aE (ao (pv 0) rfl) (pv 1) (fun _ _=>rfl))
    (aa (nH M GI hr rfl mD bi .nil aD (aa (pv 1) (aa (pv 5) (aa (pv 2) (aa (pv 3) (aa (pv 4) (aa (au GT hr1 rfl mt Ft.kp bt .nil aD (aa (pv 0) (aa (pv 4) ad))) ad))))))) ad)))
   (ag (rq (bZ iL (pv 5) am) (qY (ax aE (ao (pv 0) rfl) (pv 1) (fun _ _=>rfl)) (pv 1) jj))
   (aj (ap (pv 5)))))),?_⟩
  have CO:=I.copy hc
  obtain ⟨qk,hqk,hkn⟩:=L.known I hc
  obtain ⟨qo,hqo,ps,o1,o2,o3⟩:=L.ownAt I hc
  have hcd:c < h.doings.length:=by rw [I.ds.len];exact hc
  refine ⟨_,rfl,p,C,a.dx,_,_,rfl,L.obj,T.cl,T.nk,cA ..,_,rfl,a.N,_,_,_,rfl,rfl,SqL.of L.nl,aR rfl hqk,qk,_,rfl,.inl ⟨SqL.of hkn,fun pb hpb=>?_⟩⟩
  have s1:ay H (upd H pb (.tup (aL (copyAt h c).known))):=ac hpb
  generalize hH1:upd H pb (.tup (aL (copyAt h c).known))=H1 at s1
  have hb1:H1 pb=some (.tup (aL (copyAt h c).known)):=by rw [<- hH1];exact ab
  have hkl:=CO.klen
  have hown:=CO.own
  have hle:=CO.le
  generalize hv:(copyAt h c).known=v at *
  have L1:=L.same s1
  refine ⟨_,rfl,_,rfl,pb,_,_,_,rfl,rfl,SqT.of hb1,d6 (by omega),?_⟩
  rw [hown]
  refine ⟨_,rfl,p,C,a.dx,_,_,rfl,L1.obj,T.cl,T.nd,cu ..,_,rfl,a.D,_,_,_,rfl,rfl,SqL.of L1.dl,aR rfl hqo,.inl ⟨rfl,_,SqL.of (s1 _ _ o1)⟩,
   _,rfl,_,rfl,_,rfl,_,rfl,_,rfl,_,rfl,_,rfl,p,h,a,true,pb,v,rfl,L1,I,SqT.of hb1,hkl,hle,fun H2 s2=>?_⟩
  intro x dx nx ndx nex
  refine ⟨x,dx,_,_,_,_,_,_,rfl,ab,fun H3 hx3 k3=>?_⟩
  have s3:ay H2 H3:=ay.made nx ndx k3
  have s13:ay H H3:=(s1.trans s2).trans s3
  refine ⟨rfl,qo,_,_,rfl,rfl,s13 _ _ o1,?_,?_⟩
  ·rw [List.length_map,o2]
   have:=I.len120 c
   unfold bg at this
   have:121<=sizeLine:=by decide
   omega
  ·
   have hD:bG Cd H3 x c (bg h.doings c) { what:=wh,knew:=v,time:=timeOf h.doings v+1 }:=⟨dx,pt,pb,hx3,s13 _ _ hpt,s3 _ _ (s2 _ _ hb1)⟩
   have L3:=(L.same s13).addDoing hcd hqo (s13 _ _ o1) hD
   generalize hH4:upd H3 qo (.lst (ps.map V.ref++[V.ref x]))=H4 at L3
   have K4:aN a.mut H H4:=by rw [<- hH4];exact (aN.of s13).trans (aN.upd (sP (List.mem_of_getElem? hqo)))
   have hx:h.copies[c]?=some (copyAt h c):=cO I hc
   have hkn4:H4 qk=some (.lst (aL v)):=by
    have:=L3.kn c qk (copyAt h c) hqk hx
    rw [hv] at this
    exact this
   refine ⟨_,rfl,_,_,rfl,rfl,_,rfl,p,C,a.dx,_,_,rfl,L3.obj,T.cl,T.nk,cA ..,_,rfl,a.N,_,_,_,rfl,rfl,SqL.of L3.nl,aR rfl hqk,_,rfl,qk,_,_,c,rfl,rfl,hkn4,?_,?_⟩
   ·rw [bH,hkl]
    exact nX hc
   ·refine ⟨_,rfl,?_⟩
    have e1:((bg h.doings c:Nat):Int)+1=((v.getD c 0+1:Nat):Int):=by rw [hown];omega
    show Q (V.int ((bg h.doings c:Nat):Int)) (upd H4 qk (.lst ((aL v).set c (V.int (((bg h.doings c:Nat):Int)+1)))))
    rw [e1,jC]
    refine q _ ?_ (K4.trans (aN.upd (jN (List.mem_of_getElem? hqk))))
    have:=L3.setKnown (c:=c) hx hqk (v.set c (v.getD c 0+1))
    rw [sO]
    subst hv
    exact this
end
theorem Rows.eraseIdx {H:Hp}:∀ {ps:List Addr} {rows:List (List Int)} (i:Nat),Rows H ps rows->Rows H (ps.eraseIdx i) (rows.eraseIdx i)
 | _,_,_,.nil=> .nil
 | _,_,0,.cons _ t=>t
 | _,_,i+1,.cons h t=> .cons h (Rows.eraseIdx i t)
theorem cy {α β:Type} (f:α->β):∀ (l:List α) (i:Nat),(l.eraseIdx i).map f=(l.map f).eraseIdx i
 | [],_=>rfl
 | _::_,0=>rfl
 | a::l,i+1=>by rw [List.eraseIdx_cons_succ,List.map_cons,List.map_cons,List.eraseIdx_cons_succ,cy f l i]
section
abbrev sr:Stmt:=top 28
def xk (C Cd:Addr):Sp:=fun vs H Q _=>∃ p h a c,vs=[.ref p,.int ((c:Nat):Int)]/\aw C Cd H p h a/\NH.Inv h/\c < h.hands/\
 ∀ (H':Hp) (n:Nat),aw C Cd H' p (setCopy h c (TA h.doings (copyAt h c))) a->aN a.mut H H'->dj (TA h.doings (copyAt h c)).known=dj (copyAt h c).known+n->Q (.int (n:Int)) H'
theorem jH:aq ["line","hand","taken","place","name"] ["line","hand"] (al sr):=⟨rfl,rfl,rfl,by decide +kernel,rfl,by decide +kernel,by decide +kernel⟩
structure vm (C Cd:Addr) (H:Hp) (p:Addr) (h:House) (a:LA) (c:Nat) (m:Nat) (σ:L2.St) (H':Hp):Prop where
 ex:∃ (x:Copy) (n:Nat) (v3:V) (v4:Option V),σ=[some (.ref p),some (.int (c:Int)),some (.int (n:Int)),some v3,v4]/\aw C Cd H' p (setCopy h c x) a/\aN a.mut H H'/\cW h.hands h.doings c x/\
  TA h.doings x=TA h.doings (copyAt h c)/\dj x.known=dj (copyAt h c).known+n/\m=x.pool.length/\
  ((∃ (i:Nat) (nm:Name),v3 = .int (i:Int)/\x.pool[i]?=some nm/\x.pool.find? (ready h.doings x.known)=some nm)\/(v3 = .non/\x.pool.find? (ready h.doings x.known)=none))
theorem yf {f ff fr C Cd:Addr} {fd fdf fdr:FuncData} (HP:Helps K mg) (F:Fun K "take_ready" "take_ready" sr f fd) (Ff:Fun K "first_ready" "first_ready" wj ff fdf) (bf:aG K fdf ["line","hand"] []) (mf:mg "first_ready" = some (.ref ff))
  (Fr:Fun K "is_ready" "is_ready" sX fr fdr) (br:aG K fdr ["line","hand","name"] []) (mr:mg "is_ready" = some (.ref fr))
  (T:cR K C) (Td:dC K Cd) (B:Blt mg):az P w K mg base CX0 4 f fd ["line","hand"] (xk C Cd):=by
 have GF:az P w K mg base CX0 3 ff fdf ["line","hand"] (vB C Cd):=Au HP Ff Fr br mr T Td B
 refine F.ok jH (fun vs H Q E h=>?_) (fun cdv A outer s H vs Q E hr h=>?_)
 ·obtain ⟨p,h,a,c,rfl,_⟩:=h
  rfl
 ·obtain ⟨p,h,a,c,rfl,L,I,hc,q⟩:=h
  refine ⟨_,ag (aB (i:=2) jH.nd rfl (Or.inl rfl) am)
   (ag (aB (i:=3) jH.nd rfl (Or.inl rfl) (au GF hr rfl mf Ff.kp bf .nil aD (aa (pv 0) (aa (pv 1) ad))))
   (ag (p6 PassesOwn.never (aU xE (pv 3) gK (aX _))
    (ag (aB (i:=4) jH.nd rfl (Or.inl rfl) (eJ PySem.F.plainAttrs_list PySem.F.slot_list_pop PySem.F.type_list_pop lK (ax aE (ao (pv 0) rfl) (pv 1) (fun _ _=>rfl)) (aa (pv 3) ad)))
    (ag (yr (ax aE (ao (pv 0) rfl) (pv 1) (fun _ _=>rfl)) (ax aH (pv 4) am (fun _ _=>rfl)) tD am vM jj)
    (ag (Ay (i:=2) jH.nd rfl (Or.inl rfl) am vM)
    (aj (aB (i:=3) jH.nd rfl (Or.inl rfl) (au GF hr rfl mf Ff.kp bf .nil aD (aa (pv 0) (aa (pv 1) ad)))))))))
   (aj (ap (pv 2))))),?_⟩
  have hcl:c < h.copies.length:=by rw [I.clen];exact hc
  have hx0:=cO I hc
  have CO:=I.copy hc
  have go:∀ (x:Copy) (n:Nat) (v4:Option V) (H1:Hp),aw C Cd H1 p (setCopy h c x) a->aN a.mut H H1->cW h.hands h.doings c x->TA h.doings x=TA h.doings (copyAt h c)->dj x.known=dj (copyAt h c).known+n->
    ∀ (R:V->Hp->Prop),(∀ (v3:V) (H2:Hp),vm C Cd H p h a c x.pool.length [some (.ref p),some (.int (c:Int)),some (.int (n:Int)),some v3,v4] H2->R v3 H2)->vB C Cd [.ref p,.int (c:Int)] H1 R E0:=by
   intro x n v4 H1 L1 K1 C1 t1 t2 R hR
   have I1:NH.Inv (setCopy h c x):=d7 I C1
   have ex:copyAt (setCopy h c x) c=x:=dU hcl x
   refine ⟨p,setCopy h c x,a,c,rfl,L1,I1,hc,fun i nm H2 s2 h1 h2=>hR _ H2 ⟨x,n,_,v4,rfl,L1.same s2,K1.trans (aN.of s2),C1,t1,t2,rfl,.inl ⟨i,nm,rfl,?_,?_⟩⟩,fun H2 s2 h2=>hR _ H2 ⟨x,n,_,v4,rfl,L1.same s2,K1.trans (aN.of s2),C1,t1,t2,rfl,.inr ⟨rfl,?_⟩⟩⟩
   ·rw [ex] at h1;exact h1
   ·rw [ex] at h2;exact h2
   ·rw [ex] at h2;exact h2
  refine ⟨_,rfl,_,rfl,?_⟩
  dsimp only [cF]
  refine go (copyAt h c) 0 none H (by rw [jh hx0];exact L) (aN.of (ay.refl H)) CO rfl rfl _ fun v3 H2 W0=>?_
  refine ⟨vm C Cd H p h a c,⟨_,W0⟩,?_⟩
  rintro m σ H3 ⟨x,n,v3,v4,rfl,L3,K3,C3,t1,t2,rfl,hp⟩
  refine ⟨_,rfl,rfl,_,rfl,?_⟩
  rcases hp with ⟨i,nm,rfl,hi,hf⟩ | ⟨rfl,hf⟩
  ·refine bV ?_
   have I3:NH.Inv (setCopy h c x):=d7 I C3
   have ex:copyAt (setCopy h c x) c=x:=dU hcl x
   obtain ⟨qw,hqw,rs,hrs,hrow⟩:=L3.wait I3 (c:=c) hc
   obtain ⟨qk,hqk,hkn⟩:=L3.known I3 (c:=c) hc
   rw [ex] at hrow hkn
   obtain ⟨pn,hpn⟩:∃ pn,rs[i]?=some pn:=⟨_,List.getElem?_eq_getElem (by have:=hrow.length;rw [List.length_map] at this;rw [this];exact (List.getElem?_eq_some_iff.mp hi).1)⟩
   obtain ⟨r,hr1,hr2⟩:=Rows.get hrow hpn
   rw [List.getElem?_map,hi] at hr1
   have er:bj nm=r:=Option.some.inj hr1
   subst er
   obtain ⟨C4,hby⟩:=lU I.ds.len C3 hf
   have hil:i < (rs.map V.ref).length:=by rw [List.length_map];exact (List.getElem?_eq_some_iff.mp hpn).1
   refine ⟨vm C Cd H p h a c (takeOne x nm).pool.length,fun σ' H' W'=>⟨_,?_,W'⟩,?_⟩
   ·have:=eF C3.nd (List.mem_of_find?_eq_some hf)
    omega
   refine ⟨_,rfl,p,C,a.dx,_,_,rfl,L3.obj,T.cl,T.nw,eU ..,_,rfl,a.W,_,_,_,rfl,rfl,SqL.of L3.wl,aR rfl hqw,.inl ⟨rfl,_,SqL.of hrs⟩,_,rfl,qw,_,_,i,V.ref pn,rfl,rfl,hrs,?_,?_,?_,?_,?_⟩
   ·omega
   ·have:=k8 I C3
    have:=(List.getElem?_eq_some_iff.mp hi).1
    omega
   ·exact seqIndex_of (by omega) (by omega)
   ·rw [List.getElem?_map,hpn];rfl
   have hxc:(setCopy h c x).copies[c]?=some (copyAt (setCopy h c x) c):=cO I3 hc
   have L4:=L3.setWait (c:=c) hxc hqw (ps:=rs.eraseIdx i) (pool:=x.pool.eraseIdx i) (by rw [cy];exact Rows.eraseIdx i hrow)
   rw [gQ,ex,cy] at L4
   have K4:aN a.mut H (upd H3 qw (.lst ((rs.map V.ref).eraseIdx i))):=K3.trans (aN.upd (lI (List.mem_of_getElem? hqw)))
   have hr4:upd H3 qw (.lst ((rs.map V.ref).eraseIdx i)) pn=some (.tup ((bj nm).map V.int)):=by rw [ah (bS hr2 hrs (by intro z;cases z))];exact hr2
   generalize upd H3 qw (.lst ((rs.map V.ref).eraseIdx i))=H4 at L4 K4 hr4 ⊢
   generalize hy:({ x with pool:=x.pool.eraseIdx i }:Copy)=y at L4
   have ey:y.known=x.known:=by rw [<- hy]
   have hkc:(setCopy h c y).copies[c]?=some y:=by
    show (h.copies.set c y)[c]?=some y
    rw [List.getElem?_set_self hcl]
   have hkn4:H4 qk=some (.lst (aL x.known)):=by
    have:=L4.kn c qk y hqk hkc
    rw [ey] at this
    exact this
   have hgd:(aL x.known)[nm.by_]?=some (.int ((x.known.getD nm.by_ 0:Nat):Int)):=by
    have:=d6 (v:=x.known) (i:=nm.by_) (by rw [C3.klen];exact hby)
    obtain ⟨j,h1,h2,_⟩:=ki this
    unfold aL bp
    rw [List.getElem?_map,List.getElem?_map,List.getD_eq_getElem?_getD,List.getElem?_eq_getElem (show nm.by_ < x.known.length by rw [C3.klen];exact hby)]
    rfl
   refine ⟨_,rfl,p,C,a.dx,_,_,rfl,L4.obj,T.cl,T.nk,cA ..,_,rfl,a.N,_,_,_,rfl,rfl,SqL.of L4.nl,aR rfl hqk,_,rfl,pn,_,_,_,rfl,rfl,SqT.of hr4,b7 (j:=0) (v:=V.int (nm.by_:Int)) rfl rfl,
    qk,_,nm.by_,_,rfl,rfl,SqL.of hkn4,hgd,_,_,rfl,rfl,qk,_,_,nm.by_,rfl,rfl,hkn4,?_,?_⟩
   ·rw [bH,C3.klen]
    exact nX hby
   have e1:((x.known.getD nm.by_ 0:Nat):Int)+1=((x.known.getD nm.by_ 0+1:Nat):Int):=by omega
   show vI _ _ _ _ (upd H4 qk (.lst ((aL x.known).set nm.by_ (V.int (((x.known.getD nm.by_ 0:Nat):Int)+1)))))
   rw [e1,jC]
   have exy:copyAt (setCopy h c y) c=y:=dU hcl y
   have L5:=L4.setKnown (c:=c) (by rw [exy];exact hkc) hqk (x.known.set nm.by_ (x.known.getD nm.by_ 0+1))
   rw [gQ,exy] at L5
   have et:({ y with known:=x.known.set nm.by_ (x.known.getD nm.by_ 0+1) }:Copy)=takeOne x nm:=by
    rw [<- hy]
    unfold takeOne
    congr 1
    exact (c8 C3.nd hi).symm
   rw [et] at L5
   have K5:=K4.trans (aN.upd (o:= .lst (aL (x.known.set nm.by_ (x.known.getD nm.by_ 0+1)))) (jN (List.mem_of_getElem? hqk)))
   generalize upd H4 qk (.lst (aL (x.known.set nm.by_ (x.known.getD nm.by_ 0+1))))=H5 at L5 K5 ⊢
   refine ⟨_,rfl,_,_,rfl,rfl,?_⟩
   refine ⟨_,rfl,_,rfl,?_⟩
   dsimp only [cF]
   have en:(n:Int)+1=((n+1:Nat):Int):=by omega
   refine go (takeOne x nm) (n+1) (some (.ref pn)) H5 L5 K5 C4 (by rw [<- t1];exact (yn C3.nd hf).symm) (by rw [lP (by rw [C3.klen];exact hby),t2];omega) _ fun v3 H6 W6=>?_
   rw [<- en] at W6
   exact W6
  ·refine bB ?_
   refine ⟨_,rfl,?_⟩
   have e:TA h.doings x=x:=xW hf
   rw [e] at t1
   refine q H3 n ?_ K3 ?_
   ·rw [<- t1];exact L3
   ·rw [<- t1];exact t2
end
theorem xK {A:Around} {k:Nat} (hr:bP k A):A.units+65 < cLine:=by have:=hr.un;omega
theorem mC {m n:Name} (h:bj m=bj n):m=n:=by
 unfold bj at h
 obtain ⟨a,b⟩:=m
 obtain ⟨c,d⟩:=n
 simp only [List.cons.injEq,and_true] at h
 have h1:a=c:=by have:=h.1;omega
 have h2:b=d:=by have:=h.2;omega
 rw [h1,h2]
theorem l6 {m:Name} {l:List Name}:bj m∈l.map bj↔m∈l:=by
 constructor
 ·intro h
  obtain ⟨n,h1,h2⟩:=List.mem_map.mp h
  rw [<- mC h2]
  exact h1
 ·intro h
  exact List.mem_map.mpr ⟨m,h,rfl⟩
section
abbrev sBr:Stmt:=top 29
def Cz (C Cd:Addr):Sp:=fun vs H Q _=>∃ p h a c t m,vs=[.ref p,.int ((c:Nat):Int),.ref t]/\aw C Cd H p h a/\NH.Inv h/\c < h.hands/\H t=some (.tup ((bj m).map V.int))/\Ex h.doings m/\
 ∀ (H':Hp) (n:Nat),aw C Cd H' p (setCopy h c (comes h.doings (copyAt h c) m)) a->aN a.mut H H'->dj (comes h.doings (copyAt h c) m).known=dj (copyAt h c).known+n->Q (.int (n:Int)) H'
theorem DO:aq ["line","hand","name"] ["line","hand","name"] (al sBr):=⟨rfl,rfl,rfl,by decide +kernel,rfl,by decide +kernel,by decide +kernel⟩
theorem Dd {f ft ff fr C Cd:Addr} {fd fdt fdf fdr:FuncData} (HP:Helps K mg) (F:Fun K "bring" "bring" sBr f fd) (Ft:Fun K "take_ready" "take_ready" sr ft fdt) (bt:aG K fdt ["line","hand"] []) (mt:mg "take_ready" = some (.ref ft))
  (Ff:Fun K "first_ready" "first_ready" wj ff fdf) (bf:aG K fdf ["line","hand"] []) (mf:mg "first_ready" = some (.ref ff))
  (Fr:Fun K "is_ready" "is_ready" sX fr fdr) (br:aG K fdr ["line","hand","name"] []) (mr:mg "is_ready" = some (.ref fr))
  (T:cR K C) (Td:dC K Cd) (B:Blt mg):az P w K mg base CX0 5 f fd ["line","hand","name"] (Cz C Cd):=by
 obtain ⟨fw,fdw,Fw,bw,mw⟩:=HP.kn
 have GW:az P w K mg base CX0 1 fw fdw ["line","hand","name"] (uz C Cd):=vi Fw T
 have GT:az P w K mg base CX0 4 ft fdt ["line","hand"] (xk C Cd):=yf HP Ft Ff bf mf Fr br mr T Td B
 refine F.ok DO (fun vs H Q E h=>?_) (fun cdv A outer s H vs Q E hr h=>?_)
 ·obtain ⟨p,h,a,c,t,m,rfl,_⟩:=h
  rfl
 ·obtain ⟨p,h,a,c,t,m,rfl,L,I,hc,ht,hx,q⟩:=h
  have hr1:bP 1 _:=hr.mono (by decide)
  refine ⟨_,ag (cc (PW.pt (y6 (cU (au GW hr1 rfl mw Fw.kp bw .nil aD (aa (pv 0) (aa (pv 1) (aa (pv 2) ad)))))
    (uN (aU (AW (xK hr)) (pv 2) (ax aE (ao (pv 0) rfl) (pv 1) (fun _ _=>rfl)) rfl)))) (aj (ap am)) aZ)
   (ag (cB (eJ PySem.F.plainAttrs_list PySem.F.slot_list_append PySem.F.type_list_append eR (ax aE (ao (pv 0) rfl) (pv 1) (fun _ _=>rfl)) (aa (pv 2) ad)))
   (aj (ap (au GT hr rfl mt Ft.kp bt .nil aD (aa (pv 0) (aa (pv 1) ad)))))),?_⟩
  have CO:=I.copy hc
  have hcl:c < h.copies.length:=by rw [I.clen];exact hc
  have hx0:=cO I hc
  obtain ⟨qw,hqw,rs,hrs,hrow⟩:=L.wait I hc
  obtain ⟨qk,hqk,hkn⟩:=L.known I hc
  have hby:m.by_ < h.hands:=fH I.ds.len hx
  rw [vn CO.nd] at q
  refine ⟨_,rfl,_,rfl,_,rfl,p,h,a,c,t,m,rfl,L,I,hc,ht,hby,fun H0 s0=>⟨_,rfl,?_⟩⟩
  have q:∀ (H':Hp) (n:Nat),aw C Cd H' p (setCopy h c (if knows (copyAt h c).known m=true\/(copyAt h c).pool.contains m=true then copyAt h c else TA h.doings { copyAt h c with pool:=(copyAt h c).pool++[m] })) a->aN a.mut H0 H'->dj (if knows (copyAt h c).known m=true\/(copyAt h c).pool.contains m=true then copyAt h c else TA h.doings { copyAt h c with pool:=(copyAt h c).pool++[m] }).known=dj (copyAt h c).known+n->Q (.int (n:Int)) H':=
   fun H' n z1 z2 z3=>q H' n z1 ((aN.of s0).trans z2) z3
  have q0:(knows (copyAt h c).known m=true\/(copyAt h c).pool.contains m=true)->Q (.int 0) H0:=fun z=>by
   rw [if_pos z] at q
   exact q H0 0 (by rw [jh hx0];exact L.same s0) (aN.of (ay.refl H0)) rfl
  replace L:=L.same s0
  replace hrs:=s0 _ _ hrs
  replace hrow:=Rows.same s0 hrow
  replace ht:=s0 _ _ ht
  by_cases hk:knows (copyAt h c).known m=true
  ·rw [hk]
   refine bV (bV ?_)
   exact q0 (.inl hk)
  ·rw [Bool.eq_false_iff.mpr hk]
   refine bB ?_
   refine ⟨_,rfl,_,rfl,p,C,a.dx,_,_,rfl,L.obj,T.cl,T.nw,eU ..,_,rfl,a.W,_,_,_,rfl,rfl,SqL.of L.wl,aR rfl hqw,t,qw,_,rs,_,rfl,rfl,SqT.of ht,SqL.of hrs,hrow,_,rfl,?_⟩
   by_cases hin:m∈(copyAt h c).pool
   ·have e:decide (bj m∈(copyAt h c).pool.map bj)=true:=decide_eq_true (l6.mpr hin)
    rw [if_neg Bool.false_ne_true,e]
    refine bV ?_
    exact q0 (.inr (by simpa using hin))
   ·have e:decide (bj m∈(copyAt h c).pool.map bj)=false:=decide_eq_false fun z=>hin (l6.mp z)
    rw [if_neg Bool.false_ne_true,e]
    refine bB ?_
    have hno:¬ (knows (copyAt h c).known m=true\/(copyAt h c).pool.contains m=true):=by
     rintro (z | z)
     ·exact hk z
     ·exact hin (by simpa using z)
    rw [if_neg hno] at q
    refine ⟨_,rfl,p,C,a.dx,_,_,rfl,L.obj,T.cl,T.nw,eU ..,_,rfl,a.W,_,_,_,rfl,rfl,SqL.of L.wl,aR rfl hqw,.inl ⟨rfl,_,SqL.of hrs⟩,_,rfl,qw,_,_,rfl,rfl,hrs,?_,?_⟩
    ·have:=hrow.length
     rw [List.length_map] at this
     have:=k8 I CO
     rw [List.length_map]
     have:121<=sizeLine:=by decide
     omega
    ·have L1:=L.setWait hx0 hqw (ps:=rs++[t]) (pool:=(copyAt h c).pool++[m]) (by rw [List.map_append];exact Rows.append hrow (.cons ht .nil))
     rw [List.map_append] at L1
     have C1:cW h.hands h.doings c { copyAt h c with pool:=(copyAt h c).pool++[m] }:=by
      refine ⟨CO.klen,CO.le,CO.own,List.nodup_append.mpr ⟨CO.nd,by simp,fun x hx1 y hy=>?_⟩,fun y hy=>?_,CO.past⟩
      ·rw [List.mem_singleton] at hy
       subst hy
       intro z
       subst z
       exact hin hx1
      ·rcases List.mem_append.mp hy with z | z
       ·exact CO.ex y z
       ·rw [List.mem_singleton] at z
        subst z
        exact hx
     have I1:=d7 I C1
     refine ⟨_,rfl,_,rfl,p,_,a,c,rfl,L1,I1,hc,fun H2 n L2' K2 ht2=>?_⟩
     rw [dU hcl,gQ] at L2'
     rw [dU hcl] at ht2
     exact q H2 n L2' ((aN.upd (lI (List.mem_of_getElem? hqw))).trans K2) ht2
end
theorem u0 (v1 v2 v3 v4:V):dG [v1,v2,v3,v4] (some 2) none=[v3,v4]:=by
 unfold dG
 have e1:HT.sIx [v1,v2,v3,v4].length 0 (some 2)=2:=by
  have:=HT.sIx_nat [v1,v2,v3,v4].length 0 2
  rw [show ((2:Nat):Int)=2 from rfl] at this
  rw [this]
  rfl
 rw [e1,HT.sIx_none]
 rfl
theorem tO (vs:List V) (n:Nat) (h:2<=n):¬ (HT.sIx n 0 (some 2)=0/\HT.sIx n n none=n):=by
 have:=HT.sIx_nat n 0 2
 rw [show ((2:Nat):Int)=2 from rfl] at this
 rw [this]
 omega
def slI (f:Fm):List Int:=[(f.mark.a:Int),(f.mark.b:Int),(f.mark.x:Int)]
theorem yA (f:Fm):bj f.name++slI f=markRow f.mark:=rfl
def qH (m:Mark):List Int:=[(m.a:Int),(m.b:Int),(m.x:Int),(m.name.by_:Int),(m.name.k:Int)]
section
abbrev BE:Stmt:=top 39
def yJ (K:PySem.W.Frag) (Cm Cd:Addr):Sp:=fun vs H Q _=>∃ l ds t lk v n tn nm,vs=[.ref l,.ref lk,.ref tn]/\yu K Cd H l ds t lk v n/\H tn=some (.tup ((bj nm).map V.int))/\
 (∀ H',ay H H'->(Vbslag.view ds v).find? (fun x=>x.name == nm)=none->Q .non H')/\
 (∀ H' p f,ay H H'->e8 Cm Cd H' p f->f.Ok->(Vbslag.view ds v).find? (fun x=>x.name == nm)=some f.mark->Q (.ref p) H')
theorem yK:aq ["doings","knowledge","name","mark"] ["doings","knowledge","name"] (al BE):=⟨rfl,rfl,rfl,by decide +kernel,rfl,by decide +kernel,by decide +kernel⟩
theorem z9 {f ff Cm Cd:Addr} {fd fdf:FuncData} (VE:VEnv K mg Cm) (F:Fun K "find_mark" "find_mark" BE f fd) (Ff:Fun K "find_marks" "find_marks" ye ff fdf) (bf:aG K fdf ["doings","knowledge"] []) (mf:mg "find_marks" = some (.ref ff))
  (Td:dC K Cd) (Tm:qZ K Cm) (B:Blt mg) (G:Kinds mg):az P w K mg base CX0 6 f fd ["doings","knowledge","name"] (yJ K Cm Cd):=by
 have GF:az P w K mg base CX0 5 ff fdf ["doings","knowledge"] (wD K Cm Cd):=uH VE Ff Td Tm B G
 refine F.ok yK (fun vs H Q E h=>?_) (fun cdv A outer s H vs Q E hr h=>?_)
 ·obtain ⟨l,ds,t,lk,v,n,tn,nm,rfl,_⟩:=h
  rfl
 ·obtain ⟨l,ds,t,lk,v,n,tn,nm,rfl,VA,htn,q1,q2⟩:=h
  refine ⟨_,ag (eZ PassesOwn.never rfl (c5 (au GF hr rfl mf Ff.kp bf .nil aD (aa (pv 0) (aa (pv 1) ad)))) (aK (i:=3) yK.nd rfl (Or.inl rfl))
    (aj (cc (aU (AQ (xK hr)) (ao (pv 3) rfl) (pv 2) (aX _)) (aj (ap (pv 3))) aZ)))
   (aj (ap gK)),?_⟩
  refine ⟨_,rfl,_,rfl,l,ds,t,lk,v,n,rfl,VA,fun p H1 ps L s1 np hp EA hm=>?_⟩
  have hlen:=hm.length
  refine ⟨p,rfl,⟨_,SqL.of hp⟩,kC (K:=K) (a:=p) (xs:=ps.map V.ref) (fun i σ H'=>H'=H1/\∃ v3,σ=[some (.ref l),some (.ref lk),some (.ref tn),v3]/\∀ (j:Nat) (f:Fm),j < i->(cE L)[j]?=some f->f.name≠nm)
   ⟨rfl,none,rfl,fun j f hj=>absurd hj (Nat.not_lt_zero j)⟩ (fun i σ H' _ ⟨e,_⟩=>by rw [e];exact SqL.of hp) ?_ ?_⟩
  ·rintro i x σ H' hx ⟨rfl,v3,rfl,hno⟩
   rw [List.getElem?_map] at hx
   cases e:ps[i]? with
   | none=>rw [e] at hx;cases hx
   | some pm=>
    rw [e] at hx
    cases hx
    obtain ⟨f,hf,hM⟩:=bY.get hm e
    obtain ⟨dx,pn,p1,p2,z1,z2,z3,z4⟩:=id hM
    refine ⟨_,rfl,pm,Cm,dx,_,_,rfl,z1,Tm.cl,Tm.nn,xg ..,_,rfl,pn,tn,_,_,rfl,rfl,SqT.of z2,SqT.of (s1 _ _ htn),_,rfl,?_⟩
    rw [if_neg Bool.false_ne_true]
    by_cases en:f.name=nm
    ·rw [decide_eq_true (show bj f.name=bj nm by rw [en])]
     refine bV ?_
     refine ⟨_,rfl,?_⟩
     have hfm:∃ m,iD L m=some f:=by
      obtain ⟨m,_,h2⟩:=List.mem_filterMap.mp (List.mem_of_getElem? hf)
      exact ⟨m,h2⟩
     obtain ⟨m,hfm⟩:=hfm
     refine q2 _ pm f s1 hM (mU hfm).2.1 ?_
     rw [ng EA]
     have:(cE L).find? (fun f=>decide (f.name=nm))=some f:=by
      refine List.find?_eq_some_iff_getElem.mpr ⟨decide_eq_true en,i,(List.getElem?_eq_some_iff.mp hf).1,(List.getElem?_eq_some_iff.mp hf).2,fun j hj=>?_⟩
      have hj2:j < (cE L).length:=Nat.lt_trans hj (List.getElem?_eq_some_iff.mp hf).1
      rw [decide_eq_false (hno j _ hj (List.getElem?_eq_getElem hj2))]
      rfl
     rw [this]
     rfl
    ·rw [decide_eq_false (show ¬ bj f.name=bj nm from fun z=>en (mC z))]
     refine bB ?_
     refine ⟨rfl,_,rfl,fun j f' hj hf'=>?_⟩
     rcases Nat.lt_succ_iff_lt_or_eq.mp hj with z | z
     ·exact hno j f' z hf'
     ·subst z
      rw [hf] at hf'
      cases hf'
      exact en
  ·rintro σ H' ⟨rfl,v3,rfl,hno⟩
   refine q1 _ s1 ?_
   rw [ng EA]
   have:(cE L).find? (fun f=>decide (f.name=nm))=none:=by
    rw [List.find?_eq_none]
    intro f hf z
    obtain ⟨j,hj⟩:=List.getElem?_of_mem hf
    exact hno j f (by rw [List.length_map,hlen];exact (List.getElem?_eq_some_iff.mp hj).1) hj (of_decide_eq_true z)
   rw [this]
   rfl
abbrev sSL:Stmt:=top 40
def Av (Cm Cd:Addr):Sp:=fun vs H Q _=>∃ p f,vs=[.ref p]/\e8 Cm Cd H p f/\f.Ok/\∀ r H',ay H H'->H' r=some (.tup ((slI f).map V.int))->Q (.ref r) H'
theorem zF:aq ["mark","told","stretch"] ["mark"] (al sSL):=⟨rfl,rfl,rfl,by decide +kernel,rfl,by decide +kernel,by decide +kernel⟩
theorem uf {n m:Name} {w:What} (h:(spanOf n m w).isSome=true):(∃ a b x,w = .put a b x/\spanOf n m w=some (a,b))\/∃ o a b,w = .move o a b/\spanOf n m w=some (a,b):=by
 cases w with
 | put a b x=>
  refine .inl ⟨a,b,x,rfl,?_⟩
  simp only [spanOf] at h ⊢
  split at h
  ·rename_i e;rw [if_pos e]
  ·cases h
 | move o a b=>
  refine .inr ⟨o,a,b,rfl,?_⟩
  simp only [spanOf] at h ⊢
  split at h
  ·rename_i e;rw [if_pos e]
  ·cases h
 | label=>cases h
 | drop=>cases h
 | back=>cases h
 | sign=>cases h
 | hello=>cases h
theorem rA {n m:Name} {w:What} (h:(labelOf n m w).isSome=true):∃ u v x,(dE w).map V.int=[V.int u,V.int v,V.int ((x:Nat):Int)]/\labelOf n m w=some x:=by
 cases w with
 | put a b x=>
  refine ⟨(a:Int),(b:Int),x,rfl,?_⟩
  simp only [labelOf] at h ⊢
  split at h
  ·rename_i e;rw [if_pos e]
  ·cases h
 | label o x=>
  refine ⟨(o.by_:Int),(o.k:Int),x,rfl,?_⟩
  simp only [labelOf] at h ⊢
  split at h
  ·rename_i e;rw [if_pos e]
  ·cases h
 | move=>cases h
 | drop=>cases h
 | back=>cases h
 | sign=>cases h
 | hello=>cases h
theorem yI {f Cm Cd:Addr} {fd:FuncData} (F:Fun K "stretch_and_label" "stretch_and_label" sSL f fd) (Td:dC K Cd) (Tm:qZ K Cm) (G:Kinds mg):az P w K mg base CX0 1 f fd ["mark"] (Av Cm Cd):=by
 obtain ⟨t0,w0⟩:=G.put
 refine F.ok zF (fun vs H Q E h=>?_) (fun cdv A outer s H vs Q E hr h=>?_)
 ·obtain ⟨p,f,rfl,_⟩:=h
  rfl
 ·obtain ⟨p,f,rfl,⟨dx,pn,ps,pt,z1,z2,⟨ds,s1,s2,k1,k2,k3⟩,⟨dt,t1,t2,l1,l2,l3⟩⟩,ok,q⟩:=h
  refine ⟨_,ag (aB (i:=1) zF.nd rfl (Or.inl rfl) (ao (ao (pv 0) rfl) rfl))
   (ag (aB (i:=2) zF.nd rfl (Or.inl rfl) (jg (aU dJ (ao (ao (pv 0) rfl) rfl) (aP w0) (aX _)) (b8 dS (pv 1) cJ (ck am)) (b8 dS (pv 1) (ck am) cJ)))
   (aj (ap (bZ ky (pv 2) (dz (aa (ax aH (ao (ao (pv 0) rfl) rfl) am (fun _ _=>rfl)) ad)))))),?_⟩
  refine ⟨_,rfl,p,Cm,dx,_,_,rfl,z1,Tm.cl,Tm.ns,rT ..,ps,Cd,ds,_,_,rfl,k1,Td.cl,Td.nt,iP ..,?_⟩
  refine ⟨_,rfl,p,Cm,dx,_,_,rfl,z1,Tm.cl,Tm.ns,rT ..,ps,Cd,ds,_,_,rfl,k1,Td.cl,Td.nk,bW ..,rfl,_,rfl,?_⟩
  obtain ⟨u,v,x,hx1,hx2⟩:=rA ok.t
  rw [hx1] at l2
  have fin:∀ (r1:Addr) (H1:Hp) (a b:Nat),ay H H1->spanOf f.s.1 f.name f.s.2.what=some (a,b)->H1 r1=some (.tup [V.int (a:Int),V.int (b:Int)])->
    rF (tOp (o6 K) (aV 2) (yC (aY (tOp (wZ K) (j9 K (j9 K (aV 0) "labeller") "told") (tC (.int 2))) cF))) { nx:=fun _ H'=>Q .non H',rt:=Q } [some (.ref p),some (.ref s1),some (.ref r1)] H1:=by
   intro r1 H1 a b sm hsp hr1
   refine ⟨_,rfl,_,rfl,p,Cm,dx,_,_,rfl,sm _ _ z1,Tm.cl,Tm.nl,vD ..,pt,Cd,dt,_,_,rfl,sm _ _ l1,Td.cl,Td.nt,iP ..,t1,_,_,_,rfl,rfl,SqT.of (sm _ _ l2),b7 (j:=2) (v:=V.int ((x:Nat):Int)) rfl rfl,(by show 1<=sizeLine;decide),fun r2 hr2=>?_⟩
   have sb:=ac (o:= .tup [V.int ((x:Nat):Int)]) hr2
   refine ⟨r1,r2,_,_,rfl,rfl,SqT.of (sb _ _ hr1),SqT.of ab,by simp,(by show 2+1<=sizeLine;decide),fun z=>(by cases z),fun _ r3 hr3=>?_⟩
   refine q r3 _ ((sm.trans sb).trans (ac hr3)) ?_
   rw [ab]
   unfold slI Fm.mark
   rw [hsp,hx2]
   rfl
  rcases uf ok.s with ⟨a,b,y,hw,hsp⟩ | ⟨o,a,b,hw,hsp⟩
  ·have e0:decide (V.int (bz f.s.2.what)=V.int 0)=true:=by rw [hw];rfl
   rw [e0]
   refine bV ?_
   have htold:(dE f.s.2.what).map V.int=[V.int (a:Int),V.int (b:Int),V.int (y:Int)]:=by rw [hw];rfl
   rw [htold] at k2
   refine ⟨_,rfl,2,rfl,s1,_,rfl,SqT.of k2,ge _ _ _ _,fun r1 hr1=>?_⟩
   rw [h8]
   exact fin r1 _ a b (ac hr1) hsp ab
  ·have e0:decide (V.int (bz f.s.2.what)=V.int 0)=false:=by rw [hw];rfl
   rw [e0]
   refine bB ?_
   have htold:(dE f.s.2.what).map V.int=[V.int (o.by_:Int),V.int (o.k:Int),V.int (a:Int),V.int (b:Int)]:=by rw [hw];rfl
   rw [htold] at k2
   refine ⟨_,rfl,2,rfl,s1,_,rfl,SqT.of k2,tO [] _ (by show 2<=4;decide),fun r1 hr1=>?_⟩
   rw [u0]
   exact fin r1 _ a b (ac hr1) hsp ab
abbrev sVO:Stmt:=top 41
def BP:Sp:=fun vs H Q _=>∃ p m,vs=[.ref p]/\H p=some (.tup ((markRow m).map V.int))/\∀ r H',ay H H'->H' r=some (.tup ((qH m).map V.int))->Q (.ref r) H'
theorem Dv:aq ["shown"] ["shown"] (al sVO):=⟨rfl,rfl,rfl,by decide +kernel,rfl,by decide +kernel,by decide +kernel⟩
theorem Cs {f:Addr} {fd:FuncData} (F:Fun K "view_order" "view_order" sVO f fd):az P w K mg base CX0 1 f fd ["shown"] BP:=by
 refine F.ok Dv (fun vs H Q E h=>?_) (fun cdv A outer s H vs Q E hr h=>?_)
 ·obtain ⟨p,m,rfl,_⟩:=h
  rfl
 ·obtain ⟨p,m,rfl,hp,q⟩:=h
  refine ⟨_,aj (ap (dz (aa (ax aH (pv 0) am (fun _ _=>rfl)) (aa (ax aH (pv 0) am (fun _ _=>rfl)) (aa (ax aH (pv 0) am (fun _ _=>rfl)) (aa (ax aH (pv 0) am (fun _ _=>rfl)) (aa (ax aH (pv 0) am (fun _ _=>rfl)) ad))))))),?_⟩
  refine ⟨_,rfl,p,_,_,_,rfl,rfl,SqT.of hp,b7 (j:=2) (v:=V.int (m.a:Int)) rfl rfl,_,rfl,p,_,_,_,rfl,rfl,SqT.of hp,b7 (j:=3) (v:=V.int (m.b:Int)) rfl rfl,_,rfl,p,_,_,_,rfl,rfl,SqT.of hp,b7 (j:=4) (v:=V.int (m.x:Int)) rfl rfl,
   _,rfl,p,_,_,_,rfl,rfl,SqT.of hp,b7 (j:=0) (v:=V.int (m.name.by_:Int)) rfl rfl,_,rfl,p,_,_,_,rfl,rfl,SqT.of hp,b7 (j:=1) (v:=V.int (m.name.k:Int)) rfl rfl,(by show 5<=sizeLine;decide),fun r hr2=>?_⟩
  exact q r _ (ac hr2) ab
abbrev yS:Stmt:=top 42
def vv (K:PySem.W.Frag) (Cd:Addr):Sp:=fun vs H Q _=>∃ l ds t lk v n,vs=[.ref l,.ref lk]/\yu K Cd H l ds t lk v n/\∀ p H',ay H H'->cC H' p ((Vbslag.view ds v).map markRow)->Q (.ref p) H'
theorem qA:aq ["doings","knowledge","mark"] ["doings","knowledge"] (al yS):=⟨rfl,rfl,rfl,by decide +kernel,rfl,by decide +kernel,by decide +kernel⟩
theorem yB {p q:Mark} (h:k9 (qH p) (qH q)) (hn:p.name≠q.name):before p q=true:=by
 rw [e9]
 obtain ⟨h1,k1⟩:=c9 (show k9 ((p.a:Int)::_) ((q.a:Int)::_) from h)
 have hne:¬ (p.name.by_=q.name.by_/\p.name.k=q.name.k):=by
  rintro ⟨a,b⟩
  apply hn
  rcases hp:p.name with ⟨x,y⟩
  rcases hq:q.name with ⟨z,w⟩
  rw [hp,hq] at a b
  simp only at a b
  rw [a,b]
 by_cases e1:p.a=q.a
 ·obtain ⟨h2,k2⟩:=c9 (k1 (by omega))
  by_cases e2:p.b=q.b
  ·obtain ⟨h3,k3⟩:=c9 (k2 (by omega))
   by_cases e3:p.x=q.x
   ·obtain ⟨h4,k4⟩:=c9 (k3 (by omega))
    by_cases e4:p.name.by_=q.name.by_
    ·obtain ⟨h5,_⟩:=c9 (k4 (by omega))
     omega
    ·omega
   ·omega
  ·omega
 ·omega
theorem Rows.of_all {H:Hp}:∀ l:List (List Int×Addr),(∀ z,z∈l->H z.2=some (.tup (z.1.map V.int)))->Rows H (l.map (·.2)) (l.map (·.1))
 | [],_=> .nil
 | z::l,h=> .cons (h z (List.mem_cons_self ..)) (Rows.of_all l fun y hy=>h y (List.mem_cons_of_mem _ hy))
theorem vf {ps:List Addr} {ms:List Mark} {H:Hp} (hr:Rows H ps (ms.map markRow)) {ys:List V} (ho:iC (ms.map qH) (ps.map V.ref) ys) (hn:ms.Pairwise fun a b=>a.name≠b.name) :
  ∃ (qs:List Addr) (out:List Mark),ys=qs.map V.ref/\Rows H qs (out.map markRow)/\out.Perm ms/\out.Pairwise fun a b=>before a b=true:=by
 obtain ⟨zs,p,rfl,s⟩:=ho
 have hz:(ms.map qH).zip (ps.map V.ref)=(ms.zip ps).map fun z=>(qH z.1,V.ref z.2):=by
  rw [List.zip_map]
  rfl
 rw [hz] at p
 obtain ⟨ws,hp2,rfl⟩:=j3 p _ rfl
 have hlen:ms.length=ps.length:=by have:=Paired.length hr;rw [List.length_map] at this;exact this.symm
 have hall:∀ z,z∈ws->H z.2=some (.tup ((markRow z.1).map V.int)):=by
  intro z hzm
  have hm:=hp2.mem_iff.mp hzm
  obtain ⟨i,hi⟩:=List.getElem?_of_mem hm
  obtain ⟨h1,h2⟩:=List.getElem?_zip_eq_some.mp hi
  obtain ⟨x,h3,h4⟩:=Rows.get hr h2
  rw [List.getElem?_map,h1] at h3
  cases h3
  exact h4
 have hpm:(ws.map (·.1)).Perm ms:=by
  have:=hp2.map (·.1)
  rw [List.map_fst_zip (by omega)] at this
  exact this
 refine ⟨ws.map (·.2),ws.map (·.1),by rw [List.map_map,List.map_map];rfl,?_,hpm,?_⟩
 ·have:=Rows.of_all (ws.map fun z=>(markRow z.1,z.2)) (fun z hz=>by
   obtain ⟨y,hy,rfl⟩:=List.mem_map.mp hz
   exact hall y hy)
  rw [List.map_map,List.map_map] at this
  rw [List.map_map]
  exact this
 ·have hn2:(ws.map (·.1)).Pairwise fun a b=>a.name≠b.name:=List.Perm.pairwise hpm.symm hn fun {a b} h e=>h e.symm
  rw [List.pairwise_map] at s hn2 ⊢
  exact (s.and hn2).imp fun {a b} h=>yB h.1 h.2
theorem xL {f ff fs fo Cm Cd:Addr} {fd fdf fds fdo:FuncData} (VE:VEnv K mg Cm) (F:Fun K "view" "view" yS f fd) (Ff:Fun K "find_marks" "find_marks" ye ff fdf) (bf:aG K fdf ["doings","knowledge"] []) (mf:mg "find_marks" = some (.ref ff))
  (Fs:Fun K "stretch_and_label" "stretch_and_label" sSL fs fds) (bs:aG K fds ["mark"] []) (ms:mg "stretch_and_label" = some (.ref fs))
  (Fo:Fun K "view_order" "view_order" sVO fo fdo) (bo:aG K fdo ["shown"] []) (mo:mg "view_order" = some (.ref fo))
  (Td:dC K Cd) (Tm:qZ K Cm) (B:Blt mg) (G:Kinds mg):az P w K mg base CX0 6 f fd ["doings","knowledge"] (vv K Cd):=by
 have GF:az P w K mg base CX0 5 ff fdf ["doings","knowledge"] (wD K Cm Cd):=uH VE Ff Td Tm B G
 have GO:az P w K mg base CX0 1 fo fdo ["shown"] BP:=Cs Fo
 refine F.ok qA (fun vs H Q E h=>?_) (fun cdv A outer s H vs Q E hr h=>?_)
 ·obtain ⟨l,ds,t,lk,v,n,rfl,_⟩:=h
  rfl
 ·obtain ⟨l,ds,t,lk,v,n,rfl,VA,q⟩:=h
  have hr3:bP 3 _:=hr.mono (by decide)
  have hr1:bP 1 _:=hr.mono (by decide)
  refine ⟨_,aj (ap (pS GO hr3 bo rfl B.sorted rfl mo (dD (own:=[("mark",2)]) (tt:=hJ) (te:=tOp (o6 K) (j9 K (aV 2) "name") (fj (Av Cm Cd) [] E0 (aY (aV 2) cF))) rfl qA.nd (c5 (au GF hr rfl mf Ff.kp bf .nil aD (aa (pv 0) (aa (pv 1) ad)))) (bO rfl)
   (fun _ _ _ _ _=>aK (i:=2) qA.nd rfl (Or.inl rfl)) (fun _ _ _ _ _=>cT)
   (fun _ _ _ _ _=>bZ ky (ao (pv 2) rfl) (au (yI Fs Td Tm G) hr1 rfl ms Fs.kp bs .nil aD (aa (pv 2) ad)))))),?_⟩
  refine ⟨_,rfl,_,rfl,l,ds,t,lk,v,n,rfl,VA,fun p H1 ps L s1 np hp EA hm=>?_⟩
  have hlen:=hm.length
  have hml:(cE L).length<=600:=by
   have h1:(cE L).length<=(bD L).length:=List.length_filterMap_le _ _
   have h2:=gA L
   have h3:=gw VA.ok VA.le VA.le120 VA.n5
   have h4:=EA.perm.length_eq
   omega
  refine ⟨p,rfl,⟨_,SqL.of hp⟩,fun D hD=>?_⟩
  refine eL (K:=K) (a:=p) (xs:=ps.map V.ref) (fun j H'=>ay H1 H'/\∃ us,H' D=some (.lst (us.map V.ref))/\Rows H' us (((cE L).map Fm.mark).take j |>.map markRow)) ⟨ac hD,[],ab,.nil⟩ (fun j H' _ ⟨sm,_⟩=>SqL.of (sm _ _ hp)) ?_ ?_
  ·rintro j x H2 hx ⟨sm,us,hus,hrr⟩
   rw [List.getElem?_map] at hx
   cases e:ps[j]? with
   | none=>rw [e] at hx;cases hx
   | some pm=>
    rw [e] at hx
    cases hx
    obtain ⟨f,hf,hM⟩:=bY.get hm e
    have hM2:=hM.same sm
    obtain ⟨dx,pn,p1,p2,z1,z2,z3,z4⟩:=id hM2
    obtain ⟨m0,_,hfm⟩:=List.mem_filterMap.mp (List.mem_of_getElem? hf)
    have hul:=Paired.length hrr
    rw [List.length_map,List.length_take,List.length_map] at hul
    refine ⟨rfl,dL ?_⟩
    refine ⟨_,rfl,pm,Cm,dx,_,_,rfl,z1,Tm.cl,Tm.nn,xg ..,_,rfl,pm,f,rfl,hM2,(mU hfm).2.1,fun r H3 s3 hr3=>?_⟩
    refine ⟨pn,r,_,_,rfl,rfl,SqT.of (s3 _ _ z2),SqT.of hr3,by simp [bj],(by show 2+3<=sizeLine;decide),fun z=>(by simp [slI] at z),fun _ r4 hr4=>?_⟩
    have s4:=ac (o:= .tup ((bj f.name).map V.int++(slI f).map V.int)) hr4
    have hD4:=s4 _ _ (s3 _ _ hus)
    refine ⟨_,hD4,?_,?_⟩
    ·rw [List.length_map,hul]
     have:601<=sizeLine:=by decide
     omega
    ·refine ⟨fun b o e=>by rw [ah (ai e hD)];exact s4 _ _ (s3 _ _ (sm b o e)),us++[r4],by rw [ab,List.map_append];rfl,?_⟩
     have et:((cE L).map Fm.mark).take (j+1)=((cE L).map Fm.mark).take j++[f.mark]:=by
      rw [List.take_add_one,List.getElem?_map,hf];rfl
     rw [et,List.map_append]
     refine Rows.append (Rows.updL hD4 (Rows.same (s3.trans s4) hrr)) (.cons ?_ .nil)
     rw [ah (bS ab hD4 (by intro z;cases z)),ab,<- List.map_append,yA]
  ·rintro H2 ⟨sm,us,hus,hrr⟩
   rw [List.length_map,hlen,List.take_of_length_le (by rw [List.length_map];exact Nat.le_refl _)] at hrr
   have hnames:((cE L).map Fm.mark).Pairwise fun a b=>a.name≠b.name:=List.Perm.pairwise (iR EA) (lj ds v) fun {a b} h e=>h e.symm
   refine ⟨D,us.map V.ref,((cE L).map Fm.mark).map qH,rfl,SqL.of hus,?_,fun i x k H3 hx hk s3=>?_,fun ys po H3 ho s3 npo hpo=>?_⟩
   ·have:=Paired.length hrr
    simp only [List.length_map] at this ⊢
    exact this.symm
   ·rw [List.getElem?_map] at hx hk
    cases e:us[i]? with
    | none=>rw [e] at hx;cases hx
    | some pu=>
     rw [e] at hx
     cases hx
     obtain ⟨r0,hr0,hpu⟩:=Rows.get hrr e
     rw [List.getElem?_map] at hr0
     cases em:((cE L).map Fm.mark)[i]? with
     | none=>rw [em] at hr0;cases hr0
     | some m=>
      rw [em] at hr0 hk
      cases hr0
      cases hk
      exact ⟨pu,m,rfl,s3 _ _ hpu,fun r H4 s4 hr4=>⟨s4,r,_,_,rfl,rfl,hr4⟩⟩
   ·obtain ⟨qs,out,rfl,ho1,ho2,ho3⟩:=vf (Rows.same s3 hrr) ho hnames
    have:=xf EA ho2 ho3
    subst this
    exact q po H3 ((s1.trans sm).trans s3) ⟨qs,hpo,ho1⟩
end
def ld (p:Mark×Mark):List Int:=[(p.1.name.by_:Int),(p.1.name.k:Int),(p.2.name.by_:Int),(p.2.name.k:Int)]
theorem xJ (xs:List V) (i:Nat) (h:i<=xs.length):dG xs (some (i:Int)) none=xs.drop i:=by
 unfold dG
 rw [HT.sIx_nat,HT.sIx_none,Nat.min_eq_left h]
 exact List.take_of_length_le (by rw [List.length_drop];exact Nat.le_refl _)
theorem Bj (xs:List V) (i:Nat) (h:i<=xs.length):dG xs none (some (i:Int))=xs.take i:=by
 unfold dG
 rw [HT.sIx_nat,HT.sIx_none,Nat.min_eq_left h]
 rfl
def eW (K:PySem.W.Frag) (H:Hp):List Addr->List (List Int)->Prop:=Paired fun p ms=>H p=some (.lst (ms.map V.int))\/SqT K H p (ms.map V.int)
theorem eW.of {K:PySem.W.Frag} {H:Hp} {ps:List Addr} {rows:List (List Int)} (h:Rows H ps rows):eW K H ps rows:=Paired.mapP h fun _ _ z=> .inr (SqT.of z)
theorem eW.get {K:PySem.W.Frag} {H:Hp}:∀ {ps:List Addr} {rows:List (List Int)} {i:Nat} {p:Addr},eW K H ps rows->ps[i]?=some p->∃ r,rows[i]?=some r/\(H p=some (.lst (r.map V.int))\/SqT K H p (r.map V.int))
 | _,_,_,_,.nil,e=>by simp at e
 | _,_,0,_,.cons h t,e=>by
  simp at e
  subst e
  exact ⟨_,rfl,h⟩
 | _,_,i+1,p,.cons h t,e=>by
  obtain ⟨r,h1,h2⟩:=eW.get (i:=i) (p:=p) t (by simpa using e)
  exact ⟨r,by simpa using h1,h2⟩
theorem uI {K:PySem.W.Frag} {H H':Hp} {l:Addr} {xs:List V} (s:ay H H') (h:SqT K H l xs):SqT K H' l xs:=s.sqx (t:=true) h
theorem nV {α:Type} {rows:List (List α)} {i:Nat} {r:List α} (h:rows[i]?=some r):(rows.take (i+1)).flatten=(rows.take i).flatten++r:=by
 rw [List.take_add_one,h,List.flatten_append]
 simp
theorem ke {α:Type} (rows:List (List α)) (i:Nat):(rows.take i).flatten.length<=rows.flatten.length:=by
 conv=>rhs;rw [<- List.take_append_drop i rows]
 rw [List.flatten_append,List.length_append]
 omega
section
abbrev sOv:Stmt:=top 43
structure Blt2 (mg:Str->Option Value):Prop where
 min:mg "min" = none
def Bf:Sp:=fun vs H Q _=>∃ p q m x,vs=[.ref p,.ref q]/\H p=some (.tup ((markRow m).map V.int))/\H q=some (.tup ((markRow x).map V.int))/\m.a < m.b/\x.a < x.b/\Q (.bl (ovP m x)) H
theorem Do:aq ["one","other"] ["one","other"] (al sOv):=⟨rfl,rfl,rfl,by decide +kernel,rfl,by decide +kernel,by decide +kernel⟩
theorem A8 {f:Addr} {fd:FuncData} (F:Fun K "overlap" "overlap" sOv f fd) (B:Blt mg) (B2:Blt2 mg):az P w K mg base CX0 1 f fd ["one","other"] Bf:=by
 refine F.ok Do (fun vs H Q E h=>?_) (fun cdv A outer s H vs Q E hr h=>?_)
 ·obtain ⟨p,q,m,x,rfl,_⟩:=h
  rfl
 ·obtain ⟨p,q,m,x,rfl,hp,hq,hm,hx,qq⟩:=h
  refine ⟨_,aj (ap (vJ (fI dJ (ax aH (pv 0) am (fun _ _=>rfl)) (ax aH (pv 1) am (fun _ _=>rfl)) (aX _))
   (wc (fI y9 (bM (tT rfl) rfl B.max (by kernel_rfl) (aa (ax aH (pv 0) am (fun _ _=>rfl)) (aa (ax aH (pv 1) am (fun _ _=>rfl)) ad)))
    (bM (uk rfl) rfl B2.min (by kernel_rfl) (aa (ax aH (pv 0) am (fun _ _=>rfl)) (aa (ax aH (pv 1) am (fun _ _=>rfl)) ad))) (aX _))))),?_⟩
  rw [yc hm hx] at qq
  refine ⟨_,rfl,p,_,_,_,rfl,rfl,SqT.of hp,b7 (j:=4) (v:=V.int (m.x:Int)) rfl rfl,_,rfl,q,_,_,_,rfl,rfl,SqT.of hq,b7 (j:=4) (v:=V.int (x.x:Int)) rfl rfl,rfl,_,rfl,?_⟩
  by_cases e:m.x=x.x
  ·rw [decide_eq_true (show V.int (m.x:Int)=V.int (x.x:Int) by rw [e])]
   refine bV ?_
   refine ⟨_,rfl,p,_,_,_,rfl,rfl,SqT.of hp,b7 (j:=2) (v:=V.int (m.a:Int)) rfl rfl,_,rfl,q,_,_,_,rfl,rfl,SqT.of hq,b7 (j:=2) (v:=V.int (x.a:Int)) rfl rfl,_,_,rfl,
    _,rfl,p,_,_,_,rfl,rfl,SqT.of hp,b7 (j:=3) (v:=V.int (m.b:Int)) rfl rfl,_,rfl,q,_,_,_,rfl,rfl,SqT.of hq,b7 (j:=3) (v:=V.int (x.b:Int)) rfl rfl,_,_,rfl,_,_,rfl,rfl,?_⟩
   rw [decide_eq_true e,Bool.true_and] at qq
   have e2:decide ((if (x.a:Int) > (m.a:Int) then (x.a:Int) else (m.a:Int)) < (if (x.b:Int) < (m.b:Int) then (x.b:Int) else (m.b:Int)))=decide (max m.a x.a < min m.b x.b):=by
    rw [decide_eq_decide]
    split <;> split <;> omega
   show Q (V.bl (decide ((if (x.a:Int) > (m.a:Int) then (x.a:Int) else (m.a:Int)) < (if (x.b:Int) < (m.b:Int) then (x.b:Int) else (m.b:Int))))) H
   rw [e2]
   exact qq
  ·rw [decide_eq_false (show ¬ V.int (m.x:Int)=V.int (x.x:Int) from fun z=>e (by have:=V.int.inj z;omega))]
   refine bB ?_
   rw [decide_eq_false e,Bool.false_and] at qq
   exact qq
abbrev CY:Stmt:=top 44
def zj:Sp:=fun vs H Q _=>∃ l ms,vs=[.ref l]/\cC H l (ms.map markRow)/\(∀ m,m∈ms->m.a < m.b)/\ms.length<=600/\∀ p H',ay H H'->cC H' p ((Vbslag.overlaps ms).map ld)->Q (.ref p) H'
theorem mY:aq ["shown","pairs","place","one","other"] ["shown"] (al CY):=⟨rfl,rfl,rfl,by decide +kernel,rfl,by decide +kernel,by decide +kernel⟩
theorem Rows.drop {H:Hp}:∀ {ps:List Addr} {rows:List (List Int)} (i:Nat),Rows H ps rows->Rows H (ps.drop i) (rows.drop i)
 | _,_,0,h=>h
 | _,_,_+1,.nil=> .nil
 | _,_,i+1,.cons _ t=>Rows.drop i t
theorem z6 {f fo:Addr} {fd fdo:FuncData} (F:Fun K "overlapping_pairs" "overlapping_pairs" CY f fd) (Fo:Fun K "overlap" "overlap" sOv fo fdo) (bo:aG K fdo ["one","other"] []) (mo:mg "overlap" = some (.ref fo)) (B:Blt mg) (B2:Blt2 mg):az P w K mg base CX0 2 f fd ["shown"] zj:=by
 refine F.ok mY (fun vs H Q E h=>?_) (fun cdv A outer s H vs Q E hr h=>?_)
 ·obtain ⟨l,ms,rfl,_⟩:=h
  rfl
 ·obtain ⟨l,ms,rfl,⟨ps,hl,hrow⟩,hsp,h600,q⟩:=h
  refine ⟨_,ag (aB (i:=1) mY.nd rfl (Or.inl rfl) (aJ ad))
   (ag (eZ PassesOwn.never rfl (gc rfl B.enum (aa (pv 0) ad)) (gU rfl (b9 (aK (i:=2) mY.nd rfl (Or.inl rfl)) (b9 (aK (i:=3) mY.nd rfl (Or.inr rfl)) fC)))
    (aj (cB (eJ PySem.F.plainAttrs_list PySem.F.slot_list_extend PySem.F.type_list_extend dY (pv 1)
     (aa (dD (own:=[("other",4)]) (tt:=tB (fj Bf [] E0 (aY (aV 3) (aY (aV 4) cF)))) (te:=tOp (o6 K) (tSl (Ai K) (aV 3) oj (vk (tC (.int 2)))) (tSl (Ai K) (aV 4) oj (vk (tC (.int 2))))) rfl mY.nd (c5 (b8 oh (pv 0) (ck (bZ iL (pv 2) am)) cJ)) (bO rfl)
      (fun _ _ _ _ _=>aK (i:=4) mY.nd rfl (Or.inl rfl)) (fun _ _ _ _ _=>gk (cU (au (A8 Fo B B2) hr rfl mo Fo.kp bo .nil aD (aa (pv 3) (aa (pv 4) ad)))))
      (fun _ _ _ _ _=>bZ ky (b8 dS (pv 3) cJ (ck am)) (b8 dS (pv 4) cJ (ck am)))) ad)))))
   (aj (ap (pv 1)))),?_⟩
  have hlen:=hrow.length
  rw [List.length_map] at hlen
  have hbig:600 * 600 < sizeLine:=by decide
  refine ⟨Nat.zero_le _,fun pf hpf=>?_⟩
  have s0:ay H (upd H pf (.lst [])):=ac hpf
  refine ⟨_,rfl,false,l,ps.map V.ref,rfl,SqL.of (s0 _ _ hl),eO eP (fun i σ H'=>∃ v2 v3 v4,σ=[some (.ref l),some (.ref pf),v2,v3,v4]/\ay H H'/\cC H' pf ((jB ms i).map ld))
   ⟨none,none,none,rfl,s0,[],ab,.nil⟩ (fun i σ H' _ ⟨_,_,_,_,sm,_⟩=>SqL.of (sm _ _ hl)) ?_ ?_⟩
  ·rintro i x σ H1 H2 hi ⟨TT,x',rfl,hT,rfl,hx⟩ ⟨v2,v3,v4,rfl,sm,rs,hrs,hrr⟩
   rw [List.getElem?_map] at hx
   cases e:ps[i]? with
   | none=>rw [e] at hx;cases hx
   | some po=>
    rw [e] at hx
    have ex':V.ref po=x':=Option.some.inj hx
    subst ex'
    obtain ⟨r0,hr0,hpo⟩:=Rows.get hrow e
    rw [List.getElem?_map] at hr0
    cases em:ms[i]? with
    | none=>rw [em] at hr0;cases hr0
    | some m=>
     rw [em] at hr0
     have er:markRow m=r0:=Option.some.inj hr0
     subst er
     have hil:i < ms.length:=(List.getElem?_eq_some_iff.mp em).1
     have smT:=ac (o:= .tup [.int (i:Nat),.ref po]) hT
     have sm2:=sm.trans smT
     refine ⟨TT,_,rfl,SqT.of ab,rfl,_,_,rfl,_,_,rfl,rfl,?_⟩
     have hrs3:=smT _ _ hrs
     refine ⟨_,rfl,.inl ⟨rfl,_,SqL.of hrs3⟩,_,rfl,_,rfl,_,_,rfl,rfl,_,rfl,l,_,rfl,SqL.of (sm2 _ _ hl),fun pc hpc=>?_⟩
     have ei:(i:Int)+1=((i+1:Nat):Int):=by omega
     rw [ei,xJ _ _ (by rw [List.length_map,hlen];omega),<- List.map_drop]
     have s3:=ac (o:= .lst ((ps.drop (i+1)).map V.ref)) hpc
     generalize eH3:upd (upd H1 TT (.tup [.int (i:Nat),.ref po])) pc (.lst ((ps.drop (i+1)).map V.ref))=H3 at s3
     have hpc3:H3 pc=some (.lst ((ps.drop (i+1)).map V.ref)):=by rw [<- eH3];exact ab
     have s03:ay H H3:=sm2.trans s3
     refine ⟨pc,rfl,⟨_,SqL.of hpc3⟩,fun D hD=>?_⟩
     have hdrow:Rows H3 (ps.drop (i+1)) ((ms.drop (i+1)).map markRow):=by
      rw [List.map_drop]
      exact Rows.drop _ (Rows.same s03 hrow)
     have hdlen:=hdrow.length
     rw [List.length_map] at hdlen
     refine eL (K:=K) (a:=pc) (xs:=(ps.drop (i+1)).map V.ref) (fun j H'=>ay H3 H'/\∃ us,H' D=some (.lst (us.map V.ref))/\Rows H' us (((((ms.drop (i+1)).take j).filter (ovP m)).map fun x=>(m,x)).map ld)) ⟨ac hD,[],ab,.nil⟩ (fun j H' _ ⟨sm,_⟩=>SqL.of (sm _ _ hpc3)) ?_ ?_
     ·rintro j x H4 hx ⟨sm4,us,hus,hur⟩
      rw [List.getElem?_map] at hx
      cases e2:(ps.drop (i+1))[j]? with
      | none=>rw [e2] at hx;cases hx
      | some pq=>
       rw [e2] at hx
       cases hx
       obtain ⟨r1,hr1,hpq⟩:=Rows.get hdrow e2
       rw [List.getElem?_map] at hr1
       cases en:(ms.drop (i+1))[j]? with
       | none=>rw [en] at hr1;cases hr1
       | some n=>
        rw [en] at hr1
        have er1:markRow n=r1:=Option.some.inj hr1
        subst er1
        have hnm:n∈ms:=List.mem_of_mem_drop (List.mem_of_getElem? en)
        have hpo4:=sm4 _ _ (s03 _ _ hpo)
        have hpq4:=sm4 _ _ hpq
        have hul:=hur.length
        rw [List.length_map,List.length_map] at hul
        have hfl:(((ms.drop (i+1)).take j).filter (ovP m)).length<=600:=by
         refine Nat.le_trans (List.length_filter_le _ _) ?_
         rw [List.length_take,List.length_drop]
         omega
        have etk:((ms.drop (i+1)).take (j+1)).filter (ovP m)=((ms.drop (i+1)).take j).filter (ovP m)++(if ovP m n=true then [n] else []):=by
         rw [List.take_add_one,en,List.filter_append]
         simp only [Option.toList_some,List.filter_cons,List.filter_nil]
        refine ⟨rfl,_,rfl,_,rfl,po,pq,m,n,rfl,hpo4,hpq4,hsp m (List.mem_of_getElem? em),hsp n hnm,_,rfl,?_⟩
        cases hov:ovP m n with
        | false=>
         refine bB ?_
         rw [hov] at etk
         refine ⟨sm4,us,hus,?_⟩
         rw [etk]
         simpa using hur
        | true=>
         refine bV ?_
         rw [hov] at etk
         refine ⟨_,rfl,2,rfl,po,_,rfl,SqT.of hpo4,ge _ _ _ _,fun t1 ht1=>?_⟩
         have q1:=ac (o:= .tup (dG ((markRow m).map V.int) none (some 2))) ht1
         refine ⟨_,rfl,2,rfl,pq,_,rfl,SqT.of (q1 _ _ hpq4),ge _ _ _ _,fun t2 ht2=>?_⟩
         have q2:=ac (o:= .tup (dG ((markRow n).map V.int) none (some 2))) ht2
         have hc1:dG ((markRow m).map V.int) none (some 2)=(bj m.name).map V.int:=h8 _ _ _
         have hc2:dG ((markRow n).map V.int) none (some 2)=(bj n.name).map V.int:=h8 _ _ _
         refine ⟨t1,t2,_,_,rfl,rfl,SqT.of (q2 _ _ ab),SqT.of ab,by rw [hc1];simp [bj],by rw [hc1,hc2];show 2+2<=sizeLine;decide,fun z=>by rw [hc2] at z;simp [bj] at z,fun _ t3 ht3=>?_⟩
         have q3:=ac (o:= .tup (dG ((markRow m).map V.int) none (some 2)++dG ((markRow n).map V.int) none (some 2))) ht3
         have q13:=(q1.trans q2).trans q3
         have hus5:=q13 _ _ hus
         refine ⟨_,hus5,?_,?_⟩
         ·rw [List.length_map,hul]
          omega
         ·refine ⟨fun b o e=>by rw [ah (ai e hD)];exact q13 _ _ (sm4 b o e),us++[t3],by rw [ab,List.map_append];rfl,?_⟩
          rw [etk,if_pos rfl,List.map_append,List.map_append]
          refine Rows.append (Rows.updL hus5 (Rows.same q13 hur)) (.cons ?_ .nil)
          rw [ah (bS ab hus5 (by intro z;cases z)),ab,hc1,hc2]
          rfl
     ·rintro H4 ⟨sm4,us,hus,hur⟩
      rw [List.length_map,hdlen,List.take_length] at hur
      have hov:rG ms i=((ms.drop (i+1)).filter (ovP m)).map fun x=>(m,x):=by
       unfold rG
       rw [em]
      rw [<- hov] at hur
      have l1:=hur.length
      have l2:=hrr.length
      rw [List.length_map] at l1 l2
      have b1:=pC ms i
      have b2:=iT ms i
      have b3:i * ms.length<=599 * 600:=Nat.mul_le_mul (by omega) h600
      have hrs4:=sm4 _ _ (s3 _ _ hrs3)
      refine ⟨pf,D,_,_,rfl,rfl,hrs4,hus,?_,?_⟩
      ·rw [List.length_map,List.length_map,l1,l2]
       omega
      ·refine ⟨_,_,_,rfl,fun b o e=>by rw [ah (ai e hpf)];exact sm4 _ _ (s03 b o e),rs++us,by rw [ab,List.map_append],?_⟩
       rw [j0,List.map_append]
       exact Rows.append (Rows.updL hrs4 (Rows.same ((smT.trans s3).trans sm4) hrr)) (Rows.updL hrs4 hur)
  ·rintro σ H' ⟨v2,v3,v4,rfl,sm,hrr⟩
   refine ⟨_,rfl,q pf H' sm ?_⟩
   rw [List.length_map,hlen] at hrr
   rw [fU]
   exact hrr
abbrev Dj:Stmt:=top 66
def ctI (rows:List (List Int)):List Int:=(rows.length:Int)::rows.flatten
def rX (K:PySem.W.Frag):Sp:=fun vs H Q _=>∃ l ps rows,vs=[.ref l]/\H l=some (.lst (ps.map V.ref))/\eW K H ps rows/\rows.flatten.length < 10000000/\∀ r H',ay H H'->H r=none->H' r=some (.lst ((ctI rows).map V.int))->Q (.ref r) H'
theorem wI:aq ["rows","numbers","row"] ["rows"] (al Dj):=⟨rfl,rfl,rfl,by decide +kernel,rfl,by decide +kernel,by decide +kernel⟩
theorem AN {f:Addr} {fd:FuncData} (F:Fun K "counted" "counted" Dj f fd) (B:Blt mg):az P w K mg base CX0 1 f fd ["rows"] (rX K):=by
 refine F.ok wI (fun vs H Q E h=>?_) (fun cdv A outer s H vs Q E hr h=>?_)
 ·obtain ⟨l,ps,rows,rfl,_⟩:=h
  rfl
 ·obtain ⟨l,ps,rows,rfl,hl,hrow,hz,q⟩:=h
  refine ⟨_,ag (aB (i:=1) wI.nd rfl (Or.inl rfl) (aJ (aa (bM bC rfl B.len PySem.boot_len (aa (pv 0) ad)) ad)))
   (ag (eZ PassesOwn.never rfl (c5 (pv 0)) (aK (i:=2) wI.nd rfl (Or.inl rfl))
    (aj (cB (eJ PySem.F.plainAttrs_list PySem.F.slot_list_extend PySem.F.type_list_extend qr (pv 1) (aa (pv 2) ad)))))
   (aj (ap (pv 1)))),?_⟩
  have hlen:=Paired.length hrow
  have hbig:10000001<=sizeLine:=by decide
  refine ⟨_,rfl,l,_,rfl,.inl (SqL.of hl),(by show 1<=sizeLine;decide),fun pn hpn=>?_⟩
  have s0:=ac (o:= .lst [V.int ((ps.map V.ref).length:Int)]) hpn
  refine ⟨_,rfl,l,rfl,⟨_,SqL.of (s0 _ _ hl)⟩,kC (K:=K) (a:=l) (xs:=ps.map V.ref) (fun i σ H'=>∃ v2,σ=[some (.ref l),some (.ref pn),v2]/\ay H H'/\H' pn=some (.lst (((rows.length:Int)::(rows.take i).flatten).map V.int)))
   ⟨none,rfl,s0,by rw [ab,List.length_map,hlen];rfl⟩ (fun i σ H' _ ⟨_,_,sm,_⟩=>SqL.of (sm _ _ hl)) ?_ ?_⟩
  ·rintro i x σ H1 hx ⟨v2,rfl,sm,hn⟩
   rw [List.getElem?_map] at hx
   cases e:ps[i]? with
   | none=>rw [e] at hx;cases hx
   | some pr=>
    rw [e] at hx
    cases hx
    obtain ⟨r,hr1,hr2⟩:=eW.get hrow e
    have hft:=nV hr1
    have hfl:=ke rows (i+1)
    rw [hft,List.length_append] at hfl
    have hr3:H1 pr=some (.lst (r.map V.int))\/SqT K H1 pr (r.map V.int):=by
     rcases hr2 with z | z
     ·exact .inl (sm _ _ z)
     ·exact .inr (uI sm z)
    refine ⟨_,rfl,.inl ⟨rfl,_,SqL.of hn⟩,_,rfl,pn,pr,_,_,rfl,rfl,hn,hr3,?_,?_⟩
    ·rw [List.length_map,List.length_map,List.length_cons]
     omega
    ·refine ⟨_,rfl,fun b o e=>by rw [ah (ai e hpn)];exact sm b o e,?_⟩
     rw [ab,hft,<- List.map_append]
     rfl
  ·rintro σ H1 ⟨v2,rfl,sm,hn⟩
   rw [List.length_map,hlen,List.take_length] at hn
   exact ⟨_,rfl,q pn H1 sm hpn hn⟩
end
section
abbrev sKd:Stmt:=top 20
def Dc (C Cd:Addr):Sp:=fun vs H Q _=>∃ p h a c t m,vs=[.ref p,.int ((c:Nat):Int),.ref t]/\aw C Cd H p h a/\NH.Inv h/\c < h.hands/\H t=some (.tup ((bj m).map V.int))/\m.by_ < h.hands/\
 (∀ H',ay H H'->Vbslag.knows (copyAt h c).known m=false->Q .non H')/\
 (∀ H' pd d,ay H H'->Vbslag.knows (copyAt h c).known m=true->doingAt h.doings m=some d->bG Cd H' pd m.by_ m.k d->Q (.ref pd) H')
theorem D8:aq ["line","hand","name"] ["line","hand","name"] (al sKd):=⟨rfl,rfl,rfl,by decide +kernel,rfl,by decide +kernel,by decide +kernel⟩
theorem BD {f C Cd:Addr} {fd:FuncData} (HP:Helps K mg) (F:Fun K "known_doing" "known_doing" sKd f fd) (T:cR K C):az P w K mg base CX0 2 f fd ["line","hand","name"] (Dc C Cd):=by
 obtain ⟨fw,fdw,Fw,bw,mw⟩:=HP.kn
 have GW:az P w K mg base CX0 1 fw fdw ["line","hand","name"] (uz C Cd):=vi Fw T
 refine F.ok D8 (fun vs H Q E h=>?_) (fun cdv A outer s H vs Q E hr h=>?_)
 ·obtain ⟨p,h,a,c,t,m,rfl,_⟩:=h
  rfl
 ·obtain ⟨p,h,a,c,t,m,rfl,L,I,hc,ht,hby,q1,q2⟩:=h
  refine ⟨_,ag (cc (fV (cU (au GW hr rfl mw Fw.kp bw .nil aD (aa (pv 0) (aa (pv 1) (aa (pv 2) ad)))))) (aj (ap gK)) aZ)
   (aj (ap (ax aE (ax aE (ao (pv 0) rfl) (ax aH (pv 2) am (fun _ _=>rfl)) (fun _ _=>rfl)) (ax aH (pv 2) am (fun _ _=>rfl)) (fun _ _=>rfl)))),?_⟩
  refine ⟨_,rfl,_,rfl,_,rfl,p,h,a,c,t,m,rfl,L,I,hc,ht,hby,fun H1 s1=>⟨_,rfl,?_⟩⟩
  cases hk:Vbslag.knows (copyAt h c).known m with
  | false=>
   refine bV ?_
   exact q1 H1 s1 hk
  | true=>
   refine bB ?_
   have hx:Ex h.doings m:=Nat.lt_of_lt_of_le (of_decide_eq_true hk) ((I.copy hc).le m.by_)
   obtain ⟨d,hd⟩:=kE hx
   have L1:=L.same s1
   have ht1:=s1 _ _ ht
   obtain ⟨po,ps,pd,h1,h2,h3,hD⟩:=L1.doing I hd
   refine ⟨_,rfl,p,C,a.dx,_,_,rfl,L1.obj,T.cl,T.nd,cu ..,_,rfl,t,_,_,_,rfl,rfl,SqT.of ht1,b7 (j:=0) (v:=V.int (m.by_:Int)) rfl rfl,a.D,_,_,_,rfl,rfl,SqL.of L1.dl,aR rfl h1,
    _,rfl,t,_,_,_,rfl,rfl,SqT.of ht1,b7 (j:=1) (v:=V.int (m.k:Int)) rfl rfl,po,_,_,_,rfl,rfl,SqL.of h2,aR rfl h3,?_⟩
   exact q2 H1 pd d s1 hk hd hD
abbrev sKs:Stmt:=top 21
def BH (C Cd:Addr):Sp:=fun vs H Q _=>∃ p h a c,vs=[.ref p,.int ((c:Nat):Int)]/\aw C Cd H p h a/\NH.Inv h/\c < h.hands/\
 ∀ r H' ps,ay H H'->H' r=some (.lst (ps.map V.ref))->b6 Cd H' ps (signsOf h.doings (copyAt h c).known)->Q (.ref r) H'
theorem uh:aq ["line","hand","signs","maker","many","doing"] ["line","hand"] (al sKs):=⟨rfl,rfl,rfl,by decide +kernel,rfl,by decide +kernel,by decide +kernel⟩
theorem nE {w:What}:bz w=5↔w = .sign:=by
 cases w <;> simp [bz]
theorem Bx {f C Cd:Addr} {fd:FuncData} (F:Fun K "known_signs" "known_signs" sKs f fd) (T:cR K C) (Td:dC K Cd) (B:Blt mg) (G:Kinds mg):az P w K mg base CX0 1 f fd ["line","hand"] (BH C Cd):=by
 obtain ⟨t5,w5⟩:=G.sign
 refine F.ok uh (fun vs H Q E h=>?_) (fun cdv A outer s H vs Q E hr h=>?_)
 ·obtain ⟨p,h,a,c,rfl,_⟩:=h
  rfl
 ·obtain ⟨p,h,a,c,rfl,L,I,hc,q⟩:=h
  refine ⟨_,ag (aB (i:=2) uh.nd rfl (Or.inl rfl) (aJ ad))
   (ag (eZ PassesOwn.never rfl (gc rfl B.enum (aa (ax aE (ao (pv 0) rfl) (pv 1) (fun _ _=>rfl)) ad)) (gU rfl (b9 (aK (i:=3) uh.nd rfl (Or.inl rfl)) (b9 (aK (i:=4) uh.nd rfl (Or.inl rfl)) fC)))
    (aj (cB (eJ PySem.F.plainAttrs_list PySem.F.slot_list_extend PySem.F.type_list_extend dY (pv 2)
     (aa (dD (own:=[("doing",5)]) (tt:=mK (tOp rEq (j9 K (aV 5) "kind") (tC (.int 5)))) (te:=aV 5) rfl uh.nd (c5 (b8 oh (ax aE (ao (pv 0) rfl) (pv 3) (fun _ _=>rfl)) cJ (ck (pv 4)))) (bO rfl)
      (fun _ _ _ _ _=>aK (i:=5) uh.nd rfl (Or.inl rfl)) (fun _ _ _ _ _=>gk (aU dJ (ao (pv 5) rfl) (aP w5) (aX _)))
      (fun _ _ _ _ _=>pv 5)) ad)))))
   (aj (ap (pv 2)))),?_⟩
  have CO:=I.copy hc
  obtain ⟨qk,hqk,hkn⟩:=L.known I hc
  generalize hv:(copyAt h c).known=v at hkn q CO
  have h120:∀ g,v.getD g 0<=120:=fun g=>by rw [<- hv];exact I.known120 hc g
  have hle:∀ g,v.getD g 0<=bg h.doings g:=fun g=>by rw [<- hv];exact CO.le g
  have hvl:v.length=h.hands:=by rw [<- hv];exact CO.klen
  have h5:=I.hands
  have hbig:601<=sizeLine:=by decide
  refine ⟨Nat.zero_le _,fun pf hpf=>?_⟩
  have s0:ay H (upd H pf (.lst [])):=ac hpf
  have L0:=L.same s0
  refine ⟨_,rfl,p,C,a.dx,_,_,rfl,L0.obj,T.cl,T.nk,cA ..,_,rfl,a.N,_,_,_,rfl,rfl,SqL.of L0.nl,aR rfl hqk,false,qk,aL v,rfl,SqL.of (s0 _ _ hkn),
   eO eP (fun i σ H'=>∃ v3 v4 v5,σ=[some (.ref p),some (.int (c:Int)),some (.ref pf),v3,v4,v5]/\ay H H'/\∃ ps,H' pf=some (.lst (ps.map V.ref))/\b6 Cd H' ps (gM h.doings v i))
   ⟨none,none,none,rfl,s0,[],ab,.nil⟩ (fun i σ H' _ ⟨_,_,_,_,sm,_⟩=>SqL.of (sm _ _ hkn)) ?_ ?_⟩
  ·rintro i x σ H1 H2 hi ⟨TT,x',rfl,hT,rfl,hx⟩ ⟨v3,v4,v5,rfl,sm,ps,hps,hrow⟩
   obtain ⟨rfl,hiv⟩:=eV hx
   have smT:ay H1 (upd H1 TT (.tup [.int (i:Nat),.int ((v.getD i 0:Nat):Int)])):=ac hT
   have sm2:=sm.trans smT
   obtain ⟨po,hpo,os,o1,o2,o3⟩:=(L.same sm2).ownAt I (c:=i) (by omega)
   have L2':=L.same sm2
   refine ⟨TT,_,rfl,SqT.of ab,rfl,_,_,rfl,_,_,rfl,rfl,?_⟩
   have hps2:=smT _ _ hps
   refine ⟨_,rfl,.inl ⟨rfl,_,SqL.of hps2⟩,_,rfl,p,C,a.dx,_,_,rfl,L2'.obj,T.cl,T.nd,cu ..,_,rfl,a.D,_,_,_,rfl,rfl,SqL.of L2'.dl,aR rfl hpo,_,rfl,_,rfl,po,_,rfl,SqL.of o1,fun pc hpc=>?_⟩
   have hvo:v.getD i 0<=os.length:=by rw [o2];exact hle i
   rw [Bj _ _ (by rw [List.length_map];exact hvo),<- List.map_take]
   have s3:=ac (o:= .lst ((os.take (v.getD i 0)).map V.ref)) hpc
   generalize eH3:upd (upd H1 TT (.tup [.int (i:Nat),.int ((v.getD i 0:Nat):Int)])) pc (.lst ((os.take (v.getD i 0)).map V.ref))=H3 at s3
   have hpc3:H3 pc=some (.lst ((os.take (v.getD i 0)).map V.ref)):=by rw [<- eH3];exact ab
   refine ⟨pc,rfl,⟨_,SqL.of hpc3⟩,fun D hD=>?_⟩
   have htl:(os.take (v.getD i 0)).length=v.getD i 0:=by rw [List.length_take];omega
   refine eL (K:=K) (a:=pc) (xs:=(os.take (v.getD i 0)).map V.ref) (fun j H'=>ay H3 H'/\∃ us,H' D=some (.lst (us.map V.ref))/\b6 Cd H' us ((List.range j).filterMap (pR (own h.doings v i) i))) ⟨ac hD,[],ab,.nil⟩ (fun j H' _ ⟨sm,_⟩=>SqL.of (sm _ _ hpc3)) ?_ ?_
   ·rintro j x H4 hx ⟨sm4,us,hus,hur⟩
    rw [List.getElem?_map] at hx
    cases e:(os.take (v.getD i 0))[j]? with
    | none=>rw [e] at hx;cases hx
    | some pd=>
     rw [e] at hx
     cases hx
     have hj:j < v.getD i 0:=by rw [<- htl];exact (List.getElem?_eq_some_iff.mp e).1
     have e':os[j]?=some pd:=by rw [List.getElem?_take,if_pos hj] at e;exact e
     have hjl:j < (h.doings.getD i []).length:=Nat.lt_of_lt_of_le hj (hle i)
     obtain ⟨d,hd⟩:∃ d,(h.doings.getD i [])[j]?=some d:=⟨_,List.getElem?_eq_getElem hjl⟩
     have hD1:=((o3 j pd d e' hd).same s3).same sm4
     obtain ⟨dx,p1,p2,z1,z2,z3⟩:=id hD1
     have hat:(own h.doings v i)[j]?=some d:=by unfold own;rw [List.getElem?_take,if_pos hj];exact hd
     have hul:=hur.length
     have hfl:((List.range j).filterMap (pR (own h.doings v i) i)).length<=j:=Nat.le_trans (List.length_filterMap_le _ _) (by rw [List.length_range];exact Nat.le_refl _)
     have hj120:=h120 i
     refine ⟨rfl,_,rfl,pd,Cd,dx,_,_,rfl,z1,Td.cl,Td.nk,bW ..,rfl,_,rfl,?_⟩
     by_cases hs:d.what = .sign
     ·rw [decide_eq_true (show V.int (bz d.what)=V.int 5 by rw [hs];rfl)]
      refine bV ?_
      have hsg:pR (own h.doings v i) i j=some (⟨i,j⟩,d):=by unfold pR;rw [hat];simp [hs]
      refine ⟨_,rfl,_,hus,?_,?_⟩
      ·rw [List.length_map,hul]
       omega
      ·have s6:ay H4 (upd H4 D (.lst (us.map V.ref++[V.ref pd])))\/True:= .inr trivial
       refine ⟨fun b o e=>by rw [ah (ai e hD)];exact sm4 b o e,us++[pd],by rw [ab,List.map_append];rfl,?_⟩
       rw [List.range_succ,List.filterMap_append]
       simp only [List.filterMap_cons,hsg,List.filterMap_nil]
       exact b6.append (hur.updL hus) (.cons (hD1.updL hus) .nil)
     ·rw [decide_eq_false (show ¬ V.int (bz d.what)=V.int 5 from fun z=>hs (nE.mp (V.int.inj z)))]
      refine bB ?_
      have hsg:pR (own h.doings v i) i j=none:=by unfold pR;rw [hat];simp [hs]
      refine ⟨sm4,us,hus,?_⟩
      rw [List.range_succ,List.filterMap_append]
      simp only [List.filterMap_cons,hsg,List.filterMap_nil,List.append_nil]
      exact hur
   ·rintro H4 ⟨sm4,us,hus,hur⟩
    rw [List.length_map,htl] at hur
    have hur:b6 Cd H4 us (hU h.doings v i):=hur
    have l1:=hur.length
    have l2:=hrow.length
    have b1:=iK h.doings v h120 i
    have b2:=lu h.doings v i
    have b3:=h120 i
    have b4:i * 120<=480:=by omega
    have hps4:=sm4 _ _ (s3 _ _ hps2)
    refine ⟨pf,D,_,_,rfl,rfl,hps4,hus,?_,?_⟩
    ·rw [List.length_map,List.length_map]
     omega
    ·refine ⟨_,_,_,rfl,fun b o e=>by rw [ah (ai e hpf)];exact sm4 _ _ (s3 _ _ (sm2 b o e)),ps++us,by rw [ab,List.map_append],?_⟩
     rw [jU]
     exact b6.append ((hrow.same ((smT.trans s3).trans sm4)).updL hps4) (hur.updL hps4)
  ·rintro σ H' ⟨v3,v4,v5,rfl,sm,ps,hps,hrow⟩
   refine ⟨_,rfl,q pf H' ps sm hps ?_⟩
   rw [bH,hvl,<- I.ds.len] at hrow
   rw [lA hle]
   exact hrow
abbrev sCl:Stmt:=top 24
def CW (K:PySem.W.Frag) (C Cd:Addr):Sp:=fun vs H Q _=>∃ p h a t lk v,vs=[.ref p,.ref lk]/\aw C Cd H p h a/\NH.Inv h/\SqX K t H lk (aL v)/\v.length=h.hands/\(∀ g,v.getD g 0<=bg h.doings g)/\∀ H',ay H H'->Q (.bl (closed h.doings v)) H'
theorem zV:aq ["line","knowledge","hand"] ["line","knowledge"] (al sCl):=⟨rfl,rfl,rfl,by decide +kernel,rfl,by decide +kernel,by decide +kernel⟩
theorem Bc {f fs C Cd:Addr} {fd fds:FuncData} (HP:Helps K mg) (F:Fun K "is_closed" "is_closed" sCl f fd) (Fs:Fun K "surely_known" "surely_known" mH fs fds) (bs:aG K fds ["line","hand","knowledge"] []) (ms:mg "surely_known" = some (.ref fs))
  (T:cR K C) (Td:dC K Cd) (B:Blt mg):az P w K mg base CX0 3 f fd ["line","knowledge"] (CW K C Cd):=by
 obtain ⟨fw,fdw,Fw,bw,mw⟩:=HP.win
 refine F.ok zV (fun vs H Q E h=>?_) (fun cdv A outer s H vs Q E hr h=>?_)
 ·obtain ⟨p,h,a,t,lk,v,rfl,_⟩:=h
  rfl
 ·obtain ⟨p,h,a,t,lk,v,rfl,L,I,hk,hvl,hle,q⟩:=h
  have hr1:bP 1 _:=hr.mono (by decide)
  refine ⟨_,aj (ap (bM (rE rfl) rfl B.all (by kernel_rfl) (aa (dD (own:=[("hand",2)]) (tt:=hJ) (te:=fj (si K) [] E0 (aY (fj (oi K C Cd) [] E0 (aY (aV 0) (aY (aV 2) (aY (aV 1) cF)))) (aY (aV 1) cF))) rfl zV.nd (dQ rfl B.range (aa (ao (pv 0) rfl) ad)) (bO rfl)
   (fun _ _ _ _ _=>aK (i:=2) zV.nd rfl (Or.inl rfl)) (fun _ _ _ _ _=>cT)
   (fun _ _ _ _ _=>au (rD Fw B) hr1 rfl mw Fw.kp bw .nil aD (aa (au (nN HP Fs T Td B) hr rfl ms Fs.kp bs .nil aD (aa (pv 0) (aa (pv 2) (aa (pv 1) ad)))) (aa (pv 1) ad)))) ad))),?_⟩
  have h5:=I.hands
  rw [sW I.ds hvl hle] at q
  refine ⟨_,rfl,p,C,a.dx,_,_,rfl,L.obj,T.cl,T.nh,fQ ..,_,rfl,by omega,by omega,fun D hD=>?_⟩
  have e1:((h.hands:Nat):Int).toNat=h.hands:=Int.toNat_natCast _
  rw [e1]
  refine gg (fun j H'=>ay H H'/\H' D=some (.lst (bls ((List.range j).map fun g=>cZ (surely h.doings v g) v)))) ⟨ac hD,ab⟩ ?_ ?_
  ·rintro j H1 hj ⟨sm,hDl⟩
   have ej:(0:Int)+(j:Nat)=((j:Nat):Int):=by omega
   refine ⟨rfl,dL ?_⟩
   refine ⟨_,rfl,_,rfl,_,rfl,p,h,a,t,lk,v,j,by rw [ej];rfl,L.same sm,sm.sqx hk,hvl,hj,h5,I.ds,hle j,fun r H2 s2 nr hr2=>?_⟩
   have hsl:=c6 I.ds hvl (hle j)
   refine ⟨_,rfl,r,lk,false,t,surely h.doings v j,v,rfl,SqL.of hr2,(sm.trans s2).sqx hk,by rw [hsl,hvl],by rw [hsl];omega,fun H3 s3=>?_⟩
   have hD3:=s3 _ _ (s2 _ _ hDl)
   refine ⟨_,hD3,?_,?_⟩
   ·unfold bls
    rw [List.length_map,List.length_map,List.length_range]
    have:6<=sizeLine:=by decide
    omega
   ·refine ⟨fun b o e=>by rw [ah (ai e hD)];exact s3 _ _ (s2 _ _ (sm b o e)),?_⟩
    rw [ab,List.range_succ,List.map_append]
    unfold bls
    rw [List.map_append]
    rfl
  ·rintro H1 ⟨sm,hDl⟩
   refine ⟨D,_,rfl,SqL.of hDl,?_⟩
   have:=q H1 sm
   have e3:((List.range h.hands).map fun g=>cZ (surely h.doings v g) v).all id=(List.range h.hands).all fun g=>cZ (surely h.doings v g) v:=by rw [List.all_map];rfl
   rw [e3]
   exact this
end
def lh (H:Hp) (D:Addr):List Addr->List (List Nat)->Prop:=Paired fun p v=>H p=some (.lst (aL v))/\p≠D
theorem lh.append {H:Hp} {D:Addr}:∀ {ps qs:List Addr} {a b:List (List Nat)},lh H D ps a->lh H D qs b->lh H D (ps++qs) (a++b)
 | _,_,_,_,.nil,h=>h
 | _,_,_,_,.cons x t,h=> .cons x (lh.append t h)
theorem lh.get {H:Hp} {D:Addr}:∀ {ps:List Addr} {vs:List (List Nat)} {i:Nat} {p:Addr},lh H D ps vs->ps[i]?=some p->∃ v,vs[i]?=some v/\H p=some (.lst (aL v))
 | _,_,_,_,.nil,e=>by simp at e
 | _,_,0,_,.cons h t,e=>by
  simp at e
  subst e
  exact ⟨_,rfl,h.1⟩
 | _,_,i+1,p,.cons h t,e=>by
  obtain ⟨r,h1,h2⟩:=lh.get (i:=i) (p:=p) t (by simpa using e)
  exact ⟨r,by simpa using h1,h2⟩
theorem qE (l:List Nat):(List.range l.length).map (fun m=>l.getD m 0)=l:=by
 apply List.ext_getElem?
 intro i
 rw [List.getElem?_map]
 by_cases h:i < l.length
 ·rw [List.getElem?_range h,List.getElem?_eq_getElem h]
  simp [List.getD_eq_getElem?_getD,List.getElem?_eq_getElem h]
 ·rw [List.getElem?_eq_none (by simp;omega),List.getElem?_eq_none (by omega)]
  rfl
def fY (ds:Doings) (c:Nat) (v:Known):List (List Nat):=(((List.range v.length).filter fun g=>g != c).map fun g=>surely ds v g)++[v]
theorem qi (ds:Doings) (c:Nat) (v:Known) (m:Nat):(fY ds c v).map (fun r=>r.getD m 0)=stL ds c v m:=by
 unfold fY stL
 rw [List.map_append,List.map_map]
 rfl
section
abbrev sAs:Stmt:=top 23
def B1 (C Cd:Addr):Sp:=fun vs H Q _=>∃ p h a c,vs=[.ref p,.int ((c:Nat):Int)]/\aw C Cd H p h a/\NH.Inv h/\c < h.hands/\∀ r H',ay H H'->H' r=some (.lst (aL (stable h.doings c (copyAt h c).known)))->Q (.ref r) H'
theorem ox:aq ["line","hand","knowledge","sure","other","maker","row"] ["line","hand"] (al sAs):=⟨rfl,rfl,rfl,by decide +kernel,rfl,by decide +kernel,by decide +kernel⟩
theorem BQ {f fs C Cd:Addr} {fd fds:FuncData} (HP:Helps K mg) (F:Fun K "all_surely_know" "all_surely_know" sAs f fd) (Fs:Fun K "surely_known" "surely_known" mH fs fds) (bs:aG K fds ["line","hand","knowledge"] []) (ms:mg "surely_known" = some (.ref fs))
  (T:cR K C) (Td:dC K Cd) (B:Blt mg) (B2:Blt2 mg):az P w K mg base CX0 3 f fd ["line","hand"] (B1 C Cd):=by
 refine F.ok ox (fun vs H Q E h=>?_) (fun cdv A outer s H vs Q E hr h=>?_)
 ·obtain ⟨p,h,a,c,rfl,_⟩:=h
  rfl
 ·obtain ⟨p,h,a,c,rfl,L,I,hc,q⟩:=h
  refine ⟨_,ag (aB (i:=2) ox.nd rfl (Or.inr rfl) (ax aE (ao (pv 0) rfl) (pv 1) (fun _ _=>rfl)))
   (ag (aB (i:=3) ox.nd rfl (Or.inr rfl) (dD (own:=[("other",4)]) (tt:=mK (tOp rNe (aV 4) (aV 1))) (te:=fj (oi K C Cd) [] E0 (aY (aV 0) (aY (aV 4) (aY (aV 2) cF)))) rfl ox.nd (dQ rfl B.range (aa (ao (pv 0) rfl) ad)) (bO rfl)
    (fun _ _ _ _ _=>aK (i:=4) ox.nd rfl (Or.inl rfl)) (fun _ _ _ _ _=>gk (aU sL (pv 4) (pv 1) (aX _)))
    (fun _ _ _ _ _=>au (nN HP Fs T Td B) hr rfl ms Fs.kp bs .nil aD (aa (pv 0) (aa (pv 4) (aa (pv 2) ad))))))
   (aj (ap (dD (own:=[("maker",5)]) (tt:=hJ) (te:=tCB (Db K) (aY (tLc (yY K (tOp p8 (aV 3) (lT (aY (aV 2) cF)))) (g0 6) hJ (tOp (oT K) (aV 6) (aV 5)) [6]) cF)) rfl ox.nd (dQ rfl B.range (aa (ao (pv 0) rfl) ad)) (bO rfl)
    (fun _ _ _ _ _=>aK (i:=5) ox.nd rfl (Or.inr rfl)) (fun _ _ _ _ _=>cT)
    (fun _ _ _ _ _=>bM (Ae rfl) rfl B2.min (by kernel_rfl) (aa (dD (own:=[("row",6)]) (tt:=hJ) (te:=tOp (oT K) (aV 6) (aV 5)) rfl ox.nd (c5 (bZ cH (pv 3) (aJ (aa (pv 2) ad)))) (bO rfl)
     (fun _ _ _ _ _=>aK (i:=6) ox.nd rfl (Or.inl rfl)) (fun _ _ _ _ _=>cT)
     (fun _ _ _ _ _=>ax aE (pv 6) (pv 5) (fun _ _=>rfl))) ad)))))),?_⟩
  have CO:=I.copy hc
  obtain ⟨qk,hqk,hkn⟩:=L.known I hc
  generalize hv:(copyAt h c).known=v at hkn q CO
  have hle:∀ g,v.getD g 0<=bg h.doings g:=fun g=>by rw [<- hv];exact CO.le g
  have hvl:v.length=h.hands:=by rw [<- hv];exact CO.klen
  have h5:=I.hands
  have hbig:100<=sizeLine:=by decide
  have e1:((h.hands:Nat):Int).toNat=h.hands:=Int.toNat_natCast _
  refine ⟨_,rfl,p,C,a.dx,_,_,rfl,L.obj,T.cl,T.nk,cA ..,_,rfl,a.N,_,_,_,rfl,rfl,SqL.of L.nl,aR rfl hqk,?_⟩
  refine ⟨_,rfl,p,C,a.dx,_,_,rfl,L.obj,T.cl,T.nh,fQ ..,_,rfl,by omega,by omega,fun D hD=>?_⟩
  rw [e1]
  refine gg (fun j H'=>ay H H'/\∃ us,H' D=some (.lst (us.map V.ref))/\lh H' D us (((List.range j).filter fun g=>g != c).map fun g=>surely h.doings v g)) ⟨ac hD,[],ab,.nil⟩ ?_ ?_
  ·rintro j H1 hj ⟨sm,us,hus,hls⟩
   have ej:(0:Int)+(j:Nat)=((j:Nat):Int):=by omega
   refine ⟨rfl,_,rfl,_,rfl,rfl,_,rfl,?_⟩
   rw [ej]
   by_cases hjc:j=c
   ·have e0:(!decide (V.int ((j:Nat):Int)=V.int ((c:Nat):Int)))=false:=by rw [hjc];simp
    rw [e0]
    refine bB ?_
    refine ⟨sm,us,hus,?_⟩
    rw [List.range_succ,List.filter_append]
    simpa [hjc] using hls
   ·have e0:(!decide (V.int ((j:Nat):Int)=V.int ((c:Nat):Int)))=true:=by
     rw [decide_eq_false fun z=>hjc (by have:=V.int.inj z;omega)];rfl
    rw [e0]
    refine bV ?_
    refine ⟨_,rfl,_,rfl,_,rfl,p,h,a,false,qk,v,j,rfl,L.same sm,SqL.of (sm _ _ hkn),hvl,hj,h5,I.ds,hle j,fun r H2 s2 nr hr2=>?_⟩
    have hD2:=s2 _ _ hus
    have hrD:r≠D:=fun z=>by rw [z,hus] at nr;cases nr
    have hul:=Paired.length hls
    rw [List.length_map] at hul
    have hfl:((List.range j).filter fun g=>g != c).length<=j:=by
     refine Nat.le_trans (List.length_filter_le _ _) ?_
     rw [List.length_range]
     exact Nat.le_refl _
    refine ⟨_,hD2,?_,?_⟩
    ·rw [List.length_map,hul]
     omega
    ·refine ⟨fun b o e=>by rw [ah (ai e hD)];exact s2 _ _ (sm b o e),us++[r],by rw [ab,List.map_append];rfl,?_⟩
     have ef:(List.range (j+1)).filter (fun g=>g != c)=(List.range j).filter (fun g=>g != c)++[j]:=by
      rw [List.range_succ,List.filter_append]
      simp [hjc]
     rw [ef,List.map_append]
     refine lh.append (Paired.mapP hls fun _ _ z=>⟨by rw [ah z.2];exact s2 _ _ z.1,z.2⟩) (.cons ⟨by rw [ah hrD];exact hr2,hrD⟩ .nil)
  ·rintro H1 ⟨s1,us,hus,hls⟩
   have L1:=L.same s1
   have hkn1:=s1 _ _ hkn
   have hul:=Paired.length hls
   rw [List.length_map] at hul
   have hfl:((List.range h.hands).filter fun g=>g != c).length<=5:=by
    refine Nat.le_trans (List.length_filter_le _ _) ?_
    rw [List.length_range]
    exact h5
   refine ⟨_,rfl,p,C,a.dx,_,_,rfl,L1.obj,T.cl,T.nh,fQ ..,_,rfl,by omega,by omega,fun E2 hE2=>?_⟩
   rw [e1]
   refine gg (fun j H'=>ay H1 H'/\H' E2=some (.lst (aL ((List.range j).map fun m=>(stable h.doings c v).getD m 0)))) ⟨ac hE2,ab⟩ ?_ ?_
   ·rintro j H2 hj ⟨s2,hEl⟩
    have ej:(0:Int)+(j:Nat)=((j:Nat):Int):=by omega
    refine ⟨rfl,dL ?_⟩
    rw [ej]
    refine ⟨_,rfl,_,rfl,(by show 1<=sizeLine;decide),fun pk hpk=>?_⟩
    have s3:=ac (o:= .lst [V.ref qk]) hpk
    refine ⟨D,pk,_,_,rfl,rfl,s3 _ _ (s2 _ _ hus),ab,?_,fun pc hpc=>?_⟩
    ·rw [List.length_map,hul,List.length_singleton]
     omega
    have s4:=ac (o:= .lst (us.map V.ref++[V.ref qk])) hpc
    generalize eH4:upd (upd H2 pk (.lst [V.ref qk])) pc (.lst (us.map V.ref++[V.ref qk]))=H4 at s4
    have hpc4:H4 pc=some (.lst ((us++[qk]).map V.ref)):=by rw [<- eH4,ab,List.map_append];rfl
    have s14:ay H1 H4:=(s2.trans s3).trans s4
    have hrows:∀ (i:Nat) (pr:Addr),(us++[qk])[i]?=some pr->∃ r,(fY h.doings c v)[i]?=some r/\H4 pr=some (.lst (aL r)):=by
     intro i pr hi
     have hul2:us.length=(((List.range v.length).filter fun g=>g != c).map fun g=>surely h.doings v g).length:=by rw [List.length_map,hvl];exact hul
     rw [List.getElem?_append] at hi
     unfold fY
     rw [List.getElem?_append,<- hul2]
     by_cases hlt:i < us.length
     ·rw [if_pos hlt] at hi ⊢
      obtain ⟨r,g1,g2⟩:=lh.get hls hi
      rw [hvl]
      exact ⟨r,g1,s14 _ _ g2⟩
     ·rw [if_neg hlt] at hi ⊢
      have h0:i - us.length=0:=by
       rcases Nat.eq_zero_or_pos (i - us.length) with z | z
       ·exact z
       ·rw [List.getElem?_eq_none (by rw [List.length_singleton];omega)] at hi
        cases hi
      rw [h0] at hi ⊢
      have:qk=pr:=by simpa using hi
      subst this
      exact ⟨v,rfl,s14 _ _ hkn1⟩
    refine ⟨pc,rfl,⟨_,SqL.of hpc4⟩,fun F2 hF2=>?_⟩
    have hrl:(us++[qk]).length=(fY h.doings c v).length:=by
     unfold fY
     rw [List.length_append,List.length_append,List.length_map,hvl,hul]
     rfl
    refine eL (K:=K) (a:=pc) (xs:=(us++[qk]).map V.ref) (fun i H'=>ay H4 H'/\H' F2=some (.lst (aL (((fY h.doings c v).take i).map fun r=>r.getD j 0)))) ⟨ac hF2,ab⟩ (fun i H' _ ⟨sm,_⟩=>SqL.of (sm _ _ hpc4)) ?_ ?_
    ·rintro i x H5 hx ⟨s5,hFl⟩
     rw [List.getElem?_map] at hx
     cases e:(us++[qk])[i]? with
     | none=>rw [e] at hx;cases hx
     | some pr=>
      rw [e] at hx
      cases hx
      obtain ⟨r,hr1,hr2⟩:=hrows i pr e
      have hil:i < (fY h.doings c v).length:=(List.getElem?_eq_some_iff.mp hr1).1
      have hrlen:r.length=h.hands:=by
       have hm:=List.mem_of_getElem? hr1
       unfold fY at hm
       rcases List.mem_append.mp hm with z | z
       ·obtain ⟨g,_,rfl⟩:=List.mem_map.mp z
        exact c6 I.ds hvl (hle g)
       ·rw [List.mem_singleton] at z
        rw [z,hvl]
      refine ⟨rfl,dL ?_⟩
      refine ⟨_,rfl,_,rfl,pr,_,_,_,rfl,rfl,SqL.of (s5 _ _ hr2),d6 (by omega),_,hFl,?_,?_⟩
      ·rw [bH,List.length_map,List.length_take]
       have:(fY h.doings c v).length<=6:=by
        rw [<- hrl,List.length_append,hul,List.length_singleton]
        omega
       omega
      ·refine ⟨fun b o e=>by rw [ah (ai e hF2)];exact s5 b o e,?_⟩
       rw [ab,List.take_add_one,hr1,List.map_append]
       unfold aL bp
       rw [List.map_append,List.map_append]
       rfl
    ·rintro H5 ⟨s5,hFl⟩
     rw [List.length_map,hrl,List.take_length,qi] at hFl
     refine ⟨F2,bp (stL h.doings c v j),rfl,SqL.of hFl,?_,fun mm hmm hmin=>?_⟩
     ·unfold bp stL
      rw [List.length_map,List.length_append,List.length_singleton]
      omega
     ·obtain ⟨x,hx1,hx2⟩:=List.mem_map.mp hmm
      subst hx2
      have hst:=rg I.ds hvl hle (c:=c) (m:=j) hx1 fun y hy=>by
       have:=hmin _ (List.mem_map.mpr ⟨y,hy,rfl⟩)
       omega
      have hE5:=s5 _ _ (s4 _ _ (s3 _ _ hEl))
      refine ⟨_,hE5,?_,?_⟩
      ·rw [bH,List.length_map,List.length_range]
       omega
      ·refine ⟨fun b o e=>by rw [ah (ai e hE2)];exact s5 _ _ (s14 b o e),?_⟩
       rw [ab,List.range_succ,List.map_append]
       unfold aL bp
       rw [List.map_append,List.map_append]
       simp only [List.map_cons,List.map_nil,hst]
   ·rintro H2 ⟨s2,hEl⟩
    have hl:=kZ I.ds hvl hle c
    have e3:=qE (stable h.doings c v)
    rw [hl] at e3
    rw [e3] at hEl
    exact q E2 H2 (s1.trans s2) hEl
end
theorem kR {te:TE} {σ:L2.St} {Hb:Hp} {D:Addr} {n slot:Nat} {Qd:Hp->Prop} {X:List V} (hD:Hb D=none) (hn:n<=5)
  (ht:∀ (i:Int) (H4:Hp) (R:VK),ay Hb H4->(∀ pl H5,H4 pl=none->ay H4 H5->H5 pl=some (.lst X)->R (.ref pl) H5)->te ((cw σ [slot]).set slot (some (.int i))) H4 R)
  (hd:∀ (H':Hp) (ps:List Addr),ay Hb H'->H' D=some (.lst (ps.map V.ref))->ps.length=n->(D::ps).Nodup->(∀ q,q∈D::ps->Hb q=none)->(∀ q,q∈ps->H' q=some (.lst X))->Qd H') :
  ∃ W:Nat->Nat->Hp->Prop,(∃ m,W 0 m (upd Hb D (.lst [])))/\∀ i m H,W i m H->
   ((
    Itr 0 n).stop i H/\Qd H)\/((Itr 0 n).go i H/\∃ Nx:Hp->Prop,(∀ H',Nx H'->∃ m',m' < m/\W (i+1) m' H')/\∀ x H',(Itr 0 n).yld i H x H'->g0 slot x (cw σ [slot]) H' fun σ2 H2=>cw σ2 [slot]=cw σ [slot]/\hJ σ2 H2 fun b H3=>
    if b=true then te σ2 H3 fun y H4=>∃ acc,H4 D=some (.lst acc)/\acc.length < sizeLine/\Nx (upd H4 D (.lst (acc++[y]))) else Nx H3):=by
 refine gg (fun i H'=>ay Hb H'/\∃ ps:List Addr,H' D=some (.lst (ps.map V.ref))/\ps.length=i/\(D::ps).Nodup/\(∀ q,q∈D::ps->Hb q=none)/\∀ q,q∈ps->H' q=some (.lst X))
  ⟨ac hD,[],ab,rfl,by simp,fun q hq=>by rw [List.mem_singleton.mp hq];exact hD,fun q hq=>by cases hq⟩ ?_ ?_
 ·rintro i H' hi ⟨sm,ps,h1,h2,h3,h4,h5⟩
  refine ⟨by unfold cw;simp [List.set_set,cw],dL ?_⟩
  refine ht _ H' _ sm fun pl H5 hpl s5 hX=>?_
  have hDl:=s5 _ _ h1
  have nD:D≠pl:=ai h1 hpl
  refine ⟨_,hDl,?_,?_⟩
  ·rw [List.length_map,h2]
   have:6<=sizeLine:=by decide
   omega
  ·have hb:Hb pl=none:=sm.free hpl
   refine ⟨fun b o e=>by rw [ah (ai e hD)];exact s5 _ _ (sm b o e),ps++[pl],by rw [ab,List.map_append];rfl,by rw [List.length_append,h2];rfl,?_,fun q hq=>?_,fun q hq=>?_⟩
   ·have hnp:pl∉D::ps:=fun z=>by
     rcases List.mem_cons.mp z with z | z
     ·exact nD z.symm
     ·have:=h5 pl z
      rw [hpl] at this
      cases this
    rw [<- List.cons_append]
    refine List.nodup_append.mpr ⟨h3,by simp,fun x hx y hy=>?_⟩
    rw [List.mem_singleton] at hy
    subst hy
    exact fun z=>hnp (z ▸ hx)
   ·rw [<- List.cons_append] at hq
    rcases List.mem_append.mp hq with z | z
    ·exact h4 q z
    ·rw [List.mem_singleton.mp z];exact hb
   ·have hqD:q≠D:=by
     rcases List.mem_append.mp hq with z | z
     ·exact fun e=>(List.nodup_cons.mp h3).1 (e ▸ z)
     ·rw [List.mem_singleton.mp z];exact nD.symm
    rw [ah hqD]
    rcases List.mem_append.mp hq with z | z
    ·exact s5 _ _ (h5 q z)
    ·rw [List.mem_singleton.mp z];exact hX
 ·rintro H' ⟨sm,ps,h1,h2,h3,h4,h5⟩
  exact hd H' ps sm h1 h2 h3 h4 h5
def iW (n len:Nat):House:={ hands:=n,length:=len,doings:=List.replicate n [],copies:=List.replicate n { known:=List.replicate n 0 } }
section
abbrev xQ:Stmt:=aS (top 14) 1
def uy (C Cd:Addr):Sp:=fun vs H Q _=>∃ (p dx:Addr) (fs:List (Str×V)) (n len:Nat),vs=[.ref p,.int (n:Int),.int (len:Int)]/\H p=some (.ins C dx fs)/\(fs=[]\/∃ h D N W B,fs=lFs h D N W B)/\n<=5/\
 ∀ (H':Hp) (a:LA),aw C Cd H' p (iW n len) a->(∀ b o,H b=some o->b≠p->H' b=some o)->(∀ b,b∈a.mut->H b=none)->Q .non H'
theorem kW:aq ["self","hands","length","hand"] ["self","hands","length"] (al xQ):=⟨rfl,rfl,rfl,by decide +kernel,rfl,by decide +kernel,by decide +kernel⟩
theorem wV {f C Cd:Addr} {fd:FuncData} (F:Fun K "begin" "Line.begin" xQ f fd) (T:cR K C) (B:Blt mg):az P w K mg base CX0 1 f fd ["self","hands","length"] (uy C Cd):=by
 refine F.ok kW (fun vs H Q E h=>?_) (fun cdv A outer s H vs Q E hr h=>?_)
 ·obtain ⟨p,dx,fs,n,len,rfl,_⟩:=h
  rfl
 ·obtain ⟨p,dx,fs,n,len,rfl,hp,hfs,hn,q⟩:=h
  refine ⟨_,ag (cI (pv 0) (pv 1) rfl) (ag (cI (pv 0) (pv 2) rfl)
   (ag (cI (pv 0) (dD (own:=[("hand",3)]) (tt:=hJ) (te:=lT cF) rfl kW.nd (dQ rfl B.range (aa (pv 1) ad)) (bO rfl) (fun _ _ _ _ _=>aK (i:=3) kW.nd rfl (Or.inl rfl)) (fun _ _ _ _ _=>cT) (fun _ _ _ _ _=>aJ ad)) rfl)
   (ag (cI (pv 0) (dD (own:=[("hand",3)]) (tt:=hJ) (te:=tOp Co (lT (aY (tC (.int 0)) cF)) (aV 1)) rfl kW.nd (dQ rfl B.range (aa (pv 1) ad)) (bO rfl) (fun _ _ _ _ _=>aK (i:=3) kW.nd rfl (Or.inl rfl)) (fun _ _ _ _ _=>cT) (fun _ _ _ _ _=>bZ rn (aJ (aa am ad)) (pv 1))) rfl)
   (ag (cI (pv 0) (dD (own:=[("hand",3)]) (tt:=hJ) (te:=lT cF) rfl kW.nd (dQ rfl B.range (aa (pv 1) ad)) (bO rfl) (fun _ _ _ _ _=>aK (i:=3) kW.nd rfl (Or.inl rfl)) (fun _ _ _ _ _=>cT) (fun _ _ _ _ _=>aJ ad)) rfl)
   (aj (cI (pv 0) (aJ ad) rfl)))))),?_⟩
  have hl:fs.length<=6:=by
   rcases hfs with rfl | ⟨h,D,N,W,B',rfl⟩
   ·exact Nat.zero_le _
   ·exact Nat.le_refl _
  have lp:∀ (f:Str) (v:V) (gs:List (Str×V)) (m:Nat),gs.length<=m->(bX f v gs).length<=m+1:=fun f v gs m h=>Nat.le_trans (gX f v gs) (Nat.succ_le_succ h)
  refine ⟨_,rfl,_,rfl,p,C,dx,_,rfl,hp,T.cl,T.nh,Nat.lt_of_le_of_lt hl (by decide),?_⟩
  refine ⟨_,rfl,_,rfl,p,C,dx,_,rfl,ab,T.cl,T.nl,Nat.lt_of_le_of_lt (lp _ _ _ 6 hl) (by decide),?_⟩
  have k2:∀ b o,H b=some o->b≠p->upd (upd H p (.ins C dx (bX "hands" (.int (n:Int)) fs))) p (.ins C dx (bX "length" (.int (len:Int)) (bX "hands" (.int (n:Int)) fs))) b=some o:=fun b o e hb=>by rw [ah hb,ah hb];exact e
  have hp2:upd (upd H p (.ins C dx (bX "hands" (.int (n:Int)) fs))) p (.ins C dx (bX "length" (.int (len:Int)) (bX "hands" (.int (n:Int)) fs))) p=some (.ins C dx (bX "length" (.int (len:Int)) (bX "hands" (.int (n:Int)) fs))):=ab
  have n2:∀ b,upd (upd H p (.ins C dx (bX "hands" (.int (n:Int)) fs))) p (.ins C dx (bX "length" (.int (len:Int)) (bX "hands" (.int (n:Int)) fs))) b=none->H b=none:=fun b e=>by
   by_cases hb:b=p
   ·subst hb;rw [hp2] at e;cases e
   ·rw [ah hb,ah hb] at e;exact e
  have l2:=lp "length" (.int (len:Int)) _ 7 (lp "hands" (.int (n:Int)) fs 6 hl)
  generalize upd (upd H p (.ins C dx (bX "hands" (.int (n:Int)) fs))) p (.ins C dx (bX "length" (.int (len:Int)) (bX "hands" (.int (n:Int)) fs)))=H2 at k2 hp2 n2 ⊢
  have tn:((n:Nat):Int).toNat=n:=Int.toNat_natCast n
  have e5:-(2 ^ 62)<=((n:Nat):Int):=by omega
  have e6:((n:Nat):Int) < 2 ^ 62:=by omega
  have mkL:∀ (i:Int) (H4:Hp) (R:VK) (σ:L2.St),(∀ pl H5,H4 pl=none->ay H4 H5->H5 pl=some (.lst [])->R (.ref pl) H5)->lT cF σ H4 R:=fun i H4 R σ k=>⟨Nat.zero_le _,fun pl hpl=>k pl _ hpl (ac hpl) ab⟩
  refine ⟨_,rfl,_,rfl,e5,e6,fun D hD=>?_⟩
  rw [tn]
  refine kR (X:=[]) hD hn (fun i H4 R _ k=>mkL i H4 R _ k) fun H3 owns s3 d1 d2 d3 d4 d5=>?_
  have hp3:=s3 _ _ hp2
  refine ⟨_,rfl,p,C,dx,_,rfl,hp3,T.cl,T.nd,Nat.lt_of_le_of_lt l2 (by decide),?_⟩
  have l3:=lp "doings" (.ref D) _ 8 l2
  have ne3:∀ {b:Addr} {xs:List V},H3 b=some (.lst xs)->b≠p:=fun e=>bS e hp3 (by intro z;cases z)
  have k3:∀ b o,H b=some o->b≠p->upd H3 p (.ins C dx (bX "doings" (.ref D) (bX "length" (.int (len:Int)) (bX "hands" (.int (n:Int)) fs)))) b=some o:=fun b o e hb=>by rw [ah hb];exact s3 _ _ (k2 b o e hb)
  have hp3':upd H3 p (.ins C dx (bX "doings" (.ref D) (bX "length" (.int (len:Int)) (bX "hands" (.int (n:Int)) fs)))) p=some (.ins C dx (bX "doings" (.ref D) (bX "length" (.int (len:Int)) (bX "hands" (.int (n:Int)) fs)))):=ab
  have m3:∀ b xs,H3 b=some (.lst xs)->upd H3 p (.ins C dx (bX "doings" (.ref D) (bX "length" (.int (len:Int)) (bX "hands" (.int (n:Int)) fs)))) b=some (.lst xs):=fun b xs e=>by rw [ah (ne3 e)];exact e
  have n3:∀ b,upd H3 p (.ins C dx (bX "doings" (.ref D) (bX "length" (.int (len:Int)) (bX "hands" (.int (n:Int)) fs)))) b=none->H3 b=none:=fun b e=>by
   by_cases hb:b=p
   ·subst hb;rw [hp3'] at e;cases e
   ·rw [ah hb] at e;exact e
  generalize upd H3 p (.ins C dx (bX "doings" (.ref D) (bX "length" (.int (len:Int)) (bX "hands" (.int (n:Int)) fs))))=H4 at k3 hp3' m3 n3 ⊢
  refine ⟨_,rfl,_,rfl,e5,e6,fun N hN=>?_⟩
  rw [tn]
  refine kR (X:=aL (List.replicate n 0)) hN hn (fun i Hx R _ k=>?_) fun H5 knowns s5 g1 g2 g3 g4 g5=>?_
  ·refine ⟨(by show 1<=sizeLine;decide),fun p0 hp0=>⟨_,rfl,p0,_,_,rfl,rfl,ab,by omega,by omega,(by show 1 * _<=_;rw [Nat.one_mul,tn];exact Nat.le_trans hn (by decide)),fun r hr2=>?_⟩⟩
   refine k r _ ((ac hp0).free hr2) ((ac hp0).trans (ac hr2)) ?_
   rw [ab,tn,km]
   unfold aL bp
   rw [List.map_replicate,List.map_replicate]
   rfl
  have hp5:=s5 _ _ hp3'
  refine ⟨_,rfl,p,C,dx,_,rfl,hp5,T.cl,T.nk,Nat.lt_of_le_of_lt l3 (by decide),?_⟩
  have l4:=lp "known" (.ref N) _ 9 l3
  generalize hf4:bX "known" (.ref N) (bX "doings" (.ref D) (bX "length" (.int (len:Int)) (bX "hands" (.int (n:Int)) fs)))=f4 at l4 ⊢
  have ne5:∀ {b:Addr} {xs:List V},H5 b=some (.lst xs)->b≠p:=fun e=>bS e hp5 (by intro z;cases z)
  have k5:∀ b o,H b=some o->b≠p->upd H5 p (.ins C dx f4) b=some o:=fun b o e hb=>by rw [ah hb];exact s5 _ _ (k3 b o e hb)
  have hp5':upd H5 p (.ins C dx f4) p=some (.ins C dx f4):=ab
  have m5:∀ b xs,H5 b=some (.lst xs)->upd H5 p (.ins C dx f4) b=some (.lst xs):=fun b xs e=>by rw [ah (ne5 e)];exact e
  have n5:∀ b,upd H5 p (.ins C dx f4) b=none->H5 b=none:=fun b e=>by
   by_cases hb:b=p
   ·subst hb;rw [hp5'] at e;cases e
   ·rw [ah hb] at e;exact e
  generalize upd H5 p (.ins C dx f4)=H6 at k5 hp5' m5 n5 ⊢
  refine ⟨_,rfl,_,rfl,e5,e6,fun W hW=>?_⟩
  rw [tn]
  refine kR (X:=[]) hW hn (fun i Hx R _ k=>mkL i Hx R _ k) fun H7 waits s7 w1 w2 w3 w4 w5=>?_
  have hp7:=s7 _ _ hp5'
  refine ⟨_,rfl,p,C,dx,_,rfl,hp7,T.cl,T.nw,Nat.lt_of_le_of_lt l4 (by decide),?_⟩
  have l5:=lp "waiting" (.ref W) _ 10 l4
  generalize hf5:bX "waiting" (.ref W) f4=f5 at l5 ⊢
  have ne7:∀ {b:Addr} {xs:List V},H7 b=some (.lst xs)->b≠p:=fun e=>bS e hp7 (by intro z;cases z)
  have k7:∀ b o,H b=some o->b≠p->upd H7 p (.ins C dx f5) b=some o:=fun b o e hb=>by rw [ah hb];exact s7 _ _ (k5 b o e hb)
  have hp7':upd H7 p (.ins C dx f5) p=some (.ins C dx f5):=ab
  have m7:∀ b xs,H7 b=some (.lst xs)->upd H7 p (.ins C dx f5) b=some (.lst xs):=fun b xs e=>by rw [ah (ne7 e)];exact e
  have n7:∀ b,upd H7 p (.ins C dx f5) b=none->H7 b=none:=fun b e=>by
   by_cases hb:b=p
   ·subst hb;rw [hp7'] at e;cases e
   ·rw [ah hb] at e;exact e
  generalize upd H7 p (.ins C dx f5)=H8 at k7 hp7' m7 n7 ⊢
  refine ⟨Nat.zero_le _,fun Bg hBg=>?_⟩
  have hp9:upd H8 Bg (.lst []) p=some (.ins C dx f5):=ac hBg _ _ hp7'
  refine ⟨_,rfl,p,C,dx,_,rfl,hp9,T.cl,T.nb,Nat.lt_of_le_of_lt l5 (by decide),?_⟩
  have nBp:Bg≠p:=(ai hp7' hBg).symm
  have up:∀ b xs,H8 b=some (.lst xs)->upd (upd H8 Bg (.lst [])) p (.ins C dx (bX "bag" (.ref Bg) f5)) b=some (.lst xs):=fun b xs e=>by
   rw [ah (bS e hp7' (by intro z;cases z)),ah (ai e hBg)];exact e
  have u3:∀ b xs,H3 b=some (.lst xs)->H8 b=some (.lst xs):=fun b xs e=>m7 _ _ (s7 _ _ (m5 _ _ (s5 _ _ (m3 _ _ e))))
  have u5:∀ b xs,H5 b=some (.lst xs)->H8 b=some (.lst xs):=fun b xs e=>m7 _ _ (s7 _ _ (m5 _ _ e))
  have u7:∀ b xs,H7 b=some (.lst xs)->H8 b=some (.lst xs):=fun b xs e=>m7 _ _ e
  have fD:∀ b,b∈D::owns->∃ xs,H3 b=some (.lst xs):=fun b hb=>by
   rcases List.mem_cons.mp hb with z | z
   ·subst z;exact ⟨_,d1⟩
   ·exact ⟨_,d5 b z⟩
  have fN:∀ b,b∈N::knowns->∃ xs,H5 b=some (.lst xs):=fun b hb=>by
   rcases List.mem_cons.mp hb with z | z
   ·subst z;exact ⟨_,g1⟩
   ·exact ⟨_,g5 b z⟩
  have fW:∀ b,b∈W::waits->∃ xs,H7 b=some (.lst xs):=fun b hb=>by
   rcases List.mem_cons.mp hb with z | z
   ·subst z;exact ⟨_,w1⟩
   ·exact ⟨_,w5 b z⟩
  have xDN:∀ b c,b∈D::owns->c∈N::knowns->b≠c:=fun b c hb hc=>by
   obtain ⟨xs,e⟩:=fD b hb
   exact ai (m3 _ _ e) (g4 c hc)
  have xDW:∀ b c,b∈D::owns->c∈W::waits->b≠c:=fun b c hb hc=>by
   obtain ⟨xs,e⟩:=fD b hb
   exact ai (m5 _ _ (s5 _ _ (m3 _ _ e))) (w4 c hc)
  have xNW:∀ b c,b∈N::knowns->c∈W::waits->b≠c:=fun b c hb hc=>by
   obtain ⟨xs,e⟩:=fN b hb
   exact ai (m5 _ _ e) (w4 c hc)
  have xB:∀ b,b∈D::owns\/b∈N::knowns\/b∈W::waits->b≠Bg:=fun b hb=>by
   rcases hb with z | z | z
   ·obtain ⟨xs,e⟩:=fD b z;exact ai (u3 _ _ e) hBg
   ·obtain ⟨xs,e⟩:=fN b z;exact ai (u5 _ _ e) hBg
   ·obtain ⟨xs,e⟩:=fW b z;exact ai (u7 _ _ e) hBg
  have c0:∀ {x:Addr} {l:List Addr},x∈x::l:=fun {x l}=>List.mem_cons_self ..
  have cs:∀ {x y:Addr} {l:List Addr},x∈l->x∈y::l:=fun h=>List.mem_cons_of_mem _ h
  obtain ⟨dn1,dn2⟩:=List.nodup_cons.mp d3
  obtain ⟨gn1,gn2⟩:=List.nodup_cons.mp g3
  obtain ⟨wn1,wn2⟩:=List.nodup_cons.mp w3
  refine q _ ⟨dx,D,N,W,Bg,owns,knowns,waits⟩ ?_ ?_ ?_
  ·refine ⟨?_,up _ _ (u3 _ _ d1),up _ _ (u5 _ _ g1),up _ _ (u7 _ _ w1),by rw [d2];exact (List.length_replicate ..).symm,by rw [g2];exact (List.length_replicate ..).symm,by rw [w2];exact (List.length_replicate ..).symm,fun c r o z1 z2=>?_,fun c r x z1 z2=>?_,fun c r x z1 z2=>?_,⟨[],?_,.nil⟩,?_⟩
   ·rw [ab,<- hf5,<- hf4]
    rcases hfs with rfl | ⟨h,D',N',W',B',rfl⟩
    ·kernel_rfl
    ·kernel_rfl
   ·have z2:(List.replicate n ([]:List Doing))[c]?=some o:=z2
    rw [List.getElem?_replicate] at z2
    split at z2
    ·cases z2
     exact ⟨[],up _ _ (u3 _ _ (d5 r (List.mem_of_getElem? z1))),rfl,fun k p' d' e=>by simp at e⟩
    ·cases z2
   ·have z2:(List.replicate n ({ known:=List.replicate n 0 }:Copy))[c]?=some x:=z2
    rw [List.getElem?_replicate] at z2
    split at z2
    ·cases z2
     exact up _ _ (u5 _ _ (g5 r (List.mem_of_getElem? z1)))
    ·cases z2
   ·have z2:(List.replicate n ({ known:=List.replicate n 0 }:Copy))[c]?=some x:=z2
    rw [List.getElem?_replicate] at z2
    split at z2
    ·cases z2
     exact ⟨[],up _ _ (u7 _ _ (w5 r (List.mem_of_getElem? z1))),.nil⟩
    ·cases z2
   ·rw [ah nBp,ab];rfl
   ·show (D::N::W::Bg::(owns++(knowns++waits))).Nodup
    have mo:∀ {x:Addr},x∈owns->x∈D::owns:=cs
    refine List.nodup_cons.mpr ⟨fun z=>?_,List.nodup_cons.mpr ⟨fun z=>?_,List.nodup_cons.mpr ⟨fun z=>?_,List.nodup_cons.mpr ⟨fun z=>?_,List.nodup_append.mpr ⟨dn2,List.nodup_append.mpr ⟨gn2,wn2,fun x hx y hy=>xNW x y (cs hx) (cs hy)⟩,fun x hx y hy=>?_⟩⟩⟩⟩⟩
    ·simp only [List.mem_cons,List.mem_append] at z
     rcases z with z | z | z | z | z | z
     ·exact xDN D N c0 c0 z
     ·exact xDW D W c0 c0 z
     ·exact xB D (.inl c0) z
     ·exact dn1 z
     ·exact xDN D D c0 (cs z) rfl
     ·exact xDW D D c0 (cs z) rfl
    ·simp only [List.mem_cons,List.mem_append] at z
     rcases z with z | z | z | z | z
     ·exact xNW N W c0 c0 z
     ·exact xB N (.inr (.inl c0)) z
     ·exact xDN N N (cs z) c0 rfl
     ·exact gn1 z
     ·exact xNW N N c0 (cs z) rfl
    ·simp only [List.mem_cons,List.mem_append] at z
     rcases z with z | z | z | z
     ·exact xB W (.inr (.inr c0)) z
     ·exact xDW W W (cs z) c0 rfl
     ·exact xNW W W (cs z) c0 rfl
     ·exact wn1 z
    ·simp only [List.mem_append] at z
     rcases z with z | z | z
     ·exact xB Bg (.inl (cs z)) rfl
     ·exact xB Bg (.inr (.inl (cs z))) rfl
     ·exact xB Bg (.inr (.inr (cs z))) rfl
    ·rcases List.mem_append.mp hy with z | z
     ·exact xDN x y (cs hx) (cs z)
     ·exact xDW x y (cs hx) (cs z)
  ·intro b o e hb
   rw [ah hb,ah (ai (k7 b o e hb) hBg)]
   exact k7 b o e hb
  ·intro b hb
   have gD:∀ b,b∈D::owns->H b=none:=fun b hb=>n2 b (d4 b hb)
   have gN:∀ b,b∈N::knowns->H b=none:=fun b hb=>n2 b (s3.free (n3 b (g4 b hb)))
   have gW:∀ b,b∈W::waits->H b=none:=fun b hb=>n2 b (s3.free (n3 b (s5.free (n5 b (w4 b hb)))))
   have hb:b∈D::N::W::Bg::(owns++(knowns++waits)):=hb
   simp only [List.mem_cons,List.mem_append] at hb
   rcases hb with z | z | z | z | z | z | z
   ·subst z;exact gD _ c0
   ·subst z;exact gN _ c0
   ·subst z;exact gW _ c0
   ·subst z;exact n2 _ (s3.free (n3 _ (s5.free (n5 _ (s7.free (n7 _ hBg))))))
   ·exact gD _ (cs z)
   ·exact gN _ (cs z)
   ·exact gW _ (cs z)
end
section
abbrev sLI:Stmt:=aS (top 14) 0
def Dk (C Cd:Addr):Sp:=fun vs H Q _=>∃ (p dx:Addr),vs=[.ref p]/\H p=some (.ins C dx [])/\
 ∀ (H':Hp) (a:LA),aw C Cd H' p (iW 0 0) a->(∀ b o,H b=some o->b≠p->H' b=some o)->(∀ b,b∈a.mut->H b=none)->Q .non H'
theorem DX:aq ["self"] ["self"] (al sLI):=⟨rfl,rfl,rfl,by decide +kernel,rfl,by decide +kernel,by decide +kernel⟩
theorem CV {f fb C Cd:Addr} {fd fdb:FuncData} (F:Fun K "__init__" "Line.__init__" sLI f fd) (Fb:Fun K "begin" "Line.begin" xQ fb fdb) (bb:aG K fdb ["self","hands","length"] []) (mb:jF K C "begin" fb)
  (T:cR K C) (B:Blt mg):az P w K mg base CX0 2 f fd ["self"] (Dk C Cd):=by
 have GB:az P w K mg base CX0 1 fb fdb ["self","hands","length"] (uy C Cd):=wV Fb T B
 refine F.ok DX (fun vs H Q E h=>?_) (fun cdv A outer s H vs Q E hr h=>?_)
 ·obtain ⟨p,dx,rfl,_⟩:=h
  rfl
 ·obtain ⟨p,dx,rfl,hp,q⟩:=h
  refine ⟨_,aj (cB (ot (pv 0) T.cl mb GB hr bb .nil aD (aa am (aa am ad)))),?_⟩
  exact ⟨_,rfl,p,dx,_,rfl,hp,rfl,p,dx,[],0,0,rfl,hp,.inl rfl,by decide,fun H' a L k1 k2=>q H' a L k1 k2⟩
def rFs (l:Addr) (i:Nat):List (Str×V):=[("numbers",.ref l),("place",.int (i:Int))]
theorem jO (l:Addr) (i:Nat):(rFs l i).lookup ("numbers" : Str)=some (.ref l):=by kernel_rfl
theorem i3 (l:Addr) (i:Nat):(rFs l i).lookup ("place" : Str)=some (.int (i:Int)):=by kernel_rfl
structure oU (K:PySem.W.Frag) (C:Addr):Prop where
 cl:Cls K C
 nn:cf K C "numbers"
 np:cf K C "place"
structure dI (K:PySem.W.Frag) (C:Addr) (H:Hp) (r l:Addr) (ns:List Int) (i:Nat):Prop where
 obj:∃ dx,H r=some (.ins C dx (rFs l i))
 num:SqL K H l (ns.map V.int)
theorem gm {K:PySem.W.Frag} {H:Hp} {r l C dx:Addr} {fs:List (Str×V)} {o:HO} {xs:List V} (hr:H r=some (.ins C dx fs)) (h:SqL K H l xs):SqL K (upd H r o) l xs:=by
 rcases h with (h | ⟨ob,h⟩) | h
 ·exact .inl (.inl (by rw [ah (bS h hr (by intro z;cases z))];exact h))
 ·exact .inl (.inr ⟨ob,by rw [ah (bS h hr (by intro z;cases z))];exact h⟩)
 ·exact .inr h
abbrev sRI:Stmt:=aS (top 86) 0
def Cu (K:PySem.W.Frag) (C:Addr):Sp:=fun vs H Q _=>∃ (r dx l:Addr) (ns:List Int),vs=[.ref r,.ref l]/\H r=some (.ins C dx [])/\SqL K H l (ns.map V.int)/\
 ∀ H',dI K C H' r l ns 0->(∀ b o,H b=some o->b≠r->H' b=some o)->Q .non H'
theorem DG:aq ["self","numbers"] ["self","numbers"] (al sRI):=⟨rfl,rfl,rfl,by decide +kernel,rfl,by decide +kernel,by decide +kernel⟩
theorem A6 {f C:Addr} {fd:FuncData} (F:Fun K "__init__" "Reader.__init__" sRI f fd) (T:oU K C):az P w K mg base CX0 1 f fd ["self","numbers"] (Cu K C):=by
 refine F.ok DG (fun vs H Q E h=>?_) (fun cdv A outer s H vs Q E hr h=>?_)
 ·obtain ⟨r,dx,l,ns,rfl,_⟩:=h
  rfl
 ·obtain ⟨r,dx,l,ns,rfl,hr0,hs,q⟩:=h
  refine ⟨_,ag (cI (pv 0) (pv 1) rfl) (aj (cI (pv 0) am rfl)),?_⟩
  refine ⟨_,rfl,_,rfl,r,C,dx,_,rfl,hr0,T.cl,T.nn,(by show 0 < 1000;decide),?_⟩
  refine ⟨_,rfl,r,C,dx,_,rfl,ab,T.cl,T.np,(by show 1 < 1000;decide),?_⟩
  refine q _ ⟨⟨dx,by rw [ab];kernel_rfl⟩,gm ab (gm hr0 hs)⟩ fun b o e hb=>by rw [ah hb,ah hb];exact e
abbrev sAE:Stmt:=aS (top 86) 1
def CK (K:PySem.W.Frag) (C:Addr):Sp:=fun vs H Q _=>∃ (r l:Addr) (ns:List Int) (i:Nat),vs=[.ref r]/\dI K C H r l ns i/\Q (.bl (decide (i=ns.length))) H
theorem Dy:aq ["self"] ["self"] (al sAE):=⟨rfl,rfl,rfl,by decide +kernel,rfl,by decide +kernel,by decide +kernel⟩
theorem Be {f C:Addr} {fd:FuncData} (F:Fun K "at_end" "Reader.at_end" sAE f fd) (T:oU K C) (B:Blt mg):az P w K mg base CX0 1 f fd ["self"] (CK K C):=by
 refine F.ok Dy (fun vs H Q E h=>?_) (fun cdv A outer s H vs Q E hr h=>?_)
 ·obtain ⟨r,l,ns,i,rfl,_⟩:=h
  rfl
 ·obtain ⟨r,l,ns,i,rfl,⟨⟨dx,hr0⟩,hs⟩,q⟩:=h
  refine ⟨_,aj (ap (fI dJ (ao (pv 0) rfl) (bM bC rfl B.len PySem.boot_len (aa (ao (pv 0) rfl) ad)) (aX _))),?_⟩
  refine ⟨_,rfl,r,C,dx,_,_,rfl,hr0,T.cl,T.np,i3 ..,_,rfl,r,C,dx,_,_,rfl,hr0,T.cl,T.nn,jO ..,l,_,rfl,.inl hs,rfl,?_⟩
  have e:decide (V.int (i:Int)=V.int ((ns.map V.int).length:Int))=decide (i=ns.length):=by
   rw [decide_eq_decide,List.length_map]
   constructor
   ·intro z;have:=V.int.inj z;omega
   ·intro z;rw [z]
  rw [e]
  exact q
abbrev sTN:Stmt:=aS (top 86) 2
def x6 (K:PySem.W.Frag) (C:Addr):Sp:=fun vs H Q _=>∃ (r l:Addr) (ns:List Int) (i:Nat) (z:Int),vs=[.ref r]/\dI K C H r l ns i/\ns[i]?=some z/\
 ∀ H',dI K C H' r l ns (i+1)->(∀ b o,H b=some o->b≠r->H' b=some o)->Q (.int z) H'
theorem BY:aq ["self","number"] ["self"] (al sTN):=⟨rfl,rfl,rfl,by decide +kernel,rfl,by decide +kernel,by decide +kernel⟩
theorem wn {f C:Addr} {fd:FuncData} (F:Fun K "take_number" "Reader.take_number" sTN f fd) (T:oU K C):az P w K mg base CX0 1 f fd ["self"] (x6 K C):=by
 refine F.ok BY (fun vs H Q E h=>?_) (fun cdv A outer s H vs Q E hr h=>?_)
 ·obtain ⟨r,l,ns,i,z,rfl,_⟩:=h
  rfl
 ·obtain ⟨r,l,ns,i,z,rfl,⟨⟨dx,hr0⟩,hs⟩,hz,q⟩:=h
  refine ⟨_,ag (aB (i:=1) BY.nd rfl (Or.inl rfl) (ax aE (ao (pv 0) rfl) (ao (pv 0) rfl) (fun _ _=>rfl)))
   (ag (ur (pv 0) am AM) (aj (ap (pv 1)))),?_⟩
  refine ⟨_,rfl,r,C,dx,_,_,rfl,hr0,T.cl,T.nn,jO ..,_,rfl,r,C,dx,_,_,rfl,hr0,T.cl,T.np,i3 ..,l,_,_,_,rfl,rfl,hs,b7 (j:=i) (v:=V.int z) rfl (by rw [List.getElem?_map,hz];rfl),?_⟩
  refine ⟨_,rfl,r,C,dx,_,_,rfl,hr0,T.cl,T.np,i3 ..,_,_,rfl,rfl,dx,_,hr0,(by show 2 < 1000;decide),?_⟩
  refine ⟨_,rfl,?_⟩
  refine q _ ⟨⟨dx,?_⟩,gm hr0 hs⟩ fun b o e hb=>by rw [ah hb];exact e
  rw [ab]
  have e1:(i:Int)+1=((i+1:Nat):Int):=by omega
  rw [e1]
  kernel_rfl
abbrev sTR:Stmt:=aS (top 86) 3
def Cg (K:PySem.W.Frag) (C:Addr):Sp:=fun vs H Q _=>∃ (r l:Addr) (ns:List Int) (i n:Nat),vs=[.ref r]/\dI K C H r l ns i/\ns[i]?=some ((n:Nat):Int)/\i+1+n<=ns.length/\ns.length<=16000/\
 ∀ H' t,dI K C H' r l ns (i+1+n)->(∀ b o,H b=some o->b≠r->H' b=some o)->H' t=some (.tup (((ns.drop (i+1)).take n).map V.int))->Q (.ref t) H'
theorem zR:aq ["self","size","start"] ["self"] (al sTR):=⟨rfl,rfl,rfl,by decide +kernel,rfl,by decide +kernel,by decide +kernel⟩
theorem Bb {f ft C:Addr} {fd fdt:FuncData} (F:Fun K "take_row" "Reader.take_row" sTR f fd) (Ft:Fun K "take_number" "Reader.take_number" sTN ft fdt) (bt:aG K fdt ["self"] []) (mt:jF K C "take_number" ft)
  (T:oU K C) (B:Blt mg):az P w K mg base CX0 2 f fd ["self"] (Cg K C):=by
 have GT:az P w K mg base CX0 1 ft fdt ["self"] (x6 K C):=wn Ft T
 refine F.ok zR (fun vs H Q E h=>?_) (fun cdv A outer s H vs Q E hr h=>?_)
 ·obtain ⟨r,l,ns,i,n,rfl,_⟩:=h
  rfl
 ·obtain ⟨r,l,ns,i,n,rfl,R0,hz,hle,h16,q⟩:=h
  obtain ⟨⟨dx,hr0⟩,hs⟩:=R0
  refine ⟨_,ag (aB (i:=1) zR.nd rfl (Or.inl rfl) (gR (pv 0) T.cl mt GT hr bt .nil aD))
   (ag (aB (i:=2) zR.nd rfl (Or.inl rfl) (ao (pv 0) rfl))
   (ag (cI (pv 0) (bZ iL (pv 2) (pv 1)) rfl)
   (aj (ap (dZ fZ rfl B.tuple (by kernel_rfl) (aa (b8 oh (ao (pv 0) rfl) (ck (pv 2)) (ck (ao (pv 0) rfl))) ad)))))),?_⟩
  refine ⟨_,rfl,r,dx,_,rfl,hr0,(by kernel_rfl),r,l,ns,i,_,rfl,⟨⟨dx,hr0⟩,hs⟩,hz,fun H1 R1 k1=>?_⟩
  obtain ⟨⟨dx1,hr1⟩,hs1⟩:=R1
  refine ⟨_,rfl,r,C,dx1,_,_,rfl,hr1,T.cl,T.np,i3 ..,?_⟩
  refine ⟨_,rfl,_,rfl,_,_,rfl,rfl,_,rfl,r,C,dx1,_,rfl,hr1,T.cl,T.np,(by show 2 < 1000;decide),?_⟩
  have e1:((i+1:Nat):Int)+((n:Nat):Int)=((i+1+n:Nat):Int):=by omega
  dsimp only
  rw [e1]
  have e2:bX "place" (.int ((i+1+n:Nat):Int)) (rFs l (i+1))=rFs l (i+1+n):=by kernel_rfl
  rw [e2]
  have hs2:SqL K (upd H1 r (.ins C dx1 (rFs l (i+1+n)))) l (ns.map V.int):=gm hr1 hs1
  refine ⟨_,rfl,r,C,dx1,_,_,rfl,ab,T.cl,T.nn,jO ..,_,rfl,_,rfl,_,rfl,r,C,dx1,_,_,rfl,ab,T.cl,T.np,i3 ..,_,rfl,l,_,rfl,hs2,fun t1 ht1=>?_⟩
  refine ⟨t1,_,rfl,.inl ⟨SqL.of ab,fun t ht=>?_⟩⟩
  refine q _ t ⟨⟨dx1,?_⟩,?_⟩ ?_ ?_
  ·exact ac ht _ _ (ac ht1 _ _ ab)
  ·exact (ac ht).seq ((ac ht1).seq hs2)
  ·intro b o e hb
   exact ac ht _ _ (ac ht1 _ _ (by rw [ah hb];exact k1 b o e hb))
  ·rw [ab]
   have e3:dG (ns.map V.int) (some ((i+1:Nat):Int)) (some ((i+1+n:Nat):Int))=((ns.drop (i+1)).take n).map V.int:=by
    unfold dG
    rw [HT.sIx_nat,HT.sIx_nat,List.length_map,Nat.min_eq_left (by omega),Nat.min_eq_left (by omega),List.map_take,List.map_drop]
    congr 1
    omega
   rw [e3]
end
inductive Itm where
 | num (z:Int)
 | row (l:List Int)
inductive ik (ns:List Int):Nat->List Str->List Itm->Nat->Prop
 | nil {i:Nat}:ik ns i [] [] i
 | num {i e:Nat} {k:Str} {ks:List Str} {its:List Itm} {z:Int}:k≠ "knowledge"->ns[i]?=some z->ik ns (i+1) ks its e->ik ns i (k::ks) (.num z::its) e
 | row {i e n:Nat} {k:Str} {ks:List Str} {its:List Itm}:k = "knowledge"->ns[i]?=some ((n:Nat):Int)->i+1+n<=ns.length->ik ns (i+1+n) ks its e->ik ns i (k::ks) (.row ((ns.drop (i+1)).take n)::its) e
def gC (H:Hp) (v:V):Itm->Prop
 | .num z=>v = .int z
 | .row l=>∃ t,v = .ref t/\H t=some (.tup (l.map V.int))
def cV (H:Hp):List V->List Itm->Prop:=Paired (gC H)
theorem gC.keep {H H':Hp} {v:V} {i:Itm} {r:Addr} {C dx:Addr} {fs:List (Str×V)} (hr:H r=some (.ins C dx fs)) (k:∀ b o,H b=some o->b≠r->H' b=some o) (h:gC H v i):gC H' v i:=by
 cases i with
 | num z=>exact h
 | row l=>
  obtain ⟨t,rfl,ht⟩:=h
  exact ⟨t,rfl,k _ _ ht (bS ht hr (by intro z;cases z))⟩
theorem gC.updL {H:Hp} {v:V} {i:Itm} {b:Addr} {xs:List V} {o:HO} (hb:H b=some (.lst xs)) (h:gC H v i):gC (upd H b o) v i:=by
 cases i with
 | num z=>exact h
 | row l=>
  obtain ⟨t,rfl,ht⟩:=h
  exact ⟨t,rfl,by rw [ah (bS ht hb (by intro z;cases z))];exact ht⟩
theorem gC.same {H H':Hp} {v:V} {i:Itm} (s:ay H H') (h:gC H v i):gC H' v i:=by
 cases i with
 | num z=>exact h
 | row l=>
  obtain ⟨t,rfl,ht⟩:=h
  exact ⟨t,rfl,s _ _ ht⟩
theorem cV.snoc {H:Hp}:∀ {vs:List V} {its:List Itm} {v:V} {i:Itm},cV H vs its->gC H v i->cV H (vs++[v]) (its++[i])
 | _,_,_,_,.nil,h=> .cons h .nil
 | _,_,_,_,.cons a t,h=> .cons a (cV.snoc t h)
def forms:List (List Str):=[["n","length"],["c","a","b","x"],["c","m","k","a","b"],["c","m","k","x"],["c","m","k"],["c","k"],["c"],["c"],["c","another"],["i"],["i"],["i"],["c"],["c"],["c"],["c"],["c","m","k"],["c","knowledge"],["c","m","k"],["c"],["c","m","k"],["c","g"],[],[]]
structure FormsOk (K:PySem.W.Frag) (w:World) (mg:Str->Option Value):Prop where
 ex:∃ aF kvs,mg "FORMS" = some (.ref aF)/\pQ K w aF kvs/\∀ (p:Nat) (ks:List Str),forms[p]?=some ks->∃ a,cx kvs (Sum.inl (p:Int))=some (.ref a)/\∀ H,SqT K H a (ks.map V.str)
theorem lZ {p:Nat} {ks:List Str} (h:forms[p]?=some ks):ks.length<=5:=by
 have:∀ x,x∈forms->x.length<=5:=by
  intro x hx
  unfold forms at hx
  simp only [List.mem_cons,List.not_mem_nil,or_false] at hx
  rcases hx with h | h | h | h | h | h | h | h | h | h | h | h | h | h | h | h | h | h | h | h | h | h | h | h <;> subst h <;> simp
 exact this ks (List.mem_of_getElem? h)
theorem sM {K:PySem.W.Frag} {H H2:Hp} {l D:Addr} {xs:List V} {o:HO} (h0:SqL K H l xs) (hD:H D=none) (h:SqL K H2 l xs):SqL K (upd H2 D o) l xs:=by
 have fin:l≠D->SqL K (upd H2 D o) l xs:=fun n=>by
  rcases h with (h | ⟨ob,h⟩) | h
  ·exact .inl (.inl (by rw [ah n];exact h))
  ·exact .inl (.inr ⟨ob,by rw [ah n];exact h⟩)
  ·exact .inr h
 rcases h0 with (h0 | ⟨ob,h0⟩) | h0
 ·exact fin (ai h0 hD)
 ·exact fin (ai h0 hD)
 ·exact .inr h0
section
abbrev sTT:Stmt:=aS (top 86) 4
def CH (K:PySem.W.Frag) (C:Addr):Sp:=fun vs H Q _=>∃ (r l:Addr) (ns:List Int) (i p:Nat) (ks:List Str) (its:List Itm) (e:Nat),vs=[.ref r,.int (p:Int)]/\dI K C H r l ns i/\forms[p]?=some ks/\ik ns i ks its e/\ns.length<=16000/\
 ∀ H' t vs',dI K C H' r l ns e->(∀ b o,H b=some o->b≠r->H' b=some o)->H' t=some (.tup vs')->cV H' vs' its->Q (.ref t) H'
theorem AF:aq ["self","call","told","kind"] ["self","call"] (al sTT):=⟨rfl,rfl,rfl,by decide +kernel,rfl,by decide +kernel,by decide +kernel⟩
theorem CC {f fr ft C:Addr} {fd fdr fdt:FuncData} (F:Fun K "take_told" "Reader.take_told" sTT f fd) (Fr:Fun K "take_row" "Reader.take_row" sTR fr fdr) (br:aG K fdr ["self"] []) (mr:jF K C "take_row" fr)
  (Ft:Fun K "take_number" "Reader.take_number" sTN ft fdt) (bt:aG K fdt ["self"] []) (mt:jF K C "take_number" ft)
  (T:oU K C) (B:Blt mg) (FO:FormsOk K w mg):az P w K mg base CX0 3 f fd ["self","call"] (CH K C):=by
 have GR:az P w K mg base CX0 2 fr fdr ["self"] (Cg K C):=Bb Fr Ft bt mt T B
 have GT:az P w K mg base CX0 1 ft fdt ["self"] (x6 K C):=wn Ft T
 obtain ⟨aF,kvs,mF,hM,hF⟩:=FO.ex
 refine F.ok AF (fun vs H Q E h=>?_) (fun cdv A outer s H vs Q E hr h=>?_)
 ·obtain ⟨r,l,ns,i,p,ks,its,e,rfl,_⟩:=h
  rfl
 ·obtain ⟨r,l,ns,i,p,ks,its,e,rfl,R0,hks,hT,h16,q⟩:=h
  obtain ⟨ak,hak,hsq⟩:=hF p ks hks
  have hr1:bP 1 _:=hr.mono (by decide)
  refine ⟨_,ag (aB (i:=2) AF.nd rfl (Or.inl rfl) (aJ ad))
   (ag (eZ PassesOwn.never rfl (vR (jb (gq (v:= .ref aF) rfl mF rfl) (pv 1) (fun _ _=>rfl))) (aK (i:=3) AF.nd rfl (Or.inl rfl))
    (aj (cB (eJ PySem.F.plainAttrs_list PySem.F.slot_list_append PySem.F.type_list_append eR (pv 2)
     (aa (jg (aU dJ (pv 3) jG (aX _)) (gR (pv 0) T.cl mr GR hr br .nil aD) (gR (pv 0) T.cl mt GT hr1 bt .nil aD)) ad)))))
   (aj (ap (dZ fZ rfl B.tuple (by kernel_rfl) (aa (pv 2) ad))))),?_⟩
  refine ⟨Nat.zero_le _,fun D hD=>?_⟩
  obtain ⟨⟨dx0,hr0⟩,hs0⟩:=R0
  have nDr:D≠r:=(ai hr0 hD).symm
  refine ⟨_,rfl,aF,kvs,Sum.inl (p:Int),_,rfl,hM,rfl,hak,ak,rfl,⟨_,hsq _⟩,?_⟩
  refine yt (K:=K) (a:=ak) (xs:=ks.map V.str) (fun j σ H'=>∃ v3 ej vs',σ=[some (.ref r),some (.int (p:Int)),some (.ref D),v3]/\dI K C H' r l ns ej/\(∀ b o,H b=some o->b≠r->H' b=some o)/\H' D=some (.lst vs')/\vs'.length=j/\j<=ks.length/\
    ∃ its1 its2,its=its1++its2/\cV H' vs' its1/\ik ns ej (ks.drop j) its2 e)
   ⟨none,i,[],rfl,⟨⟨dx0,ac hD _ _ hr0⟩,(ac hD).seq hs0⟩,fun b o e _=>ac hD _ _ e,ab,rfl,Nat.zero_le _,[],its,rfl,.nil,hT⟩ (fun j σ H' _ _=>hsq H') ?_ ?_
  ·rintro j x σ H1 hx ⟨v3,ej,vs',rfl,R1,k1,hD1,hlen,hj,its1,its2,rfl,hi1,hT1⟩
   rw [List.getElem?_map] at hx
   cases ek:ks[j]? with
   | none=>rw [ek] at hx;cases hx
   | some k=>
    rw [ek] at hx
    have ex:V.str k=x:=Option.some.inj hx
    subst ex
    have hjl:j < ks.length:=(List.getElem?_eq_some_iff.mp ek).1
    have hdrop:ks.drop j=k::ks.drop (j+1):=by
     rw [List.drop_eq_getElem_cons hjl,(List.getElem?_eq_some_iff.mp ek).2]
    rw [hdrop] at hT1
    obtain ⟨⟨dx1,hr1'⟩,hs1⟩:=R1
    have hlk:ks.length<=16000:=Nat.le_trans (lZ hks) (by decide)
    refine ⟨_,rfl,.inl ⟨rfl,_,SqL.of hD1⟩,_,rfl,rfl,_,rfl,?_⟩
    cases hT1 with
    | num hne hz hrest=>
     rw [decide_eq_false (show ¬ V.str k=V.str "knowledge" from fun z=>hne (V.str.inj z))]
     refine bB ?_
     refine ⟨_,rfl,r,dx1,_,rfl,hr1',(by kernel_rfl),r,l,ns,ej,_,rfl,⟨⟨dx1,hr1'⟩,hs1⟩,hz,fun H2 R2 k2=>?_⟩
     have hD2:=k2 _ _ hD1 nDr
     refine ⟨D,_,_,rfl,rfl,hD2,?_,?_⟩
     ·rw [hlen];exact Nat.lt_of_lt_of_le (Nat.lt_of_lt_of_le hjl hlk) (by decide)
     ·obtain ⟨⟨dx2,hr2⟩,hs2⟩:=R2
      refine ⟨_,ej+1,_,rfl,⟨⟨dx2,by rw [ah (bS hr2 hD2 (by intro z;cases z))];exact hr2⟩,?_⟩,fun b o e hb=>?_,ab,by rw [List.length_append,hlen];rfl,hjl,its1++[_],_,List.append_cons _ _ _,?_,hrest⟩
      ·exact sM hs0 hD hs2
      ·rw [ah (ai e hD)];exact k2 _ _ (k1 b o e hb) hb
      ·refine cV.snoc (Paired.mapP hi1 fun a b z=>(z.keep hr1' k2).updL hD2) ?_
       show _=_
       rfl
    | row heq hz hle hrest=>
     rw [decide_eq_true (show V.str k=V.str "knowledge" by rw [heq])]
     refine bV ?_
     refine ⟨_,rfl,r,dx1,_,rfl,hr1',(by kernel_rfl),r,l,ns,ej,_,rfl,⟨⟨dx1,hr1'⟩,hs1⟩,hz,hle,h16,fun H2 t R2 k2 ht=>?_⟩
     have hD2:=k2 _ _ hD1 nDr
     refine ⟨D,_,_,rfl,rfl,hD2,?_,?_⟩
     ·rw [hlen];exact Nat.lt_of_lt_of_le (Nat.lt_of_lt_of_le hjl hlk) (by decide)
     ·obtain ⟨⟨dx2,hr2⟩,hs2⟩:=R2
      refine ⟨_,_,_,rfl,⟨⟨dx2,by rw [ah (bS hr2 hD2 (by intro z;cases z))];exact hr2⟩,?_⟩,fun b o e hb=>?_,ab,by rw [List.length_append,hlen];rfl,hjl,its1++[_],_,List.append_cons _ _ _,?_,hrest⟩
      ·exact sM hs0 hD hs2
      ·rw [ah (ai e hD)];exact k2 _ _ (k1 b o e hb) hb
      ·refine cV.snoc (Paired.mapP hi1 fun a b z=>(z.keep hr1' k2).updL hD2) ?_
       exact ⟨t,rfl,by rw [ah (bS ht hD2 (by intro z;cases z))];exact ht⟩
  ·rintro σ H1 ⟨v3,ej,vs',rfl,R1,k1,hD1,hlen,hj,its1,its2,rfl,hi1,hT1⟩
   rw [List.length_map,List.drop_length] at hT1
   cases hT1
   refine ⟨_,rfl,D,_,rfl,.inl ⟨SqL.of hD1,fun t ht=>?_⟩⟩
   have sm:=ac (o:= .tup vs') ht
   obtain ⟨⟨dx1,hr1'⟩,hs1⟩:=R1
   refine q _ t vs' ⟨⟨dx1,sm _ _ hr1'⟩,sm.seq hs1⟩ (fun b o e hb=>sm _ _ (k1 b o e hb)) ab ?_
   rw [List.append_nil]
   exact Paired.mapP hi1 fun a b z=>z.same sm
end
def ii (k:Str):Option (Int×Int):=if k = "n" then some (1,5) else if k = "length" then some (1,1000) else if k = "k" then some (0,120) else if k = "x" then some (0,9) else none
def pD (h:House) (k:Str) (b:Int):Int×Int:=match ii k with
 | some e=>e
 | none=>if k = "a" then (0,(h.length:Int)) else if k = "b" then (b+1,(h.length:Int)) else if k = "i" then (0,(h.bag.length:Int) - 1) else (0,(h.hands:Int) - 1)
structure FixedOk (K:PySem.W.Frag) (w:World) (mg:Str->Option Value):Prop where
 ex:∃ aF kvs,mg "FIXED" = some (.ref aF)/\pQ K w aF kvs/\(∀ (k:Str) (e:Int×Int),ii k=some e->∃ a,cx kvs (Sum.inr k)=some (.ref a)/\∀ H,SqT K H a [.int e.1,.int e.2])/\∀ k:Str,ii k=none->cx kvs (Sum.inr k)=none
section
abbrev x9:Stmt:=top 87
def wa (K:PySem.W.Frag) (C Cd:Addr):Sp:=fun vs H Q _=>∃ p h a k b,vs=[.ref p,.str k,.int b]/\aw C Cd H p h a/\∀ t H',ay H H'->SqT K H' t [.int (pD h k b).1,.int (pD h k b).2]->Q (.ref t) H'
theorem Bs:aq ["line","kind","before"] ["line","kind","before"] (al x9):=⟨rfl,rfl,rfl,by decide +kernel,rfl,by decide +kernel,by decide +kernel⟩
theorem zJ {f C Cd:Addr} {fd:FuncData} (F:Fun K "limits" "limits" x9 f fd) (T:cR K C) (B:Blt mg) (FX:FixedOk K w mg):az P w K mg base CX0 1 f fd ["line","kind","before"] (wa K C Cd):=by
 obtain ⟨aF,kvs,mF,hM,hF1,hF2⟩:=FX.ex
 refine F.ok Bs (fun vs H Q E h=>?_) (fun cdv A outer s H vs Q E hr h=>?_)
 ·obtain ⟨p,h,a,k,b,rfl,_⟩:=h
  rfl
 ·obtain ⟨p,h,a,k,b,rfl,L,q⟩:=h
  refine ⟨_,ag (cc (aU zA (pv 1) (gq (v:= .ref aF) rfl mF rfl) rfl) (aj (ap (jb (gq (v:= .ref aF) rfl mF rfl) (pv 1) (fun _ _=>rfl)))) aZ)
   (ag (cc (aU dJ (pv 1) jG (aX _)) (aj (ap (dz (aa am (aa (ao (pv 0) rfl) ad))))) aZ)
   (ag (cc (aU dJ (pv 1) jG (aX _)) (aj (ap (dz (aa (bZ iL (pv 2) am) (aa (ao (pv 0) rfl) ad))))) aZ)
   (ag (cc (aU dJ (pv 1) jG (aX _)) (aj (ap (dz (aa am (aa (bZ kQ (bM bC rfl B.len PySem.boot_len (aa (ao (pv 0) rfl) ad)) am) ad))))) aZ)
   (aj (ap (dz (aa am (aa (bZ kQ (ao (pv 0) rfl) am) ad)))))))),?_⟩
  refine ⟨_,rfl,aF,kvs,Sum.inr k,rfl,hM,rfl,_,rfl,?_⟩
  rw [if_neg Bool.false_ne_true]
  have two:(2:Nat)<=sizeLine:=by decide
  unfold pD at q
  cases hf:ii k with
  | some e=>
   obtain ⟨ae,h1,h2⟩:=hF1 k e hf
   rw [h1]
   refine bV ?_
   refine ⟨_,rfl,aF,kvs,Sum.inr k,_,rfl,hM,rfl,h1,?_⟩
   rw [hf] at q
   exact q ae H (ay.refl H) (h2 H)
  | none=>
   rw [hF2 k hf]
   refine bB ?_
   rw [hf] at q
   dsimp only at q
   refine ⟨_,rfl,rfl,_,rfl,?_⟩
   by_cases ha:k = "a"
   ·rw [decide_eq_true (show V.str k=V.str "a" by rw [ha])]
    refine bV ?_
    rw [if_pos ha] at q
    refine ⟨_,rfl,p,C,a.dx,_,_,rfl,L.obj,T.cl,T.nl,kK ..,two,fun t ht=>?_⟩
    exact q t _ (ac ht) (SqT.of ab)
   rw [decide_eq_false (show ¬ V.str k=V.str "a" from fun z=>ha (V.str.inj z))]
   refine bB ?_
   rw [if_neg ha] at q
   refine ⟨_,rfl,rfl,_,rfl,?_⟩
   by_cases hb:k = "b"
   ·rw [decide_eq_true (show V.str k=V.str "b" by rw [hb])]
    refine bV ?_
    rw [if_pos hb] at q
    refine ⟨_,rfl,_,_,rfl,rfl,_,rfl,p,C,a.dx,_,_,rfl,L.obj,T.cl,T.nl,kK ..,two,fun t ht=>?_⟩
    exact q t _ (ac ht) (SqT.of ab)
   rw [decide_eq_false (show ¬ V.str k=V.str "b" from fun z=>hb (V.str.inj z))]
   refine bB ?_
   rw [if_neg hb] at q
   refine ⟨_,rfl,rfl,_,rfl,?_⟩
   by_cases hi:k = "i"
   ·rw [decide_eq_true (show V.str k=V.str "i" by rw [hi])]
    refine bV ?_
    rw [if_pos hi] at q
    obtain ⟨ps,hB,hrow⟩:=L.bag
    have hl:=hrow.length
    rw [List.length_map] at hl
    refine ⟨_,rfl,p,C,a.dx,_,_,rfl,L.obj,T.cl,T.nb,i5 ..,a.B,_,rfl,.inl (SqL.of hB),_,_,rfl,rfl,two,fun t ht=>?_⟩
    have e1:((ps.map V.ref).length:Int)=(h.bag.length:Int):=by rw [List.length_map,hl]
    rw [<- e1] at q
    exact q t _ (ac ht) (SqT.of ab)
   rw [decide_eq_false (show ¬ V.str k=V.str "i" from fun z=>hi (V.str.inj z))]
   refine bB ?_
   rw [if_neg hi] at q
   refine ⟨_,rfl,p,C,a.dx,_,_,rfl,L.obj,T.cl,T.nh,fQ ..,_,_,rfl,rfl,two,fun t ht=>?_⟩
   exact q t _ (ac ht) (SqT.of ab)
end
def lS (z:Int):Bool:=decide (0<=z) && decide (z<=120)
def knB (h:House) (l:List Int):Bool:=decide (l.length=h.hands) && l.all lS
def gp (h:House) (k:Str) (b:Int):Itm->Bool
 | .row l=>knB h l
 | .num z=>if k = "another"/\z=b then false else decide ((pD h k b).1<=z) && decide (z<=(pD h k b).2)
def Itm.fits (k:Str):Itm->Prop
 | .row _=>k = "knowledge"
 | .num _=>k≠ "knowledge"
section
abbrev sKn:Stmt:=top 88
def Bn (C Cd:Addr):Sp:=fun vs H Q _=>∃ p h a t l,vs=[.ref p,.ref t]/\aw C Cd H p h a/\H t=some (.tup ((l:List Int).map V.int))/\l.length<=16000/\∀ H',ay H H'->Q (.bl (knB h l)) H'
theorem Ah:aq ["line","row","many"] ["line","row"] (al sKn):=⟨rfl,rfl,rfl,by decide +kernel,rfl,by decide +kernel,by decide +kernel⟩
theorem BR {f C Cd:Addr} {fd:FuncData} (F:Fun K "is_knowledge" "is_knowledge" sKn f fd) (T:cR K C) (B:Blt mg):az P w K mg base CX0 1 f fd ["line","row"] (Bn C Cd):=by
 refine F.ok Ah (fun vs H Q E h=>?_) (fun cdv A outer s H vs Q E hr h=>?_)
 ·obtain ⟨p,h,a,t,l,rfl,_⟩:=h
  rfl
 ·obtain ⟨p,h,a,t,l,rfl,L,ht,h16,q⟩:=h
  refine ⟨_,aj (ap (vJ (fI dJ (bM bC rfl B.len PySem.boot_len (aa (pv 1) ad)) (ao (pv 0) rfl) (aX _))
   (wc (bM (rE rfl) rfl B.all (by kernel_rfl) (aa (dD (own:=[("many",2)]) (tt:=hJ) (te:=qz (rI0 fun i j=> .bl (decide (i<=j))) (rI0 fun i j=> .bl (decide (i<=j))) (tC (.int 0)) (aV 2) (tC (.int 120))) rfl Ah.nd (vR (pv 1)) (bO rfl)
    (fun _ _ _ _ _=>aK (i:=2) Ah.nd rfl (Or.inl rfl)) (fun _ _ _ _ _=>cT) (fun _ _ _ _ _=>pX ll ll am (pv 2) am)) ad))))),?_⟩
  refine ⟨_,rfl,t,_,rfl,.inr (SqT.of ht),_,rfl,p,C,a.dx,_,_,rfl,L.obj,T.cl,T.nh,fQ ..,rfl,_,rfl,?_⟩
  unfold knB at q
  by_cases hl:l.length=h.hands
  ·have e1:decide (V.int ((l.map V.int).length:Int)=V.int (h.hands:Int))=true:=decide_eq_true (by rw [List.length_map,hl])
   rw [e1]
   refine bV ?_
   rw [decide_eq_true hl,Bool.true_and] at q
   refine ⟨_,rfl,t,rfl,⟨_,SqT.of ht⟩,fun D hD=>?_⟩
   refine zq (K:=K) (a:=t) (xs:=l.map V.int) (fun i H'=>ay H H'/\H' D=some (.lst (bls ((l.take i).map lS)))) ⟨ac hD,ab⟩ (fun i H' _ ⟨sm,_⟩=>SqT.of (sm _ _ ht)) ?_ ?_
   ·rintro i x H1 hx ⟨sm,hDl⟩
    rw [List.getElem?_map] at hx
    cases ez:l[i]? with
    | none=>rw [ez] at hx;cases hx
    | some z=>
     rw [ez] at hx
     have ex:V.int z=x:=Option.some.inj hx
     subst ex
     have hil:i < l.length:=(List.getElem?_eq_some_iff.mp ez).1
     have fin:∀ b,b=lS z->∃ acc,H1 D=some (.lst acc)/\acc.length < sizeLine/\ay H (upd H1 D (.lst (acc++[V.bl b])))/\upd H1 D (.lst (acc++[V.bl b])) D=some (.lst (bls ((l.take (i+1)).map lS))):=by
      rintro b rfl
      refine ⟨_,hDl,?_,fun b o e=>by rw [ah (ai e hD)];exact sm b o e,?_⟩
      ·unfold bls
       rw [List.length_map,List.length_map,List.length_take]
       exact Nat.lt_of_le_of_lt (Nat.min_le_right _ _) (Nat.lt_of_le_of_lt h16 (by decide))
      ·rw [ab,List.take_add_one,ez]
       unfold bls
       rw [List.map_append,List.map_append]
       rfl
     refine ⟨rfl,dL ?_⟩
     refine ⟨_,rfl,_,_,rfl,rfl,_,rfl,?_⟩
     by_cases h0:0<=z
     ·rw [decide_eq_true h0]
      refine bV ?_
      exact ⟨_,_,rfl,rfl,fin _ (by unfold lS;rw [decide_eq_true h0,Bool.true_and])⟩
     ·rw [decide_eq_false h0]
      refine bB ?_
      exact fin _ (by unfold lS;rw [decide_eq_false h0,Bool.false_and])
   ·rintro H' ⟨sm,hDl⟩
    rw [List.length_map,List.take_length] at hDl
    refine ⟨D,_,rfl,SqL.of hDl,?_⟩
    have e3:(l.map lS).all id=l.all lS:=by rw [List.all_map];rfl
    rw [e3]
    exact q H' sm
  ·have e1:decide (V.int ((l.map V.int).length:Int)=V.int (h.hands:Int))=false:=decide_eq_false fun z=>hl (by have:=V.int.inj z;rw [List.length_map] at this;omega)
   rw [e1]
   refine bB ?_
   have:=q H (ay.refl H)
   rw [decide_eq_false hl,Bool.false_and] at this
   exact this
abbrev Am:Stmt:=top 89
def yG (C Cd:Addr):Sp:=fun vs H Q _=>∃ p h a k v it b,vs=[.ref p,.str k,v,.int b]/\aw C Cd H p h a/\gC H v it/\it.fits k/\(∀ l,it = .row l->l.length<=16000)/\∀ H',ay H H'->Q (.bl (gp h k b it)) H'
theorem zh:aq ["line","kind","value","before","ends"] ["line","kind","value","before"] (al Am):=⟨rfl,rfl,rfl,by decide +kernel,rfl,by decide +kernel,by decide +kernel⟩
theorem zU {f fk fl C Cd:Addr} {fd fdk fdl:FuncData} (F:Fun K "fits" "fits" Am f fd) (Fk:Fun K "is_knowledge" "is_knowledge" sKn fk fdk) (bk:aG K fdk ["line","row"] []) (mk:mg "is_knowledge" = some (.ref fk))
  (Fl:Fun K "limits" "limits" x9 fl fdl) (bl:aG K fdl ["line","kind","before"] []) (ml:mg "limits" = some (.ref fl))
  (T:cR K C) (B:Blt mg) (FX:FixedOk K w mg):az P w K mg base CX0 2 f fd ["line","kind","value","before"] (yG C Cd):=by
 have GK:az P w K mg base CX0 1 fk fdk ["line","row"] (Bn C Cd):=BR Fk T B
 have GL:az P w K mg base CX0 1 fl fdl ["line","kind","before"] (wa K C Cd):=zJ Fl T B FX
 refine F.ok zh (fun vs H Q E h=>?_) (fun cdv A outer s H vs Q E hr h=>?_)
 ·obtain ⟨p,h,a,k,v,it,b,rfl,_⟩:=h
  rfl
 ·obtain ⟨p,h,a,k,v,it,b,rfl,L,hv,hk,h16,q⟩:=h
  refine ⟨_,ag (cc (aU dJ (pv 1) jG (aX _)) (aj (ap (au GK hr rfl mk Fk.kp bk .nil aD (aa (pv 0) (aa (pv 2) ad))))) aZ)
   (ag (cc (PW.pt (qQ (aU dJ (pv 1) jG (aX _)) (oa (aU dJ (pv 2) (pv 3) (aX _))))) (aj (ap lH)) aZ)
   (ag (aB (i:=4) zh.nd rfl (Or.inl rfl) (au GL hr rfl ml Fl.kp bl .nil aD (aa (pv 0) (aa (pv 1) (aa (pv 3) ad)))))
   (aj (ap (pX ll ll (ax aH (pv 4) am (fun _ _=>rfl)) (pv 2) (ax aH (pv 4) am (fun _ _=>rfl))))))),?_⟩
  refine ⟨_,rfl,rfl,_,rfl,?_⟩
  cases it with
  | row l=>
   have hk:k = "knowledge":=hk
   obtain ⟨t,rfl,ht⟩:=hv
   rw [decide_eq_true (show V.str k=V.str "knowledge" by rw [hk])]
   refine bV ?_
   exact ⟨_,rfl,_,rfl,p,h,a,t,l,rfl,L,ht,h16 l rfl,q⟩
  | num z=>
   have hk:k≠ "knowledge":=hk
   have hv:v = .int z:=hv
   subst hv
   rw [decide_eq_false (show ¬ V.str k=V.str "knowledge" from fun z=>hk (V.str.inj z))]
   refine bB ?_
   refine ⟨_,rfl,rfl,_,rfl,?_⟩
   unfold gp at q
   dsimp only at q
   have f6:¬ (k = "another"/\z=b)->vI (yo (fj (wa K C Cd) [] E0 (aY (aV 0) (aY (aV 1) (aY (aV 3) cF)))) (g0 4)) (rF (qz (rI0 fun i j=> .bl (decide (i<=j))) (rI0 fun i j=> .bl (decide (i<=j))) (tOp (wZ K) (aV 4) (tC (.int 0))) (aV 2) (tOp (wZ K) (aV 4) (tC (.int 1)))))
     { nx:=fun _ H'=>Q .non H',rt:=Q } [some (.ref p),some (.str k),some (.int z),some (.int b),none] H:=by
    intro hno
    rw [if_neg hno] at q
    refine ⟨_,rfl,_,rfl,_,rfl,p,h,a,k,b,rfl,L,fun t H1 s1 ht=>?_⟩
    refine ⟨_,rfl,t,_,_,_,rfl,rfl,ht,b7 (j:=0) (v:=V.int (pD h k b).1) rfl rfl,_,rfl,_,_,rfl,rfl,_,rfl,?_⟩
    by_cases h0:(pD h k b).1<=z
    ·rw [decide_eq_true h0]
     refine bV ?_
     rw [decide_eq_true h0,Bool.true_and] at q
     exact ⟨_,rfl,t,_,_,_,rfl,rfl,ht,b7 (j:=1) (v:=V.int (pD h k b).2) rfl rfl,_,_,rfl,rfl,q H1 s1⟩
    ·rw [decide_eq_false h0]
     refine bB ?_
     rw [decide_eq_false h0,Bool.false_and] at q
     exact q H1 s1
   by_cases ha:k = "another"
   ·rw [decide_eq_true (show V.str k=V.str "another" by rw [ha])]
    refine bV ?_
    refine ⟨_,rfl,_,rfl,rfl,_,rfl,?_⟩
    by_cases hz:z=b
    ·rw [decide_eq_true (show V.int z=V.int b by rw [hz])]
     refine bV ?_
     rw [if_pos ⟨ha,hz⟩] at q
     exact q H (ay.refl H)
    ·rw [decide_eq_false (show ¬ V.int z=V.int b from fun y=>hz (V.int.inj y))]
     refine bB ?_
     exact f6 fun y=>hz y.2
   ·rw [decide_eq_false (show ¬ V.str k=V.str "another" from fun z=>ha (V.str.inj z))]
    refine bB (bB ?_)
    exact f6 fun y=>ha y.1
end
def Itm.val:Itm->Int
 | .num z=>z
 | .row _=>0
def bR (h:House):List Str->List Itm->Int->Bool
 | k::ks,it::its,b=>gp h k b it && bR h ks its it.val
 | _,_,_=>true
theorem rb {p:Nat} {ks:List Str} (h:forms[p]?=some ks):∀ j:Nat,ks[j]?=some ("knowledge" : Str)->j+1=ks.length:=by
 have:∀ x,x∈forms->∀ j:Nat,j < x.length->x[j]?=some ("knowledge" : Str)->j+1=x.length:=by
  have h2:∀ x,x∈forms->(List.range x.length).all (fun j=>!decide (x[j]?=some ("knowledge" : Str)) || decide (j+1=x.length))=true:=by
   have:forms.all (fun x=>(List.range x.length).all (fun j=>!decide (x[j]?=some ("knowledge" : Str)) || decide (j+1=x.length)))=true:=by decide +kernel
   intro x hx
   exact List.all_eq_true.mp this x hx
  intro x hx j hj e
  have:=List.all_eq_true.mp (h2 x hx) j (List.mem_range.mpr hj)
  rw [decide_eq_true e] at this
  simpa using this
 intro j e
 exact this ks (List.mem_of_getElem? h) j (List.getElem?_eq_some_iff.mp e).1 e
theorem nc {α β:Type} {R:α->β->Prop}:∀ {xs:List α} {ys:List β} {i:Nat} {x:α},Paired R xs ys->xs[i]?=some x->∃ y,ys[i]?=some y/\R x y
 | _,_,_,_,.nil,e=>by simp at e
 | _,_,0,_,.cons h t,e=>by
  simp at e
  subst e
  exact ⟨_,rfl,h⟩
 | _,_,i+1,x,.cons h t,e=>by
  obtain ⟨y,h1,h2⟩:=nc (i:=i) (x:=x) t (by simpa using e)
  exact ⟨y,by simpa using h1,h2⟩
section
abbrev sAF:Stmt:=top 90
def xY (C Cd:Addr):Sp:=fun vs H Q _=>∃ (p:Addr) (h:House) (a:LA) (c:Nat) (ks:List Str) (its:List Itm) (t:Addr) (vs':List V),vs=[.ref p,.int (c:Int),.ref t]/\aw C Cd H p h a/\forms[c]?=some ks/\ks.length=its.length/\H t=some (.tup vs')/\cV H vs' its/\
 (∀ (j:Nat) (k:Str) (it:Itm),ks[j]?=some k->its[j]?=some it->it.fits k)/\(∀ l,Itm.row l∈its->l.length<=16000)/\∀ H',ay H H'->Q (.bl (bR h ks its 0)) H'
theorem wL:aq ["line","call","told","before","kind","value"] ["line","call","told"] (al sAF):=⟨rfl,rfl,rfl,by decide +kernel,rfl,by decide +kernel,by decide +kernel⟩
theorem BK {f ff fk fl C Cd:Addr} {fd fdf fdk fdl:FuncData} (F:Fun K "all_fit" "all_fit" sAF f fd) (Ff:Fun K "fits" "fits" Am ff fdf) (bf:aG K fdf ["line","kind","value","before"] []) (mf:mg "fits" = some (.ref ff))
  (Fk:Fun K "is_knowledge" "is_knowledge" sKn fk fdk) (bk:aG K fdk ["line","row"] []) (mk:mg "is_knowledge" = some (.ref fk))
  (Fl:Fun K "limits" "limits" x9 fl fdl) (bl:aG K fdl ["line","kind","before"] []) (ml:mg "limits" = some (.ref fl))
  (T:cR K C) (B:Blt mg) (FX:FixedOk K w mg) (FO:FormsOk K w mg):az P w K mg base CX0 3 f fd ["line","call","told"] (xY C Cd):=by
 have GF:az P w K mg base CX0 2 ff fdf ["line","kind","value","before"] (yG C Cd):=zU Ff Fk bk mk Fl bl ml T B FX
 obtain ⟨aF,kvs,mF,hM,hF⟩:=FO.ex
 refine F.ok wL (fun vs H Q E h=>?_) (fun cdv A outer s H vs Q E hr h=>?_)
 ·obtain ⟨p,h,a,c,ks,its,t,vs',rfl,_⟩:=h
  rfl
 ·obtain ⟨p,h,a,c,ks,its,t,vs',rfl,L,hks,hlen,ht,hit,hfit,h16,q⟩:=h
  obtain ⟨ak,hak,hsq⟩:=hF c ks hks
  refine ⟨_,ag (aB (i:=3) wL.nd rfl (Or.inl rfl) am)
   (ag (eZ PassesOwn.never rfl (rW true true rfl B.zip (aa (jb (gq (v:= .ref aF) rfl mF rfl) (pv 1) (fun _ _=>rfl)) (aa (pv 2) ad))) (gU rfl (b9 (aK (i:=4) wL.nd rfl (Or.inl rfl)) (b9 (aK (i:=5) wL.nd rfl (Or.inl rfl)) fC)))
    (ag (cc (fV (cU (au GF hr rfl mf Ff.kp bf .nil aD (aa (pv 0) (aa (pv 4) (aa (pv 5) (aa (pv 3) ad))))))) (aj (ap lH)) aZ)
    (aj (aB (i:=3) wL.nd rfl (Or.inl rfl) (pv 5)))))
   (aj (ap lH))),?_⟩
  have hvl:vs'.length=its.length:=Paired.length hit
  refine ⟨_,rfl,aF,kvs,Sum.inl (c:Int),_,rfl,hM,rfl,hak,_,rfl,ak,t,ks.map V.str,vs',rfl,hsq _,SqT.of ht,?_⟩
  have hmin:min (ks.map V.str).length vs'.length=ks.length:=by rw [List.length_map,hvl,hlen,Nat.min_self]
  refine eO (su (t1:=true) (t2:=true) (xs:=ks.map V.str) (ys:=vs')) (fun j σ H'=>∃ v3 v4 v5 b,σ=[some (.ref p),some (.int (c:Int)),some (.ref t),some v3,v4,v5]/\ay H H'/\(v3 = .int b\/j=ks.length)/\bR h ks its 0=bR h (ks.drop j) (its.drop j) b)
   ⟨_,none,none,0,rfl,ay.refl H,.inl rfl,rfl⟩ (fun j σ H' _ ⟨_,_,_,_,_,sm,_⟩=>⟨hsq H',SqT.of (sm _ _ ht)⟩) ?_ ?_
  ·rintro j x σ H1 H2 hj ⟨TT,x1,x2,rfl,hT,rfl,hx1,hx2⟩ ⟨v3,v4,v5,b,rfl,sm,hb,heq⟩
   rw [hmin] at hj
   rw [List.getElem?_map] at hx1
   cases ek:ks[j]? with
   | none=>rw [ek] at hx1;cases hx1
   | some k=>
    rw [ek] at hx1
    have e1:V.str k=x1:=Option.some.inj hx1
    subst e1
    obtain ⟨it,hit1,hit2⟩:=nc hit hx2
    have hb:v3 = .int b:=by
     rcases hb with z | z
     ·exact z
     ·omega
    subst hb
    have smT:=sm.trans (ac (o:= .tup [.str k,x2]) hT)
    have hjk:j < ks.length:=hj
    have hji:j < its.length:=by omega
    have d1:ks.drop j=k::ks.drop (j+1):=by rw [List.drop_eq_getElem_cons hjk,(List.getElem?_eq_some_iff.mp ek).2]
    have d2:its.drop j=it::its.drop (j+1):=by rw [List.drop_eq_getElem_cons hji,(List.getElem?_eq_some_iff.mp hit1).2]
    rw [d1,d2] at heq
    have heq:bR h ks its 0=(gp h k b it && bR h (ks.drop (j+1)) (its.drop (j+1)) it.val):=heq
    refine ⟨TT,_,rfl,SqT.of ab,rfl,_,_,rfl,_,_,rfl,rfl,?_⟩
    refine ⟨_,rfl,_,rfl,_,rfl,_,rfl,p,h,a,k,x2,it,b,rfl,L.same smT,hit2.same smT,hfit j k it ek hit1,fun l e=>h16 l (by rw [<- e];exact List.mem_of_getElem? hit1),fun H3 s3=>⟨_,rfl,?_⟩⟩
    cases hB:gp h k b it with
    | false=>
     refine bV ?_
     have:=q H3 (smT.trans s3)
     rw [heq,hB,Bool.false_and] at this
     exact this
    | true=>
     refine bB ?_
     rw [hB,Bool.true_and] at heq
     refine ⟨_,rfl,?_⟩
     refine ⟨x2,_,_,it.val,rfl,smT.trans s3,?_,heq⟩
     cases it with
     | num z=>exact .inl hit2
     | row l=>
      have hk:k = "knowledge":=hfit j k _ ek hit1
      subst hk
      exact .inr (rb hks j ek)
  ·rintro σ H1 ⟨v3,v4,v5,b,rfl,sm,hb,heq⟩
   rw [hmin,List.drop_length,hlen,List.drop_length] at heq
   have:=q H1 sm
   rw [heq] at this
   exact this
end
theorem aw.mut_some {C Cd:Addr} {H:Hp} {p:Addr} {h:House} {a:LA} (L:aw C Cd H p h a) {b:Addr} (hb:b∈a.mut):∃ xs,H b=some (.lst xs):=by
 have hb:b∈a.D::a.N::a.W::a.B::(a.owns++(a.knowns++a.waits)):=hb
 simp only [List.mem_cons,List.mem_append] at hb
 rcases hb with z | z | z | z | z | z | z
 ·subst z;exact ⟨_,L.dl⟩
 ·subst z;exact ⟨_,L.nl⟩
 ·subst z;exact ⟨_,L.wl⟩
 ·subst z;obtain ⟨ps,h1,_⟩:=L.bag;exact ⟨_,h1⟩
 ·obtain ⟨c,hc⟩:=List.getElem?_of_mem z
  have hl:c < h.doings.length:=by rw [<- L.olen];exact (List.getElem?_eq_some_iff.mp hc).1
  obtain ⟨ps,h1,_⟩:=L.own c b _ hc (List.getElem?_eq_getElem hl)
  exact ⟨_,h1⟩
 ·obtain ⟨c,hc⟩:=List.getElem?_of_mem z
  have hl:c < h.copies.length:=by rw [<- L.klen];exact (List.getElem?_eq_some_iff.mp hc).1
  exact ⟨_,L.kn c b _ hc (List.getElem?_eq_getElem hl)⟩
 ·obtain ⟨c,hc⟩:=List.getElem?_of_mem z
  have hl:c < h.copies.length:=by rw [<- L.wlen];exact (List.getElem?_eq_some_iff.mp hc).1
  obtain ⟨ps,h1,_⟩:=L.wt c b _ hc (List.getElem?_eq_getElem hl)
  exact ⟨_,h1⟩
theorem g9 {C Cd:Addr} {H H':Hp} {p:Addr} {h':House} {a:LA} (L:aw C Cd H' p h' a) (k:aN a.mut H H') {r:Addr} (hr:H' r=none):H r=none:=by
 cases e:H r with
 | none=>rfl
 | some o=>
  by_cases hm:r∈a.mut
  ·obtain ⟨xs,h1⟩:=L.mut_some hm
   rw [hr] at h1
   cases h1
  ·have:=k r o e hm
   rw [hr] at this
   cases this
structure Words (mg:Str->Option Value):Prop where
 nohands:∃ t,mg "NO_HANDS" = some (.int (-9) t)
 range:∃ t,mg "OUT_OF_RANGE" = some (.int (-1) t)
 missing:∃ t,mg "MISSING" = some (.int (-4) t)
 notallowed:∃ t,mg "NOT_ALLOWED" = some (.int (-7) t)
 taken:∃ t,mg "TAKEN_BACK" = some (.int (-5) t)
 full:∃ t,mg "FULL" = some (.int (-6) t)
 hands:∃ t,mg "HANDS" = some (.int 0 t)
 doings:∃ t,mg "MOST_DOINGS" = some (.int 120 t)
 messages:∃ t,mg "MOST_MESSAGES" = some (.int 60 t)
section
abbrev iu:Stmt:=top 49
def gI (l:List Int):List V:=l.map V.int
def jA (C Cd:Addr):Sp:=fun vs H Q _=>∃ p h a c wh pt,vs=[.ref p,.int ((c:Nat):Int),.int (bz wh),.ref pt]/\aw C Cd H p h a/\NH.Inv h/\c < h.hands/\H pt=some (.tup ((dE wh).map V.int))/\
 ∀ H' r,aw C Cd H' p (doneBy h ((c:Nat):Int) wh).1 a->aN a.mut H H'->H r=none->H' r=some (.lst (gI (doneBy h ((c:Nat):Int) wh).2))->Q (.ref r) H'
theorem zl:aq ["line","hand","kind","told"] ["line","hand","kind","told"] (al iu):=⟨rfl,rfl,rfl,by decide +kernel,rfl,by decide +kernel,by decide +kernel⟩
structure iq (K:PySem.W.Frag) (mg:Str->Option Value) (Cd:Addr):Prop where
 ex:∃ (fa fo fi ft:Addr) (da do' di dt:FuncData),Fun K "doings_in_all" "doings_in_all" zK fa da/\aG K da ["line"] []/\mg "doings_in_all" = some (.ref fa)/\
  Fun K "do" "do" sDo fo do'/\aG K do' ["line","hand","kind","told"] []/\mg "do" = some (.ref fo)/\
  Fun K "__init__" "Doing.__init__" sDI fi di/\aG K di ["self","hand","number","kind","told","bears","time"] []/\Mk K Cd fi/\mg "Doing" = some (.ref Cd)/\
  Fun K "time_behind" "time_behind" sR ft dt/\aG K dt ["line","bears"] []/\mg "time_behind" = some (.ref ft)
theorem i7 {f C Cd:Addr} {fd:FuncData} (F:Fun K "do_if_room" "do_if_room" iu f fd) (DE:iq K mg Cd) (T:cR K C) (Td:dC K Cd) (B:Blt mg) (WO:Words mg):az P w K mg base CX0 4 f fd ["line","hand","kind","told"] (jA C Cd):=by
 obtain ⟨fa,fo,fi,ft,da,do',di,dt,Fa,ba,ma,Fo,bo,mo,Fi,bi,M,mD,Ft,bt,mt⟩:=DE.ex
 have GA:az P w K mg base CX0 1 fa da ["line"] (vp C Cd):=uZ Fa T B
 have GD:az P w K mg base CX0 3 fo do' ["line","hand","kind","told"] (Cj C Cd):=A1 Fo Fi bi M mD Ft bt mt T Td B
 obtain ⟨t1,w1⟩:=WO.full
 obtain ⟨t2,w2⟩:=WO.doings
 refine F.ok zl (fun vs H Q E h=>?_) (fun cdv A outer s H vs Q E hr h=>?_)
 ·obtain ⟨p,h,a,c,wh,pt,rfl,_⟩:=h
  rfl
 ·obtain ⟨p,h,a,c,wh,pt,rfl,L,I,hc,hpt,q⟩:=h
  have hr1:bP 1 _:=hr.mono (by decide)
  refine ⟨_,ag (cc (aU yV (au GA hr1 rfl ma Fa.kp ba .nil aD (aa (pv 0) ad)) (aP w2) (aX _)) (aj (ap (aJ (aa (aP w1) ad)))) aZ)
   (aj (ap (aJ (aa am (aa (au GD hr rfl mo Fo.kp bo .nil aD (aa (pv 0) (aa (pv 1) (aa (pv 2) (aa (pv 3) ad))))) ad))))),?_⟩
  refine ⟨_,rfl,p,h,a,rfl,L,by rw [I.ds.len];exact I.hands,fun H1 s1=>⟨_,_,rfl,rfl,_,rfl,?_⟩⟩
  unfold doneBy at q
  have e120:Vbslag.DOINGS=120:=rfl
  rw [e120] at q
  by_cases ht:120<=totalOf h
  ·rw [decide_eq_true (show (120:Int)<=((totalOf h:Nat):Int) by omega)]
   refine bV ?_
   rw [if_pos ht] at q
   refine ⟨(by show 1<=sizeLine;decide),fun r hr2=>?_⟩
   exact q _ r (L.same (s1.trans (ac hr2))) (aN.of (s1.trans (ac hr2))) (s1.free hr2) ab
  ·rw [decide_eq_false (show ¬ (120:Int)<=((totalOf h:Nat):Int) by omega)]
   refine bB ?_
   rw [if_neg ht] at q
   refine ⟨_,rfl,_,rfl,_,rfl,_,rfl,p,h,a,c,wh,pt,rfl,L.same s1,I,hc,s1 _ _ hpt,fun H2 L2' K2=>⟨(by show 2<=sizeLine;decide),fun r hr2=>?_⟩⟩
   have K3:aN a.mut H H2:=(aN.of s1).trans K2
   have ec:((c:Nat):Int).toNat=c:=Int.toNat_natCast c
   rw [ec] at q
   exact q _ r (L2'.same (ac hr2)) (K3.trans (aN.of (ac hr2))) (g9 L2' K3 hr2) ab
end
theorem c24:∀ q < 24,q=0\/q=1\/q=2\/q=3\/q=4\/q=5\/q=6\/q=7\/q=8\/q=9\/q=10\/q=11\/q=12\/q=13\/q=14\/q=15\/q=16\/q=17\/q=18\/q=19\/q=20\/q=21\/q=22\/q=23:=by decide +kernel
theorem qb {p:Int} {n k:Nat} (h:PyVbslag.shape p=some (n,k)):∃ (q:Nat) (ks:List Str),p=(q:Int)/\q < 24/\forms[q]?=some ks/\((k=0/\ks.length=n/\("knowledge" : Str)∉ks)\/(k=1/\n=1/\q=17)):=by
 unfold PyVbslag.shape at h
 have nk:∀ (q:Nat) (ks:List Str) (m:Nat),p=(q:Int)->q < 24->forms[q]?=some ks->ks.length=m->("knowledge" : Str)∉ks->some (m,0)=some (n,k)->∃ (q:Nat) (ks:List Str),p=(q:Int)/\q < 24/\forms[q]?=some ks/\((k=0/\ks.length=n/\("knowledge" : Str)∉ks)\/(k=1/\n=1/\q=17)):=by
  intro q ks m h1 h2 h3 h4 h5 h6
  injection h6 with h6
  injection h6 with h6 h7
  exact ⟨q,ks,h1,h2,h3,.inl ⟨h7.symm,h4.trans h6,h5⟩⟩
 by_cases hp:0<=p/\p<=23
 ·obtain ⟨p,rfl⟩:=Int.eq_ofNat_of_zero_le hp.1
  have hc:=c24 p (by omega)
  rcases hc with rfl | rfl | rfl | rfl | rfl | rfl | rfl | rfl | rfl | rfl | rfl | rfl | rfl | rfl | rfl | rfl | rfl | rfl | rfl | rfl | rfl | rfl | rfl | rfl
  ·exact nk 0 _ 2 rfl (by decide) rfl rfl (by decide +kernel) h
  ·exact nk 1 _ 4 rfl (by decide) rfl rfl (by decide +kernel) h
  ·exact nk 2 _ 5 rfl (by decide) rfl rfl (by decide +kernel) h
  ·exact nk 3 _ 4 rfl (by decide) rfl rfl (by decide +kernel) h
  ·exact nk 4 _ 3 rfl (by decide) rfl rfl (by decide +kernel) h
  ·exact nk 5 _ 2 rfl (by decide) rfl rfl (by decide +kernel) h
  ·exact nk 6 _ 1 rfl (by decide) rfl rfl (by decide +kernel) h
  ·exact nk 7 _ 1 rfl (by decide) rfl rfl (by decide +kernel) h
  ·exact nk 8 _ 2 rfl (by decide) rfl rfl (by decide +kernel) h
  ·exact nk 9 _ 1 rfl (by decide) rfl rfl (by decide +kernel) h
  ·exact nk 10 _ 1 rfl (by decide) rfl rfl (by decide +kernel) h
  ·exact nk 11 _ 1 rfl (by decide) rfl rfl (by decide +kernel) h
  ·exact nk 12 _ 1 rfl (by decide) rfl rfl (by decide +kernel) h
  ·exact nk 13 _ 1 rfl (by decide) rfl rfl (by decide +kernel) h
  ·exact nk 14 _ 1 rfl (by decide) rfl rfl (by decide +kernel) h
  ·exact nk 15 _ 1 rfl (by decide) rfl rfl (by decide +kernel) h
  ·exact nk 16 _ 3 rfl (by decide) rfl rfl (by decide +kernel) h
  ·have h:some (1,1)=some (n,k):=h
   injection h with h
   injection h with h1 h2
   exact ⟨17,_,rfl,by decide,rfl,.inr ⟨h2.symm,h1.symm,rfl⟩⟩
  ·exact nk 18 _ 3 rfl (by decide) rfl rfl (by decide +kernel) h
  ·exact nk 19 _ 1 rfl (by decide) rfl rfl (by decide +kernel) h
  ·exact nk 20 _ 3 rfl (by decide) rfl rfl (by decide +kernel) h
  ·exact nk 21 _ 2 rfl (by decide) rfl rfl (by decide +kernel) h
  ·exact nk 22 _ 0 rfl (by decide) rfl rfl (by decide +kernel) h
  ·exact nk 23 _ 0 rfl (by decide) rfl rfl (by decide +kernel) h
 ·repeat rw [if_neg (by omega)] at h
  cases h
def numsOf:List Itm->List Int
 | []=>[]
 | .num z::l=>z::numsOf l
 | .row _::l=>numsOf l
def jD:List Itm->List (List Int)
 | []=>[]
 | .num _::l=>jD l
 | .row r::l=>r::jD l
theorem lL:∀ l:List Int,numsOf (l.map Itm.num)=l
 | []=>rfl
 | z::l=>by rw [List.map_cons,numsOf,lL l]
theorem kF:∀ l:List Int,jD (l.map Itm.num)=[]
 | []=>rfl
 | z::l=>by rw [List.map_cons,jD,kF l]
theorem nv {ns:List Int}:∀ (ks:List Str) (i:Nat) (r:List Int),ns.drop i=r->ks.length<=r.length->("knowledge" : Str)∉ks->ik ns i ks ((r.take ks.length).map Itm.num) (i+ks.length)
 | [],i,r,_,_,_=>by simpa using ik.nil
 | k::ks,i,r,h,hl,hk=>by
  cases r with
  | nil=>simp at hl
  | cons z r=>
   have hz:ns[i]?=some z:=by
    have:=congrArg (fun l=>l[0]?) h
    simpa using this
   have hd:ns.drop (i+1)=r:=by
    have:=congrArg (fun l=>l.drop 1) h
    simpa using this
   have ih:=nv ks (i+1) r hd (by simpa using hl) fun z=>hk (List.mem_cons_of_mem _ z)
   rw [List.length_cons,List.take_succ_cons,List.map_cons]
   have e:i+(ks.length+1)=i+1+ks.length:=by omega
   rw [e]
   exact .num (fun z=>hk (by rw [z];exact List.mem_cons_self ..)) hz ih
theorem rO {ns:List Int} {i:Nat} {p:Int} {r:List Int} {c:List (List Int)} {t:List Int} (hd:ns.drop i=p::r) (h:PyFlat.call PyVbslag.shape (p::r)=some (c,t)) :
  ∃ (q:Nat) (ks:List Str) (its:List Itm) (e:Nat),p=(q:Int)/\q < 24/\forms[q]?=some ks/\ik ns (i+1) ks its e/\ns.drop e=t/\e<=ns.length/\i < e/\c=(p::numsOf its)::jD its:=by
 unfold PyFlat.call at h
 dsimp only at h
 have hil:i < ns.length:=by
  rcases Nat.lt_or_ge i ns.length with z | z
  ·exact z
  ·rw [List.drop_of_length_le z] at hd;cases hd
 have hd1:ns.drop (i+1)=r:=by
  have:=congrArg (fun l=>l.drop 1) hd
  simpa using this
 have hrl:r.length=ns.length - (i+1):=by rw [<- hd1,List.length_drop]
 cases hs:PyVbslag.shape p with
 | none=>rw [hs] at h;cases h
 | some nk=>
  obtain ⟨n,k⟩:=nk
  rw [hs] at h
  dsimp only at h
  obtain ⟨q,ks,hp,hq,hf,hc⟩:=qb hs
  split at h
  ·cases h
  ·rename_i hnl
   rcases hc with ⟨rfl,hkl,hno⟩ | ⟨rfl,rfl,rfl⟩
   ·have h:some ((p::r.take n)::([]:List (List Int)),r.drop n)=some (c,t):=h
    injection h with h
    injection h with h1 h2
    refine ⟨q,ks,(r.take ks.length).map Itm.num,i+1+ks.length,hp,hq,hf,nv ks (i+1) r hd1 (by omega) hno,?_,by omega,by omega,?_⟩
    ·rw [<- h2,<- hd1,List.drop_drop,hkl]
    ·rw [lL,kF,hkl,<- h1]
   ·have hks:ks=(["c","knowledge"]:List Str):=Option.some.inj (hf.symm.trans (show forms[17]?=some (["c","knowledge"]:List Str) from rfl))
    subst hks
    cases r with
    | nil=>simp at hnl
    | cons z r=>
     have hz:ns[i+1]?=some z:=by
      have:=congrArg (fun l=>l[0]?) hd1
      simpa using this
     have hd2:ns.drop (i+2)=r:=by
      have:=congrArg (fun l=>l.drop 1) hd1
      simpa using this
     simp only [List.drop_succ_cons,List.drop_zero,PyFlat.rows] at h
     cases r with
     | nil=>simp [PyFlat.row] at h
     | cons m r=>
      have hm:ns[i+2]?=some m:=by
       have:=congrArg (fun l=>l[0]?) hd2
       simpa using this
      have hd3:ns.drop (i+3)=r:=by
       have:=congrArg (fun l=>l.drop 1) hd2
       simpa using this
      unfold PyFlat.row at h
      dsimp only at h
      by_cases hmm:0<=m/\m.toNat<=r.length
      ·rw [if_pos hmm] at h
       dsimp only at h
       injection h with h
       injection h with h1 h2
       have hrl2:r.length=ns.length - (i+3):=by rw [<- hd3,List.length_drop]
       have hl3:i+3<=ns.length:=by
        have:=(List.getElem?_eq_some_iff.mp hm).1
        omega
       have em:m=((m.toNat:Nat):Int):=by omega
       refine ⟨17,_,[.num z,.row ((ns.drop (i+3)).take m.toNat)],i+3+m.toNat,hp,hq,hf,?_,?_,by omega,by omega,?_⟩
       ·refine .num (by decide +kernel) hz (.row rfl (by rw [hm];exact congrArg some em) (by omega) .nil)
       ·rw [<- h2,<- hd3,List.drop_drop]
       ·rw [<- h1,hd3]
        rfl
      ·rw [if_neg hmm] at h
       cases h
theorem ji (h:House) (b z:Int):gp h "c" b (.num z)=isHand h z:=by kernel_rfl
theorem vT (h:House) (b z:Int):gp h "m" b (.num z)=isHand h z:=by kernel_rfl
theorem CB (h:House) (b z:Int):gp h "g" b (.num z)=isHand h z:=by kernel_rfl
theorem sT (h:House) (b z:Int):gp h "k" b (.num z)=within z 0 (DOINGS:Int):=by kernel_rfl
theorem yQ (h:House) (b z:Int):gp h "x" b (.num z)=within z 0 LABELS:=by kernel_rfl
theorem A9 (h:House) (b z:Int):gp h "n" b (.num z)=within z 1 HANDS:=by kernel_rfl
theorem qJ (h:House) (b z:Int):gp h "length" b (.num z)=within z 1 LENGTH:=by kernel_rfl
theorem yF (h:House) (b z:Int):gp h "a" b (.num z)=within z 0 (h.length:Int):=by kernel_rfl
theorem yR (h:House) (b z:Int):gp h "b" b (.num z)=within z (b+1) (h.length:Int):=by kernel_rfl
theorem B7 (h:House) (b z:Int):gp h "i" b (.num z)=isPlace h z:=by kernel_rfl
theorem pE (h:House) (b z:Int):gp h "another" b (.num z)=(isHand h z && b != z):=by
 have e:gp h "another" b (.num z)=if (("another" : Str) = "another"/\z=b) then false else isHand h z:=by kernel_rfl
 rw [e]
 by_cases hz:z=b
 ·subst hz
  simp
 ·have:¬ b=z:=fun y=>hz y.symm
  simp [hz,this]
theorem AL (h:House) (k:Str) (b:Int) (l:List Int):gp h k b (.row l)=(l.length == h.hands && l.all fun n=>within n 0 (DOINGS:Int)):=by
 show (decide (l.length=h.hands) && l.all lS)=_
 have e:lS=fun n=>within n 0 (DOINGS:Int):=by funext n;rfl
 rw [e]
 rfl
theorem cD (h:House) (k:Str) (ks:List Str) (it:Itm) (its:List Itm) (b:Int):bR h (k::ks) (it::its) b=(gp h k b it && bR h ks its it.val):=rfl
theorem cN (h:House) (b:Int):bR h [] [] b=true:=rfl
theorem dM (z:Int):(Itm.num z).val=z:=rfl
theorem xi (h:House) (n l:Int):bR h ["n","length"] [.num n,.num l] 0=(within n 1 HANDS && within l 1 LENGTH):=by
 simp only [cD,cN,dM,A9,qJ,Bool.and_true]
theorem wY (h:House) (c a b x:Int):bR h ["c","a","b","x"] [.num c,.num a,.num b,.num x] 0=(isHand h c && (isSpan h a b && within x 0 LABELS)):=by
 simp only [cD,cN,dM,ji,yF,yR,yQ,Bool.and_true,isSpan,Bool.and_assoc]
theorem vO (h:House) (c m k a b:Int):bR h ["c","m","k","a","b"] [.num c,.num m,.num k,.num a,.num b] 0=(isHand h c && (isName h m k && isSpan h a b)):=by
 simp only [cD,cN,dM,ji,vT,sT,yF,yR,Bool.and_true,isSpan,isName,Bool.and_assoc]
theorem wd (h:House) (c m k x:Int):bR h ["c","m","k","x"] [.num c,.num m,.num k,.num x] 0=(isHand h c && (isName h m k && within x 0 LABELS)):=by
 simp only [cD,cN,dM,ji,vT,sT,yQ,Bool.and_true,isName,Bool.and_assoc]
theorem gY (h:House) (c m k:Int):bR h ["c","m","k"] [.num c,.num m,.num k] 0=(isHand h c && isName h m k):=by
 simp only [cD,cN,dM,ji,vT,sT,Bool.and_true,isName,Bool.and_assoc]
theorem wC (h:House) (c k:Int):bR h ["c","k"] [.num c,.num k] 0=(isHand h c && within k 0 (DOINGS:Int)):=by
 simp only [cD,cN,dM,ji,sT,Bool.and_true]
theorem dB (h:House) (c:Int):bR h ["c"] [.num c] 0=isHand h c:=by
 simp only [cD,cN,dM,ji,Bool.and_true]
theorem u4 (h:House) (c g:Int):bR h ["c","another"] [.num c,.num g] 0=(isHand h c && (isHand h g && c != g)):=by
 simp only [cD,cN,dM,ji,pE,Bool.and_true]
theorem jy (h:House) (i:Int):bR h ["i"] [.num i] 0=isPlace h i:=by
 simp only [cD,cN,dM,B7,Bool.and_true]
theorem sK (h:House) (c:Int) (v:List Int):bR h ["c","knowledge"] [.num c,.row v] 0=(isHand h c && (v.length == h.hands && v.all fun n=>within n 0 (DOINGS:Int))):=by
 simp only [cD,cN,dM,ji,AL,Bool.and_true]
theorem sQ (h:House) (c g:Int):bR h ["c","g"] [.num c,.num g] 0=(isHand h c && isHand h g):=by
 simp only [cD,cN,dM,ji,CB,Bool.and_true]
def cM (C Cd:Addr) (q:Nat) (mk:List Int->Call):Sp:=fun vs H Q _=>∃ (p:Addr) (h:House) (a:LA) (t:Addr) (ks:List Str) (zs:List Int),vs=[.ref p,.ref t]/\aw C Cd H p h a/\NH.Inv h/\(q≠0->h.hands≠0)/\H t=some (.tup (gI zs))/\forms[q]?=some ks/\ks.length=zs.length/\bR h ks (zs.map Itm.num) 0=true/\
 ∀ H' a' r,aw C Cd H' p (Vbslag.step h (mk zs)).1 a'->(∀ b,b∈a'.mut->b∈a.mut\/H b=none)->(∀ b o,H b=some o->b≠p->b∉a.mut->H' b=some o)->H r=none->H' r=some (.lst (gI (Vbslag.step h (mk zs)).2))->Q (.ref r) H'
theorem aQ {h:House} (hh:h.hands≠0) (f:House->House×Vbslag.Ans):onHands h f=f h:=by
 unfold onHands
 rw [if_neg hh]
theorem bu {p:Addr} {M:List Addr} {H H':Hp} (k:aN M H H'):∀ b o,H b=some o->b≠p->b∉M->H' b=some o:=fun b o e _ n=>k b o e n
section
abbrev Di:Stmt:=top 51
def pU:List Int->Call
 | [c,a,b,x]=> .put c a b x
 | _=> .counts
theorem BV:aq ["line","told"] ["line","told"] (al Di):=⟨rfl,rfl,rfl,by decide +kernel,rfl,by decide +kernel,by decide +kernel⟩
theorem yp (v:V) (vs:List V):dG (v::vs) (some 1) none=vs:=by
 unfold dG
 have e1:HT.sIx (v::vs).length 0 (some 1)=1:=by
  have:=HT.sIx_nat (v::vs).length 0 1
  rw [show ((1:Nat):Int)=1 from rfl] at this
  rw [this,List.length_cons]
  omega
 rw [e1,HT.sIx_none,List.drop_succ_cons,List.drop_zero,List.length_cons]
 exact List.take_of_length_le (by omega)
theorem Ag {f fr C Cd:Addr} {fd fdr:FuncData} (F:Fun K "put_mark" "put_mark" Di f fd) (Fr:Fun K "do_if_room" "do_if_room" iu fr fdr) (br:aG K fdr ["line","hand","kind","told"] []) (mr:mg "do_if_room" = some (.ref fr)) (DE:iq K mg Cd)
  (T:cR K C) (Td:dC K Cd) (B:Blt mg) (G:Kinds mg) (WO:Words mg):az P w K mg base CX0 5 f fd ["line","told"] (cM C Cd 1 pU):=by
 have GR:az P w K mg base CX0 4 fr fdr ["line","hand","kind","told"] (jA C Cd):=i7 Fr DE T Td B WO
 obtain ⟨t1,w1⟩:=G.put
 refine F.ok BV (fun vs H Q E h=>?_) (fun cdv A outer s H vs Q E hr h=>?_)
 ·obtain ⟨p,h,a,t,ks,zs,rfl,_⟩:=h
  rfl
 ·obtain ⟨p,h,a,t,ks,zs,rfl,L,I,hh,ht,hks,hkl,hfit,q⟩:=h
  have eks:ks=(["c","a","b","x"]:List Str):=Option.some.inj (hks.symm.trans (show forms[1]?=some (["c","a","b","x"]:List Str) from rfl))
  subst eks
  match zs,hkl with
  | [c,a1,b1,x],_=>
   rw [show ([c,a1,b1,x].map Itm.num)=[.num c,.num a1,.num b1,.num x] from rfl,wY] at hfit
   have hq:Vbslag.step h (pU [c,a1,b1,x])=doneBy h c (.put a1.toNat b1.toNat x.toNat):=by
    simp only [pU,Vbslag.step]
    rw [aQ (hh (by decide))]
    simp only [hfit,Bool.not_true,if_false]
    rfl
   rw [hq] at q
   obtain ⟨f1,f2⟩:=Bool.and_eq_true_iff.mp hfit
   obtain ⟨f2,f3⟩:=Bool.and_eq_true_iff.mp f2
   obtain ⟨f4,f5⟩:=Bool.and_eq_true_iff.mp f2
   have g1:=aM f1
   have g3:=bv.mp f3
   have g4:=bv.mp f4
   have g5:=bv.mp f5
   have ec:c=((c.toNat:Nat):Int):=by omega
   refine ⟨_,aj (ap (au GR hr rfl mr Fr.kp br .nil aD (aa (pv 0) (aa (ax aH (pv 1) am (fun _ _=>rfl)) (aa (aP w1) (aa (b8 dS (pv 1) (ck am) cJ) ad)))))),?_⟩
   refine ⟨_,rfl,_,rfl,t,_,0,.int c,rfl,rfl,Or.inl (Or.inl ht),rfl,_,rfl,1,rfl,t,_,rfl,Or.inl (Or.inl ht),?_,fun r1 hr1=>?_⟩
   ·show ¬ (HT.sIx 4 0 (some 1)=0/\_)
    have:=HT.sIx_nat 4 0 1
    rw [show ((1:Nat):Int)=1 from rfl] at this
    rw [this]
    intro z
    exact absurd z.1 (by decide)
   ·rw [show dG (gI [c,a1,b1,x]) (some 1) none=[.int a1,.int b1,.int x] from yp _ _]
    have s1:=ac (o:= .tup [.int a1,.int b1,.int x]) hr1
    refine ⟨p,h,a,c.toNat,.put a1.toNat b1.toNat x.toNat,r1,by rw [<- ec];rfl,L.same s1,I,g1.2,?_,fun H' r L' K' hr' e'=>?_⟩
    ·rw [ab]
     have e1:((a1.toNat:Nat):Int)=a1:=by omega
     have e2:((b1.toNat:Nat):Int)=b1:=by omega
     have e3:((x.toNat:Nat):Int)=x:=by omega
     show _=some (HO.tup [.int ((a1.toNat:Nat):Int),.int ((b1.toNat:Nat):Int),.int ((x.toNat:Nat):Int)])
     rw [e1,e2,e3]
    ·rw [<- ec] at L' e'
     exact q H' a r L' (fun b hb=>Or.inl hb) (bu ((aN.of s1).trans K')) (s1.free hr') e'
end
section
abbrev yN:Stmt:=top 56
abbrev uX:Stmt:=top 57
def lr:List Int->Call
 | [c]=> .sign c
 | _=> .counts
def i4:List Int->Call
 | [c]=> .hello c
 | _=> .counts
theorem zC:aq ["line","told"] ["line","told"] (al yN):=⟨rfl,rfl,rfl,by decide +kernel,rfl,by decide +kernel,by decide +kernel⟩
theorem xu:aq ["line","told"] ["line","told"] (al uX):=⟨rfl,rfl,rfl,by decide +kernel,rfl,by decide +kernel,by decide +kernel⟩
theorem xr {f fr C Cd:Addr} {fd fdr:FuncData} (F:Fun K "sign" "sign" yN f fd) (Fr:Fun K "do_if_room" "do_if_room" iu fr fdr) (br:aG K fdr ["line","hand","kind","told"] []) (mr:mg "do_if_room" = some (.ref fr)) (DE:iq K mg Cd)
  (T:cR K C) (Td:dC K Cd) (B:Blt mg) (G:Kinds mg) (WO:Words mg):az P w K mg base CX0 5 f fd ["line","told"] (cM C Cd 6 lr):=by
 have GR:az P w K mg base CX0 4 fr fdr ["line","hand","kind","told"] (jA C Cd):=i7 Fr DE T Td B WO
 obtain ⟨t1,w1⟩:=G.sign
 refine F.ok zC (fun vs H Q E h=>?_) (fun cdv A outer s H vs Q E hr h=>?_)
 ·obtain ⟨p,h,a,t,ks,zs,rfl,_⟩:=h
  rfl
 ·obtain ⟨p,h,a,t,ks,zs,rfl,L,I,hh,ht,hks,hkl,hfit,q⟩:=h
  have eks:ks=(["c"]:List Str):=Option.some.inj (hks.symm.trans (show forms[6]?=some (["c"]:List Str) from rfl))
  subst eks
  match zs,hkl with
  | [c],_=>
   rw [show ([c].map Itm.num)=[.num c] from rfl,dB] at hfit
   have hq:Vbslag.step h (lr [c])=doneBy h c .sign:=by
    simp only [lr,Vbslag.step]
    rw [aQ (hh (by decide))]
    simp only [hfit,if_false]
    rfl
   rw [hq] at q
   have g1:=aM hfit
   have ec:c=((c.toNat:Nat):Int):=by omega
   refine ⟨_,aj (ap (au GR hr rfl mr Fr.kp br .nil aD (aa (pv 0) (aa (ax aH (pv 1) am (fun _ _=>rfl)) (aa (aP w1) (aa (dz ad) ad)))))),?_⟩
   refine ⟨_,rfl,_,rfl,t,_,0,.int c,rfl,rfl,Or.inl (Or.inl ht),rfl,by decide,fun r1 hr1=>?_⟩
   have s1:=ac (o:= .tup []) hr1
   refine ⟨p,h,a,c.toNat,.sign,r1,by rw [<- ec];rfl,L.same s1,I,g1.2,ab,fun H' r L' K' hr' e'=>?_⟩
   rw [<- ec] at L' e'
   exact q H' a r L' (fun b hb=>Or.inl hb) (bu ((aN.of s1).trans K')) (s1.free hr') e'
theorem wX {f fr C Cd:Addr} {fd fdr:FuncData} (F:Fun K "say_hello" "say_hello" uX f fd) (Fr:Fun K "do_if_room" "do_if_room" iu fr fdr) (br:aG K fdr ["line","hand","kind","told"] []) (mr:mg "do_if_room" = some (.ref fr)) (DE:iq K mg Cd)
  (T:cR K C) (Td:dC K Cd) (B:Blt mg) (G:Kinds mg) (WO:Words mg):az P w K mg base CX0 5 f fd ["line","told"] (cM C Cd 7 i4):=by
 have GR:az P w K mg base CX0 4 fr fdr ["line","hand","kind","told"] (jA C Cd):=i7 Fr DE T Td B WO
 obtain ⟨t1,w1⟩:=G.hello
 refine F.ok xu (fun vs H Q E h=>?_) (fun cdv A outer s H vs Q E hr h=>?_)
 ·obtain ⟨p,h,a,t,ks,zs,rfl,_⟩:=h
  rfl
 ·obtain ⟨p,h,a,t,ks,zs,rfl,L,I,hh,ht,hks,hkl,hfit,q⟩:=h
  have eks:ks=(["c"]:List Str):=Option.some.inj (hks.symm.trans (show forms[7]?=some (["c"]:List Str) from rfl))
  subst eks
  match zs,hkl with
  | [c],_=>
   rw [show ([c].map Itm.num)=[.num c] from rfl,dB] at hfit
   have hq:Vbslag.step h (i4 [c])=doneBy h c .hello:=by
    simp only [i4,Vbslag.step]
    rw [aQ (hh (by decide))]
    simp only [hfit,if_false]
    rfl
   rw [hq] at q
   have g1:=aM hfit
   have ec:c=((c.toNat:Nat):Int):=by omega
   refine ⟨_,aj (ap (au GR hr rfl mr Fr.kp br .nil aD (aa (pv 0) (aa (ax aH (pv 1) am (fun _ _=>rfl)) (aa (aP w1) (aa (dz ad) ad)))))),?_⟩
   refine ⟨_,rfl,_,rfl,t,_,0,.int c,rfl,rfl,Or.inl (Or.inl ht),rfl,by decide,fun r1 hr1=>?_⟩
   have s1:=ac (o:= .tup []) hr1
   refine ⟨p,h,a,c.toNat,.hello,r1,by rw [<- ec];rfl,L.same s1,I,g1.2,ab,fun H' r L' K' hr' e'=>?_⟩
   rw [<- ec] at L' e'
   exact q H' a r L' (fun b hb=>Or.inl hb) (bu ((aN.of s1).trans K')) (s1.free hr') e'
end
theorem xM (h:House) (D N W B:Addr):(lFs h D N W B).lookup ("begin" : Str)=none:=by kernel_rfl
section
abbrev sBH:Stmt:=top 48
def ja:List Int->Call
 | [n,l]=> .hands n l
 | _=> .counts
theorem Dz:aq ["line","told"] ["line","told"] (al sBH):=⟨rfl,rfl,rfl,by decide +kernel,rfl,by decide +kernel,by decide +kernel⟩
theorem B4 {f fb C Cd:Addr} {fd fdb:FuncData} (F:Fun K "begin_hands" "begin_hands" sBH f fd) (Fb:Fun K "begin" "Line.begin" xQ fb fdb) (bb:aG K fdb ["self","hands","length"] []) (mb:jF K C "begin" fb)
  (T:cR K C) (B:Blt mg):az P w K mg base CX0 2 f fd ["line","told"] (cM C Cd 0 ja):=by
 have GB:az P w K mg base CX0 1 fb fdb ["self","hands","length"] (uy C Cd):=wV Fb T B
 refine F.ok Dz (fun vs H Q E h=>?_) (fun cdv A outer s H vs Q E hr h=>?_)
 ·obtain ⟨p,h,a,t,ks,zs,rfl,_⟩:=h
  rfl
 ·obtain ⟨p,h,a,t,ks,zs,rfl,L,I,hh,ht,hks,hkl,hfit,q⟩:=h
  have eks:ks=(["n","length"]:List Str):=Option.some.inj (hks.symm.trans (show forms[0]?=some (["n","length"]:List Str) from rfl))
  subst eks
  match zs,hkl with
  | [n,l],_=>
   rw [show ([n,l].map Itm.num)=[.num n,.num l] from rfl,xi] at hfit
   have hq:Vbslag.step h (ja [n,l])=(iW n.toNat l.toNat,[0]):=by
    simp only [ja,Vbslag.step]
    simp only [hfit,if_false]
    rfl
   rw [hq] at q
   obtain ⟨f1,f2⟩:=Bool.and_eq_true_iff.mp hfit
   have g1:=bv.mp f1
   have g2:=bv.mp f2
   have eH:Vbslag.HANDS=5:=rfl
   rw [eH] at g1
   have en:n=((n.toNat:Nat):Int):=by omega
   have el:l=((l.toNat:Nat):Int):=by omega
   refine ⟨_,ag (cB (ot (pv 0) T.cl mb GB hr bb .nil aD (aa (ax aH (pv 1) am (fun _ _=>rfl)) (aa (ax aH (pv 1) am (fun _ _=>rfl)) ad)))) (aj (ap (aJ (aa am ad)))),?_⟩
   refine ⟨_,rfl,p,a.dx,_,rfl,L.obj,xM ..,_,rfl,t,_,0,.int n,rfl,rfl,Or.inl (Or.inl ht),rfl,_,rfl,t,_,1,.int l,rfl,rfl,Or.inl (Or.inl ht),rfl,?_⟩
   refine ⟨p,a.dx,_,n.toNat,l.toNat,by rw [<- en,<- el];rfl,L.obj,.inr ⟨h,_,_,_,_,rfl⟩,by omega,fun H' a' L' k1 k2=>?_⟩
   refine ⟨(by show 1<=sizeLine;decide),fun r hr2=>?_⟩
   have s1:=ac (o:= .lst [V.int 0]) hr2
   have hrf:H r=none:=by
    cases e:H r with
    | none=>rfl
    | some o=>
     by_cases z:r=p
     ·subst z
      rw [L'.obj] at hr2
      cases hr2
     ·rw [k1 r o e z] at hr2
      cases hr2
   exact q _ a' r (L'.same s1) (fun b hb=> .inr (k2 b hb)) (fun b o e n1 _=>s1 _ _ (k1 b o e n1)) hrf ab
abbrev sHR:Stmt:=top 58
def Ak (C Cd:Addr):Sp:=fun vs H Q _=>∃ (p:Addr) (h:House) (a:LA) (n:Nat),vs=[.ref p,.int (n:Int)]/\aw C Cd H p h a/\NH.Inv h/\Q (.bl (decide (h.bag.length+n<=60))) H
theorem DL:aq ["line","more"] ["line","more"] (al sHR):=⟨rfl,rfl,rfl,by decide +kernel,rfl,by decide +kernel,by decide +kernel⟩
theorem yM {f C Cd:Addr} {fd:FuncData} (F:Fun K "has_room" "has_room" sHR f fd) (T:cR K C) (B:Blt mg) (WO:Words mg):az P w K mg base CX0 1 f fd ["line","more"] (Ak C Cd):=by
 obtain ⟨t1,w1⟩:=WO.messages
 refine F.ok DL (fun vs H Q E h=>?_) (fun cdv A outer s H vs Q E hr h=>?_)
 ·obtain ⟨p,h,a,n,rfl,_⟩:=h
  rfl
 ·obtain ⟨p,h,a,n,rfl,L,I,q⟩:=h
  refine ⟨_,aj (ap (fI ll (bZ iL (bM bC rfl B.len PySem.boot_len (aa (ao (pv 0) rfl) ad)) (pv 1)) (aP w1) (aX _))),?_⟩
  obtain ⟨ps,hB,hrow⟩:=L.bag
  have hl:=hrow.length
  rw [List.length_map] at hl
  refine ⟨_,rfl,p,C,a.dx,_,_,rfl,L.obj,T.cl,T.nb,i5 ..,a.B,_,rfl,.inl (SqL.of hB),_,rfl,_,_,rfl,rfl,_,_,rfl,rfl,?_⟩
  have e:decide ((((ps.map V.ref).length:Nat):Int)+(n:Int)<=60)=decide (h.bag.length+n<=60):=by
   rw [decide_eq_decide,List.length_map,hl]
   omega
  show Q (V.bl (decide ((((ps.map V.ref).length:Nat):Int)+(n:Int)<=60))) H
  rw [e]
  exact q
end
section
abbrev yL:Stmt:=top 61
def lq:List Int->Call
 | [i]=> .lose i
 | _=> .counts
theorem zW:aq ["line","told"] ["line","told"] (al yL):=⟨rfl,rfl,rfl,by decide +kernel,rfl,by decide +kernel,by decide +kernel⟩
theorem yj {f C Cd:Addr} {fd:FuncData} (F:Fun K "lose" "lose" yL f fd) (T:cR K C):az P w K mg base CX0 1 f fd ["line","told"] (cM C Cd 10 lq):=by
 refine F.ok zW (fun vs H Q E h=>?_) (fun cdv A outer s H vs Q E hr h=>?_)
 ·obtain ⟨p,h,a,t,ks,zs,rfl,_⟩:=h
  rfl
 ·obtain ⟨p,h,a,t,ks,zs,rfl,L,I,hh,ht,hks,hkl,hfit,q⟩:=h
  have eks:ks=(["i"]:List Str):=Option.some.inj (hks.symm.trans (show forms[10]?=some (["i"]:List Str) from rfl))
  subst eks
  match zs,hkl with
  | [i],_=>
   rw [show ([i].map Itm.num)=[.num i] from rfl,jy] at hfit
   have hq:Vbslag.step h (lq [i])=({ h with bag:=h.bag.eraseIdx i.toNat },[0]):=by
    simp only [lq,Vbslag.step]
    rw [aQ (hh (by decide))]
    simp only [hfit,if_false]
    rfl
   rw [hq] at q
   have g:=iM hfit
   obtain ⟨ps,hB,hrow⟩:=L.bag
   have hl:=hrow.length
   rw [List.length_map] at hl
   have hb60:=I.bagl
   obtain ⟨pn,hpn⟩:∃ pn,ps[i.toNat]?=some pn:=⟨_,List.getElem?_eq_getElem (by rw [hl];exact g.2)⟩
   refine ⟨_,ag (cB (eJ PySem.F.plainAttrs_list PySem.F.slot_list_pop PySem.F.type_list_pop lK (ao (pv 0) rfl) (aa (ax aH (pv 1) am (fun _ _=>rfl)) ad))) (aj (ap (aJ (aa am ad)))),?_⟩
   refine ⟨_,rfl,p,C,a.dx,_,_,rfl,L.obj,T.cl,T.nb,i5 ..,.inl ⟨rfl,_,SqL.of hB⟩,_,rfl,t,_,0,.int i,rfl,rfl,Or.inl (Or.inl ht),rfl,a.B,_,i,i.toNat,V.ref pn,rfl,rfl,hB,?_,?_,?_,?_,?_⟩
   ·omega
   ·omega
   ·exact seqIndex_of (by omega) (by rw [List.length_map,hl];omega)
   ·rw [List.getElem?_map,hpn];rfl
   have L1:=L.setBag (ps:=ps.eraseIdx i.toNat) (b:=h.bag.eraseIdx i.toNat) (by rw [cy];exact Rows.eraseIdx _ hrow)
   rw [cy] at L1
   have K1:aN a.mut H (upd H a.B (.lst ((ps.map V.ref).eraseIdx i.toNat))):=aN.upd pj
   refine ⟨(by show 1<=sizeLine;decide),fun r hr2=>?_⟩
   have s1:=ac (o:= .lst [V.int 0]) hr2
   exact q _ a r (L1.same s1) (fun b hb=> .inl hb) (bu (K1.trans (aN.of s1))) (g9 L1 K1 hr2) ab
abbrev Ce:Stmt:=top 62
def hC:List Int->Call
 | [i]=> .double i
 | _=> .counts
theorem A0:aq ["line","told"] ["line","told"] (al Ce):=⟨rfl,rfl,rfl,by decide +kernel,rfl,by decide +kernel,by decide +kernel⟩
theorem AB {f fh C Cd:Addr} {fd fdh:FuncData} (F:Fun K "double" "double" Ce f fd) (Fh:Fun K "has_room" "has_room" sHR fh fdh) (bh:aG K fdh ["line","more"] []) (mh:mg "has_room" = some (.ref fh))
  (T:cR K C) (B:Blt mg) (WO:Words mg):az P w K mg base CX0 2 f fd ["line","told"] (cM C Cd 11 hC):=by
 have GH:az P w K mg base CX0 1 fh fdh ["line","more"] (Ak C Cd):=yM Fh T B WO
 obtain ⟨t1,w1⟩:=WO.full
 refine F.ok A0 (fun vs H Q E h=>?_) (fun cdv A outer s H vs Q E hr h=>?_)
 ·obtain ⟨p,h,a,t,ks,zs,rfl,_⟩:=h
  rfl
 ·obtain ⟨p,h,a,t,ks,zs,rfl,L,I,hh,ht,hks,hkl,hfit,q⟩:=h
  have eks:ks=(["i"]:List Str):=Option.some.inj (hks.symm.trans (show forms[11]?=some (["i"]:List Str) from rfl))
  subst eks
  match zs,hkl with
  | [i],_=>
   rw [show ([i].map Itm.num)=[.num i] from rfl,jy] at hfit
   have g:=iM hfit
   obtain ⟨ps,hB,hrow⟩:=L.bag
   have hl:=hrow.length
   rw [List.length_map] at hl
   have hb60:=I.bagl
   obtain ⟨pn,hpn⟩:∃ pn,ps[i.toNat]?=some pn:=⟨_,List.getElem?_eq_getElem (by rw [hl];exact g.2)⟩
   have hm:h.bag[i.toNat]?=some (h.bag[i.toNat]'g.2):=List.getElem?_eq_getElem g.2
   generalize h.bag[i.toNat]'g.2=m at hm
   have hq:Vbslag.step h (hC [i])=if 60<=h.bag.length then (h,[-6]) else ({ h with bag:=h.bag++[m] },[0]):=by
    simp only [hC,Vbslag.step]
    rw [aQ (hh (by decide))]
    simp only [hfit,if_false,hm]
    rfl
   rw [hq] at q
   refine ⟨_,ag (cc (fV (cU (au GH hr rfl mh Fh.kp bh .nil aD (aa (pv 0) (aa am ad))))) (aj (ap (aJ (aa (aP w1) ad)))) aZ)
    (ag (cB (eJ PySem.F.plainAttrs_list PySem.F.slot_list_append PySem.F.type_list_append eR (ao (pv 0) rfl) (aa (ax aE (ao (pv 0) rfl) (ax aH (pv 1) am (fun _ _=>rfl)) (fun _ _=>rfl)) ad)))
    (aj (ap (aJ (aa am ad))))),?_⟩
   refine ⟨_,rfl,p,h,a,1,rfl,L,I,?_⟩
   by_cases h60:60<=h.bag.length
   ·rw [if_pos h60] at q
    rw [decide_eq_false (show ¬ h.bag.length+1<=60 by omega)]
    refine ⟨_,rfl,?_⟩
    refine bV ?_
    refine ⟨(by show 1<=sizeLine;decide),fun r hr2=>?_⟩
    have s1:=ac (o:= .lst [V.int (-6)]) hr2
    exact q _ a r (L.same s1) (fun b hb=> .inl hb) (bu (aN.of s1)) hr2 ab
   ·rw [if_neg h60] at q
    rw [decide_eq_true (show h.bag.length+1<=60 by omega)]
    refine ⟨_,rfl,?_⟩
    refine bB ?_
    refine ⟨_,rfl,p,C,a.dx,_,_,rfl,L.obj,T.cl,T.nb,i5 ..,.inl ⟨rfl,_,SqL.of hB⟩,_,rfl,p,C,a.dx,_,_,rfl,L.obj,T.cl,T.nb,i5 ..,_,rfl,t,_,0,.int i,rfl,rfl,Or.inl (Or.inl ht),rfl,a.B,_,i,.ref pn,rfl,rfl,SqL.of hB,aR (j:=i.toNat) (by omega) hpn,a.B,_,_,rfl,rfl,hB,?_,?_⟩
    ·rw [List.length_map,hl]
     have:61<=sizeLine:=by decide
     omega
    ·obtain ⟨r0,hr1,hr2⟩:=Rows.get hrow hpn
     rw [List.getElem?_map,hm] at hr1
     have er:ly m=r0:=Option.some.inj hr1
     subst er
     have L1:=L.setBag (ps:=ps++[pn]) (b:=h.bag++[m]) (by rw [List.map_append];exact Rows.append hrow (.cons hr2 .nil))
     rw [List.map_append] at L1
     have K1:aN a.mut H (upd H a.B (.lst (ps.map V.ref++[V.ref pn]))):=aN.upd pj
     refine ⟨(by show 1<=sizeLine;decide),fun r hr2=>?_⟩
     have s1:=ac (o:= .lst [V.int 0]) hr2
     exact q _ a r (L1.same s1) (fun b hb=> .inl hb) (bu (K1.trans (aN.of s1))) (g9 L1 K1 hr2) ab
end
def BS (g:Nat) (n:Name):List Int:=ly { to:=g,name:=n }
section
abbrev yP:Stmt:=top 59
def kU:List Int->Call
 | [c,g]=> .send c g
 | _=> .counts
theorem kX:aq ["line","told","other","names","name"] ["line","told"] (al yP):=⟨rfl,rfl,rfl,by decide +kernel,rfl,by decide +kernel,by decide +kernel⟩
theorem x8 {f fh fl fs C Cd:Addr} {fd fdh fdl fds:FuncData} (HP:Helps K mg) (F:Fun K "send" "send" yP f fd) (Fh:Fun K "has_room" "has_room" sHR fh fdh) (bh:aG K fdh ["line","more"] []) (mh:mg "has_room" = some (.ref fh))
  (Fl:Fun K "lacks" "lacks" w9 fl fdl) (bl:aG K fdl ["line","hand","other"] []) (ml:mg "lacks" = some (.ref fl))
  (Fs:Fun K "surely_known" "surely_known" mH fs fds) (bs:aG K fds ["line","hand","knowledge"] []) (ms:mg "surely_known" = some (.ref fs))
  (T:cR K C) (Td:dC K Cd) (B:Blt mg) (WO:Words mg):az P w K mg base CX0 4 f fd ["line","told"] (cM C Cd 8 kU):=by
 have GH:az P w K mg base CX0 1 fh fdh ["line","more"] (Ak C Cd):=yM Fh T B WO
 have GL:az P w K mg base CX0 3 fl fdl ["line","hand","other"] (xb C Cd):=yy HP Fl Fs bs ms T Td B
 obtain ⟨t1,w1⟩:=WO.full
 refine F.ok kX (fun vs H Q E h=>?_) (fun cdv A outer s H vs Q E hr h=>?_)
 ·obtain ⟨p,h,a,t,ks,zs,rfl,_⟩:=h
  rfl
 ·obtain ⟨p,h,a,t,ks,zs,rfl,L,I,hh,ht,hks,hkl,hfit,q⟩:=h
  have eks:ks=(["c","another"]:List Str):=Option.some.inj (hks.symm.trans (show forms[8]?=some (["c","another"]:List Str) from rfl))
  subst eks
  match zs,hkl with
  | [c,g],_=>
   rw [show ([c,g].map Itm.num)=[.num c,.num g] from rfl,u4] at hfit
   have hr1:bP 1 _:=hr.mono (by decide)
   generalize hl:lacking h.doings (copyAt h c.toNat).known g.toNat=l
   have hq:Vbslag.step h (kU [c,g])=if 60 < h.bag.length+l.length then (h,[-6]) else ({ h with bag:=h.bag++l.map fun n=>{ to:=g.toNat,name:=n } },[0,(l.length:Int)]):=by
    simp only [kU,Vbslag.step]
    rw [aQ (hh (by decide))]
    simp only [hfit,if_false,hl]
    rfl
   rw [hq] at q
   obtain ⟨f1,f2⟩:=Bool.and_eq_true_iff.mp hfit
   obtain ⟨f2,f3⟩:=Bool.and_eq_true_iff.mp f2
   have g1:=aM f1
   have g2:=aM f2
   have ec:c=((c.toNat:Nat):Int):=by omega
   have eg:g=((g.toNat:Nat):Int):=by omega
   refine ⟨_,ag (aB (i:=2) kX.nd rfl (Or.inr rfl) (ax aH (pv 1) am (fun _ _=>rfl)))
    (ag (aB (i:=3) kX.nd rfl (Or.inl rfl) (au GL hr rfl ml Fl.kp bl .nil aD (aa (pv 0) (aa (ax aH (pv 1) am (fun _ _=>rfl)) (aa (pv 2) ad)))))
    (ag (cc (fV (cU (au GH hr1 rfl mh Fh.kp bh .nil aD (aa (pv 0) (aa (bM bC rfl B.len PySem.boot_len (aa (pv 3) ad)) ad))))) (aj (ap (aJ (aa (aP w1) ad)))) aZ)
    (ag (cB (eJ PySem.F.plainAttrs_list PySem.F.slot_list_extend PySem.F.type_list_extend dY (ao (pv 0) rfl)
     (aa (dD (own:=[("name",4)]) (tt:=hJ) (te:=tOp (o6 K) (yC (aY (aV 2) cF)) (aV 4)) rfl kX.nd (c5 (pv 3)) (bO rfl)
      (fun _ _ _ _ _=>aK (i:=4) kX.nd rfl (Or.inl rfl)) (fun _ _ _ _ _=>cT)
      (fun _ _ _ _ _=>bZ ky (dz (aa (pv 2) ad)) (pv 4))) ad)))
    (aj (ap (aJ (aa am (aa (bM bC rfl B.len PySem.boot_len (aa (pv 3) ad)) ad)))))))),?_⟩
   refine ⟨_,rfl,t,_,1,.int g,rfl,rfl,Or.inl (Or.inl ht),rfl,?_⟩
   refine ⟨_,rfl,_,rfl,t,_,0,.int c,rfl,rfl,Or.inl (Or.inl ht),rfl,_,rfl,p,h,a,c.toNat,g.toNat,by rw [<- ec,<- eg];rfl,L,I,g1.2,g2.2,fun r H1 s1 hnr hrows=>?_⟩
   rw [hl] at hrows
   obtain ⟨rs,hrs,hrow⟩:=hrows
   have hlen:=hrow.length
   rw [List.length_map] at hlen
   refine ⟨_,rfl,_,rfl,r,_,rfl,.inl (SqL.of hrs),p,h,a,(rs.map V.ref).length,rfl,L.same s1,I,?_⟩
   rw [List.length_map,hlen]
   by_cases h60:60 < h.bag.length+l.length
   ·rw [if_pos h60] at q
    rw [decide_eq_false (show ¬ h.bag.length+l.length<=60 by omega)]
    refine ⟨_,rfl,?_⟩
    refine bV ?_
    refine ⟨(by show 1<=sizeLine;decide),fun r2 hr2=>?_⟩
    have s2:=s1.trans (ac (o:= .lst [V.int (-6)]) hr2)
    exact q _ a r2 (L.same s2) (fun b hb=> .inl hb) (bu (aN.of s2)) (s1.free hr2) ab
   ·rw [if_neg h60] at q
    rw [decide_eq_true (show h.bag.length+l.length<=60 by omega)]
    refine ⟨_,rfl,?_⟩
    refine bB ?_
    have L1:=L.same s1
    obtain ⟨ps,hB,hbrow⟩:=L1.bag
    have hbl:=hbrow.length
    rw [List.length_map] at hbl
    refine ⟨_,rfl,p,C,a.dx,_,_,rfl,L1.obj,T.cl,T.nb,i5 ..,.inl ⟨rfl,_,SqL.of hB⟩,_,rfl,r,rfl,⟨_,SqL.of hrs⟩,fun D hnD=>?_⟩
    refine eL (K:=K) (a:=r) (xs:=rs.map V.ref) (fun i H'=>ay H1 H'/\∃ qs,H' D=some (.lst (qs.map V.ref))/\Rows H' qs ((l.take i).map (BS g.toNat))) ⟨ac hnD,[],ab,.nil⟩ (fun i H' _ ⟨sm,_⟩=>SqL.of (sm _ _ hrs)) ?_ ?_
    ·rintro i x H2 hx ⟨sm,qs,hd,hqr⟩
     rw [List.getElem?_map] at hx
     cases e:rs[i]? with
     | none=>rw [e] at hx;cases hx
     | some pn=>
      rw [e] at hx
      cases hx
      obtain ⟨r0,hr3,hr4⟩:=Rows.get hrow e
      rw [List.getElem?_map] at hr3
      cases e2:l[i]? with
      | none=>rw [e2] at hr3;cases hr3
      | some nm=>
       rw [e2] at hr3
       have er:bj nm=r0:=Option.some.inj hr3
       subst er
       have hil:i < l.length:=(List.getElem?_eq_some_iff.mp e2).1
       have hqsl:=hqr.length
       rw [List.length_map,List.length_take] at hqsl
       refine ⟨rfl,dL ?_⟩
       refine ⟨_,rfl,(by show 1<=sizeLine;decide),fun ta hta=>?_⟩
       have sa:=ac (o:= .tup [V.int g]) hta
       refine ⟨_,rfl,ta,pn,_,_,rfl,rfl,SqT.of ab,SqT.of (sa _ _ (sm _ _ hr4)),by simp,(by show 1+2<=sizeLine;decide),fun z=>(by cases z),fun _ tb htb=>?_⟩
       have sb:=ac (o:= .tup ([V.int g]++(bj nm).map V.int)) htb
       have hD3:=sb _ _ (sa _ _ hd)
       refine ⟨_,hD3,?_,?_⟩
       ·rw [List.length_map,hqsl]
        have:61<=sizeLine:=by decide
        omega
       ·refine ⟨fun b o e=>by rw [ah (ai e hnD)];exact sb _ _ (sa _ _ (sm b o e)),qs++[tb],by rw [ab,List.map_append];rfl,?_⟩
        rw [List.take_add_one,e2,List.map_append]
        refine Rows.append (Rows.updL hD3 (Rows.same (sa.trans sb) hqr)) (.cons ?_ .nil)
        rw [ah (bS (ab) hD3 (by intro z;cases z)),ab,eg]
        rfl
    ·rintro H2 ⟨sm,qs,hd,hqr⟩
     rw [List.length_map,hlen,List.take_length] at hqr
     have hqsl:=hqr.length
     rw [List.length_map] at hqsl
     have hB2:=sm _ _ hB
     refine ⟨a.B,D,_,_,rfl,rfl,hB2,hd,?_,?_⟩
     ·rw [List.length_map,List.length_map,hbl,hqsl]
      have:61<=sizeLine:=by decide
      omega
     ·have L2':=(L1.same sm).setBag (ps:=ps++qs) (b:=h.bag++l.map fun n=>{ to:=g.toNat,name:=n }) (by
       rw [List.map_append,List.map_map]
       exact Rows.append (Rows.same sm hbrow) hqr)
      rw [List.map_append] at L2'
      have K2:aN a.mut H (upd H2 a.B (.lst (ps.map V.ref++qs.map V.ref))):=(aN.of (s1.trans sm)).trans (aN.upd pj)
      have hrs2:upd H2 a.B (.lst (ps.map V.ref++qs.map V.ref)) r=some (.lst (rs.map V.ref)):=by
       rw [ah ?_]
       ·exact sm _ _ hrs
       ·intro z
        obtain ⟨ps0,hB0,_⟩:=L.bag
        rw [z,hB0] at hnr
        cases hnr
      refine ⟨_,rfl,r,_,rfl,.inl (SqL.of hrs2),(by show 2<=sizeLine;decide),fun r2 hr2=>?_⟩
      rw [List.length_map,hlen]
      have s3:=ac (o:= .lst [V.int 0,V.int (l.length:Int)]) hr2
      exact q _ a r2 (L2'.same s3) (fun b hb=> .inl hb) (bu (K2.trans (aN.of s3))) (g9 L2' K2 hr2) ab
end
section
abbrev BM:Stmt:=top 60
def f8:List Int->Call
 | [i]=> .deliver i
 | _=> .counts
theorem sU:aq ["line","told","message","hand","more"] ["line","told"] (al BM):=⟨rfl,rfl,rfl,by decide +kernel,rfl,by decide +kernel,by decide +kernel⟩
theorem zz {f fb ft ff fr C Cd:Addr} {fd fdb fdt fdf fdr:FuncData} (HP:Helps K mg) (F:Fun K "deliver" "deliver" BM f fd) (Fb:Fun K "bring" "bring" sBr fb fdb) (bb:aG K fdb ["line","hand","name"] []) (mb:mg "bring" = some (.ref fb))
  (Ft:Fun K "take_ready" "take_ready" sr ft fdt) (bt:aG K fdt ["line","hand"] []) (mt:mg "take_ready" = some (.ref ft))
  (Ff:Fun K "first_ready" "first_ready" wj ff fdf) (bf:aG K fdf ["line","hand"] []) (mf:mg "first_ready" = some (.ref ff))
  (Fr:Fun K "is_ready" "is_ready" sX fr fdr) (br:aG K fdr ["line","hand","name"] []) (mr:mg "is_ready" = some (.ref fr))
  (T:cR K C) (Td:dC K Cd) (B:Blt mg):az P w K mg base CX0 6 f fd ["line","told"] (cM C Cd 9 f8):=by
 have GB:az P w K mg base CX0 5 fb fdb ["line","hand","name"] (Cz C Cd):=Dd HP Fb Ft bt mt Ff bf mf Fr br mr T Td B
 refine F.ok sU (fun vs H Q E h=>?_) (fun cdv A outer s H vs Q E hr h=>?_)
 ·obtain ⟨p,h,a,t,ks,zs,rfl,_⟩:=h
  rfl
 ·obtain ⟨p,h,a,t,ks,zs,rfl,L,I,hh,ht,hks,hkl,hfit,q⟩:=h
  have eks:ks=(["i"]:List Str):=Option.some.inj (hks.symm.trans (show forms[9]?=some (["i"]:List Str) from rfl))
  subst eks
  match zs,hkl with
  | [i],_=>
   rw [show ([i].map Itm.num)=[.num i] from rfl,jy] at hfit
   have g:=iM hfit
   obtain ⟨ps,hB,hrow⟩:=L.bag
   have hl:=hrow.length
   rw [List.length_map] at hl
   have hb60:=I.bagl
   obtain ⟨pn,hpn⟩:∃ pn,ps[i.toNat]?=some pn:=⟨_,List.getElem?_eq_getElem (by rw [hl];exact g.2)⟩
   have hm:h.bag[i.toNat]?=some (h.bag[i.toNat]'g.2):=List.getElem?_eq_getElem g.2
   generalize h.bag[i.toNat]'g.2=m at hm
   have M:=I.bag m (List.mem_of_getElem? hm)
   have hq:Vbslag.step h (f8 [i])=({ setCopy h m.to (comes h.doings (copyAt h m.to) m.name) with bag:=h.bag.eraseIdx i.toNat },
     [0,((dj (comes h.doings (copyAt h m.to) m.name).known - dj (copyAt h m.to).known:Nat):Int),((comes h.doings (copyAt h m.to) m.name).pool.length:Int)]):=by
    simp only [f8,Vbslag.step]
    rw [aQ (hh (by decide))]
    simp only [hfit,if_false,hm]
    rfl
   rw [hq] at q
   obtain ⟨r0,hr3,hr4⟩:=Rows.get hrow hpn
   rw [List.getElem?_map,hm] at hr3
   have er:ly m=r0:=Option.some.inj hr3
   subst er
   refine ⟨_,ag (aB (i:=2) sU.nd rfl (Or.inl rfl) (eJ PySem.F.plainAttrs_list PySem.F.slot_list_pop PySem.F.type_list_pop lK (ao (pv 0) rfl) (aa (ax aH (pv 1) am (fun _ _=>rfl)) ad)))
    (ag (aB (i:=3) sU.nd rfl (Or.inl rfl) (ax aH (pv 2) am (fun _ _=>rfl)))
    (ag (aB (i:=4) sU.nd rfl (Or.inl rfl) (au GB hr rfl mb Fb.kp bb .nil aD (aa (pv 0) (aa (pv 3) (aa (b8 dS (pv 2) (ck am) cJ) ad)))))
    (aj (ap (aJ (aa am (aa (pv 4) (aa (bM bC rfl B.len PySem.boot_len (aa (ax aE (ao (pv 0) rfl) (pv 3) (fun _ _=>rfl)) ad)) ad)))))))),?_⟩
   refine ⟨_,rfl,p,C,a.dx,_,_,rfl,L.obj,T.cl,T.nb,i5 ..,.inl ⟨rfl,_,SqL.of hB⟩,_,rfl,t,_,0,.int i,rfl,rfl,Or.inl (Or.inl ht),rfl,a.B,_,i,i.toNat,V.ref pn,rfl,rfl,hB,?_,?_,?_,?_,?_⟩
   ·omega
   ·omega
   ·exact seqIndex_of (by omega) (by rw [List.length_map,hl];omega)
   ·rw [List.getElem?_map,hpn];rfl
   have L1:=L.setBag (ps:=ps.eraseIdx i.toNat) (b:=h.bag.eraseIdx i.toNat) (by rw [cy];exact Rows.eraseIdx _ hrow)
   rw [cy] at L1
   have I1:NH.Inv { h with bag:=h.bag.eraseIdx i.toNat }:=i8 I (Nat.le_trans (List.length_eraseIdx_le ..) I.bagl) (fun m hm=>I.bag m (List.mem_of_mem_eraseIdx hm))
   have K1:aN a.mut H (upd H a.B (.lst ((ps.map V.ref).eraseIdx i.toNat))):=aN.upd pj
   have hr5:upd H a.B (.lst ((ps.map V.ref).eraseIdx i.toNat)) pn=some (.tup ((ly m).map V.int)):=by rw [ah (bS hr4 hB (by intro z;cases z))];exact hr4
   generalize upd H a.B (.lst ((ps.map V.ref).eraseIdx i.toNat))=H1 at L1 K1 hr5 ⊢
   refine ⟨_,rfl,pn,_,0,.int (m.to:Int),rfl,rfl,SqT.of hr5,rfl,?_⟩
   refine ⟨_,rfl,_,rfl,_,rfl,1,rfl,pn,_,rfl,SqT.of hr5,?_,fun r1 hr1=>?_⟩
   ·show ¬ (HT.sIx 3 0 (some 1)=0/\_)
    have:=HT.sIx_nat 3 0 1
    rw [show ((1:Nat):Int)=1 from rfl] at this
    rw [this]
    intro z
    exact absurd z.1 (by decide)
   ·rw [show dG ((ly m).map V.int) (some 1) none=(bj m.name).map V.int from yp _ _]
    have s1:=ac (o:= .tup ((bj m.name).map V.int)) hr1
    refine ⟨p,_,a,m.to,r1,m.name,rfl,L1.same s1,I1,M.1,ab,M.2,fun H2 n L2' K2 ht2=>?_⟩
    have I2:NH.Inv (setCopy { h with bag:=h.bag.eraseIdx i.toNat } m.to (comes h.doings (copyAt h m.to) m.name)):=d7 I1 (o9 I.ds.len (I.copy M.1) M.2)
    have L2':aw C Cd H2 p (setCopy { h with bag:=h.bag.eraseIdx i.toNat } m.to (comes h.doings (copyAt h m.to) m.name)) a:=L2'
    obtain ⟨qw,hqw,rs,hrs,hwrow⟩:=aw.wait L2' I2 (c:=m.to) M.1
    have hcl:m.to < h.copies.length:=by rw [I.clen];exact M.1
    have ey:copyAt (setCopy { h with bag:=h.bag.eraseIdx i.toNat } m.to (comes h.doings (copyAt h m.to) m.name)) m.to=comes h.doings (copyAt h m.to) m.name:=dU hcl _
    rw [ey] at hwrow
    have hwl:=hwrow.length
    rw [List.length_map] at hwl
    have K3:aN a.mut H H2:=(K1.trans (aN.of s1)).trans K2
    have ht3:dj (comes h.doings (copyAt h m.to) m.name).known=dj (copyAt h m.to).known+n:=ht2
    have e1:dj (comes h.doings (copyAt h m.to) m.name).known - dj (copyAt h m.to).known=n:=by omega
    refine ⟨_,rfl,_,rfl,p,C,a.dx,_,_,rfl,L2'.obj,T.cl,T.nw,eU ..,_,rfl,a.W,_,_,_,rfl,rfl,SqL.of L2'.wl,aR rfl hqw,qw,_,rfl,.inl (SqL.of hrs),(by show 3<=sizeLine;decide),fun r2 hr2=>?_⟩
    rw [List.length_map,hwl]
    have s3:=ac (o:= .lst [V.int 0,V.int (n:Int),V.int ((comes h.doings (copyAt h m.to) m.name).pool.length:Int)]) hr2
    refine q _ a r2 (L2'.same s3) (fun b hb=> .inl hb) (bu (K3.trans (aN.of s3))) (g9 L2' K3 hr2) ?_
    rw [ab,e1]
    rfl
end
theorem xF (wh:What):inV (.int (bz wh)) [.int 5,.int 6]=decide (wh = .sign\/wh = .hello):=by
 cases wh <;> first | rfl | (simp only [bz];decide +kernel) | (simp [bz,inV,eqV])
section
abbrev yU:Stmt:=top 55
def lF:List Int->Call
 | [c,k]=> .back c k
 | _=> .counts
theorem nG:aq ["line","told","hand","number","own"] ["line","told"] (al yU):=⟨rfl,rfl,rfl,by decide +kernel,rfl,by decide +kernel,by decide +kernel⟩
theorem xP {f fr ft C Cd:Addr} {fd fdr fdt:FuncData} (F:Fun K "take_back" "take_back" yU f fd) (Fr:Fun K "do_if_room" "do_if_room" iu fr fdr) (br:aG K fdr ["line","hand","kind","told"] []) (mr:mg "do_if_room" = some (.ref fr)) (DE:iq K mg Cd)
  (Ft:Fun K "taken_back" "taken_back" sTB ft fdt) (bt:aG K fdt ["own","many"] []) (mt:mg "taken_back" = some (.ref ft))
  (T:cR K C) (Td:dC K Cd) (B:Blt mg) (G:Kinds mg) (WO:Words mg):az P w K mg base CX0 5 f fd ["line","told"] (cM C Cd 5 lF):=by
 have GR:az P w K mg base CX0 4 fr fdr ["line","hand","kind","told"] (jA C Cd):=i7 Fr DE T Td B WO
 have GT:az P w K mg base CX0 1 ft fdt ["own","many"] (xD Cd):=wK Ft Td B G
 obtain ⟨t1,w1⟩:=G.sign
 obtain ⟨t2,w2⟩:=G.hello
 obtain ⟨t3,w3⟩:=G.back
 obtain ⟨t4,w4⟩:=WO.missing
 obtain ⟨t5,w5⟩:=WO.notallowed
 obtain ⟨t6,w6⟩:=WO.taken
 refine F.ok nG (fun vs H Q E h=>?_) (fun cdv A outer s H vs Q E hr h=>?_)
 ·obtain ⟨p,h,a,t,ks,zs,rfl,_⟩:=h
  rfl
 ·obtain ⟨p,h,a,t,ks,zs,rfl,L,I,hh,ht,hks,hkl,hfit,q⟩:=h
  have eks:ks=(["c","k"]:List Str):=Option.some.inj (hks.symm.trans (show forms[5]?=some (["c","k"]:List Str) from rfl))
  subst eks
  match zs,hkl with
  | [c,k],_=>
   rw [show ([c,k].map Itm.num)=[.num c,.num k] from rfl,wC] at hfit
   have hr1:bP 1 _:=hr.mono (by decide)
   obtain ⟨f1,f2⟩:=Bool.and_eq_true_iff.mp hfit
   have g1:=aM f1
   have g2:=bv.mp f2
   have ec:c=((c.toNat:Nat):Int):=by omega
   have ek:k=((k.toNat:Nat):Int):=by omega
   have hq:Vbslag.step h (lF [c,k])=(match (h.doings.getD c.toNat [])[k.toNat]? with
     | none=>(h,[-4])
     | some d=>if d.what = .sign\/d.what = .hello then (h,[-7]) else if takenBack (h.doings.getD c.toNat []) ((h.doings.getD c.toNat []).length+1) k.toNat=true then (h,[-5]) else doneBy h c (.back k.toNat)):=by
    simp only [lF,Vbslag.step]
    rw [aQ (hh (by decide))]
    simp only [hfit,if_false]
    rfl
   rw [hq] at q
   obtain ⟨qo,hqo,hO⟩:=L.ownAt I g1.2
   have hbk:=I.ds.backOk c.toNat (h.doings.getD c.toNat []).length
   rw [List.take_length] at hbk
   have h120:(h.doings.getD c.toNat []).length<=120:=I.len120 c.toNat
   generalize h.doings.getD c.toNat []=own at q hO hbk h120
   refine ⟨_,ag (aB (i:=2) nG.nd rfl (Or.inl rfl) (ax aH (pv 1) am (fun _ _=>rfl)))
    (ag (aB (i:=3) nG.nd rfl (Or.inl rfl) (ax aH (pv 1) am (fun _ _=>rfl)))
    (ag (aB (i:=4) nG.nd rfl (Or.inl rfl) (ax aE (ao (pv 0) rfl) (pv 2) (fun _ _=>rfl)))
    (ag (cc (aU yV (pv 3) (bM bC rfl B.len PySem.boot_len (aa (pv 4) ad)) (aX _)) (aj (ap (aJ (aa (aP w4) ad)))) aZ)
    (ag (cc (aU uv (ao (ax aE (pv 4) (pv 3) (fun _ _=>rfl)) rfl) (dz (aa (aP w1) (aa (aP w2) ad))) rfl) (aj (ap (aJ (aa (aP w5) ad)))) aZ)
    (ag (cc (cU (ax aE (au GT hr1 rfl mt Ft.kp bt .nil aD (aa (pv 4) (aa (bM bC rfl B.len PySem.boot_len (aa (pv 4) ad)) ad))) (pv 3) (fun _ _=>rfl))) (aj (ap (aJ (aa (aP w6) ad)))) aZ)
    (aj (ap (au GR hr rfl mr Fr.kp br .nil aD (aa (pv 0) (aa (pv 2) (aa (aP w3) (aa (dz (aa (pv 3) ad)) ad)))))))))))),?_⟩
   obtain ⟨os,ho1,ho2,ho3⟩:=id hO
   refine ⟨_,rfl,t,_,0,.int c,rfl,rfl,Or.inl (Or.inl ht),rfl,?_⟩
   refine ⟨_,rfl,t,_,1,.int k,rfl,rfl,Or.inl (Or.inl ht),rfl,?_⟩
   refine ⟨_,rfl,p,C,a.dx,_,_,rfl,L.obj,T.cl,T.nd,cu ..,_,rfl,a.D,_,_,_,rfl,rfl,SqL.of L.dl,aR ec hqo,?_⟩
   refine ⟨_,rfl,_,rfl,qo,_,rfl,.inl (SqL.of ho1),_,_,rfl,rfl,_,rfl,?_⟩
   rw [List.length_map,ho2]
   cases ed:own[k.toNat]? with
   | none=>
    rw [ed] at q
    have hge:=List.getElem?_eq_none_iff.mp ed
    rw [decide_eq_true (show ((own.length:Nat):Int)<=k by omega)]
    refine bV ?_
    refine ⟨(by show 1<=sizeLine;decide),fun r hr2=>?_⟩
    have s1:=ac (o:= .lst [V.int (-4)]) hr2
    exact q _ a r (L.same s1) (fun b hb=> .inl hb) (bu (aN.of s1)) hr2 ab
   | some d=>
    rw [ed] at q
    have hlt:=(List.getElem?_eq_some_iff.mp ed).1
    rw [decide_eq_false (show ¬ ((own.length:Nat):Int)<=k by omega)]
    refine bB ?_
    obtain ⟨pd,hpd⟩:∃ pd,os[k.toNat]?=some pd:=⟨_,List.getElem?_eq_getElem (by rw [ho2];exact hlt)⟩
    obtain ⟨dx,pt,pb,hd1,hd2,hd3⟩:=ho3 _ _ _ hpd ed
    refine ⟨_,rfl,_,rfl,qo,_,_,_,rfl,rfl,SqL.of ho1,aR ek hpd,pd,Cd,dx,_,_,rfl,hd1,Td.cl,Td.nk,bW ..,(by show 2<=sizeLine;decide),fun tt htt=>?_⟩
    have s1:=ac (o:= .tup [V.int 5,V.int 6]) htt
    refine ⟨tt,[V.int 5,V.int 6],rfl,.inr (SqT.of ab),rfl,rfl,_,rfl,?_⟩
    rw [if_neg Bool.false_ne_true,xF]
    by_cases hs:d.what = .sign\/d.what = .hello
    ·have q:_:=q
     simp only [if_pos hs] at q
     rw [decide_eq_true hs]
     refine bV ?_
     refine ⟨(by show 1<=sizeLine;decide),fun r hr2=>?_⟩
     have s2:=s1.trans (ac (o:= .lst [V.int (-7)]) hr2)
     exact q _ a r (L.same s2) (fun b hb=> .inl hb) (bu (aN.of s2)) (s1.free hr2) ab
    ·simp only [if_neg hs] at q
     rw [decide_eq_false hs]
     refine bB ?_
     refine ⟨_,rfl,_,rfl,qo,_,rfl,.inl (SqL.of (s1 _ _ ho1)),qo,c.toNat,own,own.length,by rw [List.length_map,ho2];rfl,hO.same s1,Nat.le_refl _,h120,by rw [List.take_length];exact hbk,fun pk H2 s2 hnk hk=>?_⟩
     rw [List.take_length] at hk
     have s12:=s1.trans s2
     refine ⟨_,rfl,pk,_,_,_,rfl,rfl,SqL.of hk,b7 ek (by unfold bls;rw [List.getElem?_map,List.getElem?_map,List.getElem?_range hlt];rfl),?_⟩
     refine ⟨TB own k.toNat,rfl,?_⟩
     by_cases hb:takenBack own (own.length+1) k.toNat=true
     ·simp only [if_pos hb] at q
      rw [show TB own k.toNat=true from hb]
      refine bV ?_
      refine ⟨(by show 1<=sizeLine;decide),fun r hr2=>?_⟩
      have s3:=s12.trans (ac (o:= .lst [V.int (-5)]) hr2)
      exact q _ a r (L.same s3) (fun b hb=> .inl hb) (bu (aN.of s3)) (s12.free hr2) ab
     ·simp only [if_neg hb] at q
      rw [show TB own k.toNat=false from Bool.eq_false_iff.mpr hb]
      refine bB ?_
      refine ⟨_,rfl,_,rfl,_,rfl,(by show 1<=sizeLine;decide),fun r1 hr1=>?_⟩
      have s3:=s12.trans (ac (o:= .tup [V.int k]) hr1)
      refine ⟨p,h,a,c.toNat,.back k.toNat,r1,by rw [<- ec];rfl,L.same s3,I,g1.2,by rw [ab,ek];rfl,fun H' r L' K' hr' e'=>?_⟩
      rw [<- ec] at L' e'
      exact q H' a r L' (fun b hb=>Or.inl hb) (bu ((aN.of s3).trans K')) (s3.free hr') e'
end
theorem aw.keepIns {C Cd:Addr} {H H':Hp} {p:Addr} {h:House} {a:LA} {r Cr dx l:Addr} {i:Nat} (L:aw C Cd H p h a) (hr:H r=some (.ins Cr dx (rFs l i))) (k:∀ b o,H b=some o->b≠r->H' b=some o):aw C Cd H' p h a:=by
 have kl:∀ b xs,H b=some (.lst xs)->H' b=some (.lst xs):=fun b xs e=>k b _ e (bS e hr (by intro z;cases z))
 have kt:∀ b xs,H b=some (.tup xs)->H' b=some (.tup xs):=fun b xs e=>k b _ e (bS e hr (by intro z;cases z))
 have kr:∀ {ps:List Addr} {rows:List (List Int)},Rows H ps rows->Rows H' ps rows:=fun hh=>Paired.mapP hh fun _ _ z=>kt _ _ z
 refine ⟨k _ _ L.obj (bS L.obj hr (by intro z;cases z)),kl _ _ L.dl,kl _ _ L.nl,kl _ _ L.wl,L.olen,L.klen,L.wlen,fun c q o e1 e2=>?_,fun c q x e1 e2=>kl _ _ (L.kn c q x e1 e2),fun c q x e1 e2=>?_,?_,L.nd⟩
 ·obtain ⟨ps,h1,h2,h3⟩:=L.own c q o e1 e2
  refine ⟨ps,kl _ _ h1,h2,fun n b d z1 z2=>?_⟩
  obtain ⟨dx',pt,pb,g1,g2,g3⟩:=h3 n b d z1 z2
  exact ⟨dx',pt,pb,k _ _ g1 (bS g1 hr (by intro z;cases z)),kt _ _ g2,kt _ _ g3⟩
 ·obtain ⟨ps,h1,h2⟩:=L.wt c q x e1 e2
  exact ⟨ps,kl _ _ h1,kr h2⟩
 ·obtain ⟨ps,h1,h2⟩:=L.bag
  exact ⟨ps,kl _ _ h1,kr h2⟩
theorem ik.len {ns:List Int} {i e:Nat} {ks:List Str} {its:List Itm} (h:ik ns i ks its e):ks.length=its.length:=by
 induction h with
 | nil=>rfl
 | num _ _ _ ih=>simp [ih]
 | row _ _ _ _ ih=>simp [ih]
theorem ik.fit {ns:List Int} {i e:Nat} {ks:List Str} {its:List Itm} (h:ik ns i ks its e):∀ (j:Nat) (k:Str) (it:Itm),ks[j]?=some k->its[j]?=some it->it.fits k:=by
 induction h with
 | nil=>intro j k it e1;simp at e1
 | num h1 _ _ ih=>
  intro j k it e1 e2
  cases j with
  | zero=>
   simp at e1 e2
   subst e1 e2
   exact h1
  | succ j=>
   simp at e1 e2
   exact ih j k it e1 e2
 | row h1 _ _ _ ih=>
  intro j k it e1 e2
  cases j with
  | zero=>
   simp at e1 e2
   subst e1 e2
   exact h1
  | succ j=>
   simp at e1 e2
   exact ih j k it e1 e2
theorem ik.rows {ns:List Int} {i e:Nat} {ks:List Str} {its:List Itm} (h:ik ns i ks its e):∀ l,Itm.row l∈its->l.length<=ns.length:=by
 induction h with
 | nil=>intro l hl;cases hl
 | num _ _ _ ih=>
  intro l hl
  rcases List.mem_cons.mp hl with z | z
  ·cases z
  ·exact ih l z
 | row _ _ _ _ ih=>
  intro l hl
  rcases List.mem_cons.mp hl with z | z
  ·cases z
   rw [List.length_take,List.length_drop]
   omega
  ·exact ih l z
theorem aw.updOut {C Cd:Addr} {H:Hp} {p:Addr} {h:House} {a:LA} {b:Addr} {xs:List V} {o:HO} (L:aw C Cd H p h a) (hb:H b=some (.lst xs)) (n:b∉a.mut):aw C Cd (upd H b o) p h a:=by
 have kl:∀ c ys,c∈a.mut->H c=some (.lst ys)->upd H b o c=some (.lst ys):=fun c ys m e=>by
  rw [ah (fun z=>n (by rw [<- z];exact m))];exact e
 have el:∀ {q:Addr} {c:Nat} {l:List Addr},l[c]?=some q->q∈l:=fun z=>List.mem_of_getElem? z
 have mD:a.D∈a.mut:=Cl
 have mN:a.N∈a.mut:=by unfold LA.mut;simp
 have mW:a.W∈a.mut:=by unfold LA.mut;simp
 have mB:a.B∈a.mut:=pj
 refine ⟨?_,kl _ _ mD L.dl,kl _ _ mN L.nl,kl _ _ mW L.wl,L.olen,L.klen,L.wlen,fun c q o e1 e2=>?_,fun c q x e1 e2=>kl _ _ (jN (el e1)) (L.kn c q x e1 e2),fun c q x e1 e2=>?_,?_,L.nd⟩
 ·rw [ah (bS L.obj hb (by intro z;cases z))];exact L.obj
 ·exact (L.own c q o e1 e2).updL hb (fun z=>n (by rw [<- z];exact sP (el e1)))
 ·exact (L.wt c q x e1 e2).updL hb (fun z=>n (by rw [<- z];exact lI (el e1)))
 ·exact L.bag.updL hb (fun z=>n (by rw [<- z];exact mB))
def aA (q:Nat) (its:List Itm):List (List Int):=((q:Int)::numsOf its)::jD its
def aO (h:House) (c:List (List Int)):House×List Int:=VbslagNeutral.step h (PyVbslag.whole c)
def zk (C Cd:Addr):Sp:=fun vs H Q _=>∃ (p:Addr) (h:House) (a:LA) (q:Nat) (ks:List Str) (its:List Itm) (t:Addr) (vs':List V),vs=[.ref p,.int (q:Int),.ref t]/\aw C Cd H p h a/\NH.Inv h/\q < 24/\forms[q]?=some ks/\ks.length=its.length/\H t=some (.tup vs')/\cV H vs' its/\
 (∀ (j:Nat) (k:Str) (it:Itm),ks[j]?=some k->its[j]?=some it->it.fits k)/\(∀ l,Itm.row l∈its->l.length<=16000)/\
 ∀ H' a' r,aw C Cd H' p (aO h (aA q its)).1 a'->(∀ b,b∈a'.mut->b∈a.mut\/H b=none)->(∀ b o,H b=some o->b≠p->b∉a.mut->H' b=some o)->H r=none->H' r=some (.lst (gI (aO h (aA q its)).2))->Q (.ref r) H'
def eI (h:House) (cs:List (List (List Int))):List Int:=PyFlat.told (PyFlat.played VbslagNeutral.step h (cs.map PyVbslag.whole))
theorem pG (h:House) (c:List (List Int)) (cs:List (List (List Int))):eI h (c::cs)=((((aO h c).2.length:Nat):Int)::(aO h c).2)++eI (aO h c).1 cs:=rfl
theorem kT {K:PySem.W.Frag} {H H':Hp} {l:Addr} {xs:List V} (s:ay H H') (h:SqL K H l xs):SqL K H' l xs:=by
 rcases h with (h | ⟨ob,h⟩) | h
 ·exact .inl (.inl (s _ _ h))
 ·exact .inl (.inr ⟨ob,s _ _ h⟩)
 ·exact .inr h
theorem wG (l:Addr) (i:Nat):(rFs l i).lookup ("at_end" : Str)=none:=by kernel_rfl
theorem lR (l:Addr) (i:Nat):(rFs l i).lookup ("take_number" : Str)=none:=by kernel_rfl
theorem pT (l:Addr) (i:Nat):(rFs l i).lookup ("take_told" : Str)=none:=by kernel_rfl
theorem rl {fu:Nat} {z:Int} {r:List Int} {cs:List (List (List Int))} (h:PyFlat.calls PyVbslag.shape fu (z::r)=some cs) :
  ∃ c t fu' cs',PyFlat.call PyVbslag.shape (z::r)=some (c,t)/\PyFlat.calls PyVbslag.shape fu' t=some cs'/\cs=c::cs':=by
 cases fu with
 | zero=>cases h
 | succ fu=>
  unfold PyFlat.calls at h
  cases e:PyFlat.call PyVbslag.shape (z::r) with
  | none=>rw [e] at h;cases h
  | some ct=>
   obtain ⟨c,t⟩:=ct
   rw [e] at h
   dsimp only at h
   cases e2:PyFlat.calls PyVbslag.shape fu t with
   | none=>rw [e2] at h;cases h
   | some cs'=>
    rw [e2] at h
    exact ⟨c,t,fu,cs',rfl,e2,(Option.some.inj h).symm⟩
def Bq (K:PySem.W.Frag) (C Cd Cr:Addr) (H:Hp) (l p rd gv:Addr) (ns:List Int) (cs:List (List (List Int))) (m:Nat) (σ:L2.St) (H':Hp):Prop:=
 ∃ (i:Nat) (cs':List (List (List Int))) (h:House) (a:LA) (v4 v5:Option V) (acc:List Int) (fu:Nat),σ=[some (.ref l),some (.ref p),some (.ref rd),some (.ref gv),v4,v5]/\ay H H'/\aw C Cd H' p h a/\NH.Inv h/\(∀ b,b∈a.mut->H b=none)/\gv∉a.mut/\
  (∃ dx,H' rd=some (.ins Cr dx (rFs l i)))/\H' gv=some (.lst (gI acc))/\PyFlat.calls PyVbslag.shape fu (ns.drop i)=some cs'/\i<=ns.length/\acc++eI h cs'=eI Vbslag.start cs/\m=cs'.length
section
abbrev cX:Stmt:=top 96
abbrev oy:Stmt:=top 94
def spAll' (K:PySem.W.Frag):Sp:=fun vs H Q _=>∃ (l:Addr) (ns:List Int) (cs:List (List (List Int))),vs=[.ref l]/\SqL K H l (ns.map V.int)/\ns.length<=16000/\PyFlat.calls PyVbslag.shape ns.length ns=some cs/\(eI Vbslag.start cs).length<=10000000/\
 ∀ H' r,ay H H'->H r=none->H' r=some (.lst (gI (eI Vbslag.start cs)))->Q (.ref r) H'
theorem eS:aq ["calls","line","reader","given","call","numbers"] ["calls"] (al cX):=⟨rfl,rfl,rfl,by decide +kernel,rfl,by decide +kernel,by decide +kernel⟩
theorem qv {f fl fri fae ftn ftt fa C Cd Cr:Addr} {fd fdl fdri fdae fdtn fdtt fda:FuncData} (F:Fun K "answers" "answers" cX f fd)
  (GL:az P w K mg base CX0 2 fl fdl ["self"] (Dk C Cd)) (ML:Mk K C fl) (mL:mg "Line" = some (.ref C)) (bL:aG K fdl ["self"] [])
  (GI:az P w K mg base CX0 1 fri fdri ["self","numbers"] (Cu K Cr)) (MR:Mk K Cr fri) (mR:mg "Reader" = some (.ref Cr)) (bI:aG K fdri ["self","numbers"] [])
  (GE:az P w K mg base CX0 1 fae fdae ["self"] (CK K Cr)) (mE:jF K Cr "at_end" fae) (bE:aG K fdae ["self"] [])
  (GN:az P w K mg base CX0 1 ftn fdtn ["self"] (x6 K Cr)) (mN:jF K Cr "take_number" ftn) (bN:aG K fdtn ["self"] [])
  (GT:az P w K mg base CX0 3 ftt fdtt ["self","call"] (CH K Cr)) (mT:jF K Cr "take_told" ftt) (bT:aG K fdtt ["self","call"] [])
  (FA:Fun K "answer" "answer" oy fa fda) (GA:az P w K mg base CX0 10 fa fda ["line","call","told"] (zk C Cd)) (mA:mg "answer" = some (.ref fa)) (bA:aG K fda ["line","call","told"] [])
  (TR:oU K Cr) (B:Blt mg):az P w K mg base CX0 11 f fd ["calls"] (spAll' K):=by
 refine F.ok eS (fun vs H Q E h=>?_) (fun cdv A outer s H vs Q E hr h=>?_)
 ·obtain ⟨l,ns,cs,rfl,_⟩:=h
  rfl
 ·obtain ⟨l,ns,cs,rfl,hl,hn,hcs,hdue,q⟩:=h
  have hr1:bP 1 _:=hr.mono (by decide)
  have hr2:bP 2 _:=hr.mono (by decide)
  have hr3:bP 3 _:=hr.mono (by decide)
  refine ⟨_,ag (aB (i:=1) eS.nd rfl (Or.inl rfl) (uP ML GL hr3 rfl mL bL .nil aD))
   (ag (aB (i:=2) eS.nd rfl (Or.inl rfl) (nH MR GI hr2 rfl mR bI .nil aD (aa (pv 0) ad)))
   (ag (aB (i:=3) eS.nd rfl (Or.inl rfl) (aJ ad))
   (ag (p6 PassesOwn.never (fV (cU (gR (pv 2) TR.cl mE GE hr1 bE .nil aD)))
    (ag (aB (i:=4) eS.nd rfl (Or.inl rfl) (gR (pv 2) TR.cl mN GN hr1 bN .nil aD))
    (ag (aB (i:=5) eS.nd rfl (Or.inl rfl) (au GA hr rfl mA FA.kp bA .nil aD (aa (pv 1) (aa (pv 4) (aa (ot (pv 2) TR.cl mT GT hr3 bT .nil aD (aa (pv 4) ad)) ad)))))
    (ag (cB (eJ PySem.F.plainAttrs_list PySem.F.slot_list_append PySem.F.type_list_append eR (pv 3) (aa (bM bC rfl B.len PySem.boot_len (aa (pv 5) ad)) ad)))
    (aj (cB (eJ PySem.F.plainAttrs_list PySem.F.slot_list_extend PySem.F.type_list_extend dY (pv 3) (aa (pv 5) ad))))))))
   (aj (ap (pv 3)))))),?_⟩
  dsimp only [cF]
  intro p dp np ndp nep
  refine ⟨p,dp,rfl,ab,fun H1 a L1 k1 f1=>⟨rfl,?_⟩⟩
  have s1:ay H H1:=ay.made np ndp k1
  have f0:∀ b,b∈a.mut->H b=none:=fun b hb=>by
   cases e:H b with
   | none=>rfl
   | some o=>
    have:=f1 b hb
    rw [ah (ai e np),ah (ai e ndp),e] at this
    cases this
  refine ⟨_,rfl,?_⟩
  intro rd dr nr ndr ner
  refine ⟨rd,dr,l,ns,rfl,ab,kT (fun b o e=>by rw [ah (ai e nr),ah (ai e ndr)];exact e) (kT s1 hl),fun H2 R2 k2=>⟨rfl,?_⟩⟩
  have s2:ay H1 H2:=ay.made nr ndr k2
  have nrd:H rd=none:=s1.free nr
  have L2':=L1.same s2
  refine ⟨Nat.zero_le _,fun gv ngv=>?_⟩
  have s3:=ac (o:= .lst []) ngv
  have s03:ay H _:=(s1.trans s2).trans s3
  have ngv0:H gv=none:=(s1.trans s2).free ngv
  have ngvm:gv∉a.mut:=fun hb=>by
   obtain ⟨xs,e⟩:=L2'.mut_some hb
   rw [ngv] at e
   cases e
  obtain ⟨⟨dx0,hrd0⟩,_⟩:=R2
  refine ⟨Bq K C Cd Cr H l p rd gv ns cs,⟨cs.length,0,cs,iW 0 0,a,none,none,[],ns.length,rfl,s03,L2'.same s3,jM,f0,ngvm,⟨dx0,s3 _ _ hrd0⟩,ab,hcs,Nat.zero_le _,rfl,rfl⟩,?_⟩
  rintro m σ H3 ⟨i,cs',h,a,v4,v5,acc,fu,rfl,sm,L,I,fm,ngm,⟨dx,hrd⟩,hgv,hcs',hi,hacc,rfl⟩
  have sq:=kT sm hl
  refine ⟨_,rfl,rd,dx,_,rfl,hrd,wG ..,rd,l,ns,i,rfl,⟨⟨dx,hrd⟩,sq⟩,_,rfl,?_⟩
  by_cases hend:i=ns.length
  ·rw [decide_eq_true hend]
   refine bB ?_
   rw [hend,List.drop_length] at hcs'
   have e0:cs'=[]:=by
    cases fu <;> (simp [PyFlat.calls] at hcs';exact hcs')
   subst e0
   have e1:acc=eI Vbslag.start cs:=by rw [<- hacc];exact (List.append_nil acc).symm
   rw [e1] at hgv
   exact ⟨_,rfl,q H3 gv sm ngv0 hgv⟩
  ·rw [decide_eq_false hend]
   refine bV ?_
   have hil:i < ns.length:=by omega
   obtain ⟨z,r0,hd⟩:∃ z r0,ns.drop i=z::r0:=⟨_,_,List.drop_eq_getElem_cons hil⟩
   have hz:ns[i]?=some z:=by
    have:=congrArg (fun x=>x[0]?) hd
    simpa using this
   rw [hd] at hcs'
   obtain ⟨c,t,fu',cs'',hc,hcs'',rfl⟩:=rl hcs'
   obtain ⟨qn,ks,its,e,rfl,hq24,hks,hT,hdt,hel,hie,rfl⟩:=rO hd hc
   refine ⟨Bq K C Cd Cr H l p rd gv ns cs cs''.length,fun σ' H' W'=>⟨_,by simp,W'⟩,?_⟩
   refine ⟨_,rfl,rd,dx,_,rfl,hrd,lR ..,rd,l,ns,i,_,rfl,⟨⟨dx,hrd⟩,sq⟩,hz,fun H4 R4 k4=>?_⟩
   obtain ⟨⟨dx4,hrd4⟩,sq4⟩:=R4
   have L4:=L.keepIns hrd k4
   have s4:ay H H4:=fun b o e=>k4 b o (sm b o e) (ai e nrd)
   have hgv4:=k4 _ _ hgv (bS hgv hrd (by intro z;cases z))
   refine ⟨_,rfl,_,rfl,_,rfl,rd,dx4,_,rfl,hrd4,pT ..,_,rfl,rd,l,ns,i+1,qn,ks,its,e,rfl,⟨⟨dx4,hrd4⟩,sq4⟩,hks,hT,hn,fun H5 t5 vs' R5 k5 ht5 hit5=>?_⟩
   obtain ⟨⟨dx5,hrd5⟩,sq5⟩:=R5
   have L5:=L4.keepIns hrd4 k5
   have s5:ay H H5:=fun b o e=>k5 b o (s4 b o e) (ai e nrd)
   have hgv5:=k5 _ _ hgv4 (bS hgv4 hrd4 (by intro z;cases z))
   refine ⟨p,h,a,qn,ks,its,t5,vs',rfl,L5,I,hq24,hks,hT.len,ht5,hit5,hT.fit,fun l hl=>Nat.le_trans (hT.rows l hl) hn,fun H6 a' r L6 m6 k6 nr6 hr6=>?_⟩
   have hgv6:=k6 _ _ hgv5 (L5.obj_ne hgv5).symm ngm
   have ngm':gv∉a'.mut:=fun hb=>by
    rcases m6 gv hb with z | z
    ·exact ngm z
    ·rw [hgv5] at z;cases z
   have s6:ay H H6:=fun b o e=>k6 b o (s5 b o e) (ai e np) (fun hb=>by rw [fm b hb] at e;cases e)
   have nrg:r≠gv:=fun z=>by rw [z,hgv5] at nr6;cases nr6
   have hrd6:=k6 _ _ hrd5 (bS hrd5 L5.obj (by intro z;cases z)) (fun hb=>by
    obtain ⟨xs,e⟩:=L5.mut_some hb
    rw [hrd5] at e
    cases e)
   change acc++eI h (aA qn its::cs'')=eI Vbslag.start cs at hacc
   rw [pG] at hacc
   have hlen:=congrArg List.length hacc
   simp only [List.length_append,List.length_cons] at hlen
   have h24:10000000 < sizeLine:=by decide
   refine ⟨_,rfl,.inl ⟨rfl,_,SqL.of hgv6⟩,_,rfl,r,_,rfl,.inl (SqL.of hr6),gv,_,_,rfl,rfl,hgv6,?_,?_⟩
   ·simp only [gI,List.length_map]
    omega
   refine ⟨_,rfl,.inl ⟨rfl,_,SqL.of ab⟩,_,rfl,gv,r,_,_,rfl,rfl,ab,by rw [ah nrg];exact hr6,?_,?_⟩
   ·simp only [gI,List.length_map,List.length_append,List.length_cons,List.length_nil]
    omega
   refine ⟨e,cs'',_,a',_,_,acc++((((aO h (aA qn its)).2.length:Nat):Int)::(aO h (aA qn its)).2),fu',rfl,fun b o e=>?_,(L6.updOut hgv6 ngm').updOut ab ngm',vA I _,fun b hb=>?_,ngm',⟨dx5,?_⟩,?_,by rw [hdt];exact hcs'',hel,?_,rfl⟩
   ·rw [ah (ai e ngv0),ah (ai e ngv0)]
    exact s6 b o e
   ·rcases m6 b hb with z | z
    ·exact fm b z
    ·exact s5.free z
   ·rw [ah (bS hrd6 hgv6 (by intro z;cases z)),ah (bS hrd6 hgv6 (by intro z;cases z))]
    exact hrd6
   ·rw [ab]
    simp [gI]
   ·rw [<- hacc]
    simp
end
structure dH (ks:List Str) (its:List Itm):Prop where
 len:ks.length=its.length
 fit:∀ (j:Nat) (k:Str) (it:Itm),ks[j]?=some k->its[j]?=some it->it.fits k
theorem dH.nil {its:List Itm} (f:dH [] its):its=[]:=List.length_eq_zero_iff.mp f.len.symm
theorem dH.num {k:Str} {ks:List Str} {its:List Itm} (f:dH (k::ks) its) (hk:k≠ "knowledge"):∃ z r,its = .num z::r/\dH ks r:=by
 cases its with
 | nil=>have:=f.len;simp at this
 | cons it r=>
  have h0:=f.fit 0 k it rfl rfl
  cases it with
  | row l=>exact absurd h0 hk
  | num z=>exact ⟨z,r,rfl,by have:=f.len;simpa using this,fun j k' it' e1 e2=>f.fit (j+1) k' it' e1 e2⟩
theorem dH.row {k:Str} {ks:List Str} {its:List Itm} (f:dH (k::ks) its) (hk:k = "knowledge"):∃ l r,its = .row l::r/\dH ks r:=by
 cases its with
 | nil=>have:=f.len;simp at this
 | cons it r=>
  have h0:=f.fit 0 k it rfl rfl
  cases it with
  | num z=>exact absurd hk h0
  | row l=>exact ⟨l,r,rfl,by have:=f.len;simpa using this,fun j k' it' e1 e2=>f.fit (j+1) k' it' e1 e2⟩
theorem bU {h:House} (hh:h.hands=0) (f:House->House×Vbslag.Ans):onHands h f=(h,[-9]):=by
 unfold onHands
 rw [if_pos hh]
 rfl
theorem zd (h:House) (x0:Int) (x1:Int):aO h (aA 0 [.num x0,.num x1])=Vbslag.step h (.hands x0 x1):=rfl
theorem v9 (h:House) (x0:Int) (x1:Int) (x2:Int) (x3:Int):aO h (aA 1 [.num x0,.num x1,.num x2,.num x3])=Vbslag.step h (.put x0 x1 x2 x3):=rfl
theorem vz (h:House) (x0:Int) (x1:Int) (x2:Int) (x3:Int) (x4:Int):aO h (aA 2 [.num x0,.num x1,.num x2,.num x3,.num x4])=Vbslag.step h (.move x0 x1 x2 x3 x4):=rfl
theorem uU (h:House) (x0:Int) (x1:Int) (x2:Int) (x3:Int):aO h (aA 3 [.num x0,.num x1,.num x2,.num x3])=Vbslag.step h (.label x0 x1 x2 x3):=rfl
theorem wJ (h:House) (x0:Int) (x1:Int) (x2:Int):aO h (aA 4 [.num x0,.num x1,.num x2])=Vbslag.step h (.drop x0 x1 x2):=rfl
theorem vZ (h:House) (x0:Int) (x1:Int):aO h (aA 5 [.num x0,.num x1])=Vbslag.step h (.back x0 x1):=rfl
theorem uA (h:House) (x0:Int):aO h (aA 6 [.num x0])=Vbslag.step h (.sign x0):=rfl
theorem vY (h:House) (x0:Int):aO h (aA 7 [.num x0])=Vbslag.step h (.hello x0):=rfl
theorem uB (h:House) (x0:Int) (x1:Int):aO h (aA 8 [.num x0,.num x1])=Vbslag.step h (.send x0 x1):=rfl
theorem wf (h:House) (x0:Int):aO h (aA 9 [.num x0])=Vbslag.step h (.deliver x0):=rfl
theorem qK (h:House) (x0:Int):aO h (aA 10 [.num x0])=Vbslag.step h (.lose x0):=rfl
theorem qh (h:House) (x0:Int):aO h (aA 11 [.num x0])=Vbslag.step h (.double x0):=rfl
theorem rN (h:House) (x0:Int):aO h (aA 12 [.num x0])=Vbslag.step h (.view x0):=rfl
theorem qx (h:House) (x0:Int):aO h (aA 13 [.num x0])=Vbslag.step h (.known x0):=rfl
theorem qW (h:House) (x0:Int):aO h (aA 14 [.num x0])=Vbslag.step h (.stable x0):=rfl
theorem rC (h:House) (x0:Int):aO h (aA 15 [.num x0])=Vbslag.step h (.signs x0):=rfl
theorem rh (h:House) (x0:Int) (x1:Int) (x2:Int):aO h (aA 16 [.num x0,.num x1,.num x2])=Vbslag.step h (.signed x0 x1 x2):=rfl
theorem qM (h:House) (x0:Int) (x1:List Int):aO h (aA 17 [.num x0,.row x1])=Vbslag.step h (.at_ x0 x1):=rfl
theorem qI (h:House) (x0:Int) (x1:Int) (x2:Int):aO h (aA 18 [.num x0,.num x1,.num x2])=Vbslag.step h (.mark x0 x1 x2):=rfl
theorem rH (h:House) (x0:Int):aO h (aA 19 [.num x0])=Vbslag.step h (.overlaps x0):=rfl
theorem rp (h:House) (x0:Int) (x1:Int) (x2:Int):aO h (aA 20 [.num x0,.num x1,.num x2])=Vbslag.step h (.doing x0 x1 x2):=rfl
theorem qy (h:House) (x0:Int) (x1:Int):aO h (aA 21 [.num x0,.num x1])=Vbslag.step h (.differ x0 x1):=rfl
theorem uS (h:House)  : aO h (aA 22 [])=Vbslag.step h (.bag ):=rfl
theorem uW (h:House)  : aO h (aA 23 [])=Vbslag.step h (.counts ):=rfl
theorem oO {h:House} (hh:h.hands=0) {q:Nat} (hq:q < 24) (h0:q≠0) {ks:List Str} {its:List Itm} (hks:forms[q]?=some ks) (f:dH ks its):aO h (aA q its)=(h,[-9]):=by
 have hc:=c24 q hq
 rcases hc with rfl | rfl | rfl | rfl | rfl | rfl | rfl | rfl | rfl | rfl | rfl | rfl | rfl | rfl | rfl | rfl | rfl | rfl | rfl | rfl | rfl | rfl | rfl | rfl
 ·exact absurd rfl h0
 ·have eks:ks=(["c","a","b","x"]:List Str):=Option.some.inj (hks.symm.trans (show forms[1]?=some (["c","a","b","x"]:List Str) from rfl))
  subst eks
  obtain ⟨x0,its1,rfl,f1⟩:=f.num (by decide)
  obtain ⟨x1,its2,rfl,f2⟩:=f1.num (by decide)
  obtain ⟨x2,its3,rfl,f3⟩:=f2.num (by decide)
  obtain ⟨x3,its4,rfl,f4⟩:=f3.num (by decide)
  obtain rfl:=f4.nil
  rw [v9]
  simp only [Vbslag.step]
  exact bU hh _
 ·have eks:ks=(["c","m","k","a","b"]:List Str):=Option.some.inj (hks.symm.trans (show forms[2]?=some (["c","m","k","a","b"]:List Str) from rfl))
  subst eks
  obtain ⟨x0,its1,rfl,f1⟩:=f.num (by decide)
  obtain ⟨x1,its2,rfl,f2⟩:=f1.num (by decide)
  obtain ⟨x2,its3,rfl,f3⟩:=f2.num (by decide)
  obtain ⟨x3,its4,rfl,f4⟩:=f3.num (by decide)
  obtain ⟨x4,its5,rfl,f5⟩:=f4.num (by decide)
  obtain rfl:=f5.nil
  rw [vz]
  simp only [Vbslag.step]
  exact bU hh _
 ·have eks:ks=(["c","m","k","x"]:List Str):=Option.some.inj (hks.symm.trans (show forms[3]?=some (["c","m","k","x"]:List Str) from rfl))
  subst eks
  obtain ⟨x0,its1,rfl,f1⟩:=f.num (by decide)
  obtain ⟨x1,its2,rfl,f2⟩:=f1.num (by decide)
  obtain ⟨x2,its3,rfl,f3⟩:=f2.num (by decide)
  obtain ⟨x3,its4,rfl,f4⟩:=f3.num (by decide)
  obtain rfl:=f4.nil
  rw [uU]
  simp only [Vbslag.step]
  exact bU hh _
 ·have eks:ks=(["c","m","k"]:List Str):=Option.some.inj (hks.symm.trans (show forms[4]?=some (["c","m","k"]:List Str) from rfl))
  subst eks
  obtain ⟨x0,its1,rfl,f1⟩:=f.num (by decide)
  obtain ⟨x1,its2,rfl,f2⟩:=f1.num (by decide)
  obtain ⟨x2,its3,rfl,f3⟩:=f2.num (by decide)
  obtain rfl:=f3.nil
  rw [wJ]
  simp only [Vbslag.step]
  exact bU hh _
 ·have eks:ks=(["c","k"]:List Str):=Option.some.inj (hks.symm.trans (show forms[5]?=some (["c","k"]:List Str) from rfl))
  subst eks
  obtain ⟨x0,its1,rfl,f1⟩:=f.num (by decide)
  obtain ⟨x1,its2,rfl,f2⟩:=f1.num (by decide)
  obtain rfl:=f2.nil
  rw [vZ]
  simp only [Vbslag.step]
  exact bU hh _
 ·have eks:ks=(["c"]:List Str):=Option.some.inj (hks.symm.trans (show forms[6]?=some (["c"]:List Str) from rfl))
  subst eks
  obtain ⟨x0,its1,rfl,f1⟩:=f.num (by decide)
  obtain rfl:=f1.nil
  rw [uA]
  simp only [Vbslag.step]
  exact bU hh _
 ·have eks:ks=(["c"]:List Str):=Option.some.inj (hks.symm.trans (show forms[7]?=some (["c"]:List Str) from rfl))
  subst eks
  obtain ⟨x0,its1,rfl,f1⟩:=f.num (by decide)
  obtain rfl:=f1.nil
  rw [vY]
  simp only [Vbslag.step]
  exact bU hh _
 ·have eks:ks=(["c","another"]:List Str):=Option.some.inj (hks.symm.trans (show forms[8]?=some (["c","another"]:List Str) from rfl))
  subst eks
  obtain ⟨x0,its1,rfl,f1⟩:=f.num (by decide)
  obtain ⟨x1,its2,rfl,f2⟩:=f1.num (by decide)
  obtain rfl:=f2.nil
  rw [uB]
  simp only [Vbslag.step]
  exact bU hh _
 ·have eks:ks=(["i"]:List Str):=Option.some.inj (hks.symm.trans (show forms[9]?=some (["i"]:List Str) from rfl))
  subst eks
  obtain ⟨x0,its1,rfl,f1⟩:=f.num (by decide)
  obtain rfl:=f1.nil
  rw [wf]
  simp only [Vbslag.step]
  exact bU hh _
 ·have eks:ks=(["i"]:List Str):=Option.some.inj (hks.symm.trans (show forms[10]?=some (["i"]:List Str) from rfl))
  subst eks
  obtain ⟨x0,its1,rfl,f1⟩:=f.num (by decide)
  obtain rfl:=f1.nil
  rw [qK]
  simp only [Vbslag.step]
  exact bU hh _
 ·have eks:ks=(["i"]:List Str):=Option.some.inj (hks.symm.trans (show forms[11]?=some (["i"]:List Str) from rfl))
  subst eks
  obtain ⟨x0,its1,rfl,f1⟩:=f.num (by decide)
  obtain rfl:=f1.nil
  rw [qh]
  simp only [Vbslag.step]
  exact bU hh _
 ·have eks:ks=(["c"]:List Str):=Option.some.inj (hks.symm.trans (show forms[12]?=some (["c"]:List Str) from rfl))
  subst eks
  obtain ⟨x0,its1,rfl,f1⟩:=f.num (by decide)
  obtain rfl:=f1.nil
  rw [rN]
  simp only [Vbslag.step]
  exact bU hh _
 ·have eks:ks=(["c"]:List Str):=Option.some.inj (hks.symm.trans (show forms[13]?=some (["c"]:List Str) from rfl))
  subst eks
  obtain ⟨x0,its1,rfl,f1⟩:=f.num (by decide)
  obtain rfl:=f1.nil
  rw [qx]
  simp only [Vbslag.step]
  exact bU hh _
 ·have eks:ks=(["c"]:List Str):=Option.some.inj (hks.symm.trans (show forms[14]?=some (["c"]:List Str) from rfl))
  subst eks
  obtain ⟨x0,its1,rfl,f1⟩:=f.num (by decide)
  obtain rfl:=f1.nil
  rw [qW]
  simp only [Vbslag.step]
  exact bU hh _
 ·have eks:ks=(["c"]:List Str):=Option.some.inj (hks.symm.trans (show forms[15]?=some (["c"]:List Str) from rfl))
  subst eks
  obtain ⟨x0,its1,rfl,f1⟩:=f.num (by decide)
  obtain rfl:=f1.nil
  rw [rC]
  simp only [Vbslag.step]
  exact bU hh _
 ·have eks:ks=(["c","m","k"]:List Str):=Option.some.inj (hks.symm.trans (show forms[16]?=some (["c","m","k"]:List Str) from rfl))
  subst eks
  obtain ⟨x0,its1,rfl,f1⟩:=f.num (by decide)
  obtain ⟨x1,its2,rfl,f2⟩:=f1.num (by decide)
  obtain ⟨x2,its3,rfl,f3⟩:=f2.num (by decide)
  obtain rfl:=f3.nil
  rw [rh]
  simp only [Vbslag.step]
  exact bU hh _
 ·have eks:ks=(["c","knowledge"]:List Str):=Option.some.inj (hks.symm.trans (show forms[17]?=some (["c","knowledge"]:List Str) from rfl))
  subst eks
  obtain ⟨x0,its1,rfl,f1⟩:=f.num (by decide)
  obtain ⟨x1,its2,rfl,f2⟩:=f1.row rfl
  obtain rfl:=f2.nil
  rw [qM]
  simp only [Vbslag.step]
  exact bU hh _
 ·have eks:ks=(["c","m","k"]:List Str):=Option.some.inj (hks.symm.trans (show forms[18]?=some (["c","m","k"]:List Str) from rfl))
  subst eks
  obtain ⟨x0,its1,rfl,f1⟩:=f.num (by decide)
  obtain ⟨x1,its2,rfl,f2⟩:=f1.num (by decide)
  obtain ⟨x2,its3,rfl,f3⟩:=f2.num (by decide)
  obtain rfl:=f3.nil
  rw [qI]
  simp only [Vbslag.step]
  exact bU hh _
 ·have eks:ks=(["c"]:List Str):=Option.some.inj (hks.symm.trans (show forms[19]?=some (["c"]:List Str) from rfl))
  subst eks
  obtain ⟨x0,its1,rfl,f1⟩:=f.num (by decide)
  obtain rfl:=f1.nil
  rw [rH]
  simp only [Vbslag.step]
  exact bU hh _
 ·have eks:ks=(["c","m","k"]:List Str):=Option.some.inj (hks.symm.trans (show forms[20]?=some (["c","m","k"]:List Str) from rfl))
  subst eks
  obtain ⟨x0,its1,rfl,f1⟩:=f.num (by decide)
  obtain ⟨x1,its2,rfl,f2⟩:=f1.num (by decide)
  obtain ⟨x2,its3,rfl,f3⟩:=f2.num (by decide)
  obtain rfl:=f3.nil
  rw [rp]
  simp only [Vbslag.step]
  exact bU hh _
 ·have eks:ks=(["c","g"]:List Str):=Option.some.inj (hks.symm.trans (show forms[21]?=some (["c","g"]:List Str) from rfl))
  subst eks
  obtain ⟨x0,its1,rfl,f1⟩:=f.num (by decide)
  obtain ⟨x1,its2,rfl,f2⟩:=f1.num (by decide)
  obtain rfl:=f2.nil
  rw [qy]
  simp only [Vbslag.step]
  exact bU hh _
 ·have eks:ks=([]:List Str):=Option.some.inj (hks.symm.trans (show forms[22]?=some ([]:List Str) from rfl))
  subst eks
  obtain rfl:=f.nil
  rw [uS]
  simp only [Vbslag.step]
  exact bU hh _
 ·have eks:ks=([]:List Str):=Option.some.inj (hks.symm.trans (show forms[23]?=some ([]:List Str) from rfl))
  subst eks
  obtain rfl:=f.nil
  rw [uW]
  simp only [Vbslag.step]
  exact bU hh _
theorem tH {h:House} {q:Nat} (hq:q < 24) (hh:q≠0->h.hands≠0) {ks:List Str} {its:List Itm} (hks:forms[q]?=some ks) (f:dH ks its) (hf:bR h ks its 0=false):aO h (aA q its)=(h,[-1]):=by
 have hc:=c24 q hq
 rcases hc with rfl | rfl | rfl | rfl | rfl | rfl | rfl | rfl | rfl | rfl | rfl | rfl | rfl | rfl | rfl | rfl | rfl | rfl | rfl | rfl | rfl | rfl | rfl | rfl
 ·have eks:ks=(["n","length"]:List Str):=Option.some.inj (hks.symm.trans (show forms[0]?=some (["n","length"]:List Str) from rfl))
  subst eks
  obtain ⟨x0,its1,rfl,f1⟩:=f.num (by decide)
  obtain ⟨x1,its2,rfl,f2⟩:=f1.num (by decide)
  obtain rfl:=f2.nil
  rw [xi] at hf
  rw [zd]
  simp only [Vbslag.step]
  rw [if_pos hf]
  rfl
 ·have eks:ks=(["c","a","b","x"]:List Str):=Option.some.inj (hks.symm.trans (show forms[1]?=some (["c","a","b","x"]:List Str) from rfl))
  subst eks
  obtain ⟨x0,its1,rfl,f1⟩:=f.num (by decide)
  obtain ⟨x1,its2,rfl,f2⟩:=f1.num (by decide)
  obtain ⟨x2,its3,rfl,f3⟩:=f2.num (by decide)
  obtain ⟨x3,its4,rfl,f4⟩:=f3.num (by decide)
  obtain rfl:=f4.nil
  rw [wY] at hf
  rw [v9]
  simp only [Vbslag.step]
  rw [aQ (hh (by decide))]
  rw [if_pos hf]
  rfl
 ·have eks:ks=(["c","m","k","a","b"]:List Str):=Option.some.inj (hks.symm.trans (show forms[2]?=some (["c","m","k","a","b"]:List Str) from rfl))
  subst eks
  obtain ⟨x0,its1,rfl,f1⟩:=f.num (by decide)
  obtain ⟨x1,its2,rfl,f2⟩:=f1.num (by decide)
  obtain ⟨x2,its3,rfl,f3⟩:=f2.num (by decide)
  obtain ⟨x3,its4,rfl,f4⟩:=f3.num (by decide)
  obtain ⟨x4,its5,rfl,f5⟩:=f4.num (by decide)
  obtain rfl:=f5.nil
  rw [vO] at hf
  rw [vz]
  simp only [Vbslag.step]
  rw [aQ (hh (by decide))]
  rw [if_pos hf]
  rfl
 ·have eks:ks=(["c","m","k","x"]:List Str):=Option.some.inj (hks.symm.trans (show forms[3]?=some (["c","m","k","x"]:List Str) from rfl))
  subst eks
  obtain ⟨x0,its1,rfl,f1⟩:=f.num (by decide)
  obtain ⟨x1,its2,rfl,f2⟩:=f1.num (by decide)
  obtain ⟨x2,its3,rfl,f3⟩:=f2.num (by decide)
  obtain ⟨x3,its4,rfl,f4⟩:=f3.num (by decide)
  obtain rfl:=f4.nil
  rw [wd] at hf
  rw [uU]
  simp only [Vbslag.step]
  rw [aQ (hh (by decide))]
  rw [if_pos hf]
  rfl
 ·have eks:ks=(["c","m","k"]:List Str):=Option.some.inj (hks.symm.trans (show forms[4]?=some (["c","m","k"]:List Str) from rfl))
  subst eks
  obtain ⟨x0,its1,rfl,f1⟩:=f.num (by decide)
  obtain ⟨x1,its2,rfl,f2⟩:=f1.num (by decide)
  obtain ⟨x2,its3,rfl,f3⟩:=f2.num (by decide)
  obtain rfl:=f3.nil
  rw [gY] at hf
  rw [wJ]
  simp only [Vbslag.step]
  rw [aQ (hh (by decide))]
  rw [if_pos hf]
  rfl
 ·have eks:ks=(["c","k"]:List Str):=Option.some.inj (hks.symm.trans (show forms[5]?=some (["c","k"]:List Str) from rfl))
  subst eks
  obtain ⟨x0,its1,rfl,f1⟩:=f.num (by decide)
  obtain ⟨x1,its2,rfl,f2⟩:=f1.num (by decide)
  obtain rfl:=f2.nil
  rw [wC] at hf
  rw [vZ]
  simp only [Vbslag.step]
  rw [aQ (hh (by decide))]
  rw [if_pos hf]
  rfl
 ·have eks:ks=(["c"]:List Str):=Option.some.inj (hks.symm.trans (show forms[6]?=some (["c"]:List Str) from rfl))
  subst eks
  obtain ⟨x0,its1,rfl,f1⟩:=f.num (by decide)
  obtain rfl:=f1.nil
  rw [dB] at hf
  rw [uA]
  simp only [Vbslag.step]
  rw [aQ (hh (by decide))]
  rw [if_pos hf]
  rfl
 ·have eks:ks=(["c"]:List Str):=Option.some.inj (hks.symm.trans (show forms[7]?=some (["c"]:List Str) from rfl))
  subst eks
  obtain ⟨x0,its1,rfl,f1⟩:=f.num (by decide)
  obtain rfl:=f1.nil
  rw [dB] at hf
  rw [vY]
  simp only [Vbslag.step]
  rw [aQ (hh (by decide))]
  rw [if_pos hf]
  rfl
 ·have eks:ks=(["c","another"]:List Str):=Option.some.inj (hks.symm.trans (show forms[8]?=some (["c","another"]:List Str) from rfl))
  subst eks
  obtain ⟨x0,its1,rfl,f1⟩:=f.num (by decide)
  obtain ⟨x1,its2,rfl,f2⟩:=f1.num (by decide)
  obtain rfl:=f2.nil
  rw [u4] at hf
  rw [uB]
  simp only [Vbslag.step]
  rw [aQ (hh (by decide))]
  rw [if_pos hf]
  rfl
 ·have eks:ks=(["i"]:List Str):=Option.some.inj (hks.symm.trans (show forms[9]?=some (["i"]:List Str) from rfl))
  subst eks
  obtain ⟨x0,its1,rfl,f1⟩:=f.num (by decide)
  obtain rfl:=f1.nil
  rw [jy] at hf
  rw [wf]
  simp only [Vbslag.step]
  rw [aQ (hh (by decide))]
  rw [if_pos hf]
  rfl
 ·have eks:ks=(["i"]:List Str):=Option.some.inj (hks.symm.trans (show forms[10]?=some (["i"]:List Str) from rfl))
  subst eks
  obtain ⟨x0,its1,rfl,f1⟩:=f.num (by decide)
  obtain rfl:=f1.nil
  rw [jy] at hf
  rw [qK]
  simp only [Vbslag.step]
  rw [aQ (hh (by decide))]
  rw [if_pos hf]
  rfl
 ·have eks:ks=(["i"]:List Str):=Option.some.inj (hks.symm.trans (show forms[11]?=some (["i"]:List Str) from rfl))
  subst eks
  obtain ⟨x0,its1,rfl,f1⟩:=f.num (by decide)
  obtain rfl:=f1.nil
  rw [jy] at hf
  rw [qh]
  simp only [Vbslag.step]
  rw [aQ (hh (by decide))]
  rw [if_pos hf]
  rfl
 ·have eks:ks=(["c"]:List Str):=Option.some.inj (hks.symm.trans (show forms[12]?=some (["c"]:List Str) from rfl))
  subst eks
  obtain ⟨x0,its1,rfl,f1⟩:=f.num (by decide)
  obtain rfl:=f1.nil
  rw [dB] at hf
  rw [rN]
  simp only [Vbslag.step]
  rw [aQ (hh (by decide))]
  rw [if_pos hf]
  rfl
 ·have eks:ks=(["c"]:List Str):=Option.some.inj (hks.symm.trans (show forms[13]?=some (["c"]:List Str) from rfl))
  subst eks
  obtain ⟨x0,its1,rfl,f1⟩:=f.num (by decide)
  obtain rfl:=f1.nil
  rw [dB] at hf
  rw [qx]
  simp only [Vbslag.step]
  rw [aQ (hh (by decide))]
  rw [if_pos hf]
  rfl
 ·have eks:ks=(["c"]:List Str):=Option.some.inj (hks.symm.trans (show forms[14]?=some (["c"]:List Str) from rfl))
  subst eks
  obtain ⟨x0,its1,rfl,f1⟩:=f.num (by decide)
  obtain rfl:=f1.nil
  rw [dB] at hf
  rw [qW]
  simp only [Vbslag.step]
  rw [aQ (hh (by decide))]
  rw [if_pos hf]
  rfl
 ·have eks:ks=(["c"]:List Str):=Option.some.inj (hks.symm.trans (show forms[15]?=some (["c"]:List Str) from rfl))
  subst eks
  obtain ⟨x0,its1,rfl,f1⟩:=f.num (by decide)
  obtain rfl:=f1.nil
  rw [dB] at hf
  rw [rC]
  simp only [Vbslag.step]
  rw [aQ (hh (by decide))]
  rw [if_pos hf]
  rfl
 ·have eks:ks=(["c","m","k"]:List Str):=Option.some.inj (hks.symm.trans (show forms[16]?=some (["c","m","k"]:List Str) from rfl))
  subst eks
  obtain ⟨x0,its1,rfl,f1⟩:=f.num (by decide)
  obtain ⟨x1,its2,rfl,f2⟩:=f1.num (by decide)
  obtain ⟨x2,its3,rfl,f3⟩:=f2.num (by decide)
  obtain rfl:=f3.nil
  rw [gY] at hf
  rw [rh]
  simp only [Vbslag.step]
  rw [aQ (hh (by decide))]
  rw [if_pos hf]
  rfl
 ·have eks:ks=(["c","knowledge"]:List Str):=Option.some.inj (hks.symm.trans (show forms[17]?=some (["c","knowledge"]:List Str) from rfl))
  subst eks
  obtain ⟨x0,its1,rfl,f1⟩:=f.num (by decide)
  obtain ⟨x1,its2,rfl,f2⟩:=f1.row rfl
  obtain rfl:=f2.nil
  rw [sK] at hf
  rw [qM]
  simp only [Vbslag.step]
  rw [aQ (hh (by decide))]
  rw [if_pos hf]
  rfl
 ·have eks:ks=(["c","m","k"]:List Str):=Option.some.inj (hks.symm.trans (show forms[18]?=some (["c","m","k"]:List Str) from rfl))
  subst eks
  obtain ⟨x0,its1,rfl,f1⟩:=f.num (by decide)
  obtain ⟨x1,its2,rfl,f2⟩:=f1.num (by decide)
  obtain ⟨x2,its3,rfl,f3⟩:=f2.num (by decide)
  obtain rfl:=f3.nil
  rw [gY] at hf
  rw [qI]
  simp only [Vbslag.step]
  rw [aQ (hh (by decide))]
  rw [if_pos hf]
  rfl
 ·have eks:ks=(["c"]:List Str):=Option.some.inj (hks.symm.trans (show forms[19]?=some (["c"]:List Str) from rfl))
  subst eks
  obtain ⟨x0,its1,rfl,f1⟩:=f.num (by decide)
  obtain rfl:=f1.nil
  rw [dB] at hf
  rw [rH]
  simp only [Vbslag.step]
  rw [aQ (hh (by decide))]
  rw [if_pos hf]
  rfl
 ·have eks:ks=(["c","m","k"]:List Str):=Option.some.inj (hks.symm.trans (show forms[20]?=some (["c","m","k"]:List Str) from rfl))
  subst eks
  obtain ⟨x0,its1,rfl,f1⟩:=f.num (by decide)
  obtain ⟨x1,its2,rfl,f2⟩:=f1.num (by decide)
  obtain ⟨x2,its3,rfl,f3⟩:=f2.num (by decide)
  obtain rfl:=f3.nil
  rw [gY] at hf
  rw [rp]
  simp only [Vbslag.step]
  rw [aQ (hh (by decide))]
  rw [if_pos hf]
  rfl
 ·have eks:ks=(["c","g"]:List Str):=Option.some.inj (hks.symm.trans (show forms[21]?=some (["c","g"]:List Str) from rfl))
  subst eks
  obtain ⟨x0,its1,rfl,f1⟩:=f.num (by decide)
  obtain ⟨x1,its2,rfl,f2⟩:=f1.num (by decide)
  obtain rfl:=f2.nil
  rw [sQ] at hf
  rw [qy]
  simp only [Vbslag.step]
  rw [aQ (hh (by decide))]
  rw [if_pos hf]
  rfl
 ·have eks:ks=([]:List Str):=Option.some.inj (hks.symm.trans (show forms[22]?=some ([]:List Str) from rfl))
  subst eks
  obtain rfl:=f.nil
  cases hf
 ·have eks:ks=([]:List Str):=Option.some.inj (hks.symm.trans (show forms[23]?=some ([]:List Str) from rfl))
  subst eks
  obtain rfl:=f.nil
  cases hf
def bK (C Cd:Addr) (q:Nat):Sp:=fun vs H Q _=>∃ (p:Addr) (h:House) (a:LA) (t:Addr) (ks:List Str) (its:List Itm) (vs':List V),vs=[.ref p,.ref t]/\aw C Cd H p h a/\NH.Inv h/\(q≠0->h.hands≠0)/\forms[q]?=some ks/\dH ks its/\H t=some (.tup vs')/\cV H vs' its/\bR h ks its 0=true/\
 ∀ H' a' r,aw C Cd H' p (aO h (aA q its)).1 a'->(∀ b,b∈a'.mut->b∈a.mut\/H b=none)->(∀ b o,H b=some o->b≠p->b∉a.mut->H' b=some o)->H r=none->H' r=some (.lst (gI (aO h (aA q its)).2))->Q (.ref r) H'
theorem dH.nums:∀ {ks:List Str} {its:List Itm},dH ks its->("knowledge" : Str)∉ks->∃ zs:List Int,its=zs.map Itm.num/\ks.length=zs.length
 | [],its,f,_=>⟨[],f.nil,rfl⟩
 | k::ks,its,f,n=>by
  obtain ⟨z,r,e,f1⟩:=f.num (fun e=>n (by rw [e];exact List.mem_cons_self ..))
  obtain ⟨zs,e1,e2⟩:=f1.nums (fun m=>n (List.mem_cons_of_mem _ m))
  exact ⟨z::zs,by rw [e,e1];rfl,by simp [e2]⟩
theorem kO {H:Hp}:∀ {vs:List V} (zs:List Int),cV H vs (zs.map Itm.num)->vs=gI zs
 | _,[],h=>by cases h;rfl
 | _,z::zs,h=>by
  cases h with
  | cons x t=>
   have e1:_=V.int z:=x
   have:=kO zs t
   rw [e1,this]
   rfl
theorem cg {C Cd:Addr} {q:Nat} {mk:List Int->Call} {ks0:List Str} (hf:forms[q]?=some ks0) (hn:("knowledge" : Str)∉ks0) (hmk:∀ (h:House) (zs:List Int),ks0.length=zs.length->aO h (aA q (zs.map Itm.num))=Vbslag.step h (mk zs))
  {vs:List V} {H:Hp} {Q:VK} {E:XK} (h:bK C Cd q vs H Q E):cM C Cd q mk vs H Q E:=by
 obtain ⟨p,h,a,t,ks,its,vs',rfl,L,I,hh,hks,f,ht,hit,hfit,q'⟩:=h
 have e:ks0=ks:=Option.some.inj (hf.symm.trans hks)
 subst e
 obtain ⟨zs,rfl,hz⟩:=f.nums hn
 rw [kO zs hit] at ht
 rw [hmk h zs hz] at q'
 exact ⟨p,h,a,t,ks0,zs,rfl,L,I,hh,ht,hks,hz,hfit,q'⟩
theorem tj (h:House) (zs:List Int) (hz:(["c","a","b","x"]:List Str).length=zs.length):aO h (aA 1 (zs.map Itm.num))=Vbslag.step h (pU zs):=by
 match zs,hz with
 | [c,a,b,x],_=>exact v9 h c a b x
theorem qd (h:House) (zs:List Int) (hz:(["n","length"]:List Str).length=zs.length):aO h (aA 0 (zs.map Itm.num))=Vbslag.step h (ja zs):=by
 match zs,hz with
 | [c,a],_=>exact zd h c a
theorem rJ (h:House) (zs:List Int) (hz:(["c","k"]:List Str).length=zs.length):aO h (aA 5 (zs.map Itm.num))=Vbslag.step h (lF zs):=by
 match zs,hz with
 | [c,a],_=>exact vZ h c a
theorem qL (h:House) (zs:List Int) (hz:(["c"]:List Str).length=zs.length):aO h (aA 6 (zs.map Itm.num))=Vbslag.step h (lr zs):=by
 match zs,hz with
 | [c],_=>exact uA h c
theorem pp (h:House) (zs:List Int) (hz:(["c"]:List Str).length=zs.length):aO h (aA 7 (zs.map Itm.num))=Vbslag.step h (i4 zs):=by
 match zs,hz with
 | [c],_=>exact vY h c
theorem rK (h:House) (zs:List Int) (hz:(["c","another"]:List Str).length=zs.length):aO h (aA 8 (zs.map Itm.num))=Vbslag.step h (kU zs):=by
 match zs,hz with
 | [c,a],_=>exact uB h c a
theorem lQ (h:House) (zs:List Int) (hz:(["i"]:List Str).length=zs.length):aO h (aA 9 (zs.map Itm.num))=Vbslag.step h (f8 zs):=by
 match zs,hz with
 | [c],_=>exact wf h c
theorem rB (h:House) (zs:List Int) (hz:(["i"]:List Str).length=zs.length):aO h (aA 10 (zs.map Itm.num))=Vbslag.step h (lq zs):=by
 match zs,hz with
 | [c],_=>exact qK h c
theorem oG (h:House) (zs:List Int) (hz:(["i"]:List Str).length=zs.length):aO h (aA 11 (zs.map Itm.num))=Vbslag.step h (hC zs):=by
 match zs,hz with
 | [c],_=>exact qh h c
structure Env (K:PySem.W.Frag) (mg:Str->Option Value) (C Cd Cm:Addr):Prop where
 hp:Helps K mg
 ve:VEnv K mg Cm
 fms:Has K mg "find_marks" 38 ["doings","knowledge"]
 fmk:Has K mg "find_mark" 39 ["doings","knowledge","name"]
 sl:Has K mg "stretch_and_label" 40 ["mark"]
 vo:Has K mg "view_order" 41 ["shown"]
 view:Has K mg "view" 42 ["doings","knowledge"]
 ov:Has K mg "overlap" 43 ["one","other"]
 ovs:Has K mg "overlapping_pairs" 44 ["shown"]
 all:Has K mg "doings_in_all" 15 ["line"]
 kd:Has K mg "known_doing" 20 ["line","hand","name"]
 ks:Has K mg "known_signs" 21 ["line","hand"]
 sure:Has K mg "surely_known" 22 ["line","hand","knowledge"]
 as:Has K mg "all_surely_know" 23 ["line","hand"]
 cl:Has K mg "is_closed" 24 ["line","knowledge"]
 ctd:Has K mg "counted" 66 ["rows"]
 vof:Has K mg "view_of" 67 ["line","hand"]
 wo:Has K mg "without" 77 ["shown","others"]
 T:cR K C
 Td:dC K Cd
 Tm:qZ K Cm
 B:Blt mg
 B2:Blt2 mg
 G:Kinds mg
 W:Words mg
def Fn (P:Program) (w:World) (K:PySem.W.Frag) (mg:Str->Option Value) (base:Heap) (x:Str) (k:Nat) (ps:List Str) (sp:Sp):Prop:=
 ∃ (f:Addr) (fd:FuncData),az P w K mg base CX0 k f fd ps sp/\PySem.W.keepIn K (.ref f)=true/\aG K fd ps []/\mg x=some (.ref f)
theorem gy {α:Type} (f:α->List Int) (l:List α):ctI (l.map f)=(l.length:Int)::l.flatMap f:=by
 unfold ctI
 rw [List.length_map,List.flatMap_def]
theorem dO {α:Type} (f:α->List Int) (k:Nat) (h:∀ x,(f x).length<=k):∀ l:List α,(l.map f).flatten.length<=l.length * k
 | []=>by simp
 | x::l=>by
  have:=dO f k h l
  have:=h x
  rw [List.map_cons,List.flatten_cons,List.length_append,List.length_cons,Nat.succ_mul]
  omega
theorem f9 {n:Nat} {ds:Doings} (D:fB n ds) {v:Known} (hv:∀ g,v.getD g 0<=bg ds g) (h120:∀ g,v.getD g 0<=120) (h5:n<=5):(Vbslag.view ds v).length<=600:=by
 rw [(ic ds v).length_eq]
 exact Nat.le_trans (List.length_filterMap_le _ _) (gw D hv h120 h5)
theorem aw.varg {K:PySem.W.Frag} {C Cd:Addr} {H:Hp} {p:Addr} {h:House} {a:LA} (L:aw C Cd H p h a) (I:NH.Inv h) {t:Bool} {lk:Addr} {v:Known} (hk:SqX K t H lk (aL v)) (hl:v.length=h.hands) (hle:∀ g,v.getD g 0<=bg h.doings g):yu K Cd H a.D h.doings t lk v h.hands:=
 ⟨L.doings,hk,by rw [hl,I.ds.len],I.ds,I.hands,hle,fun g=>Nat.le_trans (hle g) (I.len120 g)⟩
section
variable {P:Program} {w:World} {K:PySem.W.Frag} {mg:Str->Option Value} {base:Heap} {C Cd Cm:Addr}
theorem ou (N:Env K mg C Cd Cm):Fn P w K mg base "view" 6 ["doings","knowledge"] (vv K Cd):=by
 obtain ⟨f,fd,F,b,m⟩:=N.view
 obtain ⟨f1,fd1,F1,b1,m1⟩:=N.fms
 obtain ⟨f2,fd2,F2,b2,m2⟩:=N.sl
 obtain ⟨f3,fd3,F3,b3,m3⟩:=N.vo
 exact ⟨f,fd,xL N.ve F F1 b1 m1 F2 b2 m2 F3 b3 m3 N.Td N.Tm N.B N.G,F.kp,b,m⟩
theorem vH (N:Env K mg C Cd Cm):Fn P w K mg base "find_mark" 6 ["doings","knowledge","name"] (yJ K Cm Cd):=by
 obtain ⟨f,fd,F,b,m⟩:=N.fmk
 obtain ⟨f1,fd1,F1,b1,m1⟩:=N.fms
 exact ⟨f,fd,z9 N.ve F F1 b1 m1 N.Td N.Tm N.B N.G,F.kp,b,m⟩
theorem A5 (N:Env K mg C Cd Cm):Fn P w K mg base "stretch_and_label" 1 ["mark"] (Av Cm Cd):=by
 obtain ⟨f,fd,F,b,m⟩:=N.sl
 exact ⟨f,fd,yI F N.Td N.Tm N.G,F.kp,b,m⟩
theorem AT (N:Env K mg C Cd Cm):Fn P w K mg base "overlapping_pairs" 2 ["shown"] zj:=by
 obtain ⟨f,fd,F,b,m⟩:=N.ovs
 obtain ⟨f1,fd1,F1,b1,m1⟩:=N.ov
 exact ⟨f,fd,z6 F F1 b1 m1 N.B N.B2,F.kp,b,m⟩
theorem zN (N:Env K mg C Cd Cm):Fn P w K mg base "doings_in_all" 1 ["line"] (vp C Cd):=by
 obtain ⟨f,fd,F,b,m⟩:=N.all
 exact ⟨f,fd,uZ F N.T N.B,F.kp,b,m⟩
theorem yT (N:Env K mg C Cd Cm):Fn P w K mg base "known_doing" 2 ["line","hand","name"] (Dc C Cd):=by
 obtain ⟨f,fd,F,b,m⟩:=N.kd
 exact ⟨f,fd,BD N.hp F N.T,F.kp,b,m⟩
theorem Dg (N:Env K mg C Cd Cm):Fn P w K mg base "known_signs" 1 ["line","hand"] (BH C Cd):=by
 obtain ⟨f,fd,F,b,m⟩:=N.ks
 exact ⟨f,fd,Bx F N.T N.Td N.B N.G,F.kp,b,m⟩
theorem C0 (N:Env K mg C Cd Cm):Fn P w K mg base "all_surely_know" 3 ["line","hand"] (B1 C Cd):=by
 obtain ⟨f,fd,F,b,m⟩:=N.as
 obtain ⟨f1,fd1,F1,b1,m1⟩:=N.sure
 exact ⟨f,fd,BQ N.hp F F1 b1 m1 N.T N.Td N.B N.B2,F.kp,b,m⟩
theorem C6 (N:Env K mg C Cd Cm):Fn P w K mg base "is_closed" 3 ["line","knowledge"] (CW K C Cd):=by
 obtain ⟨f,fd,F,b,m⟩:=N.cl
 obtain ⟨f1,fd1,F1,b1,m1⟩:=N.sure
 exact ⟨f,fd,Bc N.hp F F1 b1 m1 N.T N.Td N.B,F.kp,b,m⟩
theorem gT (N:Env K mg C Cd Cm):Fn P w K mg base "counted" 1 ["rows"] (rX K):=by
 obtain ⟨f,fd,F,b,m⟩:=N.ctd
 exact ⟨f,fd,AN F N.B,F.kp,b,m⟩
theorem yO (N:Env K mg C Cd Cm):Fn P w K mg base "with_itself" 1 ["doing"] (xN Cd):=by
 obtain ⟨f,fd,F,b,m⟩:=N.hp.wi
 exact ⟨f,fd,zi F N.Td N.B,F.kp,b,m⟩
theorem zI (N:Env K mg C Cd Cm):Fn P w K mg base "is_within" 1 ["part","knowledge"] (si K):=by
 obtain ⟨f,fd,F,b,m⟩:=N.hp.win
 exact ⟨f,fd,rD F N.B,F.kp,b,m⟩
theorem Bk (N:Env K mg C Cd Cm):Fn P w K mg base "taken_back" 1 ["own","many"] (xD Cd):=by
 obtain ⟨f,fd,F,b,m⟩:=N.ve.tb
 exact ⟨f,fd,wK F N.Td N.B N.G,F.kp,b,m⟩
abbrev Dq:Stmt:=top 67
def CL (C Cd:Addr):Sp:=fun vs H Q _=>∃ p h a c,vs=[.ref p,.int ((c:Nat):Int)]/\aw C Cd H p h a/\NH.Inv h/\c < h.hands/\∀ r H',ay H H'->cC H' r ((Vbslag.view h.doings (copyAt h c).known).map markRow)->Q (.ref r) H'
theorem C7:aq ["line","hand"] ["line","hand"] (al Dq):=⟨rfl,rfl,rfl,by decide +kernel,rfl,by decide +kernel,by decide +kernel⟩
theorem qX (N:Env K mg C Cd Cm):Fn P w K mg base "view_of" 7 ["line","hand"] (CL C Cd):=by
 obtain ⟨f,fd,F,b,m⟩:=N.vof
 refine ⟨f,fd,?_,F.kp,b,m⟩
 obtain ⟨f1,fd1,G1,k1,b1,m1⟩:=ou (P:=P) (w:=w) (base:=base) N
 refine F.ok C7 (fun vs H Q E h=>?_) (fun cdv A outer s H vs Q E hr h=>?_)
 ·obtain ⟨p,h,a,c,rfl,_⟩:=h
  rfl
 ·obtain ⟨p,h,a,c,rfl,L,I,hc,q⟩:=h
  refine ⟨_,aj (ap (au G1 hr rfl m1 k1 b1 .nil aD (aa (ao (pv 0) rfl) (aa (ax aE (ao (pv 0) rfl) (pv 1) (fun _ _=>rfl)) ad)))),?_⟩
  have CO:=I.copy hc
  obtain ⟨qk,hqk,hkn⟩:=L.known I hc
  exact ⟨_,rfl,p,C,a.dx,_,_,rfl,L.obj,N.T.cl,N.T.nd,cu ..,_,rfl,p,C,a.dx,_,_,rfl,L.obj,N.T.cl,N.T.nk,cA ..,_,rfl,a.N,_,_,_,rfl,rfl,SqL.of L.nl,aR rfl hqk,
   a.D,h.doings,false,qk,_,h.hands,rfl,L.varg I (t:=false) (SqL.of hkn) CO.klen CO.le,q⟩
abbrev B6:Stmt:=top 68
def xl:List Int->Call
 | [c]=> .view c
 | _=> .counts
theorem DZ:aq ["line","told"] ["line","told"] (al B6):=⟨rfl,rfl,rfl,by decide +kernel,rfl,by decide +kernel,by decide +kernel⟩
theorem Dm {f:Addr} {fd:FuncData} (N:Env K mg C Cd Cm) (F:Fun K "show_view" "show_view" B6 f fd):az P w K mg base CX0 8 f fd ["line","told"] (cM C Cd 12 xl):=by
 obtain ⟨f1,fd1,G1,k1,b1,m1⟩:=qX (P:=P) (w:=w) (base:=base) N
 obtain ⟨f2,fd2,G2,k2,b2,m2⟩:=gT (P:=P) (w:=w) (base:=base) N
 refine F.ok DZ (fun vs H Q E h=>?_) (fun cdv A outer s H vs Q E hr h=>?_)
 ·obtain ⟨p,h,a,t,ks,zs,rfl,_⟩:=h
  rfl
 ·obtain ⟨p,h,a,t,ks,zs,rfl,L,I,hh,ht,hks,hkl,hfit,q⟩:=h
  have eks:ks=(["c"]:List Str):=Option.some.inj (hks.symm.trans (show forms[12]?=some (["c"]:List Str) from rfl))
  subst eks
  match zs,hkl with
  | [c],_=>
   rw [show ([c].map Itm.num)=[.num c] from rfl,dB] at hfit
   have g1:=aM hfit
   have ec:c=((c.toNat:Nat):Int):=by omega
   have hq:Vbslag.step h (xl [c])=(h,0::viewRow (viewOf h c)):=by
    simp only [xl,Vbslag.step]
    rw [aQ (hh (by decide))]
    simp only [hfit,if_false]
    rfl
   rw [hq] at q
   have hr1:bP 1 _:=hr.mono (by decide)
   have CO:=I.copy g1.2
   have hvl:=f9 I.ds CO.le (I.known120 g1.2) I.hands
   refine ⟨_,aj (ap (bZ cH (aJ (aa am ad)) (au G2 hr1 rfl m2 k2 b2 .nil aD (aa (au G1 hr rfl m1 k1 b1 .nil aD (aa (pv 0) (aa (ax aH (pv 1) am (fun _ _=>rfl)) ad))) ad)))),?_⟩
   refine ⟨(by show 1<=sizeLine;decide),fun p0 hp0=>?_⟩
   have s0:=ac (o:= .lst [V.int 0]) hp0
   refine ⟨_,rfl,_,rfl,t,_,0,.int c,rfl,rfl,Or.inl (Or.inl (s0 _ _ ht)),rfl,p,h,a,c.toNat,by rw [<- ec];rfl,L.same s0,I,g1.2,fun r H1 s1 hrows=>?_⟩
   obtain ⟨ps,hps,hrow⟩:=hrows
   have hfl:=dO markRow 5 (fun x=>by show 5<=5;decide) (Vbslag.view h.doings (copyAt h c.toNat).known)
   refine ⟨r,ps,_,rfl,hps,eW.of hrow,by omega,fun r2 H2 s2 nr2 hr2=>?_⟩
   have hz:((ctI ((Vbslag.view h.doings (copyAt h c.toNat).known).map markRow)).map V.int).length<=3001:=by
    unfold ctI
    rw [List.length_map,List.length_cons]
    omega
   have hb:3002<=sizeLine:=by decide
   refine ⟨p0,r2,_,_,rfl,rfl,s2 _ _ (s1 _ _ ab),hr2,by rw [List.length_singleton];omega,fun r3 hr3=>?_⟩
   have s3:=((s0.trans s1).trans s2).trans (ac (o:= .lst ([V.int 0]++(ctI ((Vbslag.view h.doings (copyAt h c.toNat).known).map markRow)).map V.int)) hr3)
   refine q _ a r3 (L.same s3) (fun b hb=> .inl hb) (bu (aN.of s3)) (((s0.trans s1).trans s2).free hr3) ?_
   rw [ab,gy]
   rfl
end
section
variable {P:Program} {w:World} {K:PySem.W.Frag} {mg:Str->Option Value} {base:Heap} {C Cd Cm:Addr}
abbrev BW:Stmt:=top 69
def vG:List Int->Call
 | [c]=> .known c
 | _=> .counts
theorem C8:aq ["line","told","hand"] ["line","told"] (al BW):=⟨rfl,rfl,rfl,by decide +kernel,rfl,by decide +kernel,by decide +kernel⟩
theorem Bp {f:Addr} {fd:FuncData} (N:Env K mg C Cd Cm) (F:Fun K "tell_known" "tell_known" BW f fd):az P w K mg base CX0 2 f fd ["line","told"] (cM C Cd 13 vG):=by
 obtain ⟨f2,fd2,G2,k2,b2,m2⟩:=gT (P:=P) (w:=w) (base:=base) N
 refine F.ok C8 (fun vs H Q E h=>?_) (fun cdv A outer s H vs Q E hr h=>?_)
 ·obtain ⟨p,h,a,t,ks,zs,rfl,_⟩:=h
  rfl
 ·obtain ⟨p,h,a,t,ks,zs,rfl,L,I,hh,ht,hks,hkl,hfit,q⟩:=h
  have eks:ks=(["c"]:List Str):=Option.some.inj (hks.symm.trans (show forms[13]?=some (["c"]:List Str) from rfl))
  subst eks
  match zs,hkl with
  | [c],_=>
   rw [show ([c].map Itm.num)=[.num c] from rfl,dB] at hfit
   have g1:=aM hfit
   have ec:c=((c.toNat:Nat):Int):=by omega
   have hq:Vbslag.step h (vG [c])=(h,0::nums (copyAt h c.toNat).known++((copyAt h c.toNat).pool.length:Int)::(copyAt h c.toNat).pool.flatMap bj):=by
    simp only [vG,Vbslag.step]
    rw [aQ (hh (by decide))]
    simp only [hfit,if_false]
    rfl
   rw [hq] at q
   have CO:=I.copy g1.2
   obtain ⟨qk,hqk,hkn⟩:=L.known I g1.2
   obtain ⟨qw,hqw,rs,hrs,hrow⟩:=L.wait I g1.2
   have hpl:=k8 I CO
   have hkl:=CO.klen
   have h5:=I.hands
   have hfl:=dO bj 2 (fun x=>by show 2<=2;decide) (copyAt h c.toNat).pool
   have hb:1000<=sizeLine:=by decide
   refine ⟨_,ag (aB (i:=2) C8.nd rfl (Or.inl rfl) (ax aH (pv 1) am (fun _ _=>rfl)))
    (aj (ap (bZ cH (bZ cH (aJ (aa am ad)) (ax aE (ao (pv 0) rfl) (pv 2) (fun _ _=>rfl))) (au G2 hr rfl m2 k2 b2 .nil aD (aa (ax aE (ao (pv 0) rfl) (pv 2) (fun _ _=>rfl)) ad))))),?_⟩
   refine ⟨_,rfl,t,_,0,.int c,rfl,rfl,Or.inl (Or.inl ht),rfl,?_⟩
   refine ⟨(by show 1<=sizeLine;decide),fun p0 hp0=>?_⟩
   have s0:=ac (o:= .lst [V.int 0]) hp0
   have L0:=L.same s0
   refine ⟨_,rfl,p,C,a.dx,_,_,rfl,L0.obj,N.T.cl,N.T.nk,cA ..,_,rfl,a.N,_,_,_,rfl,rfl,SqL.of L0.nl,aR ec hqk,p0,qk,_,_,rfl,rfl,ab,s0 _ _ hkn,by rw [bH,hkl,List.length_singleton];omega,fun p1 hp1=>?_⟩
   have s1:=ac (o:= .lst ([V.int 0]++aL (copyAt h c.toNat).known)) hp1
   have s01:=s0.trans s1
   have L1:=L.same s01
   refine ⟨_,rfl,p,C,a.dx,_,_,rfl,L1.obj,N.T.cl,N.T.nw,eU ..,_,rfl,a.W,_,_,_,rfl,rfl,SqL.of L1.wl,aR ec hqw,qw,rs,_,rfl,s01 _ _ hrs,eW.of (Rows.same s01 hrow),by omega,fun r2 H2 s2 nr2 hr2=>?_⟩
   have hz:((ctI ((copyAt h c.toNat).pool.map bj)).map V.int).length<=241:=by
    unfold ctI
    rw [List.length_map,List.length_cons]
    omega
   refine ⟨p1,r2,_,_,rfl,rfl,s2 _ _ ab,hr2,by rw [List.length_append,bH,hkl,List.length_singleton];omega,fun r3 hr3=>?_⟩
   have s3:=(s01.trans s2).trans (ac (o:= .lst ([V.int 0]++aL (copyAt h c.toNat).known++(ctI ((copyAt h c.toNat).pool.map bj)).map V.int)) hr3)
   refine q _ a r3 (L.same s3) (fun b hb=> .inl hb) (bu (aN.of s3)) ((s01.trans s2).free hr3) ?_
   rw [ab,gy]
   unfold gI
   rw [List.map_append]
   rfl
abbrev Ch:Stmt:=top 70
def uJ:List Int->Call
 | [c]=> .stable c
 | _=> .counts
theorem D3:aq ["line","told"] ["line","told"] (al Ch):=⟨rfl,rfl,rfl,by decide +kernel,rfl,by decide +kernel,by decide +kernel⟩
theorem B8 {f:Addr} {fd:FuncData} (N:Env K mg C Cd Cm) (F:Fun K "tell_stable" "tell_stable" Ch f fd):az P w K mg base CX0 4 f fd ["line","told"] (cM C Cd 14 uJ):=by
 obtain ⟨f1,fd1,G1,k1,b1,m1⟩:=C0 (P:=P) (w:=w) (base:=base) N
 refine F.ok D3 (fun vs H Q E h=>?_) (fun cdv A outer s H vs Q E hr h=>?_)
 ·obtain ⟨p,h,a,t,ks,zs,rfl,_⟩:=h
  rfl
 ·obtain ⟨p,h,a,t,ks,zs,rfl,L,I,hh,ht,hks,hkl,hfit,q⟩:=h
  have eks:ks=(["c"]:List Str):=Option.some.inj (hks.symm.trans (show forms[14]?=some (["c"]:List Str) from rfl))
  subst eks
  match zs,hkl with
  | [c],_=>
   rw [show ([c].map Itm.num)=[.num c] from rfl,dB] at hfit
   have g1:=aM hfit
   have ec:c=((c.toNat:Nat):Int):=by omega
   have hq:Vbslag.step h (uJ [c])=(h,0::nums (stable h.doings c.toNat (copyAt h c.toNat).known)):=by
    simp only [uJ,Vbslag.step]
    rw [aQ (hh (by decide))]
    simp only [hfit,if_false]
    rfl
   rw [hq] at q
   have CO:=I.copy g1.2
   have hsl:=kZ I.ds CO.klen CO.le c.toNat
   have h5:=I.hands
   have hb:1000<=sizeLine:=by decide
   refine ⟨_,aj (ap (bZ cH (aJ (aa am ad)) (au G1 hr rfl m1 k1 b1 .nil aD (aa (pv 0) (aa (ax aH (pv 1) am (fun _ _=>rfl)) ad))))),?_⟩
   refine ⟨(by show 1<=sizeLine;decide),fun p0 hp0=>?_⟩
   have s0:=ac (o:= .lst [V.int 0]) hp0
   refine ⟨_,rfl,_,rfl,t,_,0,.int c,rfl,rfl,Or.inl (Or.inl (s0 _ _ ht)),rfl,p,h,a,c.toNat,by rw [<- ec];rfl,L.same s0,I,g1.2,fun r H1 s1 hr1=>?_⟩
   refine ⟨p0,r,_,_,rfl,rfl,s1 _ _ ab,hr1,by rw [bH,hsl,List.length_singleton];omega,fun r3 hr3=>?_⟩
   have s3:=(s0.trans s1).trans (ac (o:= .lst ([V.int 0]++aL (stable h.doings c.toNat (copyAt h c.toNat).known))) hr3)
   refine q _ a r3 (L.same s3) (fun b hb=> .inl hb) (bu (aN.of s3)) ((s0.trans s1).free hr3) ?_
   rw [ab]
   rfl
abbrev Bm:Stmt:=top 71
def vx:List Int->Call
 | [c]=> .signs c
 | _=> .counts
def mV (d:Name×Doing):List Int:=nums (d.1.by_::d.1.k::signedKnown d.2 d.1)
theorem xH:aq ["line","told","signs","sign"] ["line","told"] (al Bm):=⟨rfl,rfl,rfl,by decide +kernel,rfl,by decide +kernel,by decide +kernel⟩
theorem mQ {α:Type} (f:α->List Int) (k:Nat):∀ (l:List α) (_:∀ x,x∈l->(f x).length<=k),(l.map f).flatten.length<=l.length * k
 | [],_=>by simp
 | x::l,h=>by
  have:=mQ f k l (fun y hy=>h y (List.mem_cons_of_mem _ hy))
  have:=h x (List.mem_cons_self ..)
  rw [List.map_cons,List.flatten_cons,List.length_append,List.length_cons,Nat.succ_mul]
  omega
theorem Ba {f:Addr} {fd:FuncData} (N:Env K mg C Cd Cm) (F:Fun K "tell_signs" "tell_signs" Bm f fd):az P w K mg base CX0 2 f fd ["line","told"] (cM C Cd 15 vx):=by
 obtain ⟨f1,fd1,G1,k1,b1,m1⟩:=Dg (P:=P) (w:=w) (base:=base) N
 obtain ⟨f2,fd2,G2,k2,b2,m2⟩:=gT (P:=P) (w:=w) (base:=base) N
 refine F.ok xH (fun vs H Q E h=>?_) (fun cdv A outer s H vs Q E hr h=>?_)
 ·obtain ⟨p,h,a,t,ks,zs,rfl,_⟩:=h
  rfl
 ·obtain ⟨p,h,a,t,ks,zs,rfl,L,I,hh,ht,hks,hkl,hfit,q⟩:=h
  have eks:ks=(["c"]:List Str):=Option.some.inj (hks.symm.trans (show forms[15]?=some (["c"]:List Str) from rfl))
  subst eks
  match zs,hkl with
  | [c],_=>
   rw [show ([c].map Itm.num)=[.num c] from rfl,dB] at hfit
   have g1:=aM hfit
   have ec:c=((c.toNat:Nat):Int):=by omega
   generalize hsg:signsOf h.doings (copyAt h c.toNat).known=sg
   have hq:Vbslag.step h (vx [c])=(h,0::(sg.length:Int)::sg.flatMap mV):=by
    simp only [vx,Vbslag.step]
    rw [aQ (hh (by decide))]
    simp only [hfit,if_false,hsg]
    rfl
   rw [hq] at q
   have CO:=I.copy g1.2
   have h5:=I.hands
   have hsgl:sg.length<=600:=by
    rw [<- hsg,lA CO.le]
    have:=iK h.doings (copyAt h c.toNat).known (I.known120 g1.2) h.doings.length
    rw [I.ds.len] at this
    have e:gM h.doings (copyAt h c.toNat).known h.hands=(List.range h.doings.length).flatMap (hU h.doings (copyAt h c.toNat).known):=by unfold gM;rw [I.ds.len]
    rw [<- e]
    omega
   have hmem:∀ d,d∈sg->d.2.knew.length=h.hands/\d.1.by_ < h.hands:=fun d hd=>by
    rw [<- hsg] at hd
    obtain ⟨z1,z2,z3⟩:=ig.mp (show (d.1,d.2)∈_ from hd)
    refine ⟨(I.ds.ok d.1.by_ d.1.k d.2 z1).klen,fH I.ds.len (List.getElem?_eq_some_iff.mp (show (h.doings.getD d.1.by_ [])[d.1.k]?=some d.2 from z1)).1⟩
   have hb:10000<=sizeLine:=by decide
   refine ⟨_,ag (aB (i:=2) xH.nd rfl (Or.inl rfl) (au G1 hr rfl m1 k1 b1 .nil aD (aa (pv 0) (aa (ax aH (pv 1) am (fun _ _=>rfl)) ad))))
    (aj (ap (bZ cH (aJ (aa am ad)) (au G2 hr rfl m2 k2 b2 .nil aD (aa
     (dD (own:=[("sign",3)]) (tt:=hJ) (te:=tOp p8 (lT (aY (j9 K (aV 3) "hand") (aY (j9 K (aV 3) "number") cF))) (fj (xN Cd) [] E0 (aY (aV 3) cF))) rfl xH.nd (c5 (pv 2)) (bO rfl)
      (fun _ _ _ _ _=>aK (i:=3) xH.nd rfl (Or.inl rfl)) (fun _ _ _ _ _=>cT)
      (fun _ _ _ _ _=>by
       obtain ⟨f3,fd3,G3,k3,b3,m3⟩:=yO (P:=P) (w:=w) N
       exact bZ cH (aJ (aa (ao (pv 3) rfl) (aa (ao (pv 3) rfl) ad))) (au G3 hr rfl m3 k3 b3 .nil aD (aa (pv 3) ad)))) ad))))),?_⟩
   refine ⟨_,rfl,_,rfl,t,_,0,.int c,rfl,rfl,Or.inl (Or.inl ht),rfl,p,h,a,c.toNat,by rw [<- ec];rfl,L,I,g1.2,fun r H1 ps s1 hr1 hrow=>?_⟩
   rw [hsg] at hrow
   have hpl:=hrow.length
   refine ⟨(by show 1<=sizeLine;decide),fun p0 hp0=>?_⟩
   have s2:=ac (o:= .lst [V.int 0]) hp0
   generalize eH2:upd H1 p0 (.lst [V.int 0])=H2 at s2
   have hp02:H2 p0=some (.lst [V.int 0]):=by rw [<- eH2];exact ab
   have hr2:=s2 _ _ hr1
   refine ⟨_,rfl,r,rfl,⟨_,SqL.of hr2⟩,fun D hD=>?_⟩
   refine eL (K:=K) (a:=r) (xs:=ps.map V.ref) (fun j H'=>ay H2 H'/\∃ us,H' D=some (.lst (us.map V.ref))/\Paired (fun p ms=>H' p=some (.lst (ms.map V.int))/\p≠D) us ((sg.take j).map mV)) ⟨ac hD,[],ab,.nil⟩ (fun j H' _ ⟨sm,_⟩=>SqL.of (sm _ _ hr2)) ?_ ?_
   ·rintro j x H3 hx ⟨sm,us,hus,hur⟩
    rw [List.getElem?_map] at hx
    cases e:ps[j]? with
    | none=>rw [e] at hx;cases hx
    | some pd=>
     rw [e] at hx
     cases hx
     obtain ⟨d,hd,hDA⟩:=b6.get hrow e
     have hDA3:=(hDA.same s2).same sm
     obtain ⟨dx,p1,p2,z1,z2,z3⟩:=id hDA3
     obtain ⟨hk1,hk2⟩:=hmem d (List.mem_of_getElem? hd)
     have hul:=Paired.length hur
     rw [List.length_map,List.length_take] at hul
     refine ⟨rfl,dL ?_⟩
     refine ⟨_,rfl,pd,Cd,dx,_,_,rfl,z1,N.Td.cl,N.Td.nh,gx ..,_,rfl,pd,Cd,dx,_,_,rfl,z1,N.Td.cl,N.Td.nn,fA ..,(by show 2<=sizeLine;decide),fun pa hpa=>?_⟩
     have s4:=ac (o:= .lst [V.int (d.1.by_:Int),V.int (d.1.k:Int)]) hpa
     refine ⟨_,rfl,pd,d.1.by_,d.1.k,d.2,rfl,hDA3.same s4,by rw [hk1];exact hk2,fun pw H5 s5 npw hpw=>?_⟩
     refine ⟨pa,pw,_,_,rfl,rfl,s5 _ _ ab,hpw,?_,fun pr hpr=>?_⟩
     ·rw [bH,List.length_set,hk1]
      show 2+_<=_
      omega
     have s6:=ac (o:= .lst ([V.int (d.1.by_:Int),V.int (d.1.k:Int)]++aL (d.2.knew.set d.1.by_ (d.1.k+1)))) hpr
     have s36:=(s4.trans s5).trans s6
     have hus6:=s36 _ _ hus
     have hrD:pr≠D:=fun z=>by
      have:=s5 _ _ (s4 _ _ hus)
      rw [z] at hpr
      rw [hpr] at this
      cases this
     refine ⟨_,hus6,?_,?_⟩
     ·rw [List.length_map,hul]
      omega
     ·refine ⟨fun b o e=>by rw [ah (ai e hD)];exact s36 _ _ (sm b o e),us++[pr],by rw [ab,List.map_append];rfl,?_⟩
      rw [List.take_add_one,hd,List.map_append]
      have app:∀ {ps qs:List Addr} {l m:List (List Int)} {F:Addr->List Int->Prop},Paired F ps l->Paired F qs m->Paired F (ps++qs) (l++m):=by
       intro ps qs l m F h1 h2
       induction h1 with
       | nil=>exact h2
       | cons x _ ih=>exact .cons x ih
      refine app (Paired.mapP hur fun _ _ z=>⟨by rw [ah z.2];exact s36 _ _ z.1,z.2⟩) (.cons ⟨?_,hrD⟩ .nil)
      rw [ah hrD,ab]
      rfl
   ·rintro H3 ⟨sm,us,hus,hur⟩
    rw [List.length_map,hpl,List.take_length] at hur
    have hfl:=mQ mV 7 sg (fun d hd=>by
     unfold mV nums signedKnown
     rw [List.length_map,List.length_cons,List.length_cons,List.length_set,(hmem d hd).1]
     omega)
    refine ⟨D,us,_,rfl,hus,Paired.mapP hur fun _ _ z=> .inl z.1,by omega,fun r2 H4 s4 nr2 hr4=>?_⟩
    have hz:((ctI (sg.map mV)).map V.int).length<=4201:=by
     unfold ctI
     rw [List.length_map,List.length_cons]
     omega
    refine ⟨p0,r2,_,_,rfl,rfl,s4 _ _ (sm _ _ hp02),hr4,by rw [List.length_singleton];omega,fun r3 hr3=>?_⟩
    have s04:=((s1.trans s2).trans sm).trans s4
    have s5:=s04.trans (ac (o:= .lst ([V.int 0]++(ctI (sg.map mV)).map V.int)) hr3)
    refine q _ a r3 (L.same s5) (fun b hb=> .inl hb) (bu (aN.of s5)) (s04.free hr3) ?_
    rw [ab,gy]
    rfl
abbrev Ci:Stmt:=top 75
def wW:List Int->Call
 | [c]=> .overlaps c
 | _=> .counts
theorem DY:aq ["line","told"] ["line","told"] (al Ci):=⟨rfl,rfl,rfl,by decide +kernel,rfl,by decide +kernel,by decide +kernel⟩
theorem Ct {f:Addr} {fd:FuncData} (N:Env K mg C Cd Cm) (F:Fun K "tell_overlaps" "tell_overlaps" Ci f fd):az P w K mg base CX0 8 f fd ["line","told"] (cM C Cd 19 wW):=by
 obtain ⟨f1,fd1,G1,k1,b1,m1⟩:=qX (P:=P) (w:=w) (base:=base) N
 obtain ⟨f2,fd2,G2,k2,b2,m2⟩:=gT (P:=P) (w:=w) (base:=base) N
 obtain ⟨f3,fd3,G3,k3,b3,m3⟩:=AT (P:=P) (w:=w) (base:=base) N
 refine F.ok DY (fun vs H Q E h=>?_) (fun cdv A outer s H vs Q E hr h=>?_)
 ·obtain ⟨p,h,a,t,ks,zs,rfl,_⟩:=h
  rfl
 ·obtain ⟨p,h,a,t,ks,zs,rfl,L,I,hh,ht,hks,hkl,hfit,q⟩:=h
  have eks:ks=(["c"]:List Str):=Option.some.inj (hks.symm.trans (show forms[19]?=some (["c"]:List Str) from rfl))
  subst eks
  match zs,hkl with
  | [c],_=>
   rw [show ([c].map Itm.num)=[.num c] from rfl,dB] at hfit
   have g1:=aM hfit
   have ec:c=((c.toNat:Nat):Int):=by omega
   have hq:Vbslag.step h (wW [c])=(h,0::((Vbslag.overlaps (viewOf h c)).length:Int)::(Vbslag.overlaps (viewOf h c)).flatMap ld):=by
    simp only [wW,Vbslag.step]
    rw [aQ (hh (by decide))]
    simp only [hfit,if_false]
    rfl
   rw [hq] at q
   have hr1:bP 1 _:=hr.mono (by decide)
   have hr2:bP 2 _:=hr.mono (by decide)
   have CO:=I.copy g1.2
   have hvl:=f9 I.ds CO.le (I.known120 g1.2) I.hands
   have hsp:∀ m,m∈Vbslag.view h.doings (copyAt h c.toNat).known->m.a < m.b:=fun m hm=>tz I.ds hm
   have hvo:viewOf h c=Vbslag.view h.doings (copyAt h c.toNat).known:=rfl
   rw [hvo] at q
   refine ⟨_,aj (ap (bZ cH (aJ (aa am ad)) (au G2 hr1 rfl m2 k2 b2 .nil aD (aa (au G3 hr2 rfl m3 k3 b3 .nil aD (aa (au G1 hr rfl m1 k1 b1 .nil aD (aa (pv 0) (aa (ax aH (pv 1) am (fun _ _=>rfl)) ad))) ad)) ad)))),?_⟩
   refine ⟨(by show 1<=sizeLine;decide),fun p0 hp0=>?_⟩
   have s0:=ac (o:= .lst [V.int 0]) hp0
   refine ⟨_,rfl,_,rfl,t,_,0,.int c,rfl,rfl,Or.inl (Or.inl (s0 _ _ ht)),rfl,p,h,a,c.toNat,by rw [<- ec];rfl,L.same s0,I,g1.2,fun r H1 s1 hrows=>?_⟩
   generalize Vbslag.view h.doings (copyAt h c.toNat).known=vw at q hvl hsp hrows
   refine ⟨r,vw,rfl,hrows,hsp,hvl,fun r1 H2 s2 hrows2=>?_⟩
   obtain ⟨ps,hps,hrow⟩:=hrows2
   have hol:(Vbslag.overlaps vw).length<=600 * 600:=by
    rw [fU]
    exact Nat.le_trans (iT vw vw.length) (Nat.mul_le_mul hvl hvl)
   have hfl:=dO ld 4 (fun x=>by show 4<=4;decide) (Vbslag.overlaps vw)
   refine ⟨r1,ps,_,rfl,hps,eW.of hrow,by omega,fun r2 H3 s3 nr2 hr3=>?_⟩
   have hz:((ctI ((Vbslag.overlaps vw).map ld)).map V.int).length<=1440001:=by
    unfold ctI
    rw [List.length_map,List.length_cons]
    omega
   have hb:1440002<=sizeLine:=by decide
   refine ⟨p0,r2,_,_,rfl,rfl,s3 _ _ (s2 _ _ (s1 _ _ ab)),hr3,by rw [List.length_singleton];omega,fun r3 hr3'=>?_⟩
   have s03:=((s0.trans s1).trans s2).trans s3
   have s4:=s03.trans (ac (o:= .lst ([V.int 0]++(ctI ((Vbslag.overlaps vw).map ld)).map V.int)) hr3')
   refine q _ a r3 (L.same s4) (fun b hb=> .inl hb) (bu (aN.of s4)) (s03.free hr3') ?_
   rw [ab,gy]
   rfl
abbrev BF:Stmt:=top 79
def uQ:List Int->Call
 | []=> .bag
 | _=> .counts
theorem DD:aq ["line","told"] ["line","told"] (al BF):=⟨rfl,rfl,rfl,by decide +kernel,rfl,by decide +kernel,by decide +kernel⟩
theorem BO {f:Addr} {fd:FuncData} (N:Env K mg C Cd Cm) (F:Fun K "tell_bag" "tell_bag" BF f fd):az P w K mg base CX0 2 f fd ["line","told"] (cM C Cd 22 uQ):=by
 obtain ⟨f2,fd2,G2,k2,b2,m2⟩:=gT (P:=P) (w:=w) (base:=base) N
 refine F.ok DD (fun vs H Q E h=>?_) (fun cdv A outer s H vs Q E hr h=>?_)
 ·obtain ⟨p,h,a,t,ks,zs,rfl,_⟩:=h
  rfl
 ·obtain ⟨p,h,a,t,ks,zs,rfl,L,I,hh,ht,hks,hkl,hfit,q⟩:=h
  have eks:ks=([]:List Str):=Option.some.inj (hks.symm.trans (show forms[22]?=some ([]:List Str) from rfl))
  subst eks
  match zs,hkl with
  | [],_=>
   have hq:Vbslag.step h (uQ [])=(h,0::(h.bag.length:Int)::h.bag.flatMap ly):=by
    simp only [uQ,Vbslag.step]
    rw [aQ (hh (by decide))]
    rfl
   rw [hq] at q
   have hbl:=I.bagl
   obtain ⟨ps,hB,hrow⟩:=L.bag
   have hfl:=dO ly 3 (fun x=>by show 3<=3;decide) h.bag
   have hb:1000<=sizeLine:=by decide
   refine ⟨_,aj (ap (bZ cH (aJ (aa am ad)) (au G2 hr rfl m2 k2 b2 .nil aD (aa (ao (pv 0) rfl) ad)))),?_⟩
   refine ⟨(by show 1<=sizeLine;decide),fun p0 hp0=>?_⟩
   have s0:=ac (o:= .lst [V.int 0]) hp0
   have L0:=L.same s0
   refine ⟨_,rfl,p,C,a.dx,_,_,rfl,L0.obj,N.T.cl,N.T.nb,i5 ..,a.B,ps,_,rfl,s0 _ _ hB,eW.of (Rows.same s0 hrow),by omega,fun r2 H2 s2 nr2 hr2=>?_⟩
   have hz:((ctI (h.bag.map ly)).map V.int).length<=181:=by
    unfold ctI
    rw [List.length_map,List.length_cons]
    omega
   refine ⟨p0,r2,_,_,rfl,rfl,s2 _ _ ab,hr2,by rw [List.length_singleton];omega,fun r3 hr3=>?_⟩
   have s3:=(s0.trans s2).trans (ac (o:= .lst ([V.int 0]++(ctI (h.bag.map ly)).map V.int)) hr3)
   refine q _ a r3 (L.same s3) (fun b hb=> .inl hb) (bu (aN.of s3)) ((s0.trans s2).free hr3) ?_
   rw [ab,gy]
   rfl
abbrev CP:Stmt:=top 80
def wU:List Int->Call:=fun _=> .counts
theorem DR:aq ["line","told"] ["line","told"] (al CP):=⟨rfl,rfl,rfl,by decide +kernel,rfl,by decide +kernel,by decide +kernel⟩
theorem Br {f:Addr} {fd:FuncData} (N:Env K mg C Cd Cm) (F:Fun K "tell_counts" "tell_counts" CP f fd):az P w K mg base CX0 2 f fd ["line","told"] (cM C Cd 23 wU):=by
 obtain ⟨f1,fd1,G1,k1,b1,m1⟩:=zN (P:=P) (w:=w) (base:=base) N
 refine F.ok DR (fun vs H Q E h=>?_) (fun cdv A outer s H vs Q E hr h=>?_)
 ·obtain ⟨p,h,a,t,ks,zs,rfl,_⟩:=h
  rfl
 ·obtain ⟨p,h,a,t,ks,zs,rfl,L,I,hh,ht,hks,hkl,hfit,q⟩:=h
  have hq:Vbslag.step h (wU zs)=(h,[0,(h.hands:Int),(h.length:Int),((totalOf h:Nat):Int),(h.bag.length:Int)]):=by
   simp only [wU,Vbslag.step]
   rw [aQ (hh (by decide))]
   rfl
  rw [hq] at q
  refine ⟨_,aj (ap (aJ (aa am (aa (ao (pv 0) rfl) (aa (ao (pv 0) rfl) (aa (au G1 hr rfl m1 k1 b1 .nil aD (aa (pv 0) ad)) (aa (bM bC rfl N.B.len PySem.boot_len (aa (ao (pv 0) rfl) ad)) ad))))))),?_⟩
  refine ⟨_,rfl,p,C,a.dx,_,_,rfl,L.obj,N.T.cl,N.T.nh,fQ ..,_,rfl,p,C,a.dx,_,_,rfl,L.obj,N.T.cl,N.T.nl,kK ..,_,rfl,p,h,a,rfl,L,by rw [I.ds.len];exact I.hands,fun H1 s1=>?_⟩
  have L1:=L.same s1
  obtain ⟨ps,hB,hrow⟩:=L1.bag
  have hbl:=hrow.length
  rw [List.length_map] at hbl
  refine ⟨_,rfl,p,C,a.dx,_,_,rfl,L1.obj,N.T.cl,N.T.nb,i5 ..,a.B,_,rfl,.inl (SqL.of hB),(by show 5<=sizeLine;decide),fun r hr2=>?_⟩
  rw [List.length_map,hbl]
  have s3:=s1.trans (ac (o:= .lst [V.int 0,V.int (h.hands:Int),V.int (h.length:Int),V.int ((totalOf h:Nat):Int),V.int (h.bag.length:Int)]) hr2)
  exact q _ a r (L.same s3) (fun b hb=> .inl hb) (bu (aN.of s3)) (s1.free hr2) ab
end
theorem iH (c m k:Int):dG (gI [c,m,k]) (some 1) none=[.int m,.int k]:=yp _ _
theorem jJ (n:Nat) (h:1<=n):¬ (HT.sIx n 0 (some 1)=0/\HT.sIx n n none=n):=by
 have:=HT.sIx_nat n 0 1
 rw [show ((1:Nat):Int)=1 from rfl] at this
 rw [this]
 omega
theorem dR {h:House} {m k:Int} (hn:isName h m k=true):0<=m/\0<=k/\(nameOf m k).by_ < h.hands/\(bj (nameOf m k)).map V.int=[.int m,.int k]:=by
 obtain ⟨h1,h2⟩:=Bool.and_eq_true_iff.mp hn
 have g1:=aM h1
 have g2:=bv.mp h2
 refine ⟨g1.1,g2.1,g1.2,?_⟩
 have e1:((m.toNat:Nat):Int)=m:=by omega
 have e2:((k.toNat:Nat):Int)=k:=by omega
 show [V.int ((m.toNat:Nat):Int),V.int ((k.toNat:Nat):Int)]=_
 rw [e1,e2]
section
variable {P:Program} {w:World} {K:PySem.W.Frag} {mg:Str->Option Value} {base:Heap} {C Cd Cm:Addr}
abbrev C5:Stmt:=top 72
def wN:List Int->Call
 | [c,m,k]=> .signed c m k
 | _=> .counts
theorem BU:aq ["line","told","doing"] ["line","told"] (al C5):=⟨rfl,rfl,rfl,by decide +kernel,rfl,by decide +kernel,by decide +kernel⟩
theorem Cf {f:Addr} {fd:FuncData} (N:Env K mg C Cd Cm) (F:Fun K "show_signed" "show_signed" C5 f fd):az P w K mg base CX0 7 f fd ["line","told"] (cM C Cd 16 wN):=by
 obtain ⟨f1,fd1,G1,k1,b1,m1⟩:=yT (P:=P) (w:=w) (base:=base) N
 obtain ⟨f2,fd2,G2,k2,b2,m2⟩:=gT (P:=P) (w:=w) (base:=base) N
 obtain ⟨f3,fd3,G3,k3,b3,m3⟩:=ou (P:=P) (w:=w) (base:=base) N
 obtain ⟨f4,fd4,G4,k4,b4,m4⟩:=yO (P:=P) (w:=w) (base:=base) N
 obtain ⟨t5,w5⟩:=N.G.sign
 obtain ⟨t6,w6⟩:=N.W.missing
 refine F.ok BU (fun vs H Q E h=>?_) (fun cdv A outer s H vs Q E hr h=>?_)
 ·obtain ⟨p,h,a,t,ks,zs,rfl,_⟩:=h
  rfl
 ·obtain ⟨p,h,a,t,ks,zs,rfl,L,I,hh,ht,hks,hkl,hfit,q⟩:=h
  have eks:ks=(["c","m","k"]:List Str):=Option.some.inj (hks.symm.trans (show forms[16]?=some (["c","m","k"]:List Str) from rfl))
  subst eks
  match zs,hkl with
  | [c,m,k],_=>
   rw [show ([c,m,k].map Itm.num)=[.num c,.num m,.num k] from rfl,gY] at hfit
   obtain ⟨fc,fn⟩:=Bool.and_eq_true_iff.mp hfit
   have g1:=aM fc
   obtain ⟨n1,n2,n3,n4⟩:=dR fn
   have ec:c=((c.toNat:Nat):Int):=by omega
   have hq:Vbslag.step h (wN [c,m,k])=(match (signsOf h.doings (copyAt h c.toNat).known).find? fun d=>d.1 == nameOf m k with
     | none=>(h,[-4])
     | some d=>(h,0::viewRow (Vbslag.view h.doings (signedKnown d.2 d.1)))):=by
    simp only [wN,Vbslag.step]
    rw [aQ (hh (by decide))]
    simp only [hfit,if_false]
    rfl
   rw [hq] at q
   have hr1:bP 1 _:=hr.mono (by decide)
   have hr2:bP 2 _:=hr.mono (by decide)
   have CO:=I.copy g1.2
   generalize hnm:nameOf m k=nm at n3 n4 q
   refine ⟨_,ag (aB (i:=2) BU.nd rfl (Or.inl rfl) (au G1 hr2 rfl m1 k1 b1 .nil aD (aa (pv 0) (aa (ax aH (pv 1) am (fun _ _=>rfl)) (aa (b8 dS (pv 1) (ck am) cJ) ad)))))
    (ag (cc (PW.pt (y6 (aU oz (pv 2) gK (aX _)) (uN (aU sL (ao (pv 2) rfl) (aP w5) (aX _))))) (aj (ap (aJ (aa (aP w6) ad)))) aZ)
    (aj (ap (bZ cH (aJ (aa am ad)) (au G2 hr1 rfl m2 k2 b2 .nil aD (aa (au G3 hr rfl m3 k3 b3 .nil aD (aa (ao (pv 0) rfl) (aa (au G4 hr1 rfl m4 k4 b4 .nil aD (aa (pv 2) ad)) ad))) ad)))))),?_⟩
   refine ⟨_,rfl,_,rfl,t,_,0,.int c,rfl,rfl,Or.inl (Or.inl ht),rfl,_,rfl,1,rfl,t,_,rfl,Or.inl (Or.inl ht),jJ 3 (by decide),fun tn htn=>?_⟩
   rw [iH]
   have s0:=ac (o:= .tup [.int m,.int k]) htn
   have no:∀ H1,ay H H1->(signsOf h.doings (copyAt h c.toNat).known).find? (fun d=>d.1 == nm)=none->
     rF (lT (aY (tC (.int (-4))) cF)) { nx:=fun _ H'=>Q .non H',rt:=Q } [some (.ref p),some (.ref t),none] H1:=by
    intro H1 s1 e
    rw [e] at q
    refine ⟨(by show 1<=sizeLine;decide),fun r hr2=>?_⟩
    have s3:=s1.trans (ac (o:= .lst [V.int (-4)]) hr2)
    exact q _ a r (L.same s3) (fun b hb=> .inl hb) (bu (aN.of s3)) (s1.free hr2) ab
   refine ⟨p,h,a,c.toNat,tn,nm,by rw [<- ec];rfl,L.same s0,I,g1.2,by rw [ab,n4],n3,fun H1 s1 hkn=>?_,fun H1 pd d s1 hkn hd hDA=>?_⟩
   ·refine ⟨_,rfl,rfl,_,rfl,?_⟩
    refine bV (bV ?_)
    refine no H1 (s0.trans s1) (gE fun d hd hlt=>?_)
    exact absurd (decide_eq_true hlt) (by rw [show knows (copyAt h c.toNat).known nm=decide (nm.k < (copyAt h c.toNat).known.getD nm.by_ 0) from rfl] at hkn;rw [hkn];exact Bool.false_ne_true)
   ·have s01:=s0.trans s1
    have L1:=L.same s01
    obtain ⟨dx,p1,p2,z1,z2,z3⟩:=id hDA
    have hlt:nm.k < (copyAt h c.toNat).known.getD nm.by_ 0:=of_decide_eq_true hkn
    refine ⟨_,rfl,rfl,_,rfl,?_⟩
    refine bB ?_
    refine ⟨_,rfl,pd,Cd,dx,_,_,rfl,z1,N.Td.cl,N.Td.nk,bW ..,rfl,_,rfl,?_⟩
    by_cases hs:d.what = .sign
    ·have e0:(!decide (V.int (bz d.what)=V.int 5))=false:=by rw [hs];rfl
     rw [e0]
     refine bB ?_
     rw [j8 hd hlt hs] at q
     have D:=I.ds.ok nm.by_ nm.k d hd
     have hx:nm.k < bg h.doings nm.by_:=(List.getElem?_eq_some_iff.mp (show (h.doings.getD nm.by_ [])[nm.k]?=some d from hd)).1
     have hle:∀ g,(d.knew.set nm.by_ (nm.k+1)).getD g 0<=bg h.doings g:=fun g=>by
      rw [cG]
      split
      ·rename_i z;rw [<- z.1];exact hx
      ·exact D.le g
     have hkl:(d.knew.set nm.by_ (nm.k+1)).length=h.hands:=by rw [List.length_set];exact D.klen
     refine ⟨(by show 1<=sizeLine;decide),fun p0 hp0=>?_⟩
     have s2:=ac (o:= .lst [V.int 0]) hp0
     have L2':=L1.same s2
     refine ⟨_,rfl,p,C,a.dx,_,_,rfl,L2'.obj,N.T.cl,N.T.nd,cu ..,_,rfl,pd,nm.by_,nm.k,d,rfl,hDA.same s2,by rw [D.klen];exact n3,fun pw H3 s3 npw hpw=>?_⟩
     have L3:=L2'.same s3
     refine ⟨a.D,h.doings,false,pw,_,h.hands,rfl,L3.varg I (t:=false) (SqL.of hpw) hkl hle,fun r H4 s4 hrows=>?_⟩
     obtain ⟨ps,hps,hrow⟩:=hrows
     have hvl:=f9 I.ds hle (fun g=>Nat.le_trans (hle g) (I.len120 g)) I.hands
     have hq2:signedKnown d nm=d.knew.set nm.by_ (nm.k+1):=rfl
     simp only [hq2] at q
     generalize Vbslag.view h.doings (d.knew.set nm.by_ (nm.k+1))=vw at q hvl hrow
     have hfl:=dO markRow 5 (fun x=>by show 5<=5;decide) vw
     refine ⟨r,ps,_,rfl,hps,eW.of hrow,by omega,fun r2 H5 s5 nr2 hr5=>?_⟩
     have hz:((ctI (vw.map markRow)).map V.int).length<=3001:=by
      unfold ctI
      rw [List.length_map,List.length_cons]
      omega
     have hb:3002<=sizeLine:=by decide
     refine ⟨p0,r2,_,_,rfl,rfl,s5 _ _ (s4 _ _ (s3 _ _ ab)),hr5,by rw [List.length_singleton];omega,fun r3 hr3=>?_⟩
     have s05:=(((s01.trans s2).trans s3).trans s4).trans s5
     have s6:=s05.trans (ac (o:= .lst ([V.int 0]++(ctI (vw.map markRow)).map V.int)) hr3)
     refine q _ a r3 (L.same s6) (fun b hb=> .inl hb) (bu (aN.of s6)) (s05.free hr3) ?_
     rw [ab,gy]
     rfl
    ·have e0:(!decide (V.int (bz d.what)=V.int 5))=true:=by
      rw [decide_eq_false fun z=>hs (nE.mp (V.int.inj z))];rfl
     rw [e0]
     refine bV ?_
     refine no H1 s01 (gE fun d' hd' _=>?_)
     rw [hd] at hd'
     cases hd'
     exact hs
abbrev BN:Stmt:=top 74
def uF:List Int->Call
 | [c,m,k]=> .mark c m k
 | _=> .counts
theorem Az:aq ["line","told","mark","givers"] ["line","told"] (al BN):=⟨rfl,rfl,rfl,by decide +kernel,rfl,by decide +kernel,by decide +kernel⟩
theorem CF {f:Addr} {fd:FuncData} (N:Env K mg C Cd Cm) (F:Fun K "tell_mark" "tell_mark" BN f fd):az P w K mg base CX0 7 f fd ["line","told"] (cM C Cd 18 uF):=by
 obtain ⟨f1,fd1,G1,k1,b1,m1⟩:=vH (P:=P) (w:=w) (base:=base) N
 obtain ⟨f2,fd2,G2,k2,b2,m2⟩:=A5 (P:=P) (w:=w) (base:=base) N
 obtain ⟨t6,w6⟩:=N.W.missing
 refine F.ok Az (fun vs H Q E h=>?_) (fun cdv A outer s H vs Q E hr h=>?_)
 ·obtain ⟨p,h,a,t,ks,zs,rfl,_⟩:=h
  rfl
 ·obtain ⟨p,h,a,t,ks,zs,rfl,L,I,hh,ht,hks,hkl,hfit,q⟩:=h
  have eks:ks=(["c","m","k"]:List Str):=Option.some.inj (hks.symm.trans (show forms[18]?=some (["c","m","k"]:List Str) from rfl))
  subst eks
  match zs,hkl with
  | [c,m,k],_=>
   rw [show ([c,m,k].map Itm.num)=[.num c,.num m,.num k] from rfl,gY] at hfit
   obtain ⟨fc,fn⟩:=Bool.and_eq_true_iff.mp hfit
   have g1:=aM fc
   obtain ⟨n1,n2,n3,n4⟩:=dR fn
   have ec:c=((c.toNat:Nat):Int):=by omega
   have hq:Vbslag.step h (uF [c,m,k])=(match (Vbslag.view h.doings (copyAt h c.toNat).known).find? fun x=>x.name == nameOf m k with
     | none=>(h,[-4])
     | some x=>(h,0::nums [x.a,x.b,x.x,x.spanBy.by_,x.spanBy.k,x.labelBy.by_,x.labelBy.k])):=by
    simp only [uF,Vbslag.step]
    rw [aQ (hh (by decide))]
    simp only [hfit,if_false]
    rfl
   rw [hq] at q
   have hr1:bP 1 _:=hr.mono (by decide)
   have CO:=I.copy g1.2
   obtain ⟨qk,hqk,hkn⟩:=L.known I g1.2
   generalize hnm:nameOf m k=nm at n3 n4 q
   refine ⟨_,ag (aB (i:=2) Az.nd rfl (Or.inl rfl) (au G1 hr rfl m1 k1 b1 .nil aD (aa (ao (pv 0) rfl) (aa (ax aE (ao (pv 0) rfl) (ax aH (pv 1) am (fun _ _=>rfl)) (fun _ _=>rfl)) (aa (b8 dS (pv 1) (ck am) cJ) ad)))))
    (ag (cc (aU oz (pv 2) gK (aX _)) (aj (ap (aJ (aa (aP w6) ad)))) aZ)
    (ag (aB (i:=3) Az.nd rfl (Or.inl rfl) (aJ (aa (ao (ao (pv 2) rfl) rfl) (aa (ao (ao (pv 2) rfl) rfl) (aa (ao (ao (pv 2) rfl) rfl) (aa (ao (ao (pv 2) rfl) rfl) ad))))))
    (aj (ap (bZ cH (bZ cH (aJ (aa am ad)) (dZ eN rfl N.B.list (by kernel_rfl) (aa (au G2 hr1 rfl m2 k2 b2 .nil aD (aa (pv 2) ad)) ad))) (pv 3)))))),?_⟩
   refine ⟨_,rfl,p,C,a.dx,_,_,rfl,L.obj,N.T.cl,N.T.nd,cu ..,_,rfl,p,C,a.dx,_,_,rfl,L.obj,N.T.cl,N.T.nk,cA ..,_,rfl,t,_,0,.int c,rfl,rfl,Or.inl (Or.inl ht),rfl,a.N,_,_,_,rfl,rfl,SqL.of L.nl,aR ec hqk,
    _,rfl,1,rfl,t,_,rfl,Or.inl (Or.inl ht),jJ 3 (by decide),fun tn htn=>?_⟩
   rw [iH]
   have s0:=ac (o:= .tup [.int m,.int k]) htn
   have L0:=L.same s0
   refine ⟨a.D,h.doings,false,qk,_,h.hands,tn,nm,rfl,L0.varg I (t:=false) (SqL.of (s0 _ _ hkn)) CO.klen CO.le,by rw [ab,n4],fun H1 s1 hno=>?_,fun H1 pm fm s1 hM hok hyes=>?_⟩
   ·rw [hno] at q
    refine ⟨_,rfl,rfl,_,rfl,?_⟩
    refine bV ?_
    have s01:=s0.trans s1
    refine ⟨(by show 1<=sizeLine;decide),fun r hr2=>?_⟩
    have s3:=s01.trans (ac (o:= .lst [V.int (-4)]) hr2)
    exact q _ a r (L.same s3) (fun b hb=> .inl hb) (bu (aN.of s3)) (s01.free hr2) ab
   ·rw [hyes] at q
    refine ⟨_,rfl,rfl,_,rfl,?_⟩
    refine bB ?_
    obtain ⟨dx,pn,ps,pt,z1,z2,⟨ds,s1',s2',k1',k2',k3'⟩,⟨dt,t1',t2',l1',l2',l3'⟩⟩:=id hM
    refine ⟨_,rfl,pm,Cm,dx,_,_,rfl,z1,N.Tm.cl,N.Tm.ns,rT ..,ps,Cd,ds,_,_,rfl,k1',N.Td.cl,N.Td.nh,gx ..,
     _,rfl,pm,Cm,dx,_,_,rfl,z1,N.Tm.cl,N.Tm.ns,rT ..,ps,Cd,ds,_,_,rfl,k1',N.Td.cl,N.Td.nn,fA ..,
     _,rfl,pm,Cm,dx,_,_,rfl,z1,N.Tm.cl,N.Tm.nl,vD ..,pt,Cd,dt,_,_,rfl,l1',N.Td.cl,N.Td.nh,gx ..,
     _,rfl,pm,Cm,dx,_,_,rfl,z1,N.Tm.cl,N.Tm.nl,vD ..,pt,Cd,dt,_,_,rfl,l1',N.Td.cl,N.Td.nn,fA ..,(by show 4<=sizeLine;decide),fun pg hpg=>?_⟩
    have s2:=ac (o:= .lst [V.int (fm.s.1.by_:Int),V.int (fm.s.1.k:Int),V.int (fm.t.1.by_:Int),V.int (fm.t.1.k:Int)]) hpg
    refine ⟨(by show 1<=sizeLine;decide),fun p0 hp0=>?_⟩
    have s3:=ac (o:= .lst [V.int 0]) hp0
    refine ⟨_,rfl,pm,fm,rfl,(hM.same s2).same s3,hok,fun r H4 s4 hr4=>?_⟩
    refine ⟨r,_,rfl,.inr (SqT.of hr4),fun pl hpl=>?_⟩
    have s5:=ac (o:= .lst ((slI fm).map V.int)) hpl
    refine ⟨p0,pl,_,_,rfl,rfl,s5 _ _ (s4 _ _ ab),ab,(by show 1+3<=sizeLine;decide),fun pc hpc=>?_⟩
    have s6:=ac (o:= .lst ([V.int 0]++(slI fm).map V.int)) hpc
    refine ⟨_,rfl,pc,pg,_,_,rfl,rfl,ab,s6 _ _ (s5 _ _ (s4 _ _ (s3 _ _ ab))),(by show 4+4<=sizeLine;decide),fun r3 hr3=>?_⟩
    have s06:=((((s0.trans s1).trans s2).trans s3).trans s4).trans (s5.trans s6)
    have s7:=s06.trans (ac (o:= .lst ([V.int 0]++(slI fm).map V.int++[V.int (fm.s.1.by_:Int),V.int (fm.s.1.k:Int),V.int (fm.t.1.by_:Int),V.int (fm.t.1.k:Int)])) hr3)
    refine q _ a r3 (L.same s7) (fun b hb=> .inl hb) (bu (aN.of s7)) (s06.free hr3) ?_
    rw [ab]
    rfl
abbrev BJ:Stmt:=top 76
def wH:List Int->Call
 | [c,m,k]=> .doing c m k
 | _=> .counts
theorem xx:aq ["line","told","doing","many","taken"] ["line","told"] (al BJ):=⟨rfl,rfl,rfl,by decide +kernel,rfl,by decide +kernel,by decide +kernel⟩
theorem wy (x:What):whatRow x=bz x::dE x:=by cases x <;> rfl
theorem vL (x:What):(dE x).length<=4:=by cases x <;> simp [dE]
theorem C9 {f:Addr} {fd:FuncData} (N:Env K mg C Cd Cm) (F:Fun K "tell_doing" "tell_doing" BJ f fd):az P w K mg base CX0 3 f fd ["line","told"] (cM C Cd 20 wH):=by
 obtain ⟨f1,fd1,G1,k1,b1,m1⟩:=yT (P:=P) (w:=w) (base:=base) N
 obtain ⟨f2,fd2,G2,k2,b2,m2⟩:=Bk (P:=P) (w:=w) (base:=base) N
 obtain ⟨t6,w6⟩:=N.W.missing
 refine F.ok xx (fun vs H Q E h=>?_) (fun cdv A outer s H vs Q E hr h=>?_)
 ·obtain ⟨p,h,a,t,ks,zs,rfl,_⟩:=h
  rfl
 ·obtain ⟨p,h,a,t,ks,zs,rfl,L,I,hh,ht,hks,hkl,hfit,q⟩:=h
  have eks:ks=(["c","m","k"]:List Str):=Option.some.inj (hks.symm.trans (show forms[20]?=some (["c","m","k"]:List Str) from rfl))
  subst eks
  match zs,hkl with
  | [c,m,k],_=>
   rw [show ([c,m,k].map Itm.num)=[.num c,.num m,.num k] from rfl,gY] at hfit
   obtain ⟨fc,fn⟩:=Bool.and_eq_true_iff.mp hfit
   have g1:=aM fc
   obtain ⟨n1,n2,n3,n4⟩:=dR fn
   have ec:c=((c.toNat:Nat):Int):=by omega
   have CO:=I.copy g1.2
   obtain ⟨qk,hqk,hkn⟩:=L.known I g1.2
   generalize hv:(copyAt h c.toNat).known=v at hkn CO
   have hle:∀ g,v.getD g 0<=bg h.doings g:=fun g=>by rw [<- hv];exact CO.le g
   have hvl:v.length=h.hands:=by rw [<- hv];exact CO.klen
   have hq:Vbslag.step h (wH [c,m,k])=(if knows v (nameOf m k)=false then (h,[-4]) else (match doingAt h.doings (nameOf m k) with
     | none=>(h,[-4])
     | some d=>(h,0::(d.time:Int)::(if TB (own h.doings v (nameOf m k).by_) (nameOf m k).k=true then 1 else 0)::(nums d.knew++whatRow d.what)))):=by
    simp only [wH,Vbslag.step]
    rw [aQ (hh (by decide))]
    simp only [hfit,if_false,hv]
    rfl
   rw [hq] at q
   have hr1:bP 1 _:=hr.mono (by decide)
   have hb:100<=sizeLine:=by decide
   generalize hnm:nameOf m k=nm at n3 n4 q
   refine ⟨_,ag (aB (i:=2) xx.nd rfl (Or.inl rfl) (au G1 hr rfl m1 k1 b1 .nil aD (aa (pv 0) (aa (ax aH (pv 1) am (fun _ _=>rfl)) (aa (b8 dS (pv 1) (ck am) cJ) ad)))))
    (ag (cc (aU oz (pv 2) gK (aX _)) (aj (ap (aJ (aa (aP w6) ad)))) aZ)
    (ag (aB (i:=3) xx.nd rfl (Or.inl rfl) (ax aE (ax aE (ao (pv 0) rfl) (ax aH (pv 1) am (fun _ _=>rfl)) (fun _ _=>rfl)) (ao (pv 2) rfl) (fun _ _=>rfl)))
    (ag (aB (i:=4) xx.nd rfl (Or.inl rfl) (ax aE (au G2 hr1 rfl m2 k2 b2 .nil aD (aa (ax aE (ao (pv 0) rfl) (ao (pv 2) rfl) (fun _ _=>rfl)) (aa (pv 3) ad))) (ao (pv 2) rfl) (fun _ _=>rfl)))
    (aj (ap (bZ cH (bZ cH (bZ cH (aJ (aa am (aa (ao (pv 2) rfl) (aa (jg (cU (pv 4)) am am) ad)))) (dZ eN rfl N.B.list (by kernel_rfl) (aa (ao (pv 2) rfl) ad))) (aJ (aa (ao (pv 2) rfl) ad))) (dZ eN rfl N.B.list (by kernel_rfl) (aa (ao (pv 2) rfl) ad)))))))),?_⟩
   refine ⟨_,rfl,_,rfl,t,_,0,.int c,rfl,rfl,Or.inl (Or.inl ht),rfl,_,rfl,1,rfl,t,_,rfl,Or.inl (Or.inl ht),jJ 3 (by decide),fun tn htn=>?_⟩
   rw [iH]
   have s0:=ac (o:= .tup [.int m,.int k]) htn
   refine ⟨p,h,a,c.toNat,tn,nm,by rw [<- ec];rfl,L.same s0,I,g1.2,by rw [ab,n4],n3,fun H1 s1 hno=>?_,fun H1 pd d s1 hyes hd hDA=>?_⟩
   ·rw [hv] at hno
    rw [if_pos hno] at q
    refine ⟨_,rfl,rfl,_,rfl,?_⟩
    refine bV ?_
    have s01:=s0.trans s1
    refine ⟨(by show 1<=sizeLine;decide),fun r hr2=>?_⟩
    have s3:=s01.trans (ac (o:= .lst [V.int (-4)]) hr2)
    exact q _ a r (L.same s3) (fun b hb=> .inl hb) (bu (aN.of s3)) (s01.free hr2) ab
   ·rw [hv] at hyes
    rw [if_neg (by rw [hyes];exact Bool.noConfusion),hd] at q
    refine ⟨_,rfl,rfl,_,rfl,?_⟩
    refine bB ?_
    have s01:=s0.trans s1
    have L1:=L.same s01
    have hlt:nm.k < v.getD nm.by_ 0:=of_decide_eq_true hyes
    obtain ⟨dx,p1,p2,z1,z2,z3⟩:=id hDA
    have D:=I.ds.ok nm.by_ nm.k d hd
    refine ⟨_,rfl,p,C,a.dx,_,_,rfl,L1.obj,N.T.cl,N.T.nk,cA ..,_,rfl,t,_,0,.int c,rfl,rfl,Or.inl (Or.inl (s01 _ _ ht)),rfl,a.N,_,_,_,rfl,rfl,SqL.of L1.nl,aR ec hqk,
     _,rfl,pd,Cd,dx,_,_,rfl,z1,N.Td.cl,N.Td.nh,gx ..,qk,_,_,_,rfl,rfl,SqL.of (s01 _ _ hkn),d6 (by omega),?_⟩
    obtain ⟨po,hpo,hO⟩:=L1.ownAt I n3
    refine ⟨_,rfl,p,C,a.dx,_,_,rfl,L1.obj,N.T.cl,N.T.nd,cu ..,_,rfl,pd,Cd,dx,_,_,rfl,z1,N.Td.cl,N.Td.nh,gx ..,a.D,_,_,_,rfl,rfl,SqL.of L1.dl,aR rfl hpo,_,rfl,
     po,nm.by_,_,v.getD nm.by_ 0,rfl,hO,hle nm.by_,Nat.le_trans (hle nm.by_) (I.len120 nm.by_),I.ds.backOk nm.by_ _,fun pk H2 s2 hnk hk=>?_⟩
    have hDA2:=hDA.same s2
    obtain ⟨dx,p1,p2,z1,z2,z3⟩:=id hDA2
    refine ⟨_,rfl,pd,Cd,dx,_,_,rfl,z1,N.Td.cl,N.Td.nn,fA ..,pk,_,_,_,rfl,rfl,SqL.of hk,b7 (j:=nm.k) (v:=V.bl (TB (own h.doings v nm.by_) nm.k)) rfl (by unfold bls;rw [List.getElem?_map,List.getElem?_map,List.getElem?_range hlt];rfl),?_⟩
    refine ⟨_,rfl,pd,Cd,dx,_,_,rfl,z1,N.Td.cl,N.Td.ni,rM ..,_,rfl,_,rfl,?_⟩
    have main:∀ z:Int,z=(if TB (own h.doings v nm.by_) nm.k=true then 1 else 0)->(3<=sizeLine/\∀ p0,H2 p0=none->tOp p8 (tOp p8 (tOp p8 (fun _ H' Q'=>Q' (.ref p0) H') (tCB (fun xs H Q=>∃ p ys,xs=[.ref p]/\(SqL K H p ys\/SqT K H p ys)/\∀ l,H l=none->Q (.ref l) (upd H l (.lst ys))) (aY (j9 K (aV 2) "bears") cF))) (lT (aY (j9 K (aV 2) "kind") cF))) (tCB (fun xs H Q=>∃ p ys,xs=[.ref p]/\(SqL K H p ys\/SqT K H p ys)/\∀ l,H l=none->Q (.ref l) (upd H l (.lst ys))) (aY (j9 K (aV 2) "told") cF))
      [some (.ref p),some (.ref t),some (.ref pd),some (.int ((v.getD nm.by_ 0:Nat):Int)),some (.bl (TB (own h.doings v nm.by_) nm.k))] (upd H2 p0 (.lst [.int 0,.int (d.time:Int),.int z])) Q):=by
     intro z hz
     refine ⟨by decide,fun p0 hp0=>?_⟩
     have s3:=ac (o:= .lst [V.int 0,V.int (d.time:Int),V.int z]) hp0
     have y1:=s3 _ _ z1
     refine ⟨_,rfl,pd,Cd,dx,_,_,rfl,y1,N.Td.cl,N.Td.nb,nT ..,p2,_,rfl,.inr (SqT.of (s3 _ _ z3)),fun pl hpl=>?_⟩
     have s4:=ac (o:= .lst ((bp d.knew).map V.int)) hpl
     have hbl:((bp d.knew).map V.int).length<=5:=by
      rw [show ((bp d.knew).map V.int).length=d.knew.length from bH d.knew,D.klen]
      exact I.hands
     refine ⟨p0,pl,_,_,rfl,rfl,s4 _ _ ab,ab,by show 3+_<=_;omega,fun pc hpc=>?_⟩
     have s5:=ac (o:= .lst ([V.int 0,V.int (d.time:Int),V.int z]++(bp d.knew).map V.int)) hpc
     have y2:=s5 _ _ (s4 _ _ y1)
     refine ⟨_,rfl,pd,Cd,dx,_,_,rfl,y2,N.Td.cl,N.Td.nk,bW ..,(by show 1<=sizeLine;decide),fun pq hpq=>?_⟩
     have s6:=ac (o:= .lst [V.int (bz d.what)]) hpq
     refine ⟨pc,pq,_,_,rfl,rfl,s6 _ _ ab,ab,by rw [List.length_append];show 3+_+1<=_;omega,fun pe hpe=>?_⟩
     have s7:=ac (o:= .lst ([V.int 0,V.int (d.time:Int),V.int z]++(bp d.knew).map V.int++[V.int (bz d.what)])) hpe
     have y3:=s7 _ _ (s6 _ _ y2)
     have y4:=s7 _ _ (s6 _ _ (s5 _ _ (s4 _ _ (s3 _ _ z2))))
     refine ⟨_,rfl,pd,Cd,dx,_,_,rfl,y3,N.Td.cl,N.Td.nt,iP ..,p1,_,rfl,.inr (SqT.of y4),fun pt hpt=>?_⟩
     have s8:=ac (o:= .lst ((dE d.what).map V.int)) hpt
     have htl:=vL d.what
     refine ⟨pe,pt,_,_,rfl,rfl,s8 _ _ ab,ab,by rw [List.length_append,List.length_append,List.length_map (f:=V.int) (as:=dE d.what)];show 3+_+1+_<=_;omega,fun r3 hr3=>?_⟩
     have s08:=((((((s01.trans s2).trans s3).trans s4).trans s5).trans s6).trans s7).trans s8
     have s9:=s08.trans (ac (o:= .lst ([V.int 0,V.int (d.time:Int),V.int z]++(bp d.knew).map V.int++[V.int (bz d.what)]++(dE d.what).map V.int)) hr3)
     refine q _ a r3 (L.same s9) (fun b hb=> .inl hb) (bu (aN.of s9)) (s08.free hr3) ?_
     rw [ab]
     show _=some (HO.lst (gI (0::(d.time:Int)::(if TB (own h.doings v nm.by_) nm.k=true then 1 else 0)::(nums d.knew++whatRow d.what))))
     rw [wy,<- hz]
     unfold gI
     rw [List.append_assoc,List.append_assoc]
     simp only [List.map_cons,List.map_append]
     rfl
    cases hTB:TB (own h.doings v nm.by_) nm.k with
    | true=>
     rw [hTB] at main
     refine bV ?_
     exact main 1 rfl
    | false=>
     rw [hTB] at main
     refine bB ?_
     exact main 0 rfl
end
def oM (ns:List Int):PyData:= .list (ns.map PyData.int)
theorem ym (ns ms:List Int):PyData.eqv (oM ns) (oM ms)=decide (ns=ms):=by
 unfold oM
 rw [PyData.eqv]
 exact gZ ns ms
theorem yD (ns:List Int):(oM ns).canLay0=true:=by
 unfold oM
 simp [PyData.canLay0,kN]
theorem tZ (ns:List Int):(oM ns).depth<=3:=by
 have:=iQ ns
 unfold oM
 simp only [PyData.depth]
 omega
theorem kz (ns:List Int):SeqAt.shaped (oM ns)=true:=by
 unfold SeqAt.shaped
 rw [yD,Bool.true_and,decide_eq_true_eq]
 have:=tZ ns
 omega
theorem vE {K:PySem.W.Frag} {H:Hp} {p:Addr} {ns:List Int} (h:SqL K H p (ns.map V.int)):Dp K H (.ref p) (oM ns):= .lst h (oq ns)
theorem pI:∀ {u v:List Nat},bp u=bp v↔u=v
 | [],[]=>⟨fun _=>rfl,fun _=>rfl⟩
 | [],_::_=>⟨fun h=>(by cases h),fun h=>(by cases h)⟩
 | _::_,[]=>⟨fun h=>(by cases h),fun h=>(by cases h)⟩
 | a::u,b::v=>by
  have ih:=pI (u:=u) (v:=v)
  constructor
  ·intro h
   have h:(a:Int)::bp u=(b:Int)::bp v:=h
   injection h with h1 h2
   rw [ih.mp h2,show a=b by omega]
  ·intro h;rw [h]
section
variable {P:Program} {w:World} {K:PySem.W.Frag} {mg:Str->Option Value} {base:Heap} {C Cd Cm:Addr}
abbrev sWo:Stmt:=top 77
def AU:Sp:=fun vs H Q _=>∃ l l2 ms ns,vs=[.ref l,.ref l2]/\cC H l (ms.map markRow)/\cC H l2 (ns.map markRow)/\ms.length<=600/\∀ r H',ay H H'->cC H' r ((unlike ms ns).map markRow)->Q (.ref r) H'
theorem Ar:aq ["shown","others","mark"] ["shown","others"] (al sWo):=⟨rfl,rfl,rfl,by decide +kernel,rfl,by decide +kernel,by decide +kernel⟩
theorem Bl (N:Env K mg C Cd Cm):Fn P w K mg base "without" 1 ["shown","others"] AU:=by
 obtain ⟨f,fd,F,b,m⟩:=N.wo
 refine ⟨f,fd,?_,F.kp,b,m⟩
 refine F.ok Ar (fun vs H Q E h=>?_) (fun cdv A outer s H vs Q E hr h=>?_)
 ·obtain ⟨l,l2,ms,ns,rfl,_⟩:=h
  rfl
 ·obtain ⟨l,l2,ms,ns,rfl,⟨ps,hl,hrow⟩,⟨ps2,hl2,hrow2⟩,h600,q⟩:=h
  refine ⟨_,aj (ap (dD (own:=[("mark",2)]) (tt:=mK (tOp (AA K true) (aV 2) (aV 1))) (te:=aV 2) rfl Ar.nd (c5 (pv 0)) (bO rfl)
   (fun _ _ _ _ _=>aK (i:=2) Ar.nd rfl (Or.inl rfl)) (fun _ _ _ _ _=>gk (aU (tG (xK hr)) (pv 2) (pv 1) rfl)) (fun _ _ _ _ _=>pv 2))),?_⟩
  have hlen:=hrow.length
  rw [List.length_map] at hlen
  have hb:601<=sizeLine:=by decide
  refine ⟨_,rfl,l,rfl,⟨_,SqL.of hl⟩,fun D hD=>?_⟩
  refine eL (K:=K) (a:=l) (xs:=ps.map V.ref) (fun j H'=>ay H H'/\∃ us,H' D=some (.lst (us.map V.ref))/\Rows H' us (((ms.take j).filter fun x=>!decide (markRow x∈ns.map markRow)).map markRow)) ⟨ac hD,[],ab,.nil⟩ (fun j H' _ ⟨sm,_⟩=>SqL.of (sm _ _ hl)) ?_ ?_
  ·rintro j x H1 hx ⟨sm,us,hus,hur⟩
   rw [List.getElem?_map] at hx
   cases e:ps[j]? with
   | none=>rw [e] at hx;cases hx
   | some pm=>
    rw [e] at hx
    cases hx
    obtain ⟨r0,hr0,hpm⟩:=Rows.get hrow e
    rw [List.getElem?_map] at hr0
    cases em:ms[j]? with
    | none=>rw [em] at hr0;cases hr0
    | some m=>
     rw [em] at hr0
     have er:markRow m=r0:=Option.some.inj hr0
     subst er
     have etk:(ms.take (j+1)).filter (fun x=>!decide (markRow x∈ns.map markRow))=(ms.take j).filter (fun x=>!decide (markRow x∈ns.map markRow))++(if (!decide (markRow m∈ns.map markRow))=true then [m] else []):=by
      rw [List.take_add_one,em,List.filter_append]
      simp only [Option.toList_some,List.filter_cons,List.filter_nil]
     have hul:=hur.length
     rw [List.length_map] at hul
     have hfl:((ms.take j).filter fun x=>!decide (markRow x∈ns.map markRow)).length<=j:=by
      refine Nat.le_trans (List.length_filter_le _ _) ?_
      rw [List.length_take]
      omega
     have hjl:j < ms.length:=(List.getElem?_eq_some_iff.mp em).1
     refine ⟨rfl,_,rfl,_,rfl,pm,l2,_,ps2,_,rfl,rfl,SqT.of (sm _ _ hpm),SqL.of (sm _ _ hl2),Rows.same sm hrow2,_,rfl,?_⟩
     rw [if_pos rfl]
     cases hin:(!decide (markRow m∈ns.map markRow)) with
     | false=>
      rw [hin] at etk
      refine bB ?_
      refine ⟨sm,us,hus,?_⟩
      rw [etk]
      simpa using hur
     | true=>
      rw [hin] at etk
      refine bV ?_
      refine ⟨_,rfl,_,hus,?_,?_⟩
      ·rw [List.length_map,hul]
       omega
      ·refine ⟨fun b o e=>by rw [ah (ai e hD)];exact sm b o e,us++[pm],by rw [ab,List.map_append];rfl,?_⟩
       rw [etk,if_pos rfl,List.map_append]
       refine Rows.append (Rows.updL hus hur) (.cons ?_ .nil)
       rw [ah (bS (sm _ _ hpm) hus (by intro z;cases z))]
       exact sm _ _ hpm
  ·rintro H1 ⟨sm,us,hus,hur⟩
   rw [List.length_map,hlen,List.take_length,<- uj] at hur
   exact q D H1 sm ⟨us,hus,hur⟩
abbrev CD:Stmt:=top 78
def uC:List Int->Call
 | [c,g]=> .differ c g
 | _=> .counts
theorem yi:aq ["line","told","same","one","other"] ["line","told"] (al CD):=⟨rfl,rfl,rfl,by decide +kernel,rfl,by decide +kernel,by decide +kernel⟩
theorem lc (l m:List Mark):(unlike l m).length<=l.length:=List.length_filter_le _ _
theorem CA {f:Addr} {fd:FuncData} (N:Env K mg C Cd Cm) (F:Fun K "tell_differ" "tell_differ" CD f fd):az P w K mg base CX0 8 f fd ["line","told"] (cM C Cd 21 uC):=by
 obtain ⟨f1,fd1,G1,k1,b1,m1⟩:=qX (P:=P) (w:=w) (base:=base) N
 obtain ⟨f2,fd2,G2,k2,b2,m2⟩:=gT (P:=P) (w:=w) (base:=base) N
 obtain ⟨f3,fd3,G3,k3,b3,m3⟩:=Bl (P:=P) (w:=w) (base:=base) N
 refine F.ok yi (fun vs H Q E h=>?_) (fun cdv A outer s H vs Q E hr h=>?_)
 ·obtain ⟨p,h,a,t,ks,zs,rfl,_⟩:=h
  rfl
 ·obtain ⟨p,h,a,t,ks,zs,rfl,L,I,hh,ht,hks,hkl,hfit,q⟩:=h
  have eks:ks=(["c","g"]:List Str):=Option.some.inj (hks.symm.trans (show forms[21]?=some (["c","g"]:List Str) from rfl))
  subst eks
  match zs,hkl with
  | [c,g],_=>
   rw [show ([c,g].map Itm.num)=[.num c,.num g] from rfl,sQ] at hfit
   obtain ⟨fc,fg⟩:=Bool.and_eq_true_iff.mp hfit
   have g1:=aM fc
   have g2:=aM fg
   have ec:c=((c.toNat:Nat):Int):=by omega
   have eg:g=((g.toNat:Nat):Int):=by omega
   have hq:Vbslag.step h (uC [c,g])=(h,0::(if (copyAt h c.toNat).known=(copyAt h g.toNat).known then 1 else 0)::viewRow (unlike (Vbslag.view h.doings (copyAt h c.toNat).known) (Vbslag.view h.doings (copyAt h g.toNat).known))++viewRow (unlike (Vbslag.view h.doings (copyAt h g.toNat).known) (Vbslag.view h.doings (copyAt h c.toNat).known))):=by
    simp only [uC,Vbslag.step]
    rw [aQ (hh (by decide))]
    simp only [hfit,if_false]
    rfl
   rw [hq] at q
   have hr1:bP 1 _:=hr.mono (by decide)
   have CO:=I.copy g1.2
   have CG:=I.copy g2.2
   have hvl:=f9 I.ds CO.le (I.known120 g1.2) I.hands
   have hvg:=f9 I.ds CG.le (I.known120 g2.2) I.hands
   obtain ⟨qk,hqk,hkn⟩:=L.known I g1.2
   obtain ⟨qg,hqg,hkg⟩:=L.known I g2.2
   have hu64:_+64 < cLine:=Nat.lt_of_succ_lt (xK hr)
   have hb:7000<=sizeLine:=by decide
   refine ⟨_,ag (aB (i:=2) yi.nd rfl (Or.inl rfl) (fI (xm hu64) (ax aE (ao (pv 0) rfl) (ax aH (pv 1) am (fun _ _=>rfl)) (fun _ _=>rfl)) (ax aE (ao (pv 0) rfl) (ax aH (pv 1) am (fun _ _=>rfl)) (fun _ _=>rfl)) (aX _)))
    (ag (aB (i:=3) yi.nd rfl (Or.inl rfl) (au G1 hr rfl m1 k1 b1 .nil aD (aa (pv 0) (aa (ax aH (pv 1) am (fun _ _=>rfl)) ad))))
    (ag (aB (i:=4) yi.nd rfl (Or.inl rfl) (au G1 hr rfl m1 k1 b1 .nil aD (aa (pv 0) (aa (ax aH (pv 1) am (fun _ _=>rfl)) ad))))
    (aj (ap (bZ cH (bZ cH (aJ (aa am (aa (jg (cU (pv 2)) am am) ad))) (au G2 hr1 rfl m2 k2 b2 .nil aD (aa (au G3 hr1 rfl m3 k3 b3 .nil aD (aa (pv 3) (aa (pv 4) ad))) ad))) (au G2 hr1 rfl m2 k2 b2 .nil aD (aa (au G3 hr1 rfl m3 k3 b3 .nil aD (aa (pv 4) (aa (pv 3) ad))) ad))))))),?_⟩
   refine ⟨_,rfl,p,C,a.dx,_,_,rfl,L.obj,N.T.cl,N.T.nk,cA ..,_,rfl,t,_,0,.int c,rfl,rfl,Or.inl (Or.inl ht),rfl,a.N,_,_,_,rfl,rfl,SqL.of L.nl,aR ec hqk,
    _,rfl,p,C,a.dx,_,_,rfl,L.obj,N.T.cl,N.T.nk,cA ..,_,rfl,t,_,1,.int g,rfl,rfl,Or.inl (Or.inl ht),rfl,a.N,_,_,_,rfl,rfl,SqL.of L.nl,aR eg hqg,
    _,_,vE (ns:=bp (copyAt h c.toNat).known) (SqL.of hkn),vE (ns:=bp (copyAt h g.toNat).known) (SqL.of hkg),kz _,kz _,?_⟩
   rw [ym]
   refine ⟨_,rfl,_,rfl,t,_,0,.int c,rfl,rfl,Or.inl (Or.inl ht),rfl,p,h,a,c.toNat,by rw [<- ec];rfl,L,I,g1.2,fun r1 H1 s1 hrows1=>?_⟩
   refine ⟨_,rfl,_,rfl,t,_,1,.int g,rfl,rfl,Or.inl (Or.inl (s1 _ _ ht)),rfl,p,h,a,g.toNat,by rw [<- eg];rfl,L.same s1,I,g2.2,fun r2 H2 s2 hrows2=>?_⟩
   have s02:=s1.trans s2
   replace hrows1:=hrows1.same s2
   generalize hbit:(if (copyAt h c.toNat).known=(copyAt h g.toNat).known then (1:Int) else 0)=bit at q
   generalize Vbslag.view h.doings (copyAt h c.toNat).known=vc at q hvl hrows1
   generalize Vbslag.view h.doings (copyAt h g.toNat).known=vg at q hvg hrows2
   have ul1:=lc vc vg
   have ul2:=lc vg vc
   have hfl1:=dO markRow 5 (fun x=>by show 5<=5;decide) (unlike vc vg)
   have hfl2:=dO markRow 5 (fun x=>by show 5<=5;decide) (unlike vg vc)
   have hz1:((ctI ((unlike vc vg).map markRow)).map V.int).length<=3001:=by
    unfold ctI
    rw [List.length_map,List.length_cons]
    omega
   have hz2:((ctI ((unlike vg vc).map markRow)).map V.int).length<=3001:=by
    unfold ctI
    rw [List.length_map,List.length_cons]
    omega
   refine ⟨_,rfl,_,rfl,?_⟩
   have e2:decide (bp (copyAt h c.toNat).known=bp (copyAt h g.toNat).known)=decide ((copyAt h c.toNat).known=(copyAt h g.toNat).known):=by rw [decide_eq_decide];exact pI
   have main:∀ σ:L2.St,σ[3]?=some (some (.ref r1))->σ[4]?=some (some (.ref r2))->(2<=sizeLine/\∀ p0,H2 p0=none->tOp p8 (tOp p8 (fun _ H' Q'=>Q' (.ref p0) H') (fj (rX K) [] E0 (aY (fj AU [] E0 (aY (aV 3) (aY (aV 4) cF))) cF))) (fj (rX K) [] E0 (aY (fj AU [] E0 (aY (aV 4) (aY (aV 3) cF))) cF))
     σ (upd H2 p0 (.lst [.int 0,.int bit])) Q):=by
    intro σ h3 h4
    refine ⟨by decide,fun p0 hp0=>?_⟩
    have s3:=ac (o:= .lst [V.int 0,V.int bit]) hp0
    refine ⟨_,h3,_,h4,r1,r2,vc,vg,rfl,hrows1.same s3,hrows2.same s3,hvl,fun r4 H4 s4 hrows4=>?_⟩
    obtain ⟨ps4,hps4,hrow4⟩:=hrows4
    refine ⟨r4,ps4,_,rfl,hps4,eW.of hrow4,by omega,fun r5 H5 s5 nr5 hr5=>?_⟩
    refine ⟨p0,r5,_,_,rfl,rfl,s5 _ _ (s4 _ _ ab),hr5,by show 2+_<=_;omega,fun p1 hp1=>?_⟩
    have s6:=ac (o:= .lst ([V.int 0,V.int bit]++(ctI ((unlike vc vg).map markRow)).map V.int)) hp1
    have s36:=((s3.trans s4).trans s5).trans s6
    refine ⟨_,h4,_,h3,r2,r1,vg,vc,rfl,hrows2.same s36,hrows1.same s36,hvg,fun r7 H7 s7 hrows7=>?_⟩
    obtain ⟨ps7,hps7,hrow7⟩:=hrows7
    refine ⟨r7,ps7,_,rfl,hps7,eW.of hrow7,by omega,fun r8 H8 s8 nr8 hr8=>?_⟩
    refine ⟨p1,r8,_,_,rfl,rfl,s8 _ _ (s7 _ _ ab),hr8,by rw [List.length_append];show 2+_+_<=_;omega,fun r9 hr9=>?_⟩
    have s08:=((s02.trans s36).trans s7).trans s8
    have s10:=s08.trans (ac (o:= .lst ([V.int 0,V.int bit]++(ctI ((unlike vc vg).map markRow)).map V.int++(ctI ((unlike vg vc).map markRow)).map V.int)) hr9)
    refine q _ a r9 (L.same s10) (fun b hb=> .inl hb) (bu (aN.of s10)) (s08.free hr9) ?_
    rw [ab,gy,gy]
    unfold gI viewRow
    simp only [List.map_cons,List.map_append,List.cons_append,List.nil_append]
   by_cases hsame:(copyAt h c.toNat).known=(copyAt h g.toNat).known
   ·rw [if_pos hsame] at hbit
    subst hbit
    rw [e2,decide_eq_true hsame]
    refine bV ?_
    exact main _ rfl rfl
   ·rw [if_neg hsame] at hbit
    subst hbit
    rw [e2,decide_eq_false hsame]
    refine bB ?_
    exact main _ rfl rfl
abbrev A3:Stmt:=top 73
theorem Bv:aq ["line","told","knowledge"] ["line","told"] (al A3):=⟨rfl,rfl,rfl,by decide +kernel,rfl,by decide +kernel,by decide +kernel⟩
theorem o8:∀ (l:List Int),(l.all fun n=>within n 0 (Vbslag.DOINGS:Int))=true->l=bp (l.map Int.toNat)/\∀ g,(l.map Int.toNat).getD g 0<=120
 | [],_=>⟨rfl,fun g=>by simp⟩
 | z::l,h=>by
  rw [List.all_cons,Bool.and_eq_true] at h
  obtain ⟨h1,h2⟩:=o8 l h.2
  have h3:=bv.mp h.1
  have hD:(Vbslag.DOINGS:Int)=120:=rfl
  refine ⟨?_,fun g=>?_⟩
  ·have e:((z.toNat:Nat):Int)=z:=by omega
   show z::l=((z.toNat:Nat):Int)::bp (l.map Int.toNat)
   rw [e,<- h1]
  ·cases g with
   | zero=>show z.toNat<=120;omega
   | succ g=>exact h2 g
theorem CJ {f:Addr} {fd:FuncData} (N:Env K mg C Cd Cm) (F:Fun K "show_at" "show_at" A3 f fd):az P w K mg base CX0 7 f fd ["line","told"] (bK C Cd 17):=by
 obtain ⟨f1,fd1,G1,k1,b1,m1⟩:=zI (P:=P) (w:=w) (base:=base) N
 obtain ⟨f2,fd2,G2,k2,b2,m2⟩:=gT (P:=P) (w:=w) (base:=base) N
 obtain ⟨f3,fd3,G3,k3,b3,m3⟩:=ou (P:=P) (w:=w) (base:=base) N
 obtain ⟨f4,fd4,G4,k4,b4,m4⟩:=C6 (P:=P) (w:=w) (base:=base) N
 obtain ⟨t6,w6⟩:=N.W.missing
 obtain ⟨t7,w7⟩:=N.W.notallowed
 refine F.ok Bv (fun vs H Q E h=>?_) (fun cdv A outer s H vs Q E hr h=>?_)
 ·obtain ⟨p,h,a,t,ks,its,vs',rfl,_⟩:=h
  rfl
 ·obtain ⟨p,h,a,t,ks,its,vs',rfl,L,I,hh,hks,fo,ht,hit,hfit,q⟩:=h
  have eks:ks=(["c","knowledge"]:List Str):=Option.some.inj (hks.symm.trans (show forms[17]?=some (["c","knowledge"]:List Str) from rfl))
  subst eks
  obtain ⟨c,its1,rfl,fo1⟩:=fo.num (by decide)
  obtain ⟨l,its2,rfl,fo2⟩:=fo1.row rfl
  obtain rfl:=fo2.nil
  cases hit with
  | cons x1 hit=>
  cases hit with
  | cons x2 hit=>
  cases hit
  obtain rfl:_=V.int c:=x1
  obtain ⟨tk,rfl,htk⟩:=x2
  rw [sK] at hfit
  obtain ⟨fc,fk⟩:=Bool.and_eq_true_iff.mp hfit
  obtain ⟨fl,fa⟩:=Bool.and_eq_true_iff.mp fk
  have g1:=aM fc
  have ec:c=((c.toNat:Nat):Int):=by omega
  have hll:l.length=h.hands:=eq_of_beq fl
  obtain ⟨hln,hl120⟩:=o8 l fa
  have hq:aO h (aA 17 [.num c,.row l])=(if atMost (l.map Int.toNat) (copyAt h c.toNat).known=false then (h,[-4]) else if closed h.doings (l.map Int.toNat)=false then (h,[-7]) else (h,0::viewRow (Vbslag.view h.doings (l.map Int.toNat)))):=by
   rw [qM]
   simp only [Vbslag.step]
   rw [aQ (hh (by decide))]
   simp only [hfit,if_false]
   rfl
  rw [hq] at q
  generalize hu:l.map Int.toNat=u at q hln hl120
  have hul:u.length=h.hands:=by rw [<- hu,List.length_map];exact hll
  have htk':H tk=some (.tup (aL u)):=by rw [htk,hln];rfl
  have hr1:bP 1 _:=hr.mono (by decide)
  have hr3:bP 3 _:=hr.mono (by decide)
  have CO:=I.copy g1.2
  have h5:=I.hands
  obtain ⟨qk,hqk,hkn⟩:=L.known I g1.2
  rw [jz,hul,CO.klen,beq_self_eq_true,Bool.true_and] at q
  refine ⟨_,ag (aB (i:=2) Bv.nd rfl (Or.inl rfl) (ax aH (pv 1) am (fun _ _=>rfl)))
   (ag (cc (fV (cU (au G1 hr1 rfl m1 k1 b1 .nil aD (aa (pv 2) (aa (ax aE (ao (pv 0) rfl) (ax aH (pv 1) am (fun _ _=>rfl)) (fun _ _=>rfl)) ad))))) (aj (ap (aJ (aa (aP w6) ad)))) aZ)
   (ag (cc (fV (cU (au G4 hr3 rfl m4 k4 b4 .nil aD (aa (pv 0) (aa (pv 2) ad))))) (aj (ap (aJ (aa (aP w7) ad)))) aZ)
   (aj (ap (bZ cH (aJ (aa am ad)) (au G2 hr1 rfl m2 k2 b2 .nil aD (aa (au G3 hr rfl m3 k3 b3 .nil aD (aa (ao (pv 0) rfl) (aa (pv 2) ad))) ad))))))),?_⟩
  refine ⟨_,rfl,t,_,1,.ref tk,rfl,rfl,SqT.of ht,rfl,?_⟩
  refine ⟨_,rfl,_,rfl,p,C,a.dx,_,_,rfl,L.obj,N.T.cl,N.T.nk,cA ..,_,rfl,t,_,0,.int c,rfl,rfl,SqT.of ht,rfl,a.N,_,_,_,rfl,rfl,SqL.of L.nl,aR ec hqk,
   tk,qk,true,false,u,_,rfl,SqT.of htk',SqL.of hkn,by rw [hul,CO.klen],by rw [hul];omega,fun H1 s1=>⟨_,rfl,?_⟩⟩
  cases hw:cZ u (copyAt h c.toNat).known with
  | false=>
   rw [if_pos hw] at q
   refine bV ?_
   refine ⟨(by show 1<=sizeLine;decide),fun r hr2=>?_⟩
   have s3:=s1.trans (ac (o:= .lst [V.int (-4)]) hr2)
   exact q _ a r (L.same s3) (fun b hb=> .inl hb) (bu (aN.of s3)) (s1.free hr2) ab
  | true=>
   rw [if_neg (by rw [hw];exact Bool.noConfusion)] at q
   refine bB ?_
   have hle:∀ g,u.getD g 0<=bg h.doings g:=fun g=>Nat.le_trans ((dw (by rw [hul,CO.klen])).mp hw g) (CO.le g)
   have L1:=L.same s1
   refine ⟨_,rfl,_,rfl,p,h,a,true,tk,u,rfl,L1,I,SqT.of (s1 _ _ htk'),hul,hle,fun H2 s2=>⟨_,rfl,?_⟩⟩
   have s02:=s1.trans s2
   cases hcl:closed h.doings u with
   | false=>
    rw [if_pos hcl] at q
    refine bV ?_
    refine ⟨(by show 1<=sizeLine;decide),fun r hr2=>?_⟩
    have s3:=s02.trans (ac (o:= .lst [V.int (-7)]) hr2)
    exact q _ a r (L.same s3) (fun b hb=> .inl hb) (bu (aN.of s3)) (s02.free hr2) ab
   | true=>
    rw [if_neg (by rw [hcl];exact Bool.noConfusion)] at q
    refine bB ?_
    refine ⟨(by show 1<=sizeLine;decide),fun p0 hp0=>?_⟩
    have s3:=ac (o:= .lst [V.int 0]) hp0
    have L3:=(L.same s02).same s3
    refine ⟨_,rfl,p,C,a.dx,_,_,rfl,L3.obj,N.T.cl,N.T.nd,cu ..,_,rfl,a.D,h.doings,true,tk,u,h.hands,rfl,L3.varg I (t:=true) (SqT.of (s3 _ _ (s02 _ _ htk'))) hul hle,fun r H4 s4 hrows=>?_⟩
    obtain ⟨ps,hps,hrow⟩:=hrows
    have hvl:=f9 I.ds hle (fun g=>Nat.le_trans (hle g) (I.len120 g)) I.hands
    generalize Vbslag.view h.doings u=vw at q hvl hrow
    have hfl:=dO markRow 5 (fun x=>by show 5<=5;decide) vw
    refine ⟨r,ps,_,rfl,hps,eW.of hrow,by omega,fun r2 H5 s5 nr2 hr5=>?_⟩
    have hz:((ctI (vw.map markRow)).map V.int).length<=3001:=by
     unfold ctI
     rw [List.length_map,List.length_cons]
     omega
    have hb:3002<=sizeLine:=by decide
    refine ⟨p0,r2,_,_,rfl,rfl,s5 _ _ (s4 _ _ ab),hr5,by rw [List.length_singleton];omega,fun r3 hr3=>?_⟩
    have s05:=((s02.trans s3).trans s4).trans s5
    have s6:=s05.trans (ac (o:= .lst ([V.int 0]++(ctI (vw.map markRow)).map V.int)) hr3)
    refine q _ a r3 (L.same s6) (fun b hb=> .inl hb) (bu (aN.of s6)) (s05.free hr3) ?_
    rw [ab,gy]
    rfl
end
theorem BB (v0 v1 v2:V) (vs:List V):dG (v0::v1::v2::vs) (some 1) (some 3)=[v1,v2]:=by
 unfold dG
 have e1:HT.sIx (v0::v1::v2::vs).length 0 (some 1)=1:=by
  have:=HT.sIx_nat (v0::v1::v2::vs).length 0 1
  rw [show ((1:Nat):Int)=1 from rfl] at this
  rw [this,List.length_cons]
  omega
 have e2:HT.sIx (v0::v1::v2::vs).length (v0::v1::v2::vs).length (some 3)=3:=by
  have:=HT.sIx_nat (v0::v1::v2::vs).length (v0::v1::v2::vs).length 3
  rw [show ((3:Nat):Int)=3 from rfl] at this
  rw [this,List.length_cons,List.length_cons,List.length_cons]
  omega
 rw [e1,e2]
 rfl
theorem lE (n:Nat) (h:1<=n) (o:Option Int):¬ (HT.sIx n 0 (some 1)=0/\HT.sIx n n o=n):=by
 have:=HT.sIx_nat n 0 1
 rw [show ((1:Nat):Int)=1 from rfl] at this
 rw [this]
 omega
def gr (h:House) (c:Nat) (nm:Name) (wh:What):House×List Int:=
 if ((Vbslag.view h.doings (copyAt h c).known).any fun x=>x.name == nm)=false then (h,[-4]) else doneBy h (c:Int) wh
section
variable {P:Program} {w:World} {K:PySem.W.Frag} {mg:Str->Option Value} {base:Heap} {C Cd Cm:Addr}
abbrev wF:Stmt:=top 50
def sJ (C Cd:Addr):Sp:=fun vs H Q _=>∃ p h a c t nm wh f6,vs=[.ref p,.int (bz wh),.ref t]/\aw C Cd H p h a/\NH.Inv h/\c < h.hands/\dE wh=bj nm++f6/\H t=some (.tup (V.int ((c:Nat):Int)::(dE wh).map V.int))/\
 ∀ H' r,aw C Cd H' p (gr h c nm wh).1 a->aN a.mut H H'->H r=none->H' r=some (.lst (gI (gr h c nm wh).2))->Q (.ref r) H'
theorem yZ:aq ["line","kind","told","hand"] ["line","kind","told"] (al wF):=⟨rfl,rfl,rfl,by decide +kernel,rfl,by decide +kernel,by decide +kernel⟩
theorem rm {f fr:Addr} {fd fdr:FuncData} (N:Env K mg C Cd Cm) (DE:iq K mg Cd) (F:Fun K "do_to_mark" "do_to_mark" wF f fd) (Fr:Fun K "do_if_room" "do_if_room" iu fr fdr) (br:aG K fdr ["line","hand","kind","told"] []) (mr:mg "do_if_room" = some (.ref fr)):az P w K mg base CX0 7 f fd ["line","kind","told"] (sJ C Cd):=by
 have GR:az P w K mg base CX0 4 fr fdr ["line","hand","kind","told"] (jA C Cd):=i7 Fr DE N.T N.Td N.B N.W
 obtain ⟨f1,fd1,G1,k1,b1,m1⟩:=vH (P:=P) (w:=w) (base:=base) N
 obtain ⟨t6,w6⟩:=N.W.missing
 refine F.ok yZ (fun vs H Q E h=>?_) (fun cdv A outer s H vs Q E hr h=>?_)
 ·obtain ⟨p,h,a,c,t,nm,wh,f6,rfl,_⟩:=h
  rfl
 ·obtain ⟨p,h,a,c,t,nm,wh,f6,rfl,L,I,hc,htold,ht,q⟩:=h
  have hr4:bP 4 _:=hr.mono (by decide)
  have CO:=I.copy hc
  obtain ⟨qk,hqk,hkn⟩:=L.known I hc
  have ht2:H t=some (.tup (V.int ((c:Nat):Int)::V.int (nm.by_:Int)::V.int (nm.k:Int)::f6.map V.int)):=by rw [ht,htold];rfl
  refine ⟨_,ag (aB (i:=3) yZ.nd rfl (Or.inl rfl) (ax aH (pv 2) am (fun _ _=>rfl)))
   (ag (cc (aU oz (au G1 hr rfl m1 k1 b1 .nil aD (aa (ao (pv 0) rfl) (aa (ax aE (ao (pv 0) rfl) (pv 3) (fun _ _=>rfl)) (aa (b8 dS (pv 2) (ck am) (ck am)) ad)))) gK (aX _)) (aj (ap (aJ (aa (aP w6) ad)))) aZ)
   (aj (ap (au GR hr4 rfl mr Fr.kp br .nil aD (aa (pv 0) (aa (pv 3) (aa (pv 1) (aa (b8 dS (pv 2) (ck am) cJ) ad)))))))),?_⟩
  refine ⟨_,rfl,t,_,0,V.int ((c:Nat):Int),rfl,rfl,SqT.of ht2,b7 (j:=0) (v:=V.int ((c:Nat):Int)) rfl rfl,?_⟩
  refine ⟨_,rfl,p,C,a.dx,_,_,rfl,L.obj,N.T.cl,N.T.nd,cu ..,_,rfl,p,C,a.dx,_,_,rfl,L.obj,N.T.cl,N.T.nk,cA ..,_,rfl,a.N,_,_,_,rfl,rfl,SqL.of L.nl,aR rfl hqk,
   _,rfl,1,rfl,3,rfl,t,_,rfl,SqT.of ht2,lE _ (by rw [List.length_cons];omega) _,fun tn htn=>?_⟩
  rw [BB]
  have s0:=ac (o:= .tup [V.int (nm.by_:Int),V.int (nm.k:Int)]) htn
  have L0:=L.same s0
  unfold gr at q
  rw [o7] at q
  refine ⟨a.D,h.doings,false,qk,_,h.hands,tn,nm,rfl,L0.varg I (t:=false) (SqL.of (s0 _ _ hkn)) CO.klen CO.le,ab,fun H1 s1 hno=>?_,fun H1 pm fm s1 hM hok hyes=>?_⟩
  ·rw [hno,Option.isSome_none,if_pos rfl] at q
   refine ⟨rfl,_,rfl,?_⟩
   refine bV ?_
   have s01:=s0.trans s1
   refine ⟨(by show 1<=sizeLine;decide),fun r hr2=>?_⟩
   have s3:=s01.trans (ac (o:= .lst [V.int (-4)]) hr2)
   exact q _ r (L.same s3) (aN.of s3) (s01.free hr2) ab
  ·rw [hyes,Option.isSome_some,if_neg (by exact Bool.noConfusion)] at q
   refine ⟨rfl,_,rfl,?_⟩
   refine bB ?_
   have s01:=s0.trans s1
   refine ⟨_,rfl,_,rfl,_,rfl,_,rfl,1,rfl,t,_,rfl,SqT.of (s01 _ _ ht),lE _ (by rw [List.length_cons];omega) _,fun r1 hr1=>?_⟩
   rw [yp]
   have s2:=ac (o:= .tup ((dE wh).map V.int)) hr1
   have s02:=s01.trans s2
   exact ⟨p,h,a,c,wh,r1,rfl,L.same s02,I,hc,ab,fun H' r L' K' hr' e'=>q H' r L' ((aN.of s02).trans K') (s02.free hr') e'⟩
abbrev sMv:Stmt:=top 52
abbrev sLb:Stmt:=top 53
abbrev sDp:Stmt:=top 54
def ln:List Int->Call
 | [c,m,k,a,b]=> .move c m k a b
 | _=> .counts
def jc:List Int->Call
 | [c,m,k,x]=> .label c m k x
 | _=> .counts
def lG:List Int->Call
 | [c,m,k]=> .drop c m k
 | _=> .counts
theorem D0:aq ["line","told"] ["line","told"] (al sMv):=⟨rfl,rfl,rfl,by decide +kernel,rfl,by decide +kernel,by decide +kernel⟩
theorem DH:aq ["line","told"] ["line","told"] (al sLb):=⟨rfl,rfl,rfl,by decide +kernel,rfl,by decide +kernel,by decide +kernel⟩
theorem Dx:aq ["line","told"] ["line","told"] (al sDp):=⟨rfl,rfl,rfl,by decide +kernel,rfl,by decide +kernel,by decide +kernel⟩
theorem A7 {f fo fr:Addr} {fd fdo fdr:FuncData} (N:Env K mg C Cd Cm) (DE:iq K mg Cd) (F:Fun K "move_mark" "move_mark" sMv f fd) (Fo:Fun K "do_to_mark" "do_to_mark" wF fo fdo) (bo:aG K fdo ["line","kind","told"] []) (mo:mg "do_to_mark" = some (.ref fo))
  (Fr:Fun K "do_if_room" "do_if_room" iu fr fdr) (br:aG K fdr ["line","hand","kind","told"] []) (mr:mg "do_if_room" = some (.ref fr)):az P w K mg base CX0 8 f fd ["line","told"] (cM C Cd 2 ln):=by
 have GO:az P w K mg base CX0 7 fo fdo ["line","kind","told"] (sJ C Cd):=rm N DE Fo Fr br mr
 obtain ⟨t1,w1⟩:=N.G.move
 refine F.ok D0 (fun vs H Q E h=>?_) (fun cdv A outer s H vs Q E hr h=>?_)
 ·obtain ⟨p,h,a,t,ks,zs,rfl,_⟩:=h
  rfl
 ·obtain ⟨p,h,a,t,ks,zs,rfl,L,I,hh,ht,hks,hkl,hfit,q⟩:=h
  have eks:ks=(["c","m","k","a","b"]:List Str):=Option.some.inj (hks.symm.trans (show forms[2]?=some (["c","m","k","a","b"]:List Str) from rfl))
  subst eks
  match zs,hkl with
  | [c,m,k,a1,b1],_=>
   rw [show ([c,m,k,a1,b1].map Itm.num)=[.num c,.num m,.num k,.num a1,.num b1] from rfl,vO] at hfit
   obtain ⟨f1,f2⟩:=Bool.and_eq_true_iff.mp hfit
   obtain ⟨f2,f3⟩:=Bool.and_eq_true_iff.mp f2
   obtain ⟨f4,f5⟩:=Bool.and_eq_true_iff.mp f3
   have g1:=aM f1
   obtain ⟨n1,n2,n3,n4⟩:=dR f2
   have g4:=bv.mp f4
   have g5:=bv.mp f5
   have ec:c=((c.toNat:Nat):Int):=by omega
   have hq:Vbslag.step h (ln [c,m,k,a1,b1])=gr h c.toNat (nameOf m k) (.move (nameOf m k) a1.toNat b1.toNat):=by
    simp only [ln,Vbslag.step]
    rw [aQ (hh (by decide))]
    simp only [hfit,if_false]
    unfold gr
    rw [<- ec]
    rfl
   rw [hq] at q
   refine ⟨_,aj (ap (au GO hr rfl mo Fo.kp bo .nil aD (aa (pv 0) (aa (aP w1) (aa (pv 1) ad))))),?_⟩
   refine ⟨_,rfl,_,rfl,p,h,a,c.toNat,t,nameOf m k,.move (nameOf m k) a1.toNat b1.toNat,[((a1.toNat:Nat):Int),((b1.toNat:Nat):Int)],rfl,L,I,g1.2,rfl,?_,fun H' r L' K' hr' e'=>q H' a r L' (fun b hb=> .inl hb) (bu K') hr' e'⟩
   rw [ht]
   have e1:((a1.toNat:Nat):Int)=a1:=by omega
   have e2:((b1.toNat:Nat):Int)=b1:=by omega
   have e3:((m.toNat:Nat):Int)=m:=by omega
   have e4:((k.toNat:Nat):Int)=k:=by omega
   show _=some (HO.tup [V.int ((c.toNat:Nat):Int),V.int ((m.toNat:Nat):Int),V.int ((k.toNat:Nat):Int),V.int ((a1.toNat:Nat):Int),V.int ((b1.toNat:Nat):Int)])
   rw [e1,e2,e3,e4,<- ec]
   rfl
theorem Cw {f fo fr:Addr} {fd fdo fdr:FuncData} (N:Env K mg C Cd Cm) (DE:iq K mg Cd) (F:Fun K "label_mark" "label_mark" sLb f fd) (Fo:Fun K "do_to_mark" "do_to_mark" wF fo fdo) (bo:aG K fdo ["line","kind","told"] []) (mo:mg "do_to_mark" = some (.ref fo))
  (Fr:Fun K "do_if_room" "do_if_room" iu fr fdr) (br:aG K fdr ["line","hand","kind","told"] []) (mr:mg "do_if_room" = some (.ref fr)):az P w K mg base CX0 8 f fd ["line","told"] (cM C Cd 3 jc):=by
 have GO:az P w K mg base CX0 7 fo fdo ["line","kind","told"] (sJ C Cd):=rm N DE Fo Fr br mr
 obtain ⟨t1,w1⟩:=N.G.label
 refine F.ok DH (fun vs H Q E h=>?_) (fun cdv A outer s H vs Q E hr h=>?_)
 ·obtain ⟨p,h,a,t,ks,zs,rfl,_⟩:=h
  rfl
 ·obtain ⟨p,h,a,t,ks,zs,rfl,L,I,hh,ht,hks,hkl,hfit,q⟩:=h
  have eks:ks=(["c","m","k","x"]:List Str):=Option.some.inj (hks.symm.trans (show forms[3]?=some (["c","m","k","x"]:List Str) from rfl))
  subst eks
  match zs,hkl with
  | [c,m,k,x],_=>
   rw [show ([c,m,k,x].map Itm.num)=[.num c,.num m,.num k,.num x] from rfl,wd] at hfit
   obtain ⟨f1,f2⟩:=Bool.and_eq_true_iff.mp hfit
   obtain ⟨f2,f3⟩:=Bool.and_eq_true_iff.mp f2
   have g1:=aM f1
   obtain ⟨n1,n2,n3,n4⟩:=dR f2
   have g4:=bv.mp f3
   have ec:c=((c.toNat:Nat):Int):=by omega
   have hq:Vbslag.step h (jc [c,m,k,x])=gr h c.toNat (nameOf m k) (.label (nameOf m k) x.toNat):=by
    simp only [jc,Vbslag.step]
    rw [aQ (hh (by decide))]
    simp only [hfit,if_false]
    unfold gr
    rw [<- ec]
    rfl
   rw [hq] at q
   refine ⟨_,aj (ap (au GO hr rfl mo Fo.kp bo .nil aD (aa (pv 0) (aa (aP w1) (aa (pv 1) ad))))),?_⟩
   refine ⟨_,rfl,_,rfl,p,h,a,c.toNat,t,nameOf m k,.label (nameOf m k) x.toNat,[((x.toNat:Nat):Int)],rfl,L,I,g1.2,rfl,?_,fun H' r L' K' hr' e'=>q H' a r L' (fun b hb=> .inl hb) (bu K') hr' e'⟩
   rw [ht]
   have e1:((x.toNat:Nat):Int)=x:=by omega
   have e3:((m.toNat:Nat):Int)=m:=by omega
   have e4:((k.toNat:Nat):Int)=k:=by omega
   show _=some (HO.tup [V.int ((c.toNat:Nat):Int),V.int ((m.toNat:Nat):Int),V.int ((k.toNat:Nat):Int),V.int ((x.toNat:Nat):Int)])
   rw [e1,e3,e4,<- ec]
   rfl
theorem CS {f fo fr:Addr} {fd fdo fdr:FuncData} (N:Env K mg C Cd Cm) (DE:iq K mg Cd) (F:Fun K "drop_mark" "drop_mark" sDp f fd) (Fo:Fun K "do_to_mark" "do_to_mark" wF fo fdo) (bo:aG K fdo ["line","kind","told"] []) (mo:mg "do_to_mark" = some (.ref fo))
  (Fr:Fun K "do_if_room" "do_if_room" iu fr fdr) (br:aG K fdr ["line","hand","kind","told"] []) (mr:mg "do_if_room" = some (.ref fr)):az P w K mg base CX0 8 f fd ["line","told"] (cM C Cd 4 lG):=by
 have GO:az P w K mg base CX0 7 fo fdo ["line","kind","told"] (sJ C Cd):=rm N DE Fo Fr br mr
 obtain ⟨t1,w1⟩:=N.G.drop
 refine F.ok Dx (fun vs H Q E h=>?_) (fun cdv A outer s H vs Q E hr h=>?_)
 ·obtain ⟨p,h,a,t,ks,zs,rfl,_⟩:=h
  rfl
 ·obtain ⟨p,h,a,t,ks,zs,rfl,L,I,hh,ht,hks,hkl,hfit,q⟩:=h
  have eks:ks=(["c","m","k"]:List Str):=Option.some.inj (hks.symm.trans (show forms[4]?=some (["c","m","k"]:List Str) from rfl))
  subst eks
  match zs,hkl with
  | [c,m,k],_=>
   rw [show ([c,m,k].map Itm.num)=[.num c,.num m,.num k] from rfl,gY] at hfit
   obtain ⟨f1,f2⟩:=Bool.and_eq_true_iff.mp hfit
   have g1:=aM f1
   obtain ⟨n1,n2,n3,n4⟩:=dR f2
   have ec:c=((c.toNat:Nat):Int):=by omega
   have hq:Vbslag.step h (lG [c,m,k])=gr h c.toNat (nameOf m k) (.drop (nameOf m k)):=by
    simp only [lG,Vbslag.step]
    rw [aQ (hh (by decide))]
    simp only [hfit,if_false]
    unfold gr
    rw [<- ec]
    rfl
   rw [hq] at q
   refine ⟨_,aj (ap (au GO hr rfl mo Fo.kp bo .nil aD (aa (pv 0) (aa (aP w1) (aa (pv 1) ad))))),?_⟩
   refine ⟨_,rfl,_,rfl,p,h,a,c.toNat,t,nameOf m k,.drop (nameOf m k),[],rfl,L,I,g1.2,rfl,?_,fun H' r L' K' hr' e'=>q H' a r L' (fun b hb=> .inl hb) (bu K') hr' e'⟩
   rw [ht]
   have e3:((m.toNat:Nat):Int)=m:=by omega
   have e4:((k.toNat:Nat):Int)=k:=by omega
   show _=some (HO.tup [V.int ((c.toNat:Nat):Int),V.int ((m.toNat:Nat):Int),V.int ((k.toNat:Nat):Int)])
   rw [e3,e4,<- ec]
   rfl
end
structure rP (P:Program) (w:World) (K:PySem.W.Frag) (mg:Str->Option Value) (base:Heap) (C Cd:Addr) (x:Str) (lo hi:Nat):Prop where
 ex:∃ (aT:Addr) (kvs:List (Key×V)),mg x=some (.ref aT)/\pQ K w aT kvs/\∀ q,lo<=q->q<=hi->∃ (f:Addr) (fd:FuncData),cx kvs (Sum.inl (q:Int))=some (.ref f)/\az P w K mg base CX0 8 f fd ["line","told"] (bK C Cd q)/\PySem.W.keepIn K (.ref f)=true/\aG K fd ["line","told"] []
def mG (C Cd:Addr) (lo hi:Nat):Sp:=fun vs H Q E=>∃ (p t:Addr) (q:Nat),vs=[.ref p,.int (q:Int),.ref t]/\lo<=q/\q<=hi/\bK C Cd q [.ref p,.ref t] H Q E
section
variable {P:Program} {w:World} {K:PySem.W.Frag} {mg:Str->Option Value} {base:Heap} {C Cd Cm:Addr}
abbrev uT:Stmt:=top 64
abbrev wm:Stmt:=top 82
theorem vS:aq ["line","call","told","chosen"] ["line","call","told"] (al uT):=⟨rfl,rfl,rfl,by decide +kernel,rfl,by decide +kernel,by decide +kernel⟩
theorem wM:aq ["line","call","told","chosen"] ["line","call","told"] (al wm):=⟨rfl,rfl,rfl,by decide +kernel,rfl,by decide +kernel,by decide +kernel⟩
theorem xA {f:Addr} {fd:FuncData} (TO:rP P w K mg base C Cd "ACTS" 0 11) (F:Fun K "act" "act" uT f fd):az P w K mg base CX0 9 f fd ["line","call","told"] (mG C Cd 0 11):=by
 obtain ⟨aT,kvs,mT,hM,hT⟩:=TO.ex
 refine F.ok vS (fun vs H Q E h=>?_) (fun cdv A outer s H vs Q E hr h=>?_)
 ·obtain ⟨p,t,q,rfl,_⟩:=h
  rfl
 ·obtain ⟨p,t,q,rfl,h1,h2,hq⟩:=h
  obtain ⟨ff,ffd,hv,G,kp,bd⟩:=hT q h1 h2
  refine ⟨_,ag (aB (i:=3) vS.nd rfl (Or.inl rfl) (jb (gq (v:= .ref aT) rfl mT rfl) (pv 1) (fun _ _=>rfl)))
   (aj (ap (p9 (pv 3) (aa (pv 0) (aa (pv 2) ad))))),?_⟩
  refine ⟨_,rfl,aT,kvs,Sum.inl (q:Int),_,rfl,hM,rfl,hv,?_⟩
  exact ⟨_,rfl,bK C Cd q,⟨ff,8,ffd,["line","told"],rfl,G,hr,kp,bd⟩,_,rfl,_,rfl,hq⟩
theorem yx {f:Addr} {fd:FuncData} (TO:rP P w K mg base C Cd "ASKS" 12 23) (F:Fun K "ask" "ask" wm f fd):az P w K mg base CX0 9 f fd ["line","call","told"] (mG C Cd 12 23):=by
 obtain ⟨aT,kvs,mT,hM,hT⟩:=TO.ex
 refine F.ok wM (fun vs H Q E h=>?_) (fun cdv A outer s H vs Q E hr h=>?_)
 ·obtain ⟨p,t,q,rfl,_⟩:=h
  rfl
 ·obtain ⟨p,t,q,rfl,h1,h2,hq⟩:=h
  obtain ⟨ff,ffd,hv,G,kp,bd⟩:=hT q h1 h2
  refine ⟨_,ag (aB (i:=3) wM.nd rfl (Or.inl rfl) (jb (gq (v:= .ref aT) rfl mT rfl) (pv 1) (fun _ _=>rfl)))
   (aj (ap (p9 (pv 3) (aa (pv 0) (aa (pv 2) ad))))),?_⟩
  refine ⟨_,rfl,aT,kvs,Sum.inl (q:Int),_,rfl,hM,rfl,hv,?_⟩
  exact ⟨_,rfl,bK C Cd q,⟨ff,8,ffd,["line","told"],rfl,G,hr,kp,bd⟩,_,rfl,_,rfl,hq⟩
structure Words2 (mg:Str->Option Value):Prop where
 last:∃ t,mg "LAST_ACT" = some (.int 11 t)
theorem wT:aq ["line","call","told"] ["line","call","told"] (al oy):=⟨rfl,rfl,rfl,by decide +kernel,rfl,by decide +kernel,by decide +kernel⟩
theorem cV.same {H H':Hp} (s:ay H H') {vs:List V} {its:List Itm} (h:cV H vs its):cV H' vs its:=Paired.mapP h fun v it z=>by
 cases it with
 | num z'=>exact z
 | row l=>
  obtain ⟨t,e,ht⟩:=z
  exact ⟨t,e,s _ _ ht⟩
theorem tR {f ff fk fl fa fq fF:Addr} {fd fdf fdk fdl fda fdq fdF:FuncData} (F:Fun K "answer" "answer" oy f fd)
  (FF:Fun K "all_fit" "all_fit" sAF fF fdF) (bF:aG K fdF ["line","call","told"] []) (mF:mg "all_fit" = some (.ref fF)) (GF:az P w K mg base CX0 3 fF fdF ["line","call","told"] (xY C Cd))
  (Fa:Fun K "act" "act" uT fa fda) (ba:aG K fda ["line","call","told"] []) (ma:mg "act" = some (.ref fa)) (GA:az P w K mg base CX0 9 fa fda ["line","call","told"] (mG C Cd 0 11))
  (Fq:Fun K "ask" "ask" wm fq fdq) (bq:aG K fdq ["line","call","told"] []) (mq:mg "ask" = some (.ref fq)) (GQ:az P w K mg base CX0 9 fq fdq ["line","call","told"] (mG C Cd 12 23))
  (T:cR K C) (WO:Words mg) (W2:Words2 mg):az P w K mg base CX0 10 f fd ["line","call","told"] (zk C Cd):=by
 obtain ⟨t1,w1⟩:=WO.hands
 obtain ⟨t2,w2⟩:=WO.nohands
 obtain ⟨t3,w3⟩:=WO.range
 obtain ⟨t4,w4⟩:=W2.last
 refine F.ok wT (fun vs H Q E h=>?_) (fun cdv A outer s H vs Q E hr h=>?_)
 ·obtain ⟨p,h,a,q,ks,its,t,vs',rfl,_⟩:=h
  rfl
 ·obtain ⟨p,h,a,q,ks,its,t,vs',rfl,L,I,hq24,hks,hkl,ht,hit,hfit,hrows,qq⟩:=h
  have hr3:bP 3 _:=hr.mono (by decide)
  have fo:dH ks its:=⟨hkl,hfit⟩
  refine ⟨_,ag (cc (PW.pt (qQ (aU sL (pv 1) (aP w1) (aX _)) (oa (aU dJ (ao (pv 0) rfl) am (aX _))))) (aj (ap (aJ (aa (aP w2) ad)))) aZ)
   (ag (cc (fV (cU (au GF hr3 rfl mF FF.kp bF .nil aD (aa (pv 0) (aa (pv 1) (aa (pv 2) ad)))))) (aj (ap (aJ (aa (aP w3) ad)))) aZ)
   (ag (cc (aU ll (pv 1) (aP w4) (aX _)) (aj (ap (au GA hr rfl ma Fa.kp ba .nil aD (aa (pv 0) (aa (pv 1) (aa (pv 2) ad)))))) aZ)
   (aj (ap (au GQ hr rfl mq Fq.kp bq .nil aD (aa (pv 0) (aa (pv 1) (aa (pv 2) ad)))))))),?_⟩
  have f6:(q≠0->h.hands≠0)->vI (AJ (Af (tB (fj (xY C Cd) [] E0 (aY (aV 0) (aY (aV 1) (aY (aV 2) cF)))))) (rF (lT (aY (tC (.int (-1))) cF))) vy)
    (vI (AJ (mK (tOp (rI0 fun i j=> .bl (decide (i<=j))) (aV 1) (tC (.int 11)))) (rF (fj (mG C Cd 0 11) [] E0 (aY (aV 0) (aY (aV 1) (aY (aV 2) cF))))) vy)
     (rF (fj (mG C Cd 12 23) [] E0 (aY (aV 0) (aY (aV 1) (aY (aV 2) cF))))))
    { nx:=fun _ H'=>Q .non H',rt:=Q } [some (.ref p),some (.int (q:Int)),some (.ref t)] H:=by
   intro hh
   refine ⟨_,rfl,_,rfl,_,rfl,p,h,a,q,ks,its,t,vs',rfl,L,hks,hkl,ht,hit,hfit,hrows,fun H1 s1=>⟨_,rfl,?_⟩⟩
   cases hf:bR h ks its 0 with
   | false=>
    refine bV ?_
    rw [tH hq24 hh hks fo hf] at qq
    refine ⟨(by show 1<=sizeLine;decide),fun r hr2=>?_⟩
    have s3:=s1.trans (ac (o:= .lst [V.int (-1)]) hr2)
    exact qq _ a r (L.same s3) (fun b hb=> .inl hb) (bu (aN.of s3)) (s1.free hr2) ab
   | true=>
    refine bB ?_
    have act:∀ E,bK C Cd q [.ref p,.ref t] H1 Q E:=fun E=>⟨p,h,a,t,ks,its,vs',rfl,L.same s1,I,hh,hks,fo,s1 _ _ ht,cV.same s1 hit,hf,fun H' a' r L' m' k' nr' hr'=>
     qq H' a' r L' (fun b hb=>(m' b hb).imp id s1.free) (fun b o e=>k' b o (s1 b o e)) (s1.free nr') hr'⟩
    refine ⟨_,rfl,_,_,rfl,rfl,_,rfl,?_⟩
    by_cases h11:q<=11
    ·rw [decide_eq_true (show (q:Int)<=11 by omega)]
     refine bV ?_
     exact ⟨_,rfl,_,rfl,_,rfl,p,t,q,rfl,Nat.zero_le _,h11,act _⟩
    ·rw [decide_eq_false (show ¬ (q:Int)<=11 by omega)]
     refine bB ?_
     exact ⟨_,rfl,_,rfl,_,rfl,p,t,q,rfl,by omega,by omega,act _⟩
  refine ⟨_,rfl,rfl,_,rfl,?_⟩
  by_cases h0:q=0
  ·have e0:(!decide (V.int (q:Int)=V.int 0))=false:=by rw [h0];rfl
   rw [e0]
   refine bB (bB ?_)
   exact f6 (fun z=>absurd h0 z)
  ·have e0:(!decide (V.int (q:Int)=V.int 0))=true:=by
    rw [decide_eq_false fun z=>h0 (by have:=V.int.inj z;omega)];rfl
   rw [e0]
   refine bV ?_
   refine ⟨_,rfl,p,C,a.dx,_,_,rfl,L.obj,T.cl,T.nh,fQ ..,rfl,_,rfl,?_⟩
   by_cases hh:h.hands=0
   ·have e1:decide (V.int (h.hands:Int)=V.int 0)=true:=by rw [hh];rfl
    rw [e1]
    refine bV ?_
    rw [oO hh hq24 h0 hks fo] at qq
    refine ⟨(by show 1<=sizeLine;decide),fun r hr2=>?_⟩
    have s3:=ac (o:= .lst [V.int (-9)]) hr2
    exact qq _ a r (L.same s3) (fun b hb=> .inl hb) (bu (aN.of s3)) hr2 ab
   ·have e1:decide (V.int (h.hands:Int)=V.int 0)=false:=decide_eq_false fun z=>hh (by have:=V.int.inj z;omega)
    rw [e1]
    refine bB ?_
    exact f6 (fun _=>hh)
end
def actNames:List Str:=["begin_hands","put_mark","move_mark","label_mark","drop_mark","take_back","sign","say_hello","send","deliver","lose","double"]
def askNames:List Str:=["show_view","tell_known","tell_stable","tell_signs","show_signed","show_at","tell_mark","tell_overlaps","tell_doing","tell_differ","tell_bag","tell_counts"]
def TabIs (K:PySem.W.Frag) (w:World) (mg:Str->Option Value) (x:Str) (lo:Nat) (names:List Str):Prop:=
 ∃ (aT:Addr) (kvs:List (Key×V)),mg x=some (.ref aT)/\pQ K w aT kvs/\∀ (q:Nat) (y:Str),names[q]?=some y->∃ f:Addr,cx kvs (Sum.inl ((lo+q:Nat):Int))=some (.ref f)/\mg y=some (.ref f)
def qj (K:PySem.W.Frag) (Cx:Addr) (x qual:Str) (i j:Nat) (ps:List Str):Prop:=∃ (f:Addr) (fd:FuncData),Fun K x qual (aS (top i) j) f fd/\aG K fd ps []/\jF K Cx x f
def ut (K:PySem.W.Frag) (mg:Str->Option Value) (Cx:Addr) (x qual:Str) (i:Nat) (ps:List Str):Prop:=∃ (f:Addr) (fd:FuncData),Fun K "__init__" qual (aS (top i) 0) f fd/\aG K fd ps []/\Mk K Cx f/\mg x=some (.ref Cx)
structure Tops (K:PySem.W.Frag) (mg:Str->Option Value) (w:World) (C Cd Cm Cr:Addr):Prop where
 env:Env K mg C Cd Cm
 w2:Words2 mg
 time:Has K mg "time_behind" 16 ["line","bears"]
 do_:Has K mg "do" 17 ["line","hand","kind","told"]
 lack:Has K mg "lacks" 25 ["line","hand","other"]
 rdy:Has K mg "is_ready" 26 ["line","hand","name"]
 fst:Has K mg "first_ready" 27 ["line","hand"]
 take:Has K mg "take_ready" 28 ["line","hand"]
 br:Has K mg "bring" 29 ["line","hand","name"]
 room:Has K mg "do_if_room" 49 ["line","hand","kind","told"]
 dtm:Has K mg "do_to_mark" 50 ["line","kind","told"]
 hr:Has K mg "has_room" 58 ["line","more"]
 act:Has K mg "act" 64 ["line","call","told"]
 ask:Has K mg "ask" 82 ["line","call","told"]
 lim:Has K mg "limits" 87 ["line","kind","before"]
 kn:Has K mg "is_knowledge" 88 ["line","row"]
 fit:Has K mg "fits" 89 ["line","kind","value","before"]
 af:Has K mg "all_fit" 90 ["line","call","told"]
 ans:Has K mg "answer" 94 ["line","call","told"]
 a0:Has K mg "begin_hands" 48 ["line","told"]
 a1:Has K mg "put_mark" 51 ["line","told"]
 a2:Has K mg "move_mark" 52 ["line","told"]
 a3:Has K mg "label_mark" 53 ["line","told"]
 a4:Has K mg "drop_mark" 54 ["line","told"]
 a5:Has K mg "take_back" 55 ["line","told"]
 a6:Has K mg "sign" 56 ["line","told"]
 a7:Has K mg "say_hello" 57 ["line","told"]
 a8:Has K mg "send" 59 ["line","told"]
 a9:Has K mg "deliver" 60 ["line","told"]
 a10:Has K mg "lose" 61 ["line","told"]
 a11:Has K mg "double" 62 ["line","told"]
 a12:Has K mg "show_view" 68 ["line","told"]
 a13:Has K mg "tell_known" 69 ["line","told"]
 a14:Has K mg "tell_stable" 70 ["line","told"]
 a15:Has K mg "tell_signs" 71 ["line","told"]
 a16:Has K mg "show_signed" 72 ["line","told"]
 a17:Has K mg "show_at" 73 ["line","told"]
 a18:Has K mg "tell_mark" 74 ["line","told"]
 a19:Has K mg "tell_overlaps" 75 ["line","told"]
 a20:Has K mg "tell_doing" 76 ["line","told"]
 a21:Has K mg "tell_differ" 78 ["line","told"]
 a22:Has K mg "tell_bag" 79 ["line","told"]
 a23:Has K mg "tell_counts" 80 ["line","told"]
 di:ut K mg Cd "Doing" "Doing.__init__" 8 ["self","hand","number","kind","told","bears","time"]
 li:ut K mg C "Line" "Line.__init__" 14 ["self"]
 beg:qj K C "begin" "Line.begin" 14 1 ["self","hands","length"]
 rc:oU K Cr
 ri:ut K mg Cr "Reader" "Reader.__init__" 86 ["self","numbers"]
 ae:qj K Cr "at_end" "Reader.at_end" 86 1 ["self"]
 tn:qj K Cr "take_number" "Reader.take_number" 86 2 ["self"]
 tr:qj K Cr "take_row" "Reader.take_row" 86 3 ["self"]
 tt:qj K Cr "take_told" "Reader.take_told" 86 4 ["self","call"]
 forms:FormsOk K w mg
 fixed:FixedOk K w mg
 acts:TabIs K w mg "ACTS" 0 actNames
 asks:TabIs K w mg "ASKS" 12 askNames
theorem qu (h:House) (zs:List Int) (hz:(["c","m","k","a","b"]:List Str).length=zs.length):aO h (aA 2 (zs.map Itm.num))=Vbslag.step h (ln zs):=by
 match zs,hz with
 | [c,m,k,a,b],_=>exact vz h c m k a b
theorem p5 (h:House) (zs:List Int) (hz:(["c","m","k","x"]:List Str).length=zs.length):aO h (aA 3 (zs.map Itm.num))=Vbslag.step h (jc zs):=by
 match zs,hz with
 | [c,m,k,x],_=>exact uU h c m k x
theorem qF (h:House) (zs:List Int) (hz:(["c","m","k"]:List Str).length=zs.length):aO h (aA 4 (zs.map Itm.num))=Vbslag.step h (lG zs):=by
 match zs,hz with
 | [c,m,k],_=>exact wJ h c m k
theorem uV (h:House) (zs:List Int) (hz:(["c"]:List Str).length=zs.length):aO h (aA 12 (zs.map Itm.num))=Vbslag.step h (xl zs):=by
 match zs,hz with
 | [c],_=>exact rN h c
theorem uO (h:House) (zs:List Int) (hz:(["c"]:List Str).length=zs.length):aO h (aA 13 (zs.map Itm.num))=Vbslag.step h (vG zs):=by
 match zs,hz with
 | [c],_=>exact qx h c
theorem vF (h:House) (zs:List Int) (hz:(["c"]:List Str).length=zs.length):aO h (aA 14 (zs.map Itm.num))=Vbslag.step h (uJ zs):=by
 match zs,hz with
 | [c],_=>exact qW h c
theorem wS (h:House) (zs:List Int) (hz:(["c"]:List Str).length=zs.length):aO h (aA 15 (zs.map Itm.num))=Vbslag.step h (vx zs):=by
 match zs,hz with
 | [c],_=>exact rC h c
theorem wz (h:House) (zs:List Int) (hz:(["c","m","k"]:List Str).length=zs.length):aO h (aA 16 (zs.map Itm.num))=Vbslag.step h (wN zs):=by
 match zs,hz with
 | [c,m,k],_=>exact rh h c m k
theorem uK (h:House) (zs:List Int) (hz:(["c","m","k"]:List Str).length=zs.length):aO h (aA 18 (zs.map Itm.num))=Vbslag.step h (uF zs):=by
 match zs,hz with
 | [c,m,k],_=>exact qI h c m k
theorem uM (h:House) (zs:List Int) (hz:(["c"]:List Str).length=zs.length):aO h (aA 19 (zs.map Itm.num))=Vbslag.step h (wW zs):=by
 match zs,hz with
 | [c],_=>exact rH h c
theorem uD (h:House) (zs:List Int) (hz:(["c","m","k"]:List Str).length=zs.length):aO h (aA 20 (zs.map Itm.num))=Vbslag.step h (wH zs):=by
 match zs,hz with
 | [c,m,k],_=>exact rp h c m k
theorem uL (h:House) (zs:List Int) (hz:(["c","g"]:List Str).length=zs.length):aO h (aA 21 (zs.map Itm.num))=Vbslag.step h (uC zs):=by
 match zs,hz with
 | [c,g],_=>exact qy h c g
theorem xa (h:House) (zs:List Int) (hz:([]:List Str).length=zs.length):aO h (aA 22 (zs.map Itm.num))=Vbslag.step h (uQ zs):=by
 match zs,hz with
 | [],_=>exact uS h
theorem u6 (h:House) (zs:List Int) (hz:([]:List Str).length=zs.length):aO h (aA 23 (zs.map Itm.num))=Vbslag.step h (wU zs):=by
 match zs,hz with
 | [],_=>exact uW h
section
variable {P:Program} {w:World} {K:PySem.W.Frag} {mg:Str->Option Value} {base:Heap} {C Cd Cm Cr:Addr}
theorem Tops.doEnv (T:Tops K mg w C Cd Cm Cr):iq K mg Cd:=by
 obtain ⟨f1,d1,F1,b1,m1⟩:=T.env.all
 obtain ⟨f2,d2,F2,b2,m2⟩:=T.do_
 obtain ⟨f3,d3,F3,b3,M3,m3⟩:=T.di
 obtain ⟨f4,d4,F4,b4,m4⟩:=T.time
 exact ⟨f1,f2,f3,f4,d1,d2,d3,d4,F1,b1,m1,F2,b2,m2,F3,b3,M3,m3,F4,b4,m4⟩
theorem A4 (T:Tops K mg w C Cd Cm Cr):Fn P w K mg base "begin_hands" 8 ["line","told"] (bK C Cd 0):=by
 obtain ⟨f,fd,F,b,m⟩:=T.a0
 obtain ⟨fb,db,Fb,bb,mb⟩:=T.beg
 exact ⟨f,fd,((B4 F Fb bb mb T.env.T T.env.B).mono (by decide)).imp fun vs H Q E h=>cg (ks0:=["n","length"]) (mk:=ja) rfl (by decide) qd h,F.kp,b,m⟩
theorem De (T:Tops K mg w C Cd Cm Cr):Fn P w K mg base "put_mark" 8 ["line","told"] (bK C Cd 1):=by
 obtain ⟨f,fd,F,b,m⟩:=T.a1
 obtain ⟨fr,dr,Fr,br,mr⟩:=T.room
 exact ⟨f,fd,((Ag F Fr br mr T.doEnv T.env.T T.env.Td T.env.B T.env.G T.env.W).mono (by decide)).imp fun vs H Q E h=>cg (ks0:=["c","a","b","x"]) (mk:=pU) rfl (by decide) tj h,F.kp,b,m⟩
theorem Dh (T:Tops K mg w C Cd Cm Cr):Fn P w K mg base "move_mark" 8 ["line","told"] (bK C Cd 2):=by
 obtain ⟨f,fd,F,b,m⟩:=T.a2
 obtain ⟨fr,dr,Fr,br,mr⟩:=T.room
 obtain ⟨fo,do',Fo,bo,mo⟩:=T.dtm
 exact ⟨f,fd,((A7 T.env T.doEnv F Fo bo mo Fr br mr).mono (by decide)).imp fun vs H Q E h=>cg (ks0:=["c","m","k","a","b"]) (mk:=ln) rfl (by decide) qu h,F.kp,b,m⟩
theorem Cy (T:Tops K mg w C Cd Cm Cr):Fn P w K mg base "label_mark" 8 ["line","told"] (bK C Cd 3):=by
 obtain ⟨f,fd,F,b,m⟩:=T.a3
 obtain ⟨fr,dr,Fr,br,mr⟩:=T.room
 obtain ⟨fo,do',Fo,bo,mo⟩:=T.dtm
 exact ⟨f,fd,((Cw T.env T.doEnv F Fo bo mo Fr br mr).mono (by decide)).imp fun vs H Q E h=>cg (ks0:=["c","m","k","x"]) (mk:=jc) rfl (by decide) p5 h,F.kp,b,m⟩
theorem Ck (T:Tops K mg w C Cd Cm Cr):Fn P w K mg base "drop_mark" 8 ["line","told"] (bK C Cd 4):=by
 obtain ⟨f,fd,F,b,m⟩:=T.a4
 obtain ⟨fr,dr,Fr,br,mr⟩:=T.room
 obtain ⟨fo,do',Fo,bo,mo⟩:=T.dtm
 exact ⟨f,fd,((CS T.env T.doEnv F Fo bo mo Fr br mr).mono (by decide)).imp fun vs H Q E h=>cg (ks0:=["c","m","k"]) (mk:=lG) rfl (by decide) qF h,F.kp,b,m⟩
theorem Bw (T:Tops K mg w C Cd Cm Cr):Fn P w K mg base "take_back" 8 ["line","told"] (bK C Cd 5):=by
 obtain ⟨f,fd,F,b,m⟩:=T.a5
 obtain ⟨fr,dr,Fr,br,mr⟩:=T.room
 obtain ⟨ft,dt,Ft,bt,mt⟩:=T.env.ve.tb
 exact ⟨f,fd,((xP F Fr br mr T.doEnv Ft bt mt T.env.T T.env.Td T.env.B T.env.G T.env.W).mono (by decide)).imp fun vs H Q E h=>cg (ks0:=["c","k"]) (mk:=lF) rfl (by decide) rJ h,F.kp,b,m⟩
theorem CM (T:Tops K mg w C Cd Cm Cr):Fn P w K mg base "sign" 8 ["line","told"] (bK C Cd 6):=by
 obtain ⟨f,fd,F,b,m⟩:=T.a6
 obtain ⟨fr,dr,Fr,br,mr⟩:=T.room
 exact ⟨f,fd,((xr F Fr br mr T.doEnv T.env.T T.env.Td T.env.B T.env.G T.env.W).mono (by decide)).imp fun vs H Q E h=>cg (ks0:=["c"]) (mk:=lr) rfl (by decide) qL h,F.kp,b,m⟩
theorem Cv (T:Tops K mg w C Cd Cm Cr):Fn P w K mg base "say_hello" 8 ["line","told"] (bK C Cd 7):=by
 obtain ⟨f,fd,F,b,m⟩:=T.a7
 obtain ⟨fr,dr,Fr,br,mr⟩:=T.room
 exact ⟨f,fd,((wX F Fr br mr T.doEnv T.env.T T.env.Td T.env.B T.env.G T.env.W).mono (by decide)).imp fun vs H Q E h=>cg (ks0:=["c"]) (mk:=i4) rfl (by decide) pp h,F.kp,b,m⟩
theorem C2 (T:Tops K mg w C Cd Cm Cr):Fn P w K mg base "send" 8 ["line","told"] (bK C Cd 8):=by
 obtain ⟨f,fd,F,b,m⟩:=T.a8
 obtain ⟨fh,dh,Fh,bh,mh⟩:=T.hr
 obtain ⟨fl,dl,Fl,bl,ml⟩:=T.lack
 obtain ⟨fs,ds,Fs,bs,ms⟩:=T.env.sure
 exact ⟨f,fd,((x8 T.env.hp F Fh bh mh Fl bl ml Fs bs ms T.env.T T.env.Td T.env.B T.env.W).mono (by decide)).imp fun vs H Q E h=>cg (ks0:=["c","another"]) (mk:=kU) rfl (by decide) rK h,F.kp,b,m⟩
theorem BG (T:Tops K mg w C Cd Cm Cr):Fn P w K mg base "deliver" 8 ["line","told"] (bK C Cd 9):=by
 obtain ⟨f,fd,F,b,m⟩:=T.a9
 obtain ⟨fb,db,Fb,bb,mb⟩:=T.br
 obtain ⟨ft,dt,Ft,bt,mt⟩:=T.take
 obtain ⟨ff,df,Ff,bf,mf⟩:=T.fst
 obtain ⟨fr,dr,Fr,br,mr⟩:=T.rdy
 exact ⟨f,fd,((zz T.env.hp F Fb bb mb Ft bt mt Ff bf mf Fr br mr T.env.T T.env.Td T.env.B).mono (by decide)).imp fun vs H Q E h=>cg (ks0:=["i"]) (mk:=f8) rfl (by decide) lQ h,F.kp,b,m⟩
theorem zD (T:Tops K mg w C Cd Cm Cr):Fn P w K mg base "lose" 8 ["line","told"] (bK C Cd 10):=by
 obtain ⟨f,fd,F,b,m⟩:=T.a10
 exact ⟨f,fd,((yj F T.env.T).mono (by decide)).imp fun vs H Q E h=>cg (ks0:=["i"]) (mk:=lq) rfl (by decide) rB h,F.kp,b,m⟩
theorem zo (T:Tops K mg w C Cd Cm Cr):Fn P w K mg base "double" 8 ["line","told"] (bK C Cd 11):=by
 obtain ⟨f,fd,F,b,m⟩:=T.a11
 obtain ⟨fh,dh,Fh,bh,mh⟩:=T.hr
 exact ⟨f,fd,((AB F Fh bh mh T.env.T T.env.B T.env.W).mono (by decide)).imp fun vs H Q E h=>cg (ks0:=["i"]) (mk:=hC) rfl (by decide) oG h,F.kp,b,m⟩
theorem Aq (T:Tops K mg w C Cd Cm Cr):Fn P w K mg base "show_view" 8 ["line","told"] (bK C Cd 12):=by
 obtain ⟨f,fd,F,b,m⟩:=T.a12
 exact ⟨f,fd,((Dm T.env F).mono (by decide)).imp fun vs H Q E h=>cg (ks0:=["c"]) (mk:=xl) rfl (by decide) uV h,F.kp,b,m⟩
theorem z7 (T:Tops K mg w C Cd Cm Cr):Fn P w K mg base "tell_known" 8 ["line","told"] (bK C Cd 13):=by
 obtain ⟨f,fd,F,b,m⟩:=T.a13
 exact ⟨f,fd,((Bp T.env F).mono (by decide)).imp fun vs H Q E h=>cg (ks0:=["c"]) (mk:=vG) rfl (by decide) uO h,F.kp,b,m⟩
theorem zp (T:Tops K mg w C Cd Cm Cr):Fn P w K mg base "tell_stable" 8 ["line","told"] (bK C Cd 14):=by
 obtain ⟨f,fd,F,b,m⟩:=T.a14
 exact ⟨f,fd,((B8 T.env F).mono (by decide)).imp fun vs H Q E h=>cg (ks0:=["c"]) (mk:=uJ) rfl (by decide) vF h,F.kp,b,m⟩
theorem An (T:Tops K mg w C Cd Cm Cr):Fn P w K mg base "tell_signs" 8 ["line","told"] (bK C Cd 15):=by
 obtain ⟨f,fd,F,b,m⟩:=T.a15
 exact ⟨f,fd,((Ba T.env F).mono (by decide)).imp fun vs H Q E h=>cg (ks0:=["c"]) (mk:=vx) rfl (by decide) wS h,F.kp,b,m⟩
theorem Aj (T:Tops K mg w C Cd Cm Cr):Fn P w K mg base "show_signed" 8 ["line","told"] (bK C Cd 16):=by
 obtain ⟨f,fd,F,b,m⟩:=T.a16
 exact ⟨f,fd,((Cf T.env F).mono (by decide)).imp fun vs H Q E h=>cg (ks0:=["c","m","k"]) (mk:=wN) rfl (by decide) wz h,F.kp,b,m⟩
theorem At (T:Tops K mg w C Cd Cm Cr):Fn P w K mg base "show_at" 8 ["line","told"] (bK C Cd 17):=by
 obtain ⟨f,fd,F,b,m⟩:=T.a17
 exact ⟨f,fd,(CJ T.env F).mono (by decide),F.kp,b,m⟩
theorem AE (T:Tops K mg w C Cd Cm Cr):Fn P w K mg base "tell_mark" 8 ["line","told"] (bK C Cd 18):=by
 obtain ⟨f,fd,F,b,m⟩:=T.a18
 exact ⟨f,fd,((CF T.env F).mono (by decide)).imp fun vs H Q E h=>cg (ks0:=["c","m","k"]) (mk:=uF) rfl (by decide) uK h,F.kp,b,m⟩
theorem zL (T:Tops K mg w C Cd Cm Cr):Fn P w K mg base "tell_overlaps" 8 ["line","told"] (bK C Cd 19):=by
 obtain ⟨f,fd,F,b,m⟩:=T.a19
 exact ⟨f,fd,((Ct T.env F).mono (by decide)).imp fun vs H Q E h=>cg (ks0:=["c"]) (mk:=wW) rfl (by decide) uM h,F.kp,b,m⟩
theorem AD (T:Tops K mg w C Cd Cm Cr):Fn P w K mg base "tell_doing" 8 ["line","told"] (bK C Cd 20):=by
 obtain ⟨f,fd,F,b,m⟩:=T.a20
 exact ⟨f,fd,((C9 T.env F).mono (by decide)).imp fun vs H Q E h=>cg (ks0:=["c","m","k"]) (mk:=wH) rfl (by decide) uD h,F.kp,b,m⟩
theorem AY (T:Tops K mg w C Cd Cm Cr):Fn P w K mg base "tell_differ" 8 ["line","told"] (bK C Cd 21):=by
 obtain ⟨f,fd,F,b,m⟩:=T.a21
 exact ⟨f,fd,((CA T.env F).mono (by decide)).imp fun vs H Q E h=>cg (ks0:=["c","g"]) (mk:=uC) rfl (by decide) uL h,F.kp,b,m⟩
theorem AK (T:Tops K mg w C Cd Cm Cr):Fn P w K mg base "tell_bag" 8 ["line","told"] (bK C Cd 22):=by
 obtain ⟨f,fd,F,b,m⟩:=T.a22
 exact ⟨f,fd,((BO T.env F).mono (by decide)).imp fun vs H Q E h=>cg (ks0:=[]) (mk:=uQ) rfl (by decide) xa h,F.kp,b,m⟩
theorem zm (T:Tops K mg w C Cd Cm Cr):Fn P w K mg base "tell_counts" 8 ["line","told"] (bK C Cd 23):=by
 obtain ⟨f,fd,F,b,m⟩:=T.a23
 exact ⟨f,fd,((Br T.env F).mono (by decide)).imp fun vs H Q E h=>cg (ks0:=[]) (mk:=wU) rfl (by decide) u6 h,F.kp,b,m⟩
theorem bQ {kvs:List (Key×V)} {lo q:Nat} {y:Str} {names:List Str} {sp:Sp} (hT:∀ (q:Nat) (y:Str),names[q]?=some y->∃ f:Addr,cx kvs (Sum.inl ((lo+q:Nat):Int))=some (.ref f)/\mg y=some (.ref f)) (hy:names[q]?=some y)
  (h:Fn P w K mg base y 8 ["line","told"] sp):∃ (f:Addr) (fd:FuncData),cx kvs (Sum.inl ((lo+q:Nat):Int))=some (.ref f)/\az P w K mg base CX0 8 f fd ["line","told"] sp/\PySem.W.keepIn K (.ref f)=true/\aG K fd ["line","told"] []:=by
 obtain ⟨f,h1,h2⟩:=hT q y hy
 obtain ⟨f',fd,G,k,b,m⟩:=h
 rw [h2] at m
 cases m
 exact ⟨f,fd,h1,G,k,b⟩
theorem vt (T:Tops K mg w C Cd Cm Cr):rP P w K mg base C Cd "ACTS" 0 11:=by
 obtain ⟨aT,kvs,m,D,hT⟩:=T.acts
 refine ⟨aT,kvs,m,D,fun q h1 h2=>?_⟩
 have hc:q=0\/q=1\/q=2\/q=3\/q=4\/q=5\/q=6\/q=7\/q=8\/q=9\/q=10\/q=11:=by omega
 rcases hc with rfl | rfl | rfl | rfl | rfl | rfl | rfl | rfl | rfl | rfl | rfl | rfl
 ·exact bQ (q:=0) (lo:=0) hT rfl (A4 T)
 ·exact bQ (q:=1) (lo:=0) hT rfl (De T)
 ·exact bQ (q:=2) (lo:=0) hT rfl (Dh T)
 ·exact bQ (q:=3) (lo:=0) hT rfl (Cy T)
 ·exact bQ (q:=4) (lo:=0) hT rfl (Ck T)
 ·exact bQ (q:=5) (lo:=0) hT rfl (Bw T)
 ·exact bQ (q:=6) (lo:=0) hT rfl (CM T)
 ·exact bQ (q:=7) (lo:=0) hT rfl (Cv T)
 ·exact bQ (q:=8) (lo:=0) hT rfl (C2 T)
 ·exact bQ (q:=9) (lo:=0) hT rfl (BG T)
 ·exact bQ (q:=10) (lo:=0) hT rfl (zD T)
 ·exact bQ (q:=11) (lo:=0) hT rfl (zo T)
theorem vd (T:Tops K mg w C Cd Cm Cr):rP P w K mg base C Cd "ASKS" 12 23:=by
 obtain ⟨aT,kvs,m,D,hT⟩:=T.asks
 refine ⟨aT,kvs,m,D,fun q h1 h2=>?_⟩
 have hc:q=12\/q=13\/q=14\/q=15\/q=16\/q=17\/q=18\/q=19\/q=20\/q=21\/q=22\/q=23:=by omega
 rcases hc with rfl | rfl | rfl | rfl | rfl | rfl | rfl | rfl | rfl | rfl | rfl | rfl
 ·exact bQ (q:=0) (lo:=12) hT rfl (Aq T)
 ·exact bQ (q:=1) (lo:=12) hT rfl (z7 T)
 ·exact bQ (q:=2) (lo:=12) hT rfl (zp T)
 ·exact bQ (q:=3) (lo:=12) hT rfl (An T)
 ·exact bQ (q:=4) (lo:=12) hT rfl (Aj T)
 ·exact bQ (q:=5) (lo:=12) hT rfl (At T)
 ·exact bQ (q:=6) (lo:=12) hT rfl (AE T)
 ·exact bQ (q:=7) (lo:=12) hT rfl (zL T)
 ·exact bQ (q:=8) (lo:=12) hT rfl (AD T)
 ·exact bQ (q:=9) (lo:=12) hT rfl (AY T)
 ·exact bQ (q:=10) (lo:=12) hT rfl (AK T)
 ·exact bQ (q:=11) (lo:=12) hT rfl (zm T)
theorem zG {f:Addr} {fd:FuncData} (T:Tops K mg w C Cd Cm Cr) (F:Fun K "answers" "answers" cX f fd):az P w K mg base CX0 11 f fd ["calls"] (spAll' K):=by
 obtain ⟨fl,dl,Fl,bl,Ml,ml⟩:=T.li
 obtain ⟨fb,db,Fb,bb,mb⟩:=T.beg
 obtain ⟨fi,di,Fi,bi,Mi,mi⟩:=T.ri
 obtain ⟨fe,de,Fe,be,me⟩:=T.ae
 obtain ⟨fn,dn,Fn',bn,mn⟩:=T.tn
 obtain ⟨fr,dr,Fr,br,mr⟩:=T.tr
 obtain ⟨ft,dt,Ft,bt,mt⟩:=T.tt
 obtain ⟨fa,da,Fa,ba,ma⟩:=T.ans
 obtain ⟨fF,dF,FF,bF,mF⟩:=T.af
 obtain ⟨fc,dc,Fc,bc,mc⟩:=T.act
 obtain ⟨fq,dq,Fq,bq,mq⟩:=T.ask
 obtain ⟨fx,dx,Fx,bx,mx⟩:=T.fit
 obtain ⟨fk,dk,Fk,bk,mk⟩:=T.kn
 obtain ⟨fm,dm,Fm,bm,mm⟩:=T.lim
 have GF:az P w K mg base CX0 3 fF dF ["line","call","told"] (xY C Cd):=BK FF Fx bx mx Fk bk mk Fm bm mm T.env.T T.env.B T.fixed T.forms
 have GA:=tR (P:=P) (w:=w) (base:=base) (ff:=fF) (fk:=fF) (fl:=fF) (fdf:=dF) (fdk:=dF) (fdl:=dF) Fa FF bF mF GF Fc bc mc (xA (vt T) Fc) Fq bq mq (yx (vd T) Fq) T.env.T T.env.W T.w2
 exact qv F (CV Fl Fb bb mb T.env.T T.env.B) Ml ml bl (A6 Fi T.rc) Mi mi bi (Be Fe T.rc T.env.B) me be (wn Fn' T.rc) mn bn (CC Ft Fr br mr Fn' bn mn T.rc T.env.B T.forms) mt bt Fa GA ma ba T.rc T.env.B
end
def Bd (x qual:Str) (st:Stmt) (ps:List Str):Prop:=∀ (kV doc pm:Value) (an:Option Addr) (cdv ct:Value) (us:List Value),us.length=ps.length->bindArgs (PySem.W.fnOf x qual (cY st) (cS st) (al st) .none kV doc pm an cdv ct) ⟨us,[]⟩=pure (ps.zip us)
section
variable {K:PySem.W.Frag} {h:Heap} {mg:Str->Option Value}
theorem has_mk {x:Str} {i:Nat} {ps:List Str} {f:Addr} {oc:Value} {od an:Option Addr} {osl:Array (Option Value)} {kV doc pm cdv ct:Value} (B:Bd x x (top i) ps) (X:K.In h) (G:h.Ns mainGlobals mg)
  (a:PySem.W.nsIn K mainGlobals x=some (some (.ref f))) (l:K.lookup f=some ⟨oc,od,.func (PySem.W.fnOf x x (cY (top i)) (cS (top i)) (al (top i)) .none kV doc pm an cdv ct),osl⟩)
  (c:PySem.W.codeIn K cdv x=true) (k:PySem.W.keepIn K (.ref f)=true):Has K mg x i ps:=
 ⟨f,_,iG l c k,(iG (st:=top i) l c k).binds B,PySem.W.mg_of X G a⟩
theorem xS {Cx:Addr} {x qual:Str} {i j:Nat} {ps:List Str} {f:Addr} {oc:Value} {od an:Option Addr} {osl:Array (Option Value)} {kV doc pm cdv ct:Value} (B:Bd x qual (aS (top i) j) ps)
  (a:PySem.W.findIn K (.ref Cx) x=some (some (.ref f))) (n:PySem.W.isFn K (.ref f)=true) (l:K.lookup f=some ⟨oc,od,.func (PySem.W.fnOf x qual (cY (aS (top i) j)) (cS (aS (top i) j)) (al (aS (top i) j)) .none kV doc pm an cdv ct),osl⟩)
  (c:PySem.W.codeIn K cdv qual=true) (k:PySem.W.keepIn K (.ref f)=true):qj K Cx x qual i j ps:=
 ⟨f,_,iG l c k,(iG (st:=aS (top i) j) l c k).binds B,⟨a,n,k⟩⟩
theorem hasC_mk {Cx:Addr} {x qual:Str} {i:Nat} {ps:List Str} {f:Addr} {oc:Value} {od an:Option Addr} {osl:Array (Option Value)} {kV doc pm cdv ct:Value} (B:Bd "__init__" qual (aS (top i) 0) ps) (X:K.In h) (G:h.Ns mainGlobals mg)
  (aC:PySem.W.nsIn K mainGlobals x=some (some (.ref Cx))) (a:PySem.W.findIn K (.ref Cx) "__init__" = some (some (.ref f))) (n:PySem.W.isFn K (.ref f)=true)
  (l:K.lookup f=some ⟨oc,od,.func (PySem.W.fnOf "__init__" qual (cY (aS (top i) 0)) (cS (aS (top i) 0)) (al (aS (top i) 0)) .none kV doc pm an cdv ct),osl⟩)
  (c:PySem.W.codeIn K cdv qual=true) (k:PySem.W.keepIn K (.ref f)=true) (mk:PySem.W.makesIn K Cx=true) (kc:PySem.W.keepIn K (.ref Cx)=true):ut K mg Cx x qual i ps:=
 ⟨f,_,iG l c k,(iG (st:=aS (top i) 0) l c k).binds B,⟨mk,a,n,kc⟩,PySem.W.mg_of X G aC⟩
theorem int_mk {x:Str} {i:Int} {t:Tok} (X:K.In h) (G:h.Ns mainGlobals mg) (a:PySem.W.nsIn K mainGlobals x=some (some (.int i t))):∃ t,mg x=some (.int i t):=⟨t,PySem.W.mg_of X G a⟩
end
def gV:Nat->List DictEntry->List Addr->Bool
 | _,[],[]=>true
 | lo,e::es,f::fs=>(decide (e.hash=hashInt (lo:Int)) && fJ (.inl (lo:Int)) e.key) && ((match e.val with | .ref a=>decide (a=f) | _=>false) && gV (lo+1) es fs)
 | _,_,_=>false
def iU:Nat->List Addr->List (Key×V)
 | _,[]=>[]
 | lo,f::fs=>(.inl (lo:Int),.ref f)::iU (lo+1) fs
theorem iF {w:World}:∀ {lo:Nat} {es:List DictEntry} {fs:List Addr},gV lo es fs=true->Paired (fun (e:DictEntry) (kv:Key×V)=>fJ kv.1 e.key=true/\e.hash=qD w kv.1/\aW kv.2 e.val) es (iU lo fs)
 | lo,[],[],_=> .nil
 | lo,[],_::_,h=>by cases h
 | lo,_::_,[],h=>by cases h
 | lo,e::es,f::fs,h=>by
  have h:((decide (e.hash=hashInt (lo:Int)) && fJ (.inl (lo:Int)) e.key) && ((match e.val with | .ref a=>decide (a=f) | _=>false) && gV (lo+1) es fs))=true:=h
  rw [Bool.and_eq_true,Bool.and_eq_true,Bool.and_eq_true] at h
  obtain ⟨⟨h1,h2⟩,h3,h4⟩:=h
  refine .cons ⟨h2,of_decide_eq_true h1,?_⟩ (iF h4)
  show e.val=Value.ref f
  cases ev:e.val with
  | ref a=>
   rw [ev] at h3
   rw [of_decide_eq_true h3]
  | _=>rw [ev] at h3;cases h3
theorem og:∀ {lo:Nat} {fs:List Addr} {q:Nat} {f:Addr},fs[q]?=some f->cx (iU lo fs) (Sum.inl ((lo+q:Nat):Int))=some (.ref f)
 | lo,[],q,f,h=>by simp at h
 | lo,g::fs,0,f,h=>by
  have e:g=f:=Option.some.inj h
  subst e
  exact cv (p:=(Sum.inl (lo:Int),V.ref g)) rfl
 | lo,g::fs,q+1,f,h=>by
  have ih:=og (lo:=lo+1) (fs:=fs) (q:=q) (f:=f) h
  rw [show lo+(q+1)=lo+1+q by omega]
  exact (cr (p:=(Sum.inl (lo:Int),V.ref g)) (by intro z;injection z with z;omega)).trans ih
def ku (K:PySem.W.Frag):List Str->List Addr->Prop:=Paired fun y f=>PySem.W.nsIn K mainGlobals y=some (some (.ref f))
theorem ku.get {K:PySem.W.Frag}:∀ {names:List Str} {fs:List Addr} {q:Nat} {y:Str},ku K names fs->names[q]?=some y->∃ f,fs[q]?=some f/\PySem.W.nsIn K mainGlobals y=some (some (.ref f))
 | _,_,_,_,.nil,e=>by simp at e
 | _,_,0,_,.cons h t,e=>by
  simp at e
  subst e
  exact ⟨_,rfl,h⟩
 | _,_,q+1,y,.cons h t,e=>by
  obtain ⟨f,h1,h2⟩:=ku.get (q:=q) (y:=y) t (by simpa using e)
  exact ⟨f,by simpa using h1,h2⟩
section
variable {K:PySem.W.Frag} {h:Heap} {mg:Str->Option Value} {w:World}
theorem tabIs_mk {x:Str} {lo:Nat} {names:List Str} {fs:List Addr} {aT:Addr} {es:Array DictEntry} {n:Nat} (X:K.In h) (G:h.Ns mainGlobals mg) (a:PySem.W.nsIn K mainGlobals x=some (some (.ref aT))) (l:K.lookup aT=some ⟨.type "dict",none,.dict es n,#[]⟩)
  (s:(aT == sysModules)=false) (P:ku K names fs) (chk:gV lo es.toList fs=true):TabIs K w mg x lo names:=by
 refine ⟨aT,iU lo fs,PySem.W.mg_of X G a,⟨es,n,l,s,iF chk⟩,fun q y hy=>?_⟩
 obtain ⟨f,h1,h2⟩:=P.get hy
 exact ⟨f,og h1,PySem.W.mg_of X G h2⟩
def ie:List Value->List Str->Bool
 | [],[]=>true
 | .str x _::us,y::ys=>decide (x=y) && ie us ys
 | _,_=>false
theorem nu:∀ {us:List Value} {ys:List Str},ie us ys=true->aI (ys.map V.str) us
 | [],[],_=> .nil
 | .str x t::us,y::ys,h=>by
  have h:(decide (x=y) && ie us ys)=true:=h
  rw [Bool.and_eq_true] at h
  exact .cons ⟨t,by rw [of_decide_eq_true h.1]⟩ (nu h.2)
def kG (K:PySem.W.Frag):List Addr->List (List Str)->Prop
 | [],[]=>True
 | a::fs,ks::r=>(∃ (its:Array Value) (n:Nat) (d:Option Addr) (sl:Array (Option Value)),K.lookup a=some ⟨.type "tuple",d,.seq its n,sl⟩/\ie its.toList ks=true)/\kG K fs r
 | _,_=>False
theorem oZ:∀ {us:List Value} {ys:List Str},ie us ys=true->us.length=ys.length
 | [],[],_=>rfl
 | .str x t::us,y::ys,h=>by
  have h:(decide (x=y) && ie us ys)=true:=h
  rw [Bool.and_eq_true] at h
  rw [List.length_cons,List.length_cons,oZ h.2]
theorem kG.get:∀ {fs:List Addr} {ks:List (List Str)} {q:Nat} {k:List Str},kG K fs ks->ks[q]?=some k->k.length<=5->∃ a,fs[q]?=some a/\∀ H,SqT K H a (k.map V.str)
 | [],[],q,k,_,e,_=>by simp at e
 | a::fs,ks::r,0,k,h,e,h5=>by
  have ek:ks=k:=Option.some.inj e
  subst ek
  obtain ⟨⟨its,n,d,sl,h1,h2⟩,_⟩:=h
  refine ⟨a,rfl,fun H=> .inr ⟨_,its,n,h1,rfl,rfl,?_,nu h2⟩⟩
  have:=oZ h2
  rw [<- Array.length_toList,this]
  exact Nat.le_trans h5 (by decide)
 | a::fs,ks::r,q+1,k,h,e,h5=>by
  obtain ⟨b,h1,h2⟩:=kG.get (q:=q) (k:=k) h.2 (by simpa using e) h5
  exact ⟨b,by simpa using h1,h2⟩
 | [],_::_,_,_,h,_,_=>h.elim
 | _::_,[],_,_,h,_,_=>h.elim
structure vC (K:PySem.W.Frag) (mg:Str->Option Value) (x:Str) (aT:Addr) (es:Array DictEntry) (n:Nat):Prop where
 mg:mg x=some (.ref aT)
 at_:K.lookup aT=some ⟨.type "dict",none,.dict es n,#[]⟩
theorem dict_mk {x:Str} {aT:Addr} {es:Array DictEntry} {n:Nat} (X:K.In h) (G:h.Ns mainGlobals mg) (a:PySem.W.nsIn K mainGlobals x=some (some (.ref aT))) (l:K.lookup aT=some ⟨.type "dict",none,.dict es n,#[]⟩):vC K mg x aT es n:=⟨PySem.W.mg_of X G a,l⟩
def nI:List DictEntry->List Addr
 | []=>[]
 | e::es=>(match e.val with | .ref a=>a | _=>0)::nI es
theorem forms_mk {aT:Addr} {es:Array DictEntry} {n:Nat} (D:vC K mg "FORMS" aT es n) (s:(aT == sysModules)=false) (chk:gV 0 es.toList (nI es.toList)=true) (T:kG K (nI es.toList) forms):FormsOk K w mg:=by
 refine ⟨aT,iU 0 (nI es.toList),D.mg,⟨es,n,D.at_,s,iF chk⟩,fun p ks hp=>?_⟩
 obtain ⟨a,h1,h2⟩:=T.get hp (lZ hp)
 refine ⟨a,?_,h2⟩
 have:=og (lo:=0) h1
 rw [Nat.zero_add] at this
 exact this
theorem nR {x:Str} {v:V} {r:List (Key×V)}:cx (((Sum.inr x:Key),v)::r) (Sum.inr x)=some v:=cv (p:=((Sum.inr x:Key),v)) rfl
theorem fS {x k:Str} {v:V} {r:List (Key×V)} (hk:¬ k=x):cx (((Sum.inr x:Key),v)::r) (Sum.inr k)=cx r (Sum.inr k):=cr (p:=((Sum.inr x:Key),v)) (by intro q;injection q with q;exact hk q.symm)
theorem two_ints {a:Addr} {i j:Int} {u v:Tok} {n:Nat} {d:Option Addr} {sl:Array (Option Value)} (l:K.lookup a=some ⟨.type "tuple",d,.seq #[.int i u,.int j v] n,sl⟩):∀ H,SqT K H a [.int i,.int j]:=fun H=>
 .inr ⟨_,_,n,l,rfl,rfl,(by show 2<=sizeLine;decide),.cons ⟨u,rfl⟩ (.cons ⟨v,rfl⟩ .nil)⟩
theorem fixed_mk {aF a0 a1 a2 a3:Addr} {t0 t1 t2 t3:Tok} {n:Nat} (X:K.In h) (G:h.Ns mainGlobals mg) (a:PySem.W.nsIn K mainGlobals "FIXED" = some (some (.ref aF)))
  (l:K.lookup aF=some ⟨.type "dict",none,.dict #[⟨PyData.keyHash w.params "n",.str "n" t0,.ref a0⟩,⟨PyData.keyHash w.params "length",.str "length" t1,.ref a1⟩,⟨PyData.keyHash w.params "k",.str "k" t2,.ref a2⟩,⟨PyData.keyHash w.params "x",.str "x" t3,.ref a3⟩] n,#[]⟩)
  (s:(aF == sysModules)=false) (h0:∀ H,SqT K H a0 [.int 1,.int 5]) (h1:∀ H,SqT K H a1 [.int 1,.int 1000]) (h2:∀ H,SqT K H a2 [.int 0,.int 120]) (h3:∀ H,SqT K H a3 [.int 0,.int 9]):FixedOk K w mg:=by
 have one:∀ (x:Str) (t:Tok) (b:Addr) (H:Int),H=hashStr w x->fJ (Sum.inr x) (Value.str x t)=true/\H=qD w (Sum.inr x)/\aW (V.ref b) (Value.ref b):=fun x t b H e=>⟨by show Value.isStrOf x (Value.str x t)=true;unfold Value.isStrOf;simp,e,rfl⟩
 refine ⟨aF,[(Sum.inr "n",.ref a0),(Sum.inr "length",.ref a1),(Sum.inr "k",.ref a2),(Sum.inr "x",.ref a3)],PySem.W.mg_of X G a,⟨_,n,l,s,.cons (one _ _ _ _ rfl) (.cons (one _ _ _ _ rfl) (.cons (one _ _ _ _ rfl) (.cons (one _ _ _ _ rfl) .nil)))⟩,fun k e hk=>?_,fun k hk=>?_⟩
 ·unfold ii at hk
  split at hk
  ·rename_i z;subst z;cases hk;exact ⟨a0,nR,h0⟩
  ·rename_i z0
   split at hk
   ·rename_i z;subst z;cases hk;exact ⟨a1,(fS z0).trans nR,h1⟩
   ·rename_i z1
    split at hk
    ·rename_i z;subst z;cases hk;exact ⟨a2,(fS z0).trans ((fS z1).trans nR),h2⟩
    ·rename_i z2
     split at hk
     ·rename_i z;subst z;cases hk;exact ⟨a3,(fS z0).trans ((fS z1).trans ((fS z2).trans nR)),h3⟩
     ·cases hk
 ·unfold ii at hk
  split at hk
  ·cases hk
  ·rename_i z0
   split at hk
   ·cases hk
   ·rename_i z1
    split at hk
    ·cases hk
    ·rename_i z2
     split at hk
     ·cases hk
     ·rename_i z3
      exact (fS z0).trans ((fS z1).trans ((fS z2).trans ((fS z3).trans rfl)))
theorem hasM_of {Cx:Addr} {y qual':Str} {i':Nat} {ps':List Str} {x qual:Str} {i j:Nat} {ps:List Str} {f:Addr} {oc:Value} {od an:Option Addr} {osl:Array (Option Value)} {kV doc pm cdv ct:Value} (B:Bd x qual (aS (top i) j) ps) (_C:ut K mg Cx y qual' i' ps')
  (a:PySem.W.findIn K (.ref Cx) x=some (some (.ref f))) (n:PySem.W.isFn K (.ref f)=true) (l:K.lookup f=some ⟨oc,od,.func (PySem.W.fnOf x qual (cY (aS (top i) j)) (cS (aS (top i) j)) (al (aS (top i) j)) .none kV doc pm an cdv ct),osl⟩)
  (c:PySem.W.codeIn K cdv qual=true) (k:PySem.W.keepIn K (.ref f)=true):qj K Cx x qual i j ps:=xS B a n l c k
theorem cls_of {Cx:Addr} {y qual':Str} {i':Nat} {ps':List Str} (_C:ut K mg Cx y qual' i' ps') (pg:PySem.W.plainGet K Cx Str.empty=true) (hd:PySem.W.hasDictIn K Cx=true) (po:PySem.W.plainOver K Cx=true) (sa:PySem.W.findIn K (.ref Cx) "__setattr__" = some (some (.builtin "object.__setattr__"))):Cls K Cx:=⟨pg,hd,po,sa⟩
theorem lcls_of {Cx:Addr} (c:Cls K Cx) (n1:PySem.W.findIn K (.ref Cx) "hands" = some none) (n2:PySem.W.findIn K (.ref Cx) "length" = some none) (n3:PySem.W.findIn K (.ref Cx) "doings" = some none) (n4:PySem.W.findIn K (.ref Cx) "known" = some none) (n5:PySem.W.findIn K (.ref Cx) "waiting" = some none) (n6:PySem.W.findIn K (.ref Cx) "bag" = some none):cR K Cx:=⟨c,n1,n2,n3,n4,n5,n6⟩
theorem dcls_of {Cx:Addr} (c:Cls K Cx) (n1:PySem.W.findIn K (.ref Cx) "hand" = some none) (n2:PySem.W.findIn K (.ref Cx) "number" = some none) (n3:PySem.W.findIn K (.ref Cx) "kind" = some none) (n4:PySem.W.findIn K (.ref Cx) "told" = some none) (n5:PySem.W.findIn K (.ref Cx) "bears" = some none) (n6:PySem.W.findIn K (.ref Cx) "time" = some none):dC K Cx:=⟨c,n1,n2,n3,n4,n5,n6⟩
theorem mcls_of {Cx:Addr} (c:Cls K Cx) (n1:PySem.W.findIn K (.ref Cx) "name" = some none) (n2:PySem.W.findIn K (.ref Cx) "stretcher" = some none) (n3:PySem.W.findIn K (.ref Cx) "labeller" = some none):qZ K Cx:=⟨c,n1,n2,n3⟩
theorem rcls_of {Cx:Addr} (c:Cls K Cx) (n1:PySem.W.findIn K (.ref Cx) "numbers" = some none) (n2:PySem.W.findIn K (.ref Cx) "place" = some none):oU K Cx:=⟨c,n1,n2⟩
theorem none_mk {x:Str} (X:K.In h) (G:h.Ns mainGlobals mg) (a:PySem.W.nsIn K mainGlobals x=some none):mg x=none:=PySem.W.mg_none_of X G a
end
def zy:List Str->(List Value->Prop)->Prop
 | [],P=>P []
 | _::l,P=>∀ a,zy l fun us=>P (a::us)
theorem Bh:∀ {ps:List Str} {P:List Value->Prop},zy ps P->∀ us:List Value,us.length=ps.length->P us
 | [],_,h,[],_=>h
 | _::_,_,h,a::us,e=>Bh (h a) us (Nat.succ.inj e)
theorem bdN {x qual:Str} {st:Stmt} {ps:List Str} (h:∀ (kV doc pm:Value) (an:Option Addr) (cdv ct:Value),zy ps fun us=>bindArgs (PySem.W.fnOf x qual (cY st) (cS st) (al st) .none kV doc pm an cdv ct) ⟨us,[]⟩=pure (ps.zip us)):Bd x qual st ps:=fun a b c d e f=>Bh (h a b c d e f)
theorem bd_lateness:Bd "lateness" "lateness" (top 9) ["doing"]:=bdN fun _ _ _ _ _ _ _=>by show _=_;kernel_rfl
theorem bd_with_itself:Bd "with_itself" "with_itself" (top 10) ["doing"]:=bdN fun _ _ _ _ _ _ _=>by show _=_;kernel_rfl
theorem bd_taken_back:Bd "taken_back" "taken_back" (top 11) ["own","many"]:=bdN fun _ _ _ _ _ _ _ _=>by show _=_;kernel_rfl
theorem bd_counting:Bd "counting" "counting" (top 12) ["doings","knowledge"]:=bdN fun _ _ _ _ _ _ _ _=>by show _=_;kernel_rfl
theorem bd_doings_in_all:Bd "doings_in_all" "doings_in_all" (top 15) ["line"]:=bdN fun _ _ _ _ _ _ _=>by show _=_;kernel_rfl
theorem bd_time_behind:Bd "time_behind" "time_behind" (top 16) ["line","bears"]:=bdN fun _ _ _ _ _ _ _ _=>by show _=_;kernel_rfl
theorem bd_do:Bd "do" "do" (top 17) ["line","hand","kind","told"]:=bdN fun _ _ _ _ _ _ _ _ _ _=>by show _=_;kernel_rfl
theorem bd_is_within:Bd "is_within" "is_within" (top 18) ["part","knowledge"]:=bdN fun _ _ _ _ _ _ _ _=>by show _=_;kernel_rfl
theorem bd_knows:Bd "knows" "knows" (top 19) ["line","hand","name"]:=bdN fun _ _ _ _ _ _ _ _ _=>by show _=_;kernel_rfl
theorem bd_known_doing:Bd "known_doing" "known_doing" (top 20) ["line","hand","name"]:=bdN fun _ _ _ _ _ _ _ _ _=>by show _=_;kernel_rfl
theorem bd_known_signs:Bd "known_signs" "known_signs" (top 21) ["line","hand"]:=bdN fun _ _ _ _ _ _ _ _=>by show _=_;kernel_rfl
theorem bd_surely_known:Bd "surely_known" "surely_known" (top 22) ["line","hand","knowledge"]:=bdN fun _ _ _ _ _ _ _ _ _=>by show _=_;kernel_rfl
theorem bd_all_surely_know:Bd "all_surely_know" "all_surely_know" (top 23) ["line","hand"]:=bdN fun _ _ _ _ _ _ _ _=>by show _=_;kernel_rfl
theorem bd_is_closed:Bd "is_closed" "is_closed" (top 24) ["line","knowledge"]:=bdN fun _ _ _ _ _ _ _ _=>by show _=_;kernel_rfl
theorem bd_lacks:Bd "lacks" "lacks" (top 25) ["line","hand","other"]:=bdN fun _ _ _ _ _ _ _ _ _=>by show _=_;kernel_rfl
theorem bd_is_ready:Bd "is_ready" "is_ready" (top 26) ["line","hand","name"]:=bdN fun _ _ _ _ _ _ _ _ _=>by show _=_;kernel_rfl
theorem bd_first_ready:Bd "first_ready" "first_ready" (top 27) ["line","hand"]:=bdN fun _ _ _ _ _ _ _ _=>by show _=_;kernel_rfl
theorem bd_take_ready:Bd "take_ready" "take_ready" (top 28) ["line","hand"]:=bdN fun _ _ _ _ _ _ _ _=>by show _=_;kernel_rfl
theorem bd_bring:Bd "bring" "bring" (top 29) ["line","hand","name"]:=bdN fun _ _ _ _ _ _ _ _ _=>by show _=_;kernel_rfl
theorem bd_find_marks:Bd "find_marks" "find_marks" (top 38) ["doings","knowledge"]:=bdN fun _ _ _ _ _ _ _ _=>by show _=_;kernel_rfl
theorem bd_find_mark:Bd "find_mark" "find_mark" (top 39) ["doings","knowledge","name"]:=bdN fun _ _ _ _ _ _ _ _ _=>by show _=_;kernel_rfl
theorem bd_stretch_and_label:Bd "stretch_and_label" "stretch_and_label" (top 40) ["mark"]:=bdN fun _ _ _ _ _ _ _=>by show _=_;kernel_rfl
theorem bd_view_order:Bd "view_order" "view_order" (top 41) ["shown"]:=bdN fun _ _ _ _ _ _ _=>by show _=_;kernel_rfl
theorem bd_view:Bd "view" "view" (top 42) ["doings","knowledge"]:=bdN fun _ _ _ _ _ _ _ _=>by show _=_;kernel_rfl
theorem bd_overlap:Bd "overlap" "overlap" (top 43) ["one","other"]:=bdN fun _ _ _ _ _ _ _ _=>by show _=_;kernel_rfl
theorem bd_overlapping_pairs:Bd "overlapping_pairs" "overlapping_pairs" (top 44) ["shown"]:=bdN fun _ _ _ _ _ _ _=>by show _=_;kernel_rfl
theorem bd_begin_hands:Bd "begin_hands" "begin_hands" (top 48) ["line","told"]:=bdN fun _ _ _ _ _ _ _ _=>by show _=_;kernel_rfl
theorem bd_do_if_room:Bd "do_if_room" "do_if_room" (top 49) ["line","hand","kind","told"]:=bdN fun _ _ _ _ _ _ _ _ _ _=>by show _=_;kernel_rfl
theorem bd_do_to_mark:Bd "do_to_mark" "do_to_mark" (top 50) ["line","kind","told"]:=bdN fun _ _ _ _ _ _ _ _ _=>by show _=_;kernel_rfl
theorem bd_put_mark:Bd "put_mark" "put_mark" (top 51) ["line","told"]:=bdN fun _ _ _ _ _ _ _ _=>by show _=_;kernel_rfl
theorem bd_move_mark:Bd "move_mark" "move_mark" (top 52) ["line","told"]:=bdN fun _ _ _ _ _ _ _ _=>by show _=_;kernel_rfl
theorem bd_label_mark:Bd "label_mark" "label_mark" (top 53) ["line","told"]:=bdN fun _ _ _ _ _ _ _ _=>by show _=_;kernel_rfl
theorem bd_drop_mark:Bd "drop_mark" "drop_mark" (top 54) ["line","told"]:=bdN fun _ _ _ _ _ _ _ _=>by show _=_;kernel_rfl
theorem bd_take_back:Bd "take_back" "take_back" (top 55) ["line","told"]:=bdN fun _ _ _ _ _ _ _ _=>by show _=_;kernel_rfl
theorem bd_sign:Bd "sign" "sign" (top 56) ["line","told"]:=bdN fun _ _ _ _ _ _ _ _=>by show _=_;kernel_rfl
theorem bd_say_hello:Bd "say_hello" "say_hello" (top 57) ["line","told"]:=bdN fun _ _ _ _ _ _ _ _=>by show _=_;kernel_rfl
theorem bd_has_room:Bd "has_room" "has_room" (top 58) ["line","more"]:=bdN fun _ _ _ _ _ _ _ _=>by show _=_;kernel_rfl
theorem bd_send:Bd "send" "send" (top 59) ["line","told"]:=bdN fun _ _ _ _ _ _ _ _=>by show _=_;kernel_rfl
theorem bd_deliver:Bd "deliver" "deliver" (top 60) ["line","told"]:=bdN fun _ _ _ _ _ _ _ _=>by show _=_;kernel_rfl
theorem bd_lose:Bd "lose" "lose" (top 61) ["line","told"]:=bdN fun _ _ _ _ _ _ _ _=>by show _=_;kernel_rfl
theorem bd_double:Bd "double" "double" (top 62) ["line","told"]:=bdN fun _ _ _ _ _ _ _ _=>by show _=_;kernel_rfl
theorem bd_act:Bd "act" "act" (top 64) ["line","call","told"]:=bdN fun _ _ _ _ _ _ _ _ _=>by show _=_;kernel_rfl
theorem bd_counted:Bd "counted" "counted" (top 66) ["rows"]:=bdN fun _ _ _ _ _ _ _=>by show _=_;kernel_rfl
theorem bd_view_of:Bd "view_of" "view_of" (top 67) ["line","hand"]:=bdN fun _ _ _ _ _ _ _ _=>by show _=_;kernel_rfl
theorem bd_show_view:Bd "show_view" "show_view" (top 68) ["line","told"]:=bdN fun _ _ _ _ _ _ _ _=>by show _=_;kernel_rfl
theorem bd_tell_known:Bd "tell_known" "tell_known" (top 69) ["line","told"]:=bdN fun _ _ _ _ _ _ _ _=>by show _=_;kernel_rfl
theorem bd_tell_stable:Bd "tell_stable" "tell_stable" (top 70) ["line","told"]:=bdN fun _ _ _ _ _ _ _ _=>by show _=_;kernel_rfl
theorem bd_tell_signs:Bd "tell_signs" "tell_signs" (top 71) ["line","told"]:=bdN fun _ _ _ _ _ _ _ _=>by show _=_;kernel_rfl
theorem bd_show_signed:Bd "show_signed" "show_signed" (top 72) ["line","told"]:=bdN fun _ _ _ _ _ _ _ _=>by show _=_;kernel_rfl
theorem bd_show_at:Bd "show_at" "show_at" (top 73) ["line","told"]:=bdN fun _ _ _ _ _ _ _ _=>by show _=_;kernel_rfl
theorem bd_tell_mark:Bd "tell_mark" "tell_mark" (top 74) ["line","told"]:=bdN fun _ _ _ _ _ _ _ _=>by show _=_;kernel_rfl
theorem bd_tell_overlaps:Bd "tell_overlaps" "tell_overlaps" (top 75) ["line","told"]:=bdN fun _ _ _ _ _ _ _ _=>by show _=_;kernel_rfl
theorem bd_tell_doing:Bd "tell_doing" "tell_doing" (top 76) ["line","told"]:=bdN fun _ _ _ _ _ _ _ _=>by show _=_;kernel_rfl
theorem bd_without:Bd "without" "without" (top 77) ["shown","others"]:=bdN fun _ _ _ _ _ _ _ _=>by show _=_;kernel_rfl
theorem bd_tell_differ:Bd "tell_differ" "tell_differ" (top 78) ["line","told"]:=bdN fun _ _ _ _ _ _ _ _=>by show _=_;kernel_rfl
theorem bd_tell_bag:Bd "tell_bag" "tell_bag" (top 79) ["line","told"]:=bdN fun _ _ _ _ _ _ _ _=>by show _=_;kernel_rfl
theorem bd_tell_counts:Bd "tell_counts" "tell_counts" (top 80) ["line","told"]:=bdN fun _ _ _ _ _ _ _ _=>by show _=_;kernel_rfl
theorem bd_ask:Bd "ask" "ask" (top 82) ["line","call","told"]:=bdN fun _ _ _ _ _ _ _ _ _=>by show _=_;kernel_rfl
theorem bd_limits:Bd "limits" "limits" (top 87) ["line","kind","before"]:=bdN fun _ _ _ _ _ _ _ _ _=>by show _=_;kernel_rfl
theorem bd_is_knowledge:Bd "is_knowledge" "is_knowledge" (top 88) ["line","row"]:=bdN fun _ _ _ _ _ _ _ _=>by show _=_;kernel_rfl
theorem bd_fits:Bd "fits" "fits" (top 89) ["line","kind","value","before"]:=bdN fun _ _ _ _ _ _ _ _ _ _=>by show _=_;kernel_rfl
theorem bd_all_fit:Bd "all_fit" "all_fit" (top 90) ["line","call","told"]:=bdN fun _ _ _ _ _ _ _ _ _=>by show _=_;kernel_rfl
theorem bd_answer:Bd "answer" "answer" (top 94) ["line","call","told"]:=bdN fun _ _ _ _ _ _ _ _ _=>by show _=_;kernel_rfl
theorem qO:Bd "answers" "answers" (top 96) ["calls"]:=bdN fun _ _ _ _ _ _ _=>by show _=_;kernel_rfl
theorem bd_Doing_init:Bd "__init__" "Doing.__init__" (aS (top 8) 0) ["self","hand","number","kind","told","bears","time"]:=bdN fun _ _ _ _ _ _ _ _ _ _ _ _ _=>by show _=_;kernel_rfl
theorem bd_Line_init:Bd "__init__" "Line.__init__" (aS (top 14) 0) ["self"]:=bdN fun _ _ _ _ _ _ _=>by show _=_;kernel_rfl
theorem bd_Line_begin:Bd "begin" "Line.begin" (aS (top 14) 1) ["self","hands","length"]:=bdN fun _ _ _ _ _ _ _ _ _=>by show _=_;kernel_rfl
theorem bd_Mark_init:Bd "__init__" "Mark.__init__" (aS (top 37) 0) ["self","name","stretcher","labeller"]:=bdN fun _ _ _ _ _ _ _ _ _ _=>by show _=_;kernel_rfl
theorem bd_Reader_init:Bd "__init__" "Reader.__init__" (aS (top 86) 0) ["self","numbers"]:=bdN fun _ _ _ _ _ _ _ _=>by show _=_;kernel_rfl
theorem bd_Reader_at_end:Bd "at_end" "Reader.at_end" (aS (top 86) 1) ["self"]:=bdN fun _ _ _ _ _ _ _=>by show _=_;kernel_rfl
theorem bd_Reader_take_number:Bd "take_number" "Reader.take_number" (aS (top 86) 2) ["self"]:=bdN fun _ _ _ _ _ _ _=>by show _=_;kernel_rfl
theorem bd_Reader_take_row:Bd "take_row" "Reader.take_row" (aS (top 86) 3) ["self"]:=bdN fun _ _ _ _ _ _ _=>by show _=_;kernel_rfl
theorem bd_Reader_take_told:Bd "take_told" "Reader.take_told" (aS (top 86) 4) ["self","call"]:=bdN fun _ _ _ _ _ _ _ _=>by show _=_;kernel_rfl
theorem asked_calls {l:List Int} (h:PyVbslag.answers_asked l=true):∃ cs,PyFlat.calls PyVbslag.shape l.length l=some cs/\PyVbslag.answers l=eI Vbslag.start cs/\(eI Vbslag.start cs).length<=10000000:=by
 unfold PyVbslag.answers_asked at h
 cases e:PyFlat.calls PyVbslag.shape l.length l with
 | none=>rw [e] at h;cases h
 | some raw=>
  rw [e] at h
  have ea:PyVbslag.answers l=eI Vbslag.start raw:=by
   unfold PyVbslag.answers PyVbslag.calls
   rw [e]
   rfl
  refine ⟨raw,rfl,ea,?_⟩
  have h2:=(Bool.and_eq_true_iff.mp h).2
  rw [ea] at h2
  exact of_decide_eq_true h2
section
variable {P:Program} {K:PySem.W.Frag} {h:Heap} {mg:Str->Option Value} {w:World} {C Cd Cm Cr:Addr}
theorem F_mk {fa f:Addr} {oc:Value} {od an:Option Addr} {osl:Array (Option Value)} {kV doc pm cdv ct:Value} (X:K.In h) (G:h.Ns mainGlobals mg) (hmg:mg "answers" = some (.ref fa)) (T:Tops K mg w C Cd Cm Cr)
  (a:PySem.W.nsIn K mainGlobals "answers" = some (some (.ref f))) (l:K.lookup f=some ⟨oc,od,.func (PySem.W.fnOf "answers" "answers" (cY cX) (cS cX) (al cX) .none kV doc pm an cdv ct),osl⟩)
  (c:PySem.W.codeIn K cdv "answers" = true) (k:PySem.W.keepIn K (.ref f)=true) :
  ∃ fd:FuncData,(∀ (s:Shared) (us:List Value),us.length=(["calls"]:List Str).length->BindsTo s fd ⟨us,[]⟩ ((["calls"]:List Str).zip us))/\∀ base:Heap,K.In base->base.Ns mainGlobals mg->az P w K mg base CX0 11 fa fd ["calls"] (spAll' K):=by
 have e:=hmg.symm.trans (PySem.W.mg_of X G a)
 cases e
 exact ⟨PySem.W.fnOf "answers" "answers" (cY cX) (cS cX) (al cX) .none kV doc pm an cdv ct,fun s us hu=> .of_eq (qO kV doc pm an cdv ct us hu),fun base _ _=>zG T (iG (st:=cX) l c k)⟩
end
end NH
namespace PySem.W.Fast
def tw6992965858956205781:=0
def tw9143296957185018323:=0
def tw5062742596959258885:=0
def tw15866574401672224159:=0
def tw13274972864304555021:=0
def tw7204175643289116284:=0
def tw6745709100302908172:=0
def tw10797339811884384175:=0
def tw11233381936733556346:=0
def tw7477061994654906202:=0
def tw15101171805509719311:=0
def tw17853260156756544183:=0
def tw2620498439996850747:=0
def tw5031409781060941160:=0
def tw15440862897444693452:=0
def tw5176491541149422679:=0
def tw5426188274034527849:=0
def tw14683744932036784522:=0
def tw11874314902303753410:=0
def tw6520019845344728958:=0
def tw2483527637993956937:=0
def tw5918896736327370476:=0
def tw12789320052463442252:=0
def tw13747619950120767723:=0
def tw3709305455080973031:=0
def tw2966604908820060016:=0
def tw8981121586434923616:=0
def tw3202397421100876892:=0
def tw5826215677634037776:=0
def tw520600479093216042:=0
def tw17304146993636135682:=0
def tw5604555033094972120:=0
def tw13740781203898130919:=0
def tw13677833656685711997:=0
def tw8579288632183752145:=0
def tw17391291648565227363:=0
def tw10512492212236134688:=0
def tw8054954159335105275:=0
def tw14067663250535531269:=0
def tw13696603813321992584:=0
def tw10306505834639870544:=0
def tw15457864679895708293:=0
def tw15955604071696536101:=0
def tw14711536104248429699:=0
def tw998127178548048563:=0
def tw713237246325982202:=0
def tw16864162666653700035:=0
def tw5561999408871868091:=0
def tw4132370190682087926:=0
def tw6767075721117751962:=0
def tw12462912842789474987:=0
def tw8790736645552916174:=0
def tw12576087142848820058:=0
def tw18249428294522149486:=0
def tw17590003682349975926:=0
def tw16844347256542616981:=0
def tw839681292774298884:=0
def tw1884387424491890173:=0
def tw16670772676466617785:=0
def tw10861237513042009257:=0
def tw13229782619493259961:=0
def tw8538634196895819739:=0
def tw17920548630820149958:=0
def tw3425568231099382191:=0
def tw318081341833364448:=0
def tw5956387278005064783:=0
def tw2348614991120914137:=0
def tw1638713331962609999:=0
def tw11541473191635617468:=0
def tw16022155124254478550:=0
def tw10411681882177965291:=0
def tw11875977225805802301:=0
def tw17377845487386641054:=0
def tw5036245092974781568:=0
def tw7168258163242740318:=0
def tw2263784340077494435:=0
def tw13977811770718188056:=0
def tw6858733831233946895:=0
def tw17825070787497510152:=0
def tw2819451182423600224:=0
def tw4783501336114430833:=0
def tw4894531267588955208:=0
def tw3364911421531522541:=0
def tw12146321647050929798:=0
def tw15211656495938423238:=0
def tw4499179842204758130:=0
def tw1045981430080899679:=0
def tw10826942857076839507:=0
def tw12407797384815530731:=0
def tw16220072013684736409:=0
def tw11435656152899227668:=0
def tw1693975510497544152:=0
def tw13459709378296187006:=0
def tw1747330349973129829:=0
def tw11878398419701675771:=0
def tw16091241041720837126:=0
def tw10517819788152771642:=0
def tw7625760837918529236:=0
def tw6315981210456438014:=0
def tw37586507542621674:=0
def tw2813964646996687125:=0
def tw1829099186007567722:=0
def tw12093989704986222807:=0
def tw1612510031284523482:=0
def tw2556720584326905833:=0
def tw15369936670705752269:=0
def tw7666883767314064536:=0
def tw16842805037368167907:=0
def tw9088259097688819373:=0
def tw16254840704863536078:=0
def tw13794907778365151405:=0
def tw7822186567882602217:=0
def tw16827303641455420736:=0
def tw3903708946128065574:=0
def tw14735334694925583796:=0
def tw529882061257593787:=0
def tw6766304893483657851:=0
def tw12635854569791397181:=0
def tw8811225133092694644:=0
def tw33438421984699116:=0
def tw1248522116150187580:=0
def tw17753781440103538458:=0
def tw10100679261995524237:=0
def tw126981296710994577:=0
def tw6363523887708590724:=0
def tw5641297886306329427:=0
def tw10651000812874038617:=0
def tw11169477083347492721:=0
def tw5392138681155170505:=0
def tw10325010509395978498:=0
def tw5884097984279033765:=0
def tw5949008238873618248:=0
def tw74462056888817135:=0
def tw11486205795388286392:=0
def tw3840237612106950399:=0
def tw14981232784041515859:=0
def tw7274173861988602990:=0
def tw1319913314277640201:=0
def tw14999342280986859689:=0
def tw17547357299506869624:=0
def tw17931615263483661740:=0
def tw15566233284674236850:=0
def tw17593160833845616639:=0
def tw17890459886966051108:=0
def tw14297616999824590771:=0
def tw8248996231767176292:=0
def tw7522241010318562708:=0
def tw3889959770975232466:=0
def tw15501075769453321375:=0
def tw2454087119481379459:=0
def tw82524465139929777:=0
def tw16256888117430748407:=0
def tw10718859991786861852:=0
def tw8756302094150588757:=0
def tw9618935080487322007:=0
def tw16300113955199129408:=0
def tw9010129433868800008:=0
def tw6186635132731220969:=0
def tw3270154046063620221:=0
def tw3822874686781407691:=0
def tw13183172651191652024:=0
def tw9163522684794816140:=0
def tw17288073253436446182:=0
def tw12723603733864081333:=0
def tw12989403910796128391:=0
def tw9661517195073647147:=0
def tw8852753170403773344:=0
def tw81502561056092890:=0
def tw7508421280180423478:=0
def tw17276125224861428052:=0
def tw12973130139984952148:=0
def tw17444994729236905460:=0
def tw11765002866861939586:=0
def tw3330743612929140627:=0
def tw14736312314576182368:=0
def tw17670410582722801783:=0
def tw18294339881618382925:=0
def tw253562716759327304:=0
def tw35485042474327766:=0
def tw2327354258734542974:=0
end PySem.W.Fast
open PySem PySem.W PyProof.Rows
set_option maxRecDepth 100000 in
set_option maxHeartbeats 0 in
theorem PySem.Challenge.cw_nighthands_s01_answers_holds : PySem.Challenge.rw_nighthands_s01_answers.Holds := by
 w_on;k_headS;(case hw=>exact ⟨[.list [.int 23]],by decide +kernel,by decide +kernel⟩)
 k_fillS
 refine L2.walk_specK (r:=PySem.Challenge.rw_nighthands_s01_answers) (k:=11) (CX:=L2.CX0) (ps:=["calls"]) (sp:=NH.spAll') (by decide +kernel) rfl rfl ⟨rfl,by decide,by decide⟩ (fun w h Y=>PySem.W.kIn_of Y) ?F ?S (fun _ _ _ _ z=>z)
 case F=>
  intro w mg fa h Y KX G hmg
  have f_lateness:=NH.has_mk NH.bd_lateness KX G (by k_is) (by k_is) (by k_is) (by k_is)
  have f_with_itself:=NH.has_mk NH.bd_with_itself KX G (by k_is) (by k_is) (by k_is) (by k_is)
  have f_taken_back:=NH.has_mk NH.bd_taken_back KX G (by k_is) (by k_is) (by k_is) (by k_is)
  have f_counting:=NH.has_mk NH.bd_counting KX G (by k_is) (by k_is) (by k_is) (by k_is)
  have f_doings_in_all:=NH.has_mk NH.bd_doings_in_all KX G (by k_is) (by k_is) (by k_is) (by k_is)
  have f_time_behind:=NH.has_mk NH.bd_time_behind KX G (by k_is) (by k_is) (by k_is) (by k_is)
  have f_do:=NH.has_mk NH.bd_do KX G (by k_is) (by k_is) (by k_is) (by k_is)
  have f_is_within:=NH.has_mk NH.bd_is_within KX G (by k_is) (by k_is) (by k_is) (by k_is)
  have f_knows:=NH.has_mk NH.bd_knows KX G (by k_is) (by k_is) (by k_is) (by k_is)
  have f_known_doing:=NH.has_mk NH.bd_known_doing KX G (by k_is) (by k_is) (by k_is) (by k_is)
  have f_known_signs:=NH.has_mk NH.bd_known_signs KX G (by k_is) (by k_is) (by k_is) (by k_is)
  have f_surely_known:=NH.has_mk NH.bd_surely_known KX G (by k_is) (by k_is) (by k_is) (by k_is)
  have f_all_surely_know:=NH.has_mk NH.bd_all_surely_know KX G (by k_is) (by k_is) (by k_is) (by k_is)
  have f_is_closed:=NH.has_mk NH.bd_is_closed KX G (by k_is) (by k_is) (by k_is) (by k_is)
  have f_lacks:=NH.has_mk NH.bd_lacks KX G (by k_is) (by k_is) (by k_is) (by k_is)
  have f_is_ready:=NH.has_mk NH.bd_is_ready KX G (by k_is) (by k_is) (by k_is) (by k_is)
  have f_first_ready:=NH.has_mk NH.bd_first_ready KX G (by k_is) (by k_is) (by k_is) (by k_is)
  have f_take_ready:=NH.has_mk NH.bd_take_ready KX G (by k_is) (by k_is) (by k_is) (by k_is)
  have f_bring:=NH.has_mk NH.bd_bring KX G (by k_is) (by k_is) (by k_is) (by k_is)
  have f_find_marks:=NH.has_mk NH.bd_find_marks KX G (by k_is) (by k_is) (by k_is) (by k_is)
  have f_find_mark:=NH.has_mk NH.bd_find_mark KX G (by k_is) (by k_is) (by k_is) (by k_is)
  have f_stretch_and_label:=NH.has_mk NH.bd_stretch_and_label KX G (by k_is) (by k_is) (by k_is) (by k_is)
  have f_view_order:=NH.has_mk NH.bd_view_order KX G (by k_is) (by k_is) (by k_is) (by k_is)
  have f_view:=NH.has_mk NH.bd_view KX G (by k_is) (by k_is) (by k_is) (by k_is)
  have f_overlap:=NH.has_mk NH.bd_overlap KX G (by k_is) (by k_is) (by k_is) (by k_is)
  have f_overlapping_pairs:=NH.has_mk NH.bd_overlapping_pairs KX G (by k_is) (by k_is) (by k_is) (by k_is)
  have f_begin_hands:=NH.has_mk NH.bd_begin_hands KX G (by k_is) (by k_is) (by k_is) (by k_is)
  have f_do_if_room:=NH.has_mk NH.bd_do_if_room KX G (by k_is) (by k_is) (by k_is) (by k_is)
  have f_do_to_mark:=NH.has_mk NH.bd_do_to_mark KX G (by k_is) (by k_is) (by k_is) (by k_is)
  have f_put_mark:=NH.has_mk NH.bd_put_mark KX G (by k_is) (by k_is) (by k_is) (by k_is)
  have f_move_mark:=NH.has_mk NH.bd_move_mark KX G (by k_is) (by k_is) (by k_is) (by k_is)
  have f_label_mark:=NH.has_mk NH.bd_label_mark KX G (by k_is) (by k_is) (by k_is) (by k_is)
  have f_drop_mark:=NH.has_mk NH.bd_drop_mark KX G (by k_is) (by k_is) (by k_is) (by k_is)
  have f_take_back:=NH.has_mk NH.bd_take_back KX G (by k_is) (by k_is) (by k_is) (by k_is)
  have f_sign:=NH.has_mk NH.bd_sign KX G (by k_is) (by k_is) (by k_is) (by k_is)
  have f_say_hello:=NH.has_mk NH.bd_say_hello KX G (by k_is) (by k_is) (by k_is) (by k_is)
  have f_has_room:=NH.has_mk NH.bd_has_room KX G (by k_is) (by k_is) (by k_is) (by k_is)
  have f_send:=NH.has_mk NH.bd_send KX G (by k_is) (by k_is) (by k_is) (by k_is)
  have f_deliver:=NH.has_mk NH.bd_deliver KX G (by k_is) (by k_is) (by k_is) (by k_is)
  have f_lose:=NH.has_mk NH.bd_lose KX G (by k_is) (by k_is) (by k_is) (by k_is)
  have f_double:=NH.has_mk NH.bd_double KX G (by k_is) (by k_is) (by k_is) (by k_is)
  have f_act:=NH.has_mk NH.bd_act KX G (by k_is) (by k_is) (by k_is) (by k_is)
  have f_counted:=NH.has_mk NH.bd_counted KX G (by k_is) (by k_is) (by k_is) (by k_is)
  have f_view_of:=NH.has_mk NH.bd_view_of KX G (by k_is) (by k_is) (by k_is) (by k_is)
  have f_show_view:=NH.has_mk NH.bd_show_view KX G (by k_is) (by k_is) (by k_is) (by k_is)
  have f_tell_known:=NH.has_mk NH.bd_tell_known KX G (by k_is) (by k_is) (by k_is) (by k_is)
  have f_tell_stable:=NH.has_mk NH.bd_tell_stable KX G (by k_is) (by k_is) (by k_is) (by k_is)
  have f_tell_signs:=NH.has_mk NH.bd_tell_signs KX G (by k_is) (by k_is) (by k_is) (by k_is)
  have f_show_signed:=NH.has_mk NH.bd_show_signed KX G (by k_is) (by k_is) (by k_is) (by k_is)
  have f_show_at:=NH.has_mk NH.bd_show_at KX G (by k_is) (by k_is) (by k_is) (by k_is)
  have f_tell_mark:=NH.has_mk NH.bd_tell_mark KX G (by k_is) (by k_is) (by k_is) (by k_is)
  have f_tell_overlaps:=NH.has_mk NH.bd_tell_overlaps KX G (by k_is) (by k_is) (by k_is) (by k_is)
  have f_tell_doing:=NH.has_mk NH.bd_tell_doing KX G (by k_is) (by k_is) (by k_is) (by k_is)
  have f_without:=NH.has_mk NH.bd_without KX G (by k_is) (by k_is) (by k_is) (by k_is)
  have f_tell_differ:=NH.has_mk NH.bd_tell_differ KX G (by k_is) (by k_is) (by k_is) (by k_is)
  have f_tell_bag:=NH.has_mk NH.bd_tell_bag KX G (by k_is) (by k_is) (by k_is) (by k_is)
  have f_tell_counts:=NH.has_mk NH.bd_tell_counts KX G (by k_is) (by k_is) (by k_is) (by k_is)
  have f_ask:=NH.has_mk NH.bd_ask KX G (by k_is) (by k_is) (by k_is) (by k_is)
  have f_limits:=NH.has_mk NH.bd_limits KX G (by k_is) (by k_is) (by k_is) (by k_is)
  have f_is_knowledge:=NH.has_mk NH.bd_is_knowledge KX G (by k_is) (by k_is) (by k_is) (by k_is)
  have f_fits:=NH.has_mk NH.bd_fits KX G (by k_is) (by k_is) (by k_is) (by k_is)
  have f_all_fit:=NH.has_mk NH.bd_all_fit KX G (by k_is) (by k_is) (by k_is) (by k_is)
  have f_answer:=NH.has_mk NH.bd_answer KX G (by k_is) (by k_is) (by k_is) (by k_is)
  have c_Doing:=NH.hasC_mk (x:= "Doing") NH.bd_Doing_init KX G (by k_is) (by k_is) (by k_is) (by k_is) (by k_is) (by k_is) (by k_is) (by k_is)
  have k_Doing:=NH.cls_of c_Doing (by k_is) (by k_is) (by k_is) (by k_is)
  have c_Line:=NH.hasC_mk (x:= "Line") NH.bd_Line_init KX G (by k_is) (by k_is) (by k_is) (by k_is) (by k_is) (by k_is) (by k_is) (by k_is)
  have k_Line:=NH.cls_of c_Line (by k_is) (by k_is) (by k_is) (by k_is)
  have c_Mark:=NH.hasC_mk (x:= "Mark") NH.bd_Mark_init KX G (by k_is) (by k_is) (by k_is) (by k_is) (by k_is) (by k_is) (by k_is) (by k_is)
  have k_Mark:=NH.cls_of c_Mark (by k_is) (by k_is) (by k_is) (by k_is)
  have c_Reader:=NH.hasC_mk (x:= "Reader") NH.bd_Reader_init KX G (by k_is) (by k_is) (by k_is) (by k_is) (by k_is) (by k_is) (by k_is) (by k_is)
  have k_Reader:=NH.cls_of c_Reader (by k_is) (by k_is) (by k_is) (by k_is)
  have t_Line:=NH.lcls_of k_Line (by k_is) (by k_is) (by k_is) (by k_is) (by k_is) (by k_is)
  have t_Doing:=NH.dcls_of k_Doing (by k_is) (by k_is) (by k_is) (by k_is) (by k_is) (by k_is)
  have t_Mark:=NH.mcls_of k_Mark (by k_is) (by k_is) (by k_is)
  have t_Reader:=NH.rcls_of k_Reader (by k_is) (by k_is)
  have m_begin:=NH.hasM_of NH.bd_Line_begin c_Line (by k_is) (by k_is) (by k_is) (by k_is) (by k_is)
  have m_at_end:=NH.hasM_of NH.bd_Reader_at_end c_Reader (by k_is) (by k_is) (by k_is) (by k_is) (by k_is)
  have m_take_number:=NH.hasM_of NH.bd_Reader_take_number c_Reader (by k_is) (by k_is) (by k_is) (by k_is) (by k_is)
  have m_take_row:=NH.hasM_of NH.bd_Reader_take_row c_Reader (by k_is) (by k_is) (by k_is) (by k_is) (by k_is)
  have m_take_told:=NH.hasM_of NH.bd_Reader_take_told c_Reader (by k_is) (by k_is) (by k_is) (by k_is) (by k_is)
  have d_acts:NH.TabIs _ w mg "ACTS" 0 NH.actNames:=NH.tabIs_mk KX G (by k_is) (by k_is) rfl (.cons (by k_is) (.cons (by k_is) (.cons (by k_is) (.cons (by k_is) (.cons (by k_is) (.cons (by k_is) (.cons (by k_is) (.cons (by k_is) (.cons (by k_is) (.cons (by k_is) (.cons (by k_is) (.cons (by k_is) .nil)))))))))))) (by rfl)
  have d_asks:NH.TabIs _ w mg "ASKS" 12 NH.askNames:=NH.tabIs_mk KX G (by k_is) (by k_is) rfl (.cons (by k_is) (.cons (by k_is) (.cons (by k_is) (.cons (by k_is) (.cons (by k_is) (.cons (by k_is) (.cons (by k_is) (.cons (by k_is) (.cons (by k_is) (.cons (by k_is) (.cons (by k_is) (.cons (by k_is) .nil)))))))))))) (by rfl)
  have d_forms:=NH.dict_mk (x:= "FORMS") KX G (by k_is) (by k_is)
  have q_forms:NH.FormsOk _ w mg:=NH.forms_mk d_forms rfl rfl ⟨⟨_,_,_,_,by k_is,by rfl⟩,⟨⟨_,_,_,_,by k_is,by rfl⟩,⟨⟨_,_,_,_,by k_is,by rfl⟩,⟨⟨_,_,_,_,by k_is,by rfl⟩,⟨⟨_,_,_,_,by k_is,by rfl⟩,⟨⟨_,_,_,_,by k_is,by rfl⟩,⟨⟨_,_,_,_,by k_is,by rfl⟩,⟨⟨_,_,_,_,by k_is,by rfl⟩,⟨⟨_,_,_,_,by k_is,by rfl⟩,⟨⟨_,_,_,_,by k_is,by rfl⟩,⟨⟨_,_,_,_,by k_is,by rfl⟩,⟨⟨_,_,_,_,by k_is,by rfl⟩,⟨⟨_,_,_,_,by k_is,by rfl⟩,⟨⟨_,_,_,_,by k_is,by rfl⟩,⟨⟨_,_,_,_,by k_is,by rfl⟩,⟨⟨_,_,_,_,by k_is,by rfl⟩,⟨⟨_,_,_,_,by k_is,by rfl⟩,⟨⟨_,_,_,_,by k_is,by rfl⟩,⟨⟨_,_,_,_,by k_is,by rfl⟩,⟨⟨_,_,_,_,by k_is,by rfl⟩,⟨⟨_,_,_,_,by k_is,by rfl⟩,⟨⟨_,_,_,_,by k_is,by rfl⟩,⟨⟨_,_,_,_,by k_is,by rfl⟩,⟨⟨_,_,_,_,by k_is,by rfl⟩,trivial⟩⟩⟩⟩⟩⟩⟩⟩⟩⟩⟩⟩⟩⟩⟩⟩⟩⟩⟩⟩⟩⟩⟩⟩
  have q_fixed:NH.FixedOk _ w mg:=NH.fixed_mk KX G (by k_is) (by k_is) rfl (NH.two_ints (by k_is)) (NH.two_ints (by k_is)) (NH.two_ints (by k_is)) (NH.two_ints (by k_is))
  have b_blt:NH.Blt mg:=⟨NH.none_mk KX G (by k_is),NH.none_mk KX G (by k_is),NH.none_mk KX G (by k_is),NH.none_mk KX G (by k_is),NH.none_mk KX G (by k_is),NH.none_mk KX G (by k_is),NH.none_mk KX G (by k_is),NH.none_mk KX G (by k_is),NH.none_mk KX G (by k_is),NH.none_mk KX G (by k_is),NH.none_mk KX G (by k_is)⟩
  have b_blt2:NH.Blt2 mg:=⟨NH.none_mk KX G (by k_is)⟩
  have b_kinds:NH.Kinds mg:=⟨NH.int_mk KX G (by k_is),NH.int_mk KX G (by k_is),NH.int_mk KX G (by k_is),NH.int_mk KX G (by k_is),NH.int_mk KX G (by k_is),NH.int_mk KX G (by k_is),NH.int_mk KX G (by k_is)⟩
  have b_words:NH.Words mg:=⟨NH.int_mk KX G (by k_is),NH.int_mk KX G (by k_is),NH.int_mk KX G (by k_is),NH.int_mk KX G (by k_is),NH.int_mk KX G (by k_is),NH.int_mk KX G (by k_is),NH.int_mk KX G (by k_is),NH.int_mk KX G (by k_is),NH.int_mk KX G (by k_is)⟩
  have b_words2:NH.Words2 mg:=⟨NH.int_mk KX G (by k_is)⟩
  have e_env:=NH.Env.mk (NH.Helps.mk f_with_itself f_is_within f_knows) (NH.VEnv.mk f_lateness f_taken_back f_counting c_Mark) f_find_marks f_find_mark f_stretch_and_label f_view_order f_view f_overlap f_overlapping_pairs f_doings_in_all f_known_doing f_known_signs f_surely_known f_all_surely_know f_is_closed f_counted f_view_of f_without t_Line t_Doing t_Mark b_blt b_blt2 b_kinds b_words
  have tops:=NH.Tops.mk e_env b_words2 f_time_behind f_do f_lacks f_is_ready f_first_ready f_take_ready f_bring f_do_if_room f_do_to_mark f_has_room f_act f_ask f_limits f_is_knowledge f_fits f_all_fit f_answer f_begin_hands f_put_mark f_move_mark f_label_mark f_drop_mark f_take_back f_sign f_say_hello f_send f_deliver f_lose f_double f_show_view f_tell_known f_tell_stable f_tell_signs f_show_signed f_show_at f_tell_mark f_tell_overlaps f_tell_doing f_tell_differ f_tell_bag f_tell_counts c_Doing c_Line m_begin t_Reader c_Reader m_at_end m_take_number m_take_row m_take_told q_forms q_fixed d_acts d_asks
  exact NH.F_mk KX G hmg tops (by k_is) (by k_is) (by k_is) (by k_is)
 case S=>
  intro K H xs a hO hwi hask hx
  cases hx with
  | cons h1 h2=>
   cases h2
   cases h1 with
   | lst hs ha=>
    have e:=L2.ints_dw a.1 _ ha
    subst e
    have q:((Codec.inLen 0 16000 a.1 && a.1.all (Codec.inInt (-1000000000000000000) 1000000000000000000)) && true)=true:=hwi
    rw [Bool.and_eq_true,Bool.and_eq_true] at q
    obtain ⟨cs,c1,c2,c3⟩:=NH.asked_calls (l:=a.1) hask
    refine ⟨_,a.1,cs,rfl,hs,(Codec.inNat_iff.mp q.1.1).2,c1,c3,fun H' r _ _ hr=>?_⟩
    rw [<- c2] at hr
    exact .lst (L2.SqL.of hr) (L2.dw_ints _)
#print axioms PySem.Challenge.cw_nighthands_s01_answers_holds
